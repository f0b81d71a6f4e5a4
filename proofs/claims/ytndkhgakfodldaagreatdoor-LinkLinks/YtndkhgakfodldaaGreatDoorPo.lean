import Derived.Test.YtndkhgakfodldaaGreatDoorPm
import Derived.Test.YtndkhgakfodldaaGreatDoorLex
set_option maxRecDepth 100000
set_option maxHeartbeats 1600000
open Go.Proofs.Tryz
open List renaming length → Ln
namespace Go.Proofs.YtndkhgakfodldaaGreatDoor
open Go.RowKit Go.Shelf
variable {A:Nat->Prop} {M w:World} {b ok:Bool} {cs:Array Value} {m:fh} {v af E ae H aj:Value}
def lI (d:List Tk):Option fh:=match kv d with
 | some (m,[])=>some m
 | _=>none
abbrev q4:Value:=.agg #[.string ⟨#[]⟩,eu,eu,eu,eu]
structure Pw (w W:World) (cs:Array Value) (ok:Bool):Prop where
 below:et w W
 mb:W.heap[w.heap.size]? = some (.cells cs 27 (0,0))
 ob:W.heap[w.heap.size+1]? = some (.cells #[.bool ok] 4 (0,0))
theorem Pw.ocell (h:Pw w M cs ok):M.cell? ⟨w.heap.size+1,0,none⟩=some (.bool ok)/\M.frozen? ⟨w.heap.size+1,0,none⟩=false:=by
 refine ⟨by rw [fU h.ob];rfl,?_⟩;unfold World.frozen?;simp only;rw [h.ob];simp
theorem Pw.put (h:Pw w M #[af,E,ae,H,aj] ok) (Z aK aN aY be:Value):Pw w (set5 M w.heap.size Z aK aN aY be) #[Z,aK,aN,aY,be] ok:=by
 refine ⟨((((h.below.setCell (p:=(ep w.heap.size 0)) (eD _) _).setCell (p:=(ep w.heap.size 1)) (eD _) _).setCell (p:=(ep w.heap.size 2)) (eD _) _).setCell (p:=(ep w.heap.size 3)) (eD _) _).setCell (p:=(ep w.heap.size 4)) (eD _) _,?_,?_⟩
 . exact heap_set (heap_set (heap_set (heap_set (heap_set h.mb _) _) _) _) _
 . have e:w.heap.size+1≠w.heap.size:=by omega
   exact (fa (p:=(ep w.heap.size 4)) e _).trans ((fa (p:=(ep w.heap.size 3)) e _).trans ((fa (p:=(ep w.heap.size 2)) e _).trans ((fa (p:=(ep w.heap.size 1)) e _).trans ((fa (p:=(ep w.heap.size 0)) e _).trans h.ob))))
theorem Pw.oq (h:Pw w M cs b) (bA:Bool):Pw w (M.setCell ⟨w.heap.size+1,0,none⟩ (.bool bA)) cs bA:=
 ⟨h.below.setCell (p:=⟨w.heap.size+1,0,none⟩) (ud _) _,(fa (by show w.heap.size≠w.heap.size+1;omega) _).trans h.mb,heap_set h.ob _⟩
theorem Pw.keeps {x:World} {R:Nat} (h:Pw w M cs b) (N:eI R M x) (bb:w.heap.size+2<=R):Pw w x cs b:=
 ⟨⟨N.os.trans h.below.os,N.tape.trans h.below.tape,N.output.trans h.below.output,iC h.below.size N.size,fun k D=>(N.block k (gl D h.below.size) (by omega)).trans (h.below.block k D)⟩,(N.block _ (lt_of_heap h.mb) (by omega)).trans h.mb,(N.block _ (lt_of_heap h.ob) (by omega)).trans h.ob⟩
theorem Pw.resOf (h:Pw w M #[af,E,ae,H,aj] ok) (t:Array Value) (J:t.getD 2 undef=eL w.heap.size 0) (S:t.getD 3 undef = .pointer (some ⟨w.heap.size+1,0,none⟩)) :
 (results Tryz.f115 t).run prog M = .ok (.tuple #[.agg #[af,E,ae,H,aj],.bool ok]) M:=by
 obtain ⟨bh,a9,a4,c3,am,_⟩:=fi h.mb;obtain ⟨b5,_⟩:=h.ocell
 have b:t[2]?.getD undef=eL w.heap.size 0:=by simpa using J
 have c:t[3]?.getD undef = .pointer (some ⟨w.heap.size+1,0,none⟩):=by simpa using S
 simp [results,results115,go_sem,b,c,bh,a9,a4,c3,am,b5]
theorem Gi (w M:World) (af E ae H aj:Value) (ok:Bool) (u:TypeId) (iF:Value) (older:List PanicEntry) (h:Pw w M #[af,E,ae,H,aj] ok) :
 CallsD prog 158 #[eL w.heap.size 0,.pointer (some ⟨w.heap.size+1,0,none⟩)] (.panicking ({ v:=.iface u iF,recovered:=false } :: older)) M fun e Q r=>
  e = .returned (.tuple #[])/\Q = .panicking ({ v:=.iface u iF,recovered:=true } :: older)/\Pw w r #[.string ⟨#[]⟩,eu,eu,eu,eu] false:=by
 have b:=(h.put (.string ⟨#[]⟩) (eu) (eu) (eu) (eu)).oq false;obtain ⟨bh,a9,a4,c3,am,aX⟩:=fi h.mb;obtain ⟨b5,aL⟩:=(h.put (.string ⟨#[]⟩) (eu) (eu) (eu) (eu)).ocell
 refine callsD_of_wpS func158 rfl fun a cs aI=>?_
 apply wpS_seq
 apply wpS_region
 simp [wpOpsS,go_sem,recoverD,aI,ntmps158,Exit.thenS];refine wpS_cond (t:=true) (by simp [Act.eval,Array.replicate]) ?_;simp only [if_true]
 apply wpS_region
 simp [wpOpsS,go_sem,bh,a9,a4,c3,am,aX,b5,aL,bodyPostS,results,results158];exact b
theorem Gj (p q:Addr) (w:World) :
 CallsD prog 158 #[.pointer (some p),.pointer (some q)] .returning w fun e Q r=>e = .returned (.tuple #[])/\Q = .returning/\r=w:=by
 refine callsD_of_wpS func158 rfl fun a cs aI=>?_
 apply wpS_seq
 apply wpS_region
 simp [wpOpsS,go_sem,recoverD,aI,ntmps158,Exit.thenS];refine wpS_cond (t:=false) (by simp [Act.eval,Array.replicate]) ?_;simp only [sv,if_false];refine wpS_of_wp (wp_skip ?_)
 cases a
 simp_all [bodyPostS,results,results158]
theorem Pw.caught (h:Pw w M #[af,E,ae,H,aj] ok) {R:Ending->World->Prop} (t:Array Value)
 (J:t.getD 2 undef=eL w.heap.size 0) (S:t.getD 3 undef = .pointer (some ⟨w.heap.size+1,0,none⟩))
 (bb:∀ x,et w x->R (.returned (.tuple #[q4,.bool false])) x) :
 Leaves prog Tryz.f115 t R [{ target:=Target.fn (Fn.func 158) #[Value.pointer (some (ep w.heap.size 0)),Value.pointer (some ⟨w.heap.size+1,0,none⟩)],args:=#[] }] (.panicking gL) M:=by
 refine leaves_cons (f:=158) (args:=#[eL w.heap.size 0,.pointer (some ⟨w.heap.size+1,0,none⟩)]) (by simp) (by simp [go_sem]) ?_;refine (Gi w M af E ae H aj ok 31 (em 1) [] h).mono ?_;rintro e Q T ⟨rfl,rfl,az⟩;exact ⟨_,az.resOf t J S,bb T az.below⟩
theorem Gk (d:List Tk) (a:OA) (I:Nat) (w:World) (aj:jD w a d) (a2:Ln d<=4096) :
 ew 115 #[.slice a (Ln d) I] w fun e r=>et w r/\((lI d=none/\e = .returned (.tuple #[q4,.bool false]))\/∃ m v,lI d=some m/\e = .returned (.tuple #[v,.bool true])/\oi (w.heap.size<=·) m r v):=by
 have P:=hid aj
 have M:∀ (D:Fn) (first I:Array Value) (w:World),(Instr.makeFunc D first I).run prog w = .ok (.func D first I) w:=fun _ _ _ _=>rfl
 clear aj;go_enter_defers func115,ntmps115;go_wp2_with fail
 obtain ⟨ad,hW0⟩:∃ ad,ad=((w.alloc jo).alloc (.cells #[.bool false] 4)).alloc (.cells #[.slice a (Ln d) I,em 0] 239):=⟨_,rfl⟩
 have al:ad.heap.size=w.heap.size+1+1+1:=by rw [hW0];simp
 have ai:Hid (Pw w ad #[.string ⟨#[]⟩,eu,eu,eu,eu] false):=by
  rw [hW0];refine ⟨((((Below.refl _ _).alloc (eD _) _).alloc (by simp) _).alloc (by simp;omega) _),fF (fF (eT _ _)),fF ?_⟩;have:=eT (w.alloc jo) (.cells #[.bool false] 4);simpa using this
 have q:Hid (eG (w.heap.size+1+1) a I d ad d):=by
  refine ⟨⟨0,eY _,rfl,?_⟩,P.later ?_,?_,a2⟩
  . rw [hW0]
    have:=eT ((w.alloc jo).alloc (.cells #[.bool false] 4)) (.cells #[.slice a (Ln d) I,em 0] 239);simpa using this
  . exact ai.below
  . rcases P.out with h | ⟨b,C,rfl,h⟩
    . exact Or.inl h
    . refine Or.inr fun bA cf e=>?_
      cases e
      have:=h.lt;omega
 rw [← hW0];clear hW0;refine (Gh _ I a d d ad q).mono ?_;rintro e eq ⟨f,⟨U,rfl⟩ | ⟨m,j,v,U,rfl,⟨Y,a9,a5,a4,a7,c3,ay,am,rfl,l,ac,V,hx3,hx4⟩,RD⟩⟩
 . have aF:Hid (lI d=none):=by show _=_;unfold lI;rw [U]
   exact Pw.caught (ai.keeps f (by omega)) _ rfl rfl (fun x ab=>⟨ab,Or.inl ⟨aF,rfl⟩⟩)
 have g:=hid (ai.keeps f (by omega));have b0:=f.size;obtain ⟨k,N,y,hRb⟩:=RD.idx
 have i:eq.cell? ⟨w.heap.size+1+1,0,none⟩=some (.slice a (Ln d) I):=by rw [fU hRb];rfl
 have n:eq.cell? ⟨w.heap.size+1+1,1,none⟩=some (em k):=by rw [fU hRb];rfl
 have O:=hid (g.put (.string m.name) (.slice Y (Ln m.uses) a9) (.slice a5 (Ln m.decls) a4) (.slice a7 (Ln m.procs) c3) (.slice ay (Ln m.main) am));have aD:=hid ((O.put (.string m.name) (.slice Y (Ln m.uses) a9) (.slice a5 (Ln m.decls) a4) (.slice a7 (Ln m.procs) c3) (.slice ay (Ln m.main) am)).oq true)
 have a0:Hid (oi (w.heap.size<=·) m ((set5 (set5 eq w.heap.size (.string m.name) (.slice Y (Ln m.uses) a9) (.slice a5 (Ln m.decls) a4) (.slice a7 (Ln m.procs) c3) (.slice ay (Ln m.main) am)) w.heap.size (.string m.name) (.slice Y (Ln m.uses) a9) (.slice a5 (Ln m.decls) a4) (.slice a7 (Ln m.procs) c3) (.slice ay (Ln m.main) am)).setCell ⟨w.heap.size+1,0,none⟩ (.bool true)) (.agg #[.string m.name,.slice Y (Ln m.uses) a9,.slice a5 (Ln m.decls) a4,.slice a7 (Ln m.procs) c3,.slice ay (Ln m.main) am])):=by
  have a8:eQ eq (ad.heap.size<=·) ((set5 (set5 eq w.heap.size (.string m.name) (.slice Y (Ln m.uses) a9) (.slice a5 (Ln m.decls) a4) (.slice a7 (Ln m.procs) c3) (.slice ay (Ln m.main) am)) w.heap.size (.string m.name) (.slice Y (Ln m.uses) a9) (.slice a5 (Ln m.decls) a4) (.slice a7 (Ln m.procs) c3) (.slice ay (Ln m.main) am)).setCell ⟨w.heap.size+1,0,none⟩ (.bool true)) (w.heap.size<=·):=
   ((((eQ.refl eq (ad.heap.size<=·)).set5 (b:=w.heap.size) (fun k _ N=>by omega) (.string m.name) (.slice Y (Ln m.uses) a9) (.slice a5 (Ln m.decls) a4) (.slice a7 (Ln m.procs) c3) (.slice ay (Ln m.main) am)).set5 (b:=w.heap.size) (fun k _ N=>by omega) (.string m.name) (.slice Y (Ln m.uses) a9) (.slice a5 (Ln m.decls) a4) (.slice a7 (Ln m.procs) c3) (.slice ay (Ln m.main) am)).set (p:=⟨w.heap.size+1,0,none⟩) (fun k _ N=>by show k≠w.heap.size+1;omega) (.bool true)).trans ⟨eD _,fun k _ N=>⟨by omega,rfl⟩⟩
  exact ⟨Y,a9,a5,a4,a7,c3,ay,am,rfl,l,ac.moves a8,V.moves a8,hx3.moves a8,hx4.moves a8⟩
 obtain ⟨a3,G,J,S,a6,ap⟩:=fi g.mb;obtain ⟨b5,aL⟩:=g.ocell
 have d4:w.heap.size<eq.heap.size:=by omega
 have a1:w.heap.size+1<eq.heap.size:=by omega
 have R:w.heap.size+1+1<eq.heap.size:=by omega
 clear f RD ac V hx3 hx4 ai q P hRb
 by_cases aa:k<Ln d
 . have aF:Hid (lI d=none):=by
    show _=_;unfold lI;rw [U,y,List.drop_eq_getElem_cons aa]
   clear U;go_wp2_with fail;exact Pw.caught O _ rfl rfl (fun x ab=>⟨ab,Or.inl ⟨aF,rfl⟩⟩)
 . have aF:Hid (lI d=some m):=by
    show _=_;unfold lI;rw [U,y,tT (by omega)]
   have c:¬ ((k:Int)<(Ln d:Int)):=by omega
   clear U;go_wp2_with fail;refine leaves_cons (f:=158) (args:=#[eL w.heap.size 0,.pointer (some ⟨w.heap.size+1,0,none⟩)]) (by simp) (by simp [go_sem]) ?_;refine (Gj (ep w.heap.size 0) ⟨w.heap.size+1,0,none⟩ _).mono ?_;rintro e Q T ⟨rfl,rfl,rfl⟩;exact ⟨_,aD.resOf _ rfl rfl,aD.below,Or.inr ⟨m,_,aF,rfl,a0⟩⟩
theorem Gl (s:ByteArray):hG (i7 s):=by
 unfold i7;split
 . exact ⟨⟨rfl,rfl⟩,by simp⟩
 . rename_i Z
   cases h:hP s 0 with
   | none=>exact ⟨⟨rfl,rfl⟩,by simp⟩
   | some d=>
     rw [DD] at h;have:=DF _ _ d rfl h;rw [Lx.za0] at this;exact ⟨this.1,by show Ln d<=4096;omega⟩
theorem Gm {d:List Tk} (h:lI d=some m) (af:hG d):d=j6 m/\vX m:=by
 unfold lI at h
 split at h
 . rename_i j a8
   cases h;have:=DV a8 af;simpa using this
 . cases h
theorem Ay (h:oi A m w v) (ag:vX m):∃ Y a9 a5 a4 a7 c3 ay am,hm w eV m v Y a9 a5 a4 a7 c3 ay am:=by
 obtain ⟨Y,a9,a5,a4,a7,c3,ay,am,rfl,a3,G,J,S,a6⟩:=h
 have a8:eQ w A w eV:=⟨eD _,fun _ _ _=>⟨trivial,rfl⟩⟩
 have t:(iD m.decls).length=4*Ln m.decls:=by
  have:∀ K:List ge,(iD K).length=4*Ln K:=by
   intro K
   induction K with
   | nil=>rfl
   | cons q O aH=>
     show (q.ds++iD O).length=_;rw [gn,aH]
     simp [ge.ds];omega
  exact this _
 have a2:(hK m.procs).length=5*Ln m.procs:=by
  have:∀ K:List fH,(hK K).length=5*Ln K:=by
   intro K
   induction K with
   | nil=>rfl
   | cons q O aH=>
     show (q.ds++hK O).length=_;rw [gn,aH]
     simp [fH.ds];omega
  exact this _
 have ak:=ag.uses;have au:=ag.decls;have aI:=ag.procs;have bq:=ag.main;exact ⟨Y,a9,a5,a4,a7,c3,ay,am,rfl,a3,(G.moves a8).toD (by simp [fj]) (by simp [fj];omega) (tA _),(J.moves a8).toD (by rw [t];omega) (by rw [t];omega) ag.fd,(S.moves a8).toD (by rw [a2];omega) (by rw [a2];omega) ag.fp,(a6.moves a8).toD (by rw [n5];omega) (by rw [n5];omega) ag.fm⟩
theorem tN {B b:Nat} {a:World} (h:Below B a w) (F:B<=b) (Z aK aN aY be:Value):Below B a (set5 w b Z aK aN aY be):=
 ((((h.setCell (p:=(ep b 0)) F _).setCell (p:=(ep b 1)) F _).setCell (p:=(ep b 2)) F _).setCell (p:=(ep b 3)) F _).setCell (p:=(ep b 4)) F _
theorem oi.moves {q:Nat->Prop} {r:World} (h:oi A m w v) (a8:eQ w A r q):oi q m r v:=by
 obtain ⟨Y,a9,a5,a4,a7,c3,ay,am,rfl,a3,G,J,S,a6⟩:=h;exact ⟨Y,a9,a5,a4,a7,c3,ay,am,rfl,a3,G.moves a8,J.moves a8,S.moves a8,a6.moves a8⟩
def ka (s:ByteArray):Option fh:=if i8 s=0 then (match lI (i7 s) with | some m=>if m.err=0 then some m else none | none=>none) else none
def mQ (s:ByteArray):Int:=if i8 s=0 then (match ka s with | some _=>0 | none=>1) else i8 s
def Gn (s:ByteArray) (e:Ending) (w:World):Prop:=
 (ka s=none/\mQ s≠0/\e = .returned (.tuple #[q4,em (mQ s)]))\/
 ∃ m v Y a9 a5 a4 a7 c3 ay am,ka s=some m/\mQ s=0/\e = .returned (.tuple #[v,em 0])/\hm w eV m v Y a9 a5 a4 a7 c3 ay am
theorem Gp (s:ByteArray) (w:World) (Z:s.size<=maxLen) :
 ew 55 #[.string s] w fun e r=>Gn s e r/\et w r:=by
 have aE:=hid (Gl s);go_enter func55,ntmps55;go_wp2_with fail;refine (DA s _ Z).mono ?_;rintro e eq ⟨a,I,rfl,u,ai⟩;have P:=hid u;have b0:=ai.size;simp at b0;have B:Hid (eq.heap[w.heap.size]? = some jo):=(ai.block w.heap.size (by simp)).trans (eT _ _);have g:Hid (et w eq):=es (ey _ _) ai;clear u ai;obtain ⟨a3,G,J,S,a6,ap⟩:=fi B
 have d4:w.heap.size<eq.heap.size:=by omega
 by_cases ah:i8 s=0
 . have aH:=hid ah
   rw [ah];clear ah;generalize j:i7 s=d at *;go_wp2_with fail;refine (Gk d a I eq P aE.2).mono ?_;rintro e w2 ⟨aB,⟨U,rfl⟩ | ⟨m,v,U,rfl,aS⟩⟩
   . have aF:Hid (ka s=none/\mQ s=1):=by
      have h:ka s=none:=by unfold ka;rw [if_pos aH.out,j,U]
      refine ⟨h,?_⟩
      unfold mQ;rw [if_pos aH.out,h]
     have c:=hid (es g aB);have bl:=aB.size;have aM:Hid (w2.heap[w.heap.size]? = some jo):=(aB.block w.heap.size d4).trans B;have aP:=hid (fF (o:=jo) aM);clear a3 G J S a6 ap aB;obtain ⟨a3,G,J,S,a6,ap⟩:=fi aM
     have a1:w.heap.size<w2.heap.size:=by omega
     have i:=tN c (eD _) (.string ⟨#[]⟩) (eu) (eu) (eu) (eu);have n:=hid (i.alloc i.size jo);clear i;go_wp2_with fail;refine bodyPost_ret (v:=.tuple #[q4,em 1]) (by simp [results,results55,go_sem,a3,G,J,S,a6,a1]) rfl ⟨Or.inl ⟨aF.1,by rw [aF.out.2];decide,by rw [aF.out.2]⟩,n⟩
   . obtain ⟨aw,br⟩:=Gm U aE
     have p:=hid br;have aq:=hid aS;obtain ⟨Y,a9,a5,a4,a7,c3,ay,am,rfl,_⟩:=aS;have aF:=hid U;have c:=hid (es g aB);have bl:=aB.size;have aM:Hid (w2.heap[w.heap.size]? = some jo):=(aB.block w.heap.size d4).trans B
     have l:∀ M,et w2 M->ew 112 #[.agg #[.string m.name,.slice Y (Ln m.uses) a9,.slice a5 (Ln m.decls) a4,.slice a7 (Ln m.procs) c3,.slice ay (Ln m.main) am]] M fun e r=>e = .returned (em m.err)/\et M r:=fun M L=>by
      obtain ⟨b7,aL,V,aU,b9,bd,aa,z,aT⟩:=Ay (aq.moves (eQ.of_below L _)) p;exact Bc m _ _ _ _ _ _ _ _ _ M aT
     have f:=hid l;clear a3 G J S a6 ap aB aw br U l
     have a1:w.heap.size<w2.heap.size:=by omega
     go_wp2_with fail;refine (f _ (ey _ _)).mono ?_;rintro e eC ⟨rfl,a2⟩;have bE:=a2.size;simp at bE;have aP:Hid (eC.heap[w.heap.size]? = some jo):=(a2.block w.heap.size (by simp;omega)).trans (fF aM);have o:Hid (eC.heap[w2.heap.size]? = some (.cells #[.string m.name,.slice Y (Ln m.uses) a9,.slice a5 (Ln m.decls) a4,.slice a7 (Ln m.procs) c3,.slice ay (Ln m.main) am] 27 (0,0))):=(a2.block w2.heap.size (by simp)).trans (eT _ _);have q:=hid (es c (es (ey _ _) a2));have a0:Hid (oi (eq.heap.size<=·) m eC (.agg #[.string m.name,.slice Y (Ln m.uses) a9,.slice a5 (Ln m.decls) a4,.slice a7 (Ln m.procs) c3,.slice ay (Ln m.main) am])):=aq.moves ((eQ.of_below (ey _ _) _).trans (eQ.of_below a2 _));obtain ⟨a3,G,J,S,a6,ap⟩:=fi aP;obtain ⟨bM,ax,bf,aQ,bn,bs⟩:=fi o
     have R:w.heap.size<eC.heap.size:=by omega
     have O:w2.heap.size<eC.heap.size:=by omega
     clear a2 f aq aM
     by_cases W:m.err=0
     . have A:Hid (ka s=some m/\mQ s=0):=by
        have h:ka s=some m:=by unfold ka;rw [if_pos aH.out,j,aF.out];simp [W]
        refine ⟨h,?_⟩
        unfold mQ;rw [if_pos aH.out,h]
       have n:=hid (tN q (eD _) (.string m.name) (.slice Y (Ln m.uses) a9) (.slice a5 (Ln m.decls) a4) (.slice a7 (Ln m.procs) c3) (.slice ay (Ln m.main) am));have aX:=hid (Ay (a0.moves (((eQ.refl eC (eq.heap.size<=·)).set5 (b:=w.heap.size) (fun k _ N=>by omega) (.string m.name) (.slice Y (Ln m.uses) a9) (.slice a5 (Ln m.decls) a4) (.slice a7 (Ln m.procs) c3) (.slice ay (Ln m.main) am)))) p)
       have t:(m.err == 0)=true:=by simp [W]
       rw [W];go_wp2_with fail;refine bodyPost_ret (v:=.tuple #[.agg #[.string m.name,.slice Y (Ln m.uses) a9,.slice a5 (Ln m.decls) a4,.slice a7 (Ln m.procs) c3,.slice ay (Ln m.main) am],em 0]) (by simp [results,results55,go_sem,a3,G,J,S,a6]) rfl ⟨Or.inr ?_,n⟩;obtain ⟨b7,aL,V,aU,b9,bd,aa,z,aT⟩:=aX.out;exact ⟨m,_,b7,aL,V,aU,b9,bd,aa,z,A.1,A.2,rfl,aT⟩
     . have b:Hid (ka s=none/\mQ s=1):=by
        have h:ka s=none:=by unfold ka;rw [if_pos aH.out,j,aF.out];simp [W]
        refine ⟨h,?_⟩
        unfold mQ;rw [if_pos aH.out,h]
       have n:=hid (tN q (eD _) (.string ⟨#[]⟩) (eu) (eu) (eu) (eu))
       have t:(m.err == 0)=false:=by simp [W]
       have x:(m.err != 0)=true:=by simp [W]
       generalize m.err=er at *;go_wp2_with fail;refine bodyPost_ret (v:=.tuple #[q4,em 1]) (by simp [results,results55,go_sem,a3,G,J,S,a6]) rfl ⟨Or.inl ⟨b.1,by rw [b.out.2];decide,by rw [b.out.2]⟩,n⟩
 . have aF:Hid (ka s=none/\mQ s=i8 s):=by
    refine ⟨by unfold ka;rw [if_neg ah],?_⟩
    unfold mQ;rw [if_neg ah]
   have n:=hid (tN g (eD _) (.string ⟨#[]⟩) (eu) (eu) (eu) (eu))
   have t:(i8 s == 0)=false:=by simp [ah]
   go_wp2_with fail;refine bodyPost_ret (v:=.tuple #[q4,em (i8 s)]) (by simp [results,results55,go_sem,a3,G,J,S,a6]) rfl ⟨Or.inl ⟨aF.1,by rw [aF.out.2];exact ah,by rw [aF.out.2]⟩,n⟩
end Go.Proofs.YtndkhgakfodldaaGreatDoor

namespace Go.Proofs.YtndkhgakfodldaaGreatDoor
open Go.RowKit
def oj:fh:=⟨⟨#[99,110,116]⟩,[],[⟨1,⟨#[107]⟩,true,3⟩,⟨2,⟨#[115,117,109]⟩,true,0⟩,⟨3,⟨#[116]⟩,true,4⟩],
 [⟨⟨#[100,111,119,110]⟩,true,[⟨#[110]⟩],[⟨#[105]⟩],
   [.mk 1 ⟨#[]⟩ ⟨#[105]⟩ [.mk 3 0 ⟨#[]⟩ ⟨#[110]⟩ []] [] [],
    .mk 5 ⟨#[]⟩ ⟨#[]⟩ [.mk 3 0 ⟨#[]⟩ ⟨#[105]⟩ []]
     [.mk 1 ⟨#[]⟩ ⟨#[115,117,109]⟩ [.mk 9 0 ⟨#[]⟩ ⟨#[]⟩ [.mk 3 0 ⟨#[]⟩ ⟨#[115,117,109]⟩ [],.mk 3 0 ⟨#[]⟩ ⟨#[105]⟩ []]] [] [],
      .mk 1 ⟨#[]⟩ ⟨#[105]⟩ [.mk 10 0 ⟨#[]⟩ ⟨#[]⟩ [.mk 3 0 ⟨#[]⟩ ⟨#[105]⟩ [],.mk 1 1 ⟨#[]⟩ ⟨#[]⟩ []]] [] []] [],
    .mk 6 ⟨#[]⟩ ⟨#[]⟩ [.mk 3 0 ⟨#[]⟩ ⟨#[115,117,109]⟩ []] [] []]⟩],[]⟩
def pj:ByteArray:=⟨#[109,111,100,117,108,101,32,116,111,112,123,117,115,101,32,99,110,116,59,109,97,105,110,123,99,110,116,46,116,91,49,93,61,99,110,116,46,100,111,119,110,40,99,110,116,46,107,41,59,111,117,116,32,99,110,116,46,116,91,105,110,93,59,105,102,40,99,110,116,46,115,117,109,61,54,41,123,111,117,116,32,55,59,125,101,108,115,101,123,111,117,116,32,56,59,125,125,125]⟩
def wO:List Tk:=[⟨1,0,⟨#[109,111,100,117,108,101]⟩⟩,⟨1,0,⟨#[116,111,112]⟩⟩,⟨3,0,⟨#[123]⟩⟩,⟨1,0,⟨#[117,115,101]⟩⟩,⟨1,0,⟨#[99,110,116]⟩⟩,⟨3,0,⟨#[59]⟩⟩,⟨1,0,⟨#[109,97,105,110]⟩⟩,⟨3,0,⟨#[123]⟩⟩,⟨1,0,⟨#[99,110,116]⟩⟩,⟨3,0,⟨#[46]⟩⟩,⟨1,0,⟨#[116]⟩⟩,⟨3,0,⟨#[91]⟩⟩,⟨2,1,⟨#[]⟩⟩,⟨3,0,⟨#[93]⟩⟩,⟨3,0,⟨#[61]⟩⟩,⟨1,0,⟨#[99,110,116]⟩⟩,⟨3,0,⟨#[46]⟩⟩,⟨1,0,⟨#[100,111,119,110]⟩⟩,⟨3,0,⟨#[40]⟩⟩,⟨1,0,⟨#[99,110,116]⟩⟩,⟨3,0,⟨#[46]⟩⟩,⟨1,0,⟨#[107]⟩⟩,⟨3,0,⟨#[41]⟩⟩,⟨3,0,⟨#[59]⟩⟩,⟨1,0,⟨#[111,117,116]⟩⟩,⟨1,0,⟨#[99,110,116]⟩⟩,⟨3,0,⟨#[46]⟩⟩,⟨1,0,⟨#[116]⟩⟩,⟨3,0,⟨#[91]⟩⟩,⟨1,0,⟨#[105,110]⟩⟩,⟨3,0,⟨#[93]⟩⟩,⟨3,0,⟨#[59]⟩⟩,⟨1,0,⟨#[105,102]⟩⟩,⟨3,0,⟨#[40]⟩⟩,⟨1,0,⟨#[99,110,116]⟩⟩,⟨3,0,⟨#[46]⟩⟩,⟨1,0,⟨#[115,117,109]⟩⟩,⟨3,0,⟨#[61]⟩⟩,⟨2,6,⟨#[]⟩⟩,⟨3,0,⟨#[41]⟩⟩,⟨3,0,⟨#[123]⟩⟩,⟨1,0,⟨#[111,117,116]⟩⟩,⟨2,7,⟨#[]⟩⟩,⟨3,0,⟨#[59]⟩⟩,⟨3,0,⟨#[125]⟩⟩,⟨1,0,⟨#[101,108,115,101]⟩⟩,⟨3,0,⟨#[123]⟩⟩,⟨1,0,⟨#[111,117,116]⟩⟩,⟨2,8,⟨#[]⟩⟩,⟨3,0,⟨#[59]⟩⟩,⟨3,0,⟨#[125]⟩⟩,⟨3,0,⟨#[125]⟩⟩,⟨3,0,⟨#[125]⟩⟩]
theorem Gq:hP pj 0=some wO:=by
 rw [← zo 98 pj 0 (by decide)]
 kernel_rfl
theorem Gr:i7 pj=wO/\i8 pj=0:=zm (by decide) Gq
def nL:fh:=⟨⟨#[116,111,112]⟩,[⟨#[99,110,116]⟩],[],[],[.mk 2 ⟨#[99,110,116]⟩ ⟨#[116]⟩ [.mk 1 1 ⟨#[]⟩ ⟨#[]⟩ [],.mk 5 0 ⟨#[99,110,116]⟩ ⟨#[100,111,119,110]⟩ [.mk 3 0 ⟨#[99,110,116]⟩ ⟨#[107]⟩ []]] [] [],
 .mk 7 ⟨#[]⟩ ⟨#[]⟩ [.mk 4 0 ⟨#[99,110,116]⟩ ⟨#[116]⟩ [.mk 2 0 ⟨#[]⟩ ⟨#[]⟩ []]] [] [],
 .mk 4 ⟨#[]⟩ ⟨#[]⟩ [.mk 14 0 ⟨#[]⟩ ⟨#[]⟩ [.mk 3 0 ⟨#[99,110,116]⟩ ⟨#[115,117,109]⟩ [],.mk 1 6 ⟨#[]⟩ ⟨#[]⟩ []]] [.mk 7 ⟨#[]⟩ ⟨#[]⟩ [.mk 1 7 ⟨#[]⟩ ⟨#[]⟩ []] [] []] [.mk 7 ⟨#[]⟩ ⟨#[]⟩ [.mk 1 8 ⟨#[]⟩ ⟨#[]⟩ []] [] []]]⟩
theorem Gs:lI wO=some nL:=by kernel_rfl
theorem Gt:nL.err=0:=by kernel_rfl
theorem Gu {s:ByteArray} {d:List Tk} {m:fh} (h:i7 s=d/\i8 s=0) (az:lI d=some m) (ah:m.err=0):ka s=some m:=by
 unfold ka;rw [if_pos h.2,h.1,az];exact if_pos ah
theorem Az:ka pj=some nL:=Gu Gr Gs Gt
def jp (w:World):List (Array Value × TypeId)->World
 | []=>w
 | q :: O=>jp (w.alloc (.cells q.1 q.2)) O
theorem tO:∀ (K:List (Array Value × TypeId)) (w:World),et w (jp w K)
 | [],_=>Below.refl _ _
 | _ :: O,w=>es (ey w _) (tO O _)
theorem kb:∀ (w:World) (K:List (Array Value × TypeId)) (i:Nat) (cs:Array Value) (t:TypeId),K[i]? = some (cs,t)->eR (jp w K) (w.heap.size+i) cs.toList
 | w,[],i,cs,t,h=>by simp at h
 | w,q :: O,0,cs,t,h=>by
   simp at h;subst h;exact (eR.new w cs t).later (tO O _)
 | w,q :: O,i+1,cs,t,h=>by
   have:=kb (w.alloc (.cells q.1 q.2)) O i cs t (by simpa using h);rw [show w.heap.size+(i+1)=(w.alloc (.cells q.1 q.2)).heap.size+i from by simp;omega];exact this
theorem kc {w:World} {b n:Nat} {ds:List D} {cs:List Value} (h:eR w b cs) (ez:fB w eV ds cs) (G:n<=Ln ds) (J:Ln ds<=1000):eE w eV (some (ep b 0)) n ds:=
 ⟨G,by omega,Or.inr ⟨b,0,cs,rfl,trivial,h.lt,fun j u ac=>by rw [hv];exact h.cell j u ac,ez⟩⟩
def jT (n:Nat):List (Array Value × TypeId):=
 [(#[.string ⟨#[99,110,116]⟩,eu,.slice (some ⟨n+1,0,none⟩) 3 3,.slice (some ⟨n+13,0,none⟩) 1 1,eu],27),
  (#[em 1,.string ⟨#[107]⟩,.bool true,em 3,em 2,.string ⟨#[115,117,109]⟩,.bool true,em 0,em 3,.string ⟨#[116]⟩,.bool true,em 4],170),
  (#[.string ⟨#[110]⟩],9),
  (#[.string ⟨#[105]⟩],9),
  (#[em 3,em 0,.string ⟨#[]⟩,.string ⟨#[110]⟩,eu],174),
  (#[em 3,em 0,.string ⟨#[]⟩,.string ⟨#[105]⟩,eu],174),
  (#[em 3,em 0,.string ⟨#[]⟩,.string ⟨#[115,117,109]⟩,eu,em 3,em 0,.string ⟨#[]⟩,.string ⟨#[105]⟩,eu],174),
  (#[em 9,em 0,.string ⟨#[]⟩,.string ⟨#[]⟩,.slice (some ⟨n+6,0,none⟩) 2 2],174),
  (#[em 3,em 0,.string ⟨#[]⟩,.string ⟨#[105]⟩,eu,em 1,em 1,.string ⟨#[]⟩,.string ⟨#[]⟩,eu],174),
  (#[em 10,em 0,.string ⟨#[]⟩,.string ⟨#[]⟩,.slice (some ⟨n+8,0,none⟩) 2 2],174),
  (#[em 1,.string ⟨#[]⟩,.string ⟨#[115,117,109]⟩,.slice (some ⟨n+7,0,none⟩) 1 1,eu,eu,em 1,.string ⟨#[]⟩,.string ⟨#[105]⟩,.slice (some ⟨n+9,0,none⟩) 1 1,eu,eu],176),
  (#[em 3,em 0,.string ⟨#[]⟩,.string ⟨#[115,117,109]⟩,eu],174),
  (#[em 1,.string ⟨#[]⟩,.string ⟨#[105]⟩,.slice (some ⟨n+4,0,none⟩) 1 1,eu,eu,em 5,.string ⟨#[]⟩,.string ⟨#[]⟩,.slice (some ⟨n+5,0,none⟩) 1 1,.slice (some ⟨n+10,0,none⟩) 2 2,eu,em 6,.string ⟨#[]⟩,.string ⟨#[]⟩,.slice (some ⟨n+11,0,none⟩) 1 1,eu,eu],176),
  (#[.string ⟨#[100,111,119,110]⟩,.bool true,.slice (some ⟨n+2,0,none⟩) 1 1,.slice (some ⟨n+3,0,none⟩) 1 1,.slice (some ⟨n+12,0,none⟩) 3 3],118)]
def Gv:List St:=(oj.procs.map fH.body).flatten
theorem Gw (w:World):hm (jp w (jT w.heap.size)) eV oj (.agg #[.string ⟨#[99,110,116]⟩,eu,.slice (some ⟨w.heap.size+1,0,none⟩) 3 3,.slice (some ⟨w.heap.size+13,0,none⟩) 1 1,eu]) none 0 (some ⟨w.heap.size+1,0,none⟩) 3 (some ⟨w.heap.size+13,0,none⟩) 1 none 0:=by
 have aL:eE (jp w (jT w.heap.size)) eV (some ⟨w.heap.size+1,0,none⟩) 3 (iD oj.decls):=by
  refine kc (kb w _ 1 _ _ rfl) ?_ (by decide) (by decide);exact .cons (f8 rfl) (.cons (gy (by decide)) (.cons (uj) (.cons (f8 rfl) (.cons (f8 rfl) (.cons (gy (by decide)) (.cons (uj) (.cons (f8 rfl) (.cons (f8 rfl) (.cons (gy (by decide)) (.cons (uj) (.cons (f8 rfl) (.nil))))))))))))
 have aU:eE (jp w (jT w.heap.size)) eV (some ⟨w.heap.size+2,0,none⟩) 1 (fj [⟨#[110]⟩]):=by
  refine kc (kb w _ 2 _ _ rfl) ?_ (by decide) (by decide);exact .cons (gy (by decide)) (.nil)
 have bd:eE (jp w (jT w.heap.size)) eV (some ⟨w.heap.size+3,0,none⟩) 1 (fj [⟨#[105]⟩]):=by
  refine kc (kb w _ 3 _ _ rfl) ?_ (by decide) (by decide);exact .cons (gy (by decide)) (.nil)
 have z:eE (jp w (jT w.heap.size)) eV (some ⟨w.heap.size+4,0,none⟩) 1 (ft [.mk 3 0 ⟨#[]⟩ ⟨#[110]⟩ []]):=by
  refine kc (kb w _ 4 _ _ rfl) ?_ (by decide) (by decide);exact .cons (f8 rfl) (.cons (f8 rfl) (.cons (gy (by decide)) (.cons (gy (by decide)) (.cons (jW) (.nil)))))
 have c0:eE (jp w (jT w.heap.size)) eV (some ⟨w.heap.size+5,0,none⟩) 1 (ft [.mk 3 0 ⟨#[]⟩ ⟨#[105]⟩ []]):=by
  refine kc (kb w _ 5 _ _ rfl) ?_ (by decide) (by decide);exact .cons (f8 rfl) (.cons (f8 rfl) (.cons (gy (by decide)) (.cons (gy (by decide)) (.cons (jW) (.nil)))))
 have W:eE (jp w (jT w.heap.size)) eV (some ⟨w.heap.size+6,0,none⟩) 2 (ft [.mk 3 0 ⟨#[]⟩ ⟨#[115,117,109]⟩ [],.mk 3 0 ⟨#[]⟩ ⟨#[105]⟩ []]):=by
  refine kc (kb w _ 6 _ _ rfl) ?_ (by decide) (by decide);exact .cons (f8 rfl) (.cons (f8 rfl) (.cons (gy (by decide)) (.cons (gy (by decide)) (.cons (jW) (.cons (f8 rfl) (.cons (f8 rfl) (.cons (gy (by decide)) (.cons (gy (by decide)) (.cons (jW) (.nil))))))))))
 have d:eE (jp w (jT w.heap.size)) eV (some ⟨w.heap.size+7,0,none⟩) 1 (ft [.mk 9 0 ⟨#[]⟩ ⟨#[]⟩ [.mk 3 0 ⟨#[]⟩ ⟨#[115,117,109]⟩ [],.mk 3 0 ⟨#[]⟩ ⟨#[105]⟩ []]]):=by
  refine kc (kb w _ 7 _ _ rfl) ?_ (by decide) (by decide);exact .cons (f8 rfl) (.cons (f8 rfl) (.cons (gy (by decide)) (.cons (gy (by decide)) (.cons (W.val) (.nil)))))
 have f:eE (jp w (jT w.heap.size)) eV (some ⟨w.heap.size+8,0,none⟩) 2 (ft [.mk 3 0 ⟨#[]⟩ ⟨#[105]⟩ [],.mk 1 1 ⟨#[]⟩ ⟨#[]⟩ []]):=by
  refine kc (kb w _ 8 _ _ rfl) ?_ (by decide) (by decide);exact .cons (f8 rfl) (.cons (f8 rfl) (.cons (gy (by decide)) (.cons (gy (by decide)) (.cons (jW) (.cons (f8 rfl) (.cons (f8 rfl) (.cons (gy (by decide)) (.cons (gy (by decide)) (.cons (jW) (.nil))))))))))
 have g:eE (jp w (jT w.heap.size)) eV (some ⟨w.heap.size+9,0,none⟩) 1 (ft [.mk 10 0 ⟨#[]⟩ ⟨#[]⟩ [.mk 3 0 ⟨#[]⟩ ⟨#[105]⟩ [],.mk 1 1 ⟨#[]⟩ ⟨#[]⟩ []]]):=by
  refine kc (kb w _ 9 _ _ rfl) ?_ (by decide) (by decide);exact .cons (f8 rfl) (.cons (f8 rfl) (.cons (gy (by decide)) (.cons (gy (by decide)) (.cons (f.val) (.nil)))))
 have a:eE (jp w (jT w.heap.size)) eV (some ⟨w.heap.size+10,0,none⟩) 2 (fw [.mk 1 ⟨#[]⟩ ⟨#[115,117,109]⟩ [.mk 9 0 ⟨#[]⟩ ⟨#[]⟩ [.mk 3 0 ⟨#[]⟩ ⟨#[115,117,109]⟩ [],.mk 3 0 ⟨#[]⟩ ⟨#[105]⟩ []]] [] [],.mk 1 ⟨#[]⟩ ⟨#[105]⟩ [.mk 10 0 ⟨#[]⟩ ⟨#[]⟩ [.mk 3 0 ⟨#[]⟩ ⟨#[105]⟩ [],.mk 1 1 ⟨#[]⟩ ⟨#[]⟩ []]] [] []]):=by
  refine kc (kb w _ 10 _ _ rfl) ?_ (by decide) (by decide);exact .cons (f8 rfl) (.cons (gy (by decide)) (.cons (gy (by decide)) (.cons (d.val) (.cons (jW) (.cons (jW) (.cons (f8 rfl) (.cons (gy (by decide)) (.cons (gy (by decide)) (.cons (g.val) (.cons (jW) (.cons (jW) (.nil))))))))))))
 have c:eE (jp w (jT w.heap.size)) eV (some ⟨w.heap.size+11,0,none⟩) 1 (ft [.mk 3 0 ⟨#[]⟩ ⟨#[115,117,109]⟩ []]):=by
  refine kc (kb w _ 11 _ _ rfl) ?_ (by decide) (by decide);exact .cons (f8 rfl) (.cons (f8 rfl) (.cons (gy (by decide)) (.cons (gy (by decide)) (.cons (jW) (.nil)))))
 have e:eE (jp w (jT w.heap.size)) eV (some ⟨w.heap.size+12,0,none⟩) 3 (fw Gv):=by
  refine kc (kb w _ 12 _ _ rfl) ?_ (by decide) (by decide);exact .cons (f8 rfl) (.cons (gy (by decide)) (.cons (gy (by decide)) (.cons (z.val) (.cons (jW) (.cons (jW) (.cons (f8 rfl) (.cons (gy (by decide)) (.cons (gy (by decide)) (.cons (c0.val) (.cons (a.val) (.cons (jW) (.cons (f8 rfl) (.cons (gy (by decide)) (.cons (gy (by decide)) (.cons (c.val) (.cons (jW) (.cons (jW) (.nil))))))))))))))))))
 have b:eE (jp w (jT w.heap.size)) eV (some ⟨w.heap.size+13,0,none⟩) 1 (hK oj.procs):=by
  refine kc (kb w _ 13 _ _ rfl) ?_ (by decide) (by decide);exact .cons (gy (by decide)) (.cons (uj) (.cons (aU.val) (.cons (bd.val) (.cons (e.val) (.nil)))))
 exact ⟨rfl,by decide,⟨eD _,by decide,Or.inl rfl⟩,aL,b,⟨eD _,by decide,Or.inl rfl⟩⟩
theorem Gx (w:World) :
 ew 54 #[] w fun e r=>∃ v Y a9 a5 a4 a7 c3 ay am,e = .returned v/\hm r eV oj v Y a9 a5 a4 a7 c3 ay am/\et w r:=by
 have aq:=hid (Gw w);go_enter func54,ntmps54;go_wp2_with fail;show bodyPost _ _ _ _ _ (jp w (jT w.heap.size));obtain ⟨a3,G,J,S,a6,a0⟩:=(kb w (jT w.heap.size) 0 _ _ rfl).c5;rw [kf] at a3 G J S a6 a0;have ad:=tO (jT w.heap.size) w;have aq:=aq.out;generalize jp w (jT w.heap.size)=M at *;exact bodyPost_ret (v:=.agg #[.string ⟨#[99,110,116]⟩,eu,.slice (some ⟨w.heap.size+1,0,none⟩) 3 3,.slice (some ⟨w.heap.size+13,0,none⟩) 1 1,eu]) (by simp [results,results54,go_sem,a3,G,J,S,a6]) rfl ⟨_,_,_,_,_,_,_,_,_,rfl,aq,ad⟩
theorem Gy (w:World):ew 56 #[] w fun e r=>e = .returned (.string pj)/\r=w:=by
 go_enter func56,ntmps56;go_wp2_with fail;go_ret;exact ⟨rfl,rfl⟩
end Go.Proofs.YtndkhgakfodldaaGreatDoor
