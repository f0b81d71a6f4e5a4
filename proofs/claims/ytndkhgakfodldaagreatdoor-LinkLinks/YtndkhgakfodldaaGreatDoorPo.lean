import Derived.Test.YtndkhgakfodldaaGreatDoorPm
import Derived.Test.YtndkhgakfodldaaGreatDoorLex
namespace Go.Proofs.YtndkhgakfodldaaGreatDoor
set_option maxRecDepth 100000
set_option maxHeartbeats 1600000
open Go.RowKit Go.Shelf
def zw0 (ts:List Tk):Option Mo:=match zci ts with
 | some (m,[])=>some m
 | _=>none
abbrev znz:Value:=.agg #[.string ⟨#[]⟩,qs,qs,qs,qs]
structure Pw (w W:World) (cs:Array Value) (ok:Bool):Prop where
 below:qb w W
 mb:W.heap[w.heap.size]? = some (.cells cs 27 (0,0))
 ob:W.heap[w.heap.size+1]? = some (.cells #[.bool ok] 4 (0,0))
theorem Pw.ocell {w W:World} {cs:Array Value} {ok:Bool} (h:Pw w W cs ok):W.cell? ⟨w.heap.size+1,0,none⟩=some (.bool ok)/\W.frozen? ⟨w.heap.size+1,0,none⟩=false:=by
 refine ⟨by rw [vep h.ob];rfl,?_⟩;unfold World.frozen?;simp only;rw [h.ob];simp
theorem Pw.put {w W:World} {x0 x1 x2 x3 x4:Value} {ok:Bool} (h:Pw w W #[x0,x1,x2,x3,x4] ok) (v0 v1 v2 v3 v4:Value):Pw w (set5 W w.heap.size v0 v1 v2 v3 v4) #[v0,v1,v2,v3,v4] ok:=by
 refine ⟨((((h.below.setCell (p:=(qa w.heap.size 0)) (vaa _) _).setCell (p:=(qa w.heap.size 1)) (vaa _) _).setCell (p:=(qa w.heap.size 2)) (vaa _) _).setCell (p:=(qa w.heap.size 3)) (vaa _) _).setCell (p:=(qa w.heap.size 4)) (vaa _) _,?_,?_⟩
 . exact heap_set (heap_set (heap_set (heap_set (heap_set h.mb _) _) _) _) _
 . have e:w.heap.size+1≠w.heap.size:=by omega
   exact (heap_set_ne (p:=(qa w.heap.size 4)) e _).trans ((heap_set_ne (p:=(qa w.heap.size 3)) e _).trans ((heap_set_ne (p:=(qa w.heap.size 2)) e _).trans ((heap_set_ne (p:=(qa w.heap.size 1)) e _).trans ((heap_set_ne (p:=(qa w.heap.size 0)) e _).trans h.ob))))
theorem Pw.ok {w W:World} {cs:Array Value} {b:Bool} (h:Pw w W cs b) (b':Bool):Pw w (W.setCell ⟨w.heap.size+1,0,none⟩ (.bool b')) cs b':=
 ⟨h.below.setCell (p:=⟨w.heap.size+1,0,none⟩) (vel _) _,(heap_set_ne bq _).trans h.mb,heap_set h.ob _⟩
theorem Pw.keeps {w W W':World} {cs:Array Value} {b:Bool} {R:Nat} (h:Pw w W cs b) (hk:Keeps R W W') (hR:w.heap.size+2<=R):Pw w W' cs b:=
 ⟨⟨hk.os.trans h.below.os,hk.tape.trans h.below.tape,hk.output.trans h.below.output,vbd h.below.size hk.size,fun k CK=>(hk.block k (vai CK h.below.size) ae).trans (h.below.block k CK)⟩,(hk.block _ (lt_of_heap h.mb) ae).trans h.mb,(hk.block _ (lt_of_heap h.ob) ae).trans h.ob⟩
theorem Pw.resOf {w W:World} {x0 x1 x2 x3 x4:Value} {ok:Bool} (h:Pw w W #[x0,x1,x2,x3,x4] ok) (t:Array Value) (h2:t.getD 2 undef=pq w.heap.size 0) (h3:t.getD 3 undef = .pointer (some ⟨w.heap.size+1,0,none⟩)) :
 (results Tryz.f115 t).run Tryz.prog W = .ok (.tuple #[.agg #[x0,x1,x2,x3,x4],.bool ok]) W:=by
 obtain ⟨c0,c1,c2,c3,c4,_⟩:=zaa h.mb;obtain ⟨d0,_⟩:=h.ocell
 have Gz:t[2]?.getD undef=pq w.heap.size 0:=dz
 have He:t[3]?.getD undef = .pointer (some ⟨w.heap.size+1,0,none⟩):=by simpa using h3
 simp [results,Tryz.results115,go_sem,Gz,He,c0,c1,c2,c3,c4,d0]
theorem z8m (w W:World) (x0 x1 x2 x3 x4:Value) (ok:Bool) (u:TypeId) (pv:Value) (older:List PanicEntry) (h:Pw w W #[x0,x1,x2,x3,x4] ok) :
 CallsD Tryz.prog 158 #[pq w.heap.size 0,.pointer (some ⟨w.heap.size+1,0,none⟩)] (.panicking ({ v:=.iface u pv,recovered:=false } :: older)) W fun e u' w'=>
  e = .returned (.tuple #[])/\u' = .panicking ({ v:=.iface u pv,recovered:=true } :: older)/\Pw w w' #[.string ⟨#[]⟩,qs,qs,qs,qs] false:=by
 have Nu:=(h.put (.string ⟨#[]⟩) (qs) (qs) (qs) (qs)).ok false;obtain ⟨c0,c1,c2,c3,c4,c5⟩:=zaa h.mb;obtain ⟨d0,d1⟩:=(h.put (.string ⟨#[]⟩) (qs) (qs) (qs) (qs)).ocell
 refine callsD_of_wpS Tryz.func158 rfl fun c₀ cs hu=>?_
 apply wpS_seq
 apply wpS_region
 simp [wpOpsS,go_sem,recoverD,hu,Tryz.ntmps158,Exit.thenS];refine wpS_cond (t:=true) cg ?_;simp only [if_true]
 apply wpS_region
 simp [wpOpsS,go_sem,c0,c1,c2,c3,c4,c5,d0,d1,bodyPostS,results,Tryz.results158];exact Nu
theorem z95 (p q:Addr) (w:World) :
 CallsD Tryz.prog 158 #[.pointer (some p),.pointer (some q)] .returning w fun e u' w'=>e = .returned (.tuple #[])/\u' = .returning/\w'=w:=by
 refine callsD_of_wpS Tryz.func158 rfl fun c₀ cs hu=>?_
 apply wpS_seq
 apply wpS_region
 simp [wpOpsS,go_sem,recoverD,hu,Tryz.ntmps158,Exit.thenS];refine wpS_cond (t:=false) cg ?_;simp only [vcx,if_false];refine wpS_of_wp (wp_skip ?_)
 cases c₀
 simp_all [bodyPostS,results,Tryz.results158]
theorem Pw.caught {w W:World} {x0 x1 x2 x3 x4:Value} {ok:Bool} (h:Pw w W #[x0,x1,x2,x3,x4] ok) {R:Ending->World->Prop} (t:Array Value)
 (h2:t.getD 2 undef=pq w.heap.size 0) (h3:t.getD 3 undef = .pointer (some ⟨w.heap.size+1,0,none⟩))
 (hR:∀ W',qb w W'->R (.returned (.tuple #[znz,.bool false])) W') :
 Leaves Tryz.prog Tryz.f115 t R [{ target:=Target.fn (Fn.func 158) #[Value.pointer (some (qa w.heap.size 0)),Value.pointer (some ⟨w.heap.size+1,0,none⟩)],args:=#[] }] (.panicking zai) W:=by
 refine leaves_cons (f:=158) (args:=#[pq w.heap.size 0,.pointer (some ⟨w.heap.size+1,0,none⟩)]) aA cN ?_;refine (z8m w W x0 x1 x2 x3 x4 ok 31 (qi 1) [] h).mono ?_;rintro e u' AC ⟨rfl,rfl,hp⟩;exact ⟨_,hp.resOf t h2 h3,hR AC hp.below⟩
theorem zw1 (ts:List Tk) (a:OA) (cap:Nat) (w:World) (ht:zdb w a ts) (hl:ts.length<=4096) :
 qc 115 #[.slice a ts.length cap] w fun e w'=>qb w w'/\((zw0 ts=none/\e = .returned (.tuple #[znz,.bool false]))\/∃ m v,zw0 ts=some m/\e = .returned (.tuple #[v,.bool true])/\zpb (w.heap.size<=·) m w' v):=by
 have HT:=hid ht
 have Ru:∀ (fn:Fn) (first cap:Array Value) (w:World),(Instr.makeFunc fn first cap).run Tryz.prog w = .ok (.func fn first cap) w:=fun _ _ _ _=>rfl
 clear ht;go_enter_defers Tryz.func115,Tryz.ntmps115;go_wp2_with fail
 obtain ⟨W0,hW0⟩:∃ W0,W0=((w.alloc zc2).alloc (.cells #[.bool false] 4)).alloc (.cells #[.slice a ts.length cap,qi 0] 239):=⟨_,rfl⟩
 have Bx:W0.heap.size=w.heap.size+1+1+1:=by rw [hW0];simp
 have GF:Hid (Pw w W0 #[.string ⟨#[]⟩,qs,qs,qs,qs] false):=by
  rw [hW0];refine ⟨((((Below.refl _ _).alloc (vaa _) _).alloc aA _).alloc aF _),zab (zab (heap_newP _ _)),zab ?_⟩;have:=heap_newP (w.alloc zc2) (.cells #[.bool false] 4);exact jI
 have GD:Hid (Rd (w.heap.size+1+1) a cap ts W0 ts):=by
  refine ⟨⟨0,vaf _,rfl,?_⟩,HT.out.later ?_,?_,hl⟩
  . rw [hW0]
    have:=heap_newP ((w.alloc zc2).alloc (.cells #[.bool false] 4)) (.cells #[.slice a ts.length cap,qi 0] 239);exact jI
  . exact GF.out.below
  . rcases HT.out with h | ⟨b,off,rfl,h⟩
    . exact Or.inl h
    . refine Or.inr fun b' BN e=>?_
      cases e
      have:=h.lt;omega
 rw [← hW0];clear hW0;refine (zwz _ cap a ts ts W0 GD.out).mono ?_;rintro e w1 ⟨KK,⟨hn,rfl⟩ | ⟨m,l1,v,hn,rfl,⟨a1,c1,a2,c2,a3,c3,a4,c4,rfl,LF,AP,AG,hx3,hx4⟩,RD⟩⟩
 . have HN:Hid (zw0 ts=none):=by show _=_;unfold zw0;rw [hn]
   exact Pw.caught (GF.out.keeps KK ae) _ rfl rfl (fun W' hB=>⟨hB,Or.inl ⟨HN.out,rfl⟩⟩)
 have Bh:=hid (GF.out.keeps KK ae);have Ao:=KK.size;obtain ⟨k,hk,Br,hRb⟩:=RD.idx
 have S8:w1.cell? ⟨w.heap.size+1+1,0,none⟩=some (.slice a ts.length cap):=by rw [vep hRb];rfl
 have S7:w1.cell? ⟨w.heap.size+1+1,1,none⟩=some (qi k):=by rw [vep hRb];rfl
 have BQ:=hid (Bh.out.put (.string m.name) (.slice a1 m.uses.length c1) (.slice a2 m.decls.length c2) (.slice a3 m.procs.length c3) (.slice a4 m.main.length c4));have FA:=hid ((BQ.out.put (.string m.name) (.slice a1 m.uses.length c1) (.slice a2 m.decls.length c2) (.slice a3 m.procs.length c3) (.slice a4 m.main.length c4)).ok true)
 have FD:Hid (zpb (w.heap.size<=·) m ((set5 (set5 w1 w.heap.size (.string m.name) (.slice a1 m.uses.length c1) (.slice a2 m.decls.length c2) (.slice a3 m.procs.length c3) (.slice a4 m.main.length c4)) w.heap.size (.string m.name) (.slice a1 m.uses.length c1) (.slice a2 m.decls.length c2) (.slice a3 m.procs.length c3) (.slice a4 m.main.length c4)).setCell ⟨w.heap.size+1,0,none⟩ (.bool true)) (.agg #[.string m.name,.slice a1 m.uses.length c1,.slice a2 m.decls.length c2,.slice a3 m.procs.length c3,.slice a4 m.main.length c4])):=by
  have hm:zad w1 (W0.heap.size<=·) ((set5 (set5 w1 w.heap.size (.string m.name) (.slice a1 m.uses.length c1) (.slice a2 m.decls.length c2) (.slice a3 m.procs.length c3) (.slice a4 m.main.length c4)) w.heap.size (.string m.name) (.slice a1 m.uses.length c1) (.slice a2 m.decls.length c2) (.slice a3 m.procs.length c3) (.slice a4 m.main.length c4)).setCell ⟨w.heap.size+1,0,none⟩ (.bool true)) (w.heap.size<=·):=
   ((((zad.refl w1 (W0.heap.size<=·)).set5 (b:=w.heap.size) (fun k _ hk=>ae) (.string m.name) (.slice a1 m.uses.length c1) (.slice a2 m.decls.length c2) (.slice a3 m.procs.length c3) (.slice a4 m.main.length c4)).set5 (b:=w.heap.size) (fun k _ hk=>ae) (.string m.name) (.slice a1 m.uses.length c1) (.slice a2 m.decls.length c2) (.slice a3 m.procs.length c3) (.slice a4 m.main.length c4)).set (p:=⟨w.heap.size+1,0,none⟩) (fun k _ hk=>by show k≠w.heap.size+1;omega) (.bool true)).trans ⟨vaa _,fun k _ hk=>⟨ae,rfl⟩⟩
  exact ⟨a1,c1,a2,c2,a3,c3,a4,c4,rfl,LF,AP.moves hm,AG.moves hm,hx3.moves hm,hx4.moves hm⟩
 obtain ⟨h0,h1,h2,h3,h4,h5⟩:=zaa Bh.out.mb;obtain ⟨d0,d1⟩:=Bh.out.ocell
 have Fg:w.heap.size<w1.heap.size:=ae
 have CA:w.heap.size+1<w1.heap.size:=ae
 have K9:w.heap.size+1+1<w1.heap.size:=ae
 clear KK RD AP AG hx3 hx4 GF GD HT hRb
 by_cases Be:k<ts.length
 . have HN:Hid (zw0 ts=none):=by
    show _=_;unfold zw0;rw [hn,Br,List.drop_eq_getElem_cons Be]
   clear hn;go_wp2_with fail;exact Pw.caught BQ.out _ rfl rfl (fun W' hB=>⟨hB,Or.inl ⟨HN.out,rfl⟩⟩)
 . have HN:Hid (zw0 ts=some m):=by
    show _=_;unfold zw0;rw [hn,Br,vcw ae]
   have U8:¬ ((k:Int)<(ts.length:Int)):=ae
   clear hn;go_wp2_with fail;refine leaves_cons (f:=158) (args:=#[pq w.heap.size 0,.pointer (some ⟨w.heap.size+1,0,none⟩)]) aA cN ?_;refine (z95 (qa w.heap.size 0) ⟨w.heap.size+1,0,none⟩ _).mono ?_;rintro e u' AC ⟨rfl,rfl,rfl⟩;exact ⟨_,FA.out.resOf _ rfl rfl,FA.out.below,Or.inr ⟨m,_,HN.out,rfl,FD.out⟩⟩
theorem zz5 (s:ByteArray):zia (lexT s):=by
 unfold lexT;split
 . exact ⟨⟨rfl,rfl⟩,aA⟩
 . rename_i hs
   cases h:zdm s 0 with
   | none=>exact ⟨⟨rfl,rfl⟩,aA⟩
   | some ts=>
     rw [zwj] at h;have:=zwk _ _ ts rfl h;rw [Lx.za0] at this;exact ⟨this.1,by show ts.length<=4096;omega⟩
theorem zw2 {ts:List Tk} {m:Mo} (h:zw0 ts=some m) (hg:zia ts):ts=tM m/\Fine m:=by
 unfold zw0 at h
 split at h
 . rename_i m' hm
   cases h;have:=zo2 hm hg;exact jI
 . cases h
theorem z8n {A:Nat->Prop} {m:Mo} {w:World} {v:Value} (h:zpb A m w v) (hf:Fine m):∃ a1 c1 a2 c2 a3 c3 a4 c4,MoAt w Tt m v a1 c1 a2 c2 a3 c3 a4 c4:=by
 obtain ⟨a1,c1,a2,c2,a3,c3,a4,c4,rfl,h0,h1,h2,h3,h4⟩:=h
 have hm:zad w A w Tt:=⟨vaa _,fun _ _ _=>⟨trivial,rfl⟩⟩
 have l2:(zku m.decls).length=4*m.decls.length:=by
  have:∀ l:List De,(zku l).length=4*l.length:=by
   intro l
   induction l with
   | nil=>rfl
   | cons x r ih=>
     show (x.ds++zku r).length=_;rw [vaj,ih]
     simp [De.ds];omega
  exact this _
 have l3:(zio m.procs).length=5*m.procs.length:=by
  have:∀ l:List Pr,(zio l).length=5*l.length:=by
   intro l
   induction l with
   | nil=>rfl
   | cons x r ih=>
     show (x.ds++zio r).length=_;rw [vaj,ih]
     simp [Pr.ds];omega
  exact this _
 have k1:=hf.uses;have k2:=hf.decls;have k3:=hf.procs;have k4:=hf.main;exact ⟨a1,c1,a2,c2,a3,c3,a4,c4,rfl,h0,(h1.moves hm).toD fj (by simp [zak];omega) (zic _),(h2.moves hm).toD (by rw [l2];omega) (by rw [l2];omega) hf.fd,(h3.moves hm).toD (by rw [l3];omega) (by rw [l3];omega) hf.fp,(h4.moves hm).toD (by rw [zen];omega) (by rw [zen];omega) hf.fm⟩
theorem zg2 {B b:Nat} {a w:World} (h:Below B a w) (hb:B<=b) (v0 v1 v2 v3 v4:Value):Below B a (set5 w b v0 v1 v2 v3 v4):=
 ((((h.setCell (p:=(qa b 0)) hb _).setCell (p:=(qa b 1)) hb _).setCell (p:=(qa b 2)) hb _).setCell (p:=(qa b 3)) hb _).setCell (p:=(qa b 4)) hb _
theorem zpb.moves {A A':Nat->Prop} {m:Mo} {w w':World} {v:Value} (h:zpb A m w v) (hm:zad w A w' A'):zpb A' m w' v:=by
 obtain ⟨a1,c1,a2,c2,a3,c3,a4,c4,rfl,h0,h1,h2,h3,h4⟩:=h;exact ⟨a1,c1,a2,c2,a3,c3,a4,c4,rfl,h0,h1.moves hm,h2.moves hm,h3.moves hm,h4.moves hm⟩
def zgs (s:ByteArray):Option Mo:=if lexE s=0 then (match zw0 (lexT s) with | some m=>if m.err=0 then some m else none | none=>none) else none
def zlo (s:ByteArray):Int:=if lexE s=0 then (match zgs s with | some _=>0 | none=>1) else lexE s
def z22 (s:ByteArray) (e:Ending) (w:World):Prop:=
 (zgs s=none/\zlo s≠0/\e = .returned (.tuple #[znz,qi (zlo s)]))\/
 ∃ m v a1 c1 a2 c2 a3 c3 a4 c4,zgs s=some m/\zlo s=0/\e = .returned (.tuple #[v,qi 0])/\MoAt w Tt m v a1 c1 a2 c2 a3 c3 a4 c4
theorem zz6 (s:ByteArray) (w:World) (hs:s.size<=maxLen) :
 qc 55 #[.string s] w fun e w'=>z22 s e w'/\qb w w':=by
 have HG:=hid (zz5 s);go_enter Tryz.func55,Tryz.ntmps55;go_wp2_with fail;refine (z5r s _ hs).mono ?_;rintro e w1 ⟨a,cap,rfl,hT,A6⟩;have HT:=hid hT;have Ao:=A6.size;simp at Ao;have A8:Hid (w1.heap[w.heap.size]? = some zc2):=(A6.block w.heap.size aA).trans (heap_newP _ _);have J5:Hid (qb w w1):=thenB (al1 _ _) A6;clear hT A6;obtain ⟨h0,h1,h2,h3,h4,h5⟩:=zaa A8.out
 have Fg:w.heap.size<w1.heap.size:=ae
 by_cases he:lexE s=0
 . have HE:=hid he
   rw [he];clear he;generalize MO:lexT s=ts at *;go_wp2_with fail;refine (zw1 ts a cap w1 HT.out HG.out.2).mono ?_;rintro e w2 ⟨Ab,⟨hn,rfl⟩ | ⟨m,v,hn,rfl,hM⟩⟩
   . have HN:Hid (zgs s=none/\zlo s=1):=by
      have h:zgs s=none:=by unfold zgs;rw [if_pos HE.out,MO,hn]
      exact iQ
     have J4:=hid (thenB J5.out Ab);have Ay:=Ab.size;have Ad:Hid (w2.heap[w.heap.size]? = some zc2):=(Ab.block w.heap.size Fg).trans A8.out;have Af:=hid (zab (o:=zc2) Ad.out);clear h0 h1 h2 h3 h4 h5 Ab;obtain ⟨h0,h1,h2,h3,h4,h5⟩:=zaa Ad.out
     have CA:w.heap.size<w2.heap.size:=ae
     have NM:=zg2 J4.out (vaa _) (.string ⟨#[]⟩) (qs) (qs) (qs) (qs);have Eo:=hid (NM.alloc NM.size zc2);clear NM;go_wp2_with fail;refine bodyPost_ret (v:=.tuple #[znz,qi 1]) (by simp [results,Tryz.results55,go_sem,h0,h1,h2,h3,h4,CA]) rfl ⟨Or.inl ⟨HN.out.1,by rw [HN.out.2];decide,by rw [HN.out.2]⟩,Eo.out⟩
   . obtain ⟨e1,hF⟩:=zw2 hn HG.out
     have HF:=hid hF;have HM:=hid hM;obtain ⟨a1,c1,a2,c2,a3,c3,a4,c4,rfl,_⟩:=hM;have HN:=hid hn;have J4:=hid (thenB J5.out Ab);have Ay:=Ab.size;have Ad:Hid (w2.heap[w.heap.size]? = some zc2):=(Ab.block w.heap.size Fg).trans A8.out
     have PZ:∀ W,qb w2 W->qc 112 #[.agg #[.string m.name,.slice a1 m.uses.length c1,.slice a2 m.decls.length c2,.slice a3 m.procs.length c3,.slice a4 m.main.length c4]] W fun e w'=>e = .returned (qi m.err)/\qb W w':=fun W hW=>by
      obtain ⟨b1,d1,b2,d2,b3,d3,b4,d4,hA⟩:=z8n (HM.out.moves (zad.of_below hW _)) HF.out;exact zn8 m _ _ _ _ _ _ _ _ _ W hA
     have Ly:=hid PZ;clear h0 h1 h2 h3 h4 h5 Ab e1 hF hn PZ
     have CA:w.heap.size<w2.heap.size:=ae
     go_wp2_with fail;refine (Ly.out _ (al1 _ _)).mono ?_;rintro e w3 ⟨rfl,A9⟩;have BB:=A9.size;simp at BB;have Af:Hid (w3.heap[w.heap.size]? = some zc2):=(A9.block w.heap.size aF).trans (zab Ad.out);have M9:Hid (w3.heap[w2.heap.size]? = some (.cells #[.string m.name,.slice a1 m.uses.length c1,.slice a2 m.decls.length c2,.slice a3 m.procs.length c3,.slice a4 m.main.length c4] 27 (0,0))):=(A9.block w2.heap.size aA).trans (heap_newP _ _);have LA:=hid (thenB J4.out (thenB (al1 _ _) A9));have FD:Hid (zpb (w1.heap.size<=·) m w3 (.agg #[.string m.name,.slice a1 m.uses.length c1,.slice a2 m.decls.length c2,.slice a3 m.procs.length c3,.slice a4 m.main.length c4])):=HM.out.moves ((zad.of_below (al1 _ _) _).trans (zad.of_below A9 _));obtain ⟨h0,h1,h2,h3,h4,h5⟩:=zaa Af.out;obtain ⟨g0,g1,g2,g3,g4,g5⟩:=zaa M9.out
     have K9:w.heap.size<w3.heap.size:=ae
     have N1:w2.heap.size<w3.heap.size:=ae
     clear A9 Ly HM Ad
     by_cases hr:m.err=0
     . have HP:Hid (zgs s=some m/\zlo s=0):=by
        have h:zgs s=some m:=by unfold zgs;rw [if_pos HE.out,MO,HN.out];simp [hr]
        exact iQ
       have Eo:=hid (zg2 LA.out (vaa _) (.string m.name) (.slice a1 m.uses.length c1) (.slice a2 m.decls.length c2) (.slice a3 m.procs.length c3) (.slice a4 m.main.length c4));have Mm:=hid (z8n (FD.out.moves (((zad.refl w3 (w1.heap.size<=·)).set5 (b:=w.heap.size) (fun k _ hk=>ae) (.string m.name) (.slice a1 m.uses.length c1) (.slice a2 m.decls.length c2) (.slice a3 m.procs.length c3) (.slice a4 m.main.length c4)))) HF.out)
       have Pn:(m.err == 0)=true:=by simp [hr]
       rw [hr];go_wp2_with fail;refine bodyPost_ret (v:=.tuple #[.agg #[.string m.name,.slice a1 m.uses.length c1,.slice a2 m.decls.length c2,.slice a3 m.procs.length c3,.slice a4 m.main.length c4],qi 0]) cA rfl ⟨Or.inr ?_,Eo.out⟩;obtain ⟨b1,d1,b2,d2,b3,d3,b4,d4,hA⟩:=Mm.out;exact ⟨m,_,b1,d1,b2,d2,b3,d3,b4,d4,HP.out.1,HP.out.2,rfl,hA⟩
     . have L4:Hid (zgs s=none/\zlo s=1):=by
        have h:zgs s=none:=by unfold zgs;rw [if_pos HE.out,MO,HN.out];simp [hr]
        exact iQ
       have Eo:=hid (zg2 LA.out (vaa _) (.string ⟨#[]⟩) (qs) (qs) (qs) (qs))
       have Pn:(m.err == 0)=false:=by simp [hr]
       have Rf:(m.err != 0)=true:=by simp [hr]
       generalize m.err=er at *;go_wp2_with fail;refine bodyPost_ret (v:=.tuple #[znz,qi 1]) cA rfl ⟨Or.inl ⟨L4.out.1,by rw [L4.out.2];decide,by rw [L4.out.2]⟩,Eo.out⟩
 . have HN:Hid (zgs s=none/\zlo s=lexE s):=by
    refine ⟨by unfold zgs;rw [if_neg he],?_⟩
    unfold zlo;rw [if_neg he]
   have Eo:=hid (zg2 J5.out (vaa _) (.string ⟨#[]⟩) (qs) (qs) (qs) (qs))
   have Pn:(lexE s == 0)=false:=by simp [he]
   go_wp2_with fail;refine bodyPost_ret (v:=.tuple #[znz,qi (lexE s)]) cA rfl ⟨Or.inl ⟨HN.out.1,by rw [HN.out.2];exact he,by rw [HN.out.2]⟩,Eo.out⟩
end Go.Proofs.YtndkhgakfodldaaGreatDoor

namespace Go.Proofs.YtndkhgakfodldaaGreatDoor
set_option maxRecDepth 100000
open Go.RowKit
def zpc:Mo:=⟨⟨#[99,110,116]⟩,[],[⟨1,⟨#[107]⟩,true,3⟩,⟨2,⟨#[115,117,109]⟩,true,0⟩,⟨3,⟨#[116]⟩,true,4⟩],
 [⟨⟨#[100,111,119,110]⟩,true,[⟨#[110]⟩],[⟨#[105]⟩],
   [.mk 1 ⟨#[]⟩ ⟨#[105]⟩ [.mk 3 0 ⟨#[]⟩ ⟨#[110]⟩ []] [] [],
    .mk 5 ⟨#[]⟩ ⟨#[]⟩ [.mk 3 0 ⟨#[]⟩ ⟨#[105]⟩ []]
     [.mk 1 ⟨#[]⟩ ⟨#[115,117,109]⟩ [.mk 9 0 ⟨#[]⟩ ⟨#[]⟩ [.mk 3 0 ⟨#[]⟩ ⟨#[115,117,109]⟩ [],.mk 3 0 ⟨#[]⟩ ⟨#[105]⟩ []]] [] [],
      .mk 1 ⟨#[]⟩ ⟨#[105]⟩ [.mk 10 0 ⟨#[]⟩ ⟨#[]⟩ [.mk 3 0 ⟨#[]⟩ ⟨#[105]⟩ [],.mk 1 1 ⟨#[]⟩ ⟨#[]⟩ []]] [] []] [],
    .mk 6 ⟨#[]⟩ ⟨#[]⟩ [.mk 3 0 ⟨#[]⟩ ⟨#[115,117,109]⟩ []] [] []]⟩],[]⟩
def z45:ByteArray:=⟨#[109,111,100,117,108,101,32,116,111,112,123,117,115,101,32,99,110,116,59,109,97,105,110,123,99,110,116,46,116,91,49,93,61,99,110,116,46,100,111,119,110,40,99,110,116,46,107,41,59,111,117,116,32,99,110,116,46,116,91,105,110,93,59,105,102,40,99,110,116,46,115,117,109,61,54,41,123,111,117,116,32,55,59,125,101,108,115,101,123,111,117,116,32,56,59,125,125,125]⟩
def z96:List Tk:=[⟨1,0,⟨#[109,111,100,117,108,101]⟩⟩,⟨1,0,⟨#[116,111,112]⟩⟩,⟨3,0,⟨#[123]⟩⟩,⟨1,0,⟨#[117,115,101]⟩⟩,⟨1,0,⟨#[99,110,116]⟩⟩,⟨3,0,⟨#[59]⟩⟩,⟨1,0,⟨#[109,97,105,110]⟩⟩,⟨3,0,⟨#[123]⟩⟩,⟨1,0,⟨#[99,110,116]⟩⟩,⟨3,0,⟨#[46]⟩⟩,⟨1,0,⟨#[116]⟩⟩,⟨3,0,⟨#[91]⟩⟩,⟨2,1,⟨#[]⟩⟩,⟨3,0,⟨#[93]⟩⟩,⟨3,0,⟨#[61]⟩⟩,⟨1,0,⟨#[99,110,116]⟩⟩,⟨3,0,⟨#[46]⟩⟩,⟨1,0,⟨#[100,111,119,110]⟩⟩,⟨3,0,⟨#[40]⟩⟩,⟨1,0,⟨#[99,110,116]⟩⟩,⟨3,0,⟨#[46]⟩⟩,⟨1,0,⟨#[107]⟩⟩,⟨3,0,⟨#[41]⟩⟩,⟨3,0,⟨#[59]⟩⟩,⟨1,0,⟨#[111,117,116]⟩⟩,⟨1,0,⟨#[99,110,116]⟩⟩,⟨3,0,⟨#[46]⟩⟩,⟨1,0,⟨#[116]⟩⟩,⟨3,0,⟨#[91]⟩⟩,⟨1,0,⟨#[105,110]⟩⟩,⟨3,0,⟨#[93]⟩⟩,⟨3,0,⟨#[59]⟩⟩,⟨1,0,⟨#[105,102]⟩⟩,⟨3,0,⟨#[40]⟩⟩,⟨1,0,⟨#[99,110,116]⟩⟩,⟨3,0,⟨#[46]⟩⟩,⟨1,0,⟨#[115,117,109]⟩⟩,⟨3,0,⟨#[61]⟩⟩,⟨2,6,⟨#[]⟩⟩,⟨3,0,⟨#[41]⟩⟩,⟨3,0,⟨#[123]⟩⟩,⟨1,0,⟨#[111,117,116]⟩⟩,⟨2,7,⟨#[]⟩⟩,⟨3,0,⟨#[59]⟩⟩,⟨3,0,⟨#[125]⟩⟩,⟨1,0,⟨#[101,108,115,101]⟩⟩,⟨3,0,⟨#[123]⟩⟩,⟨1,0,⟨#[111,117,116]⟩⟩,⟨2,8,⟨#[]⟩⟩,⟨3,0,⟨#[59]⟩⟩,⟨3,0,⟨#[125]⟩⟩,⟨3,0,⟨#[125]⟩⟩,⟨3,0,⟨#[125]⟩⟩]
theorem z6i:zdm z45 0=some z96:=by
 rw [← zyu 98 z45 0 aq]
 kernel_rfl
theorem z23:lexT z45=z96/\lexE z45=0:=zyq aq z6i
def zm0:Mo:=⟨⟨#[116,111,112]⟩,[⟨#[99,110,116]⟩],[],[],[.mk 2 ⟨#[99,110,116]⟩ ⟨#[116]⟩ [.mk 1 1 ⟨#[]⟩ ⟨#[]⟩ [],.mk 5 0 ⟨#[99,110,116]⟩ ⟨#[100,111,119,110]⟩ [.mk 3 0 ⟨#[99,110,116]⟩ ⟨#[107]⟩ []]] [] [],
 .mk 7 ⟨#[]⟩ ⟨#[]⟩ [.mk 4 0 ⟨#[99,110,116]⟩ ⟨#[116]⟩ [.mk 2 0 ⟨#[]⟩ ⟨#[]⟩ []]] [] [],
 .mk 4 ⟨#[]⟩ ⟨#[]⟩ [.mk 14 0 ⟨#[]⟩ ⟨#[]⟩ [.mk 3 0 ⟨#[99,110,116]⟩ ⟨#[115,117,109]⟩ [],.mk 1 6 ⟨#[]⟩ ⟨#[]⟩ []]] [.mk 7 ⟨#[]⟩ ⟨#[]⟩ [.mk 1 7 ⟨#[]⟩ ⟨#[]⟩ []] [] []] [.mk 7 ⟨#[]⟩ ⟨#[]⟩ [.mk 1 8 ⟨#[]⟩ ⟨#[]⟩ []] [] []]]⟩
theorem ybz:zw0 z96=some zm0:=ah
theorem z6j:zm0.err=0:=ah
theorem z24 {s:ByteArray} {ts:List Tk} {m:Mo} (h:lexT s=ts/\lexE s=0) (hp:zw0 ts=some m) (he:m.err=0):zgs s=some m:=by
 unfold zgs;rw [if_pos h.2,h.1,hp];exact if_pos he
theorem zve:zgs z45=some zm0:=z24 z23 ybz z6j
set_option maxHeartbeats 1600000
def allocsC (w:World):List (Array Value × TypeId)->World
 | []=>w
 | x :: r=>allocsC (w.alloc (.cells x.1 x.2)) r
theorem zep:∀ (l:List (Array Value × TypeId)) (w:World),qb w (allocsC w l)
 | [],_=>Below.refl _ _
 | _ :: r,w=>thenB (al1 w _) (zep r _)
theorem zax:∀ (w:World) (l:List (Array Value × TypeId)) (i:Nat) (cs:Array Value) (t:TypeId),l[i]? = some (cs,t)->Blk (allocsC w l) (w.heap.size+i) cs.toList
 | w,[],i,cs,t,h=>dH
 | w,x :: r,0,cs,t,h=>by
   simp at h;subst h;exact (Blk.new w cs t).later (zep r _)
 | w,x :: r,i+1,cs,t,h=>by
   have:=zax (w.alloc (.cells x.1 x.2)) r i cs t bT;rw [show w.heap.size+(i+1)=(w.alloc (.cells x.1 x.2)).heap.size+i from aF];exact this
theorem zca {w:World} {b n:Nat} {ds:List D} {cs:List Value} (h:Blk w b cs) (hd:zaq w Tt ds cs) (h1:n<=ds.length) (h2:ds.length<=1000):DAt w Tt (some (qa b 0)) n ds:=
 ⟨h1,ae,Or.inr ⟨b,0,cs,rfl,trivial,h.lt,fun j u hj=>by rw [vaz];exact h.cell j u hj,hd⟩⟩
def cntObjs (n:Nat):List (Array Value × TypeId):=
 [(#[.string ⟨#[99,110,116]⟩,qs,.slice (some ⟨n+1,0,none⟩) 3 3,.slice (some ⟨n+13,0,none⟩) 1 1,qs],27),
  (#[qi 1,.string ⟨#[107]⟩,.bool true,qi 3,qi 2,.string ⟨#[115,117,109]⟩,.bool true,qi 0,qi 3,.string ⟨#[116]⟩,.bool true,qi 4],170),
  (#[.string ⟨#[110]⟩],9),
  (#[.string ⟨#[105]⟩],9),
  (#[qi 3,qi 0,.string ⟨#[]⟩,.string ⟨#[110]⟩,qs],174),
  (#[qi 3,qi 0,.string ⟨#[]⟩,.string ⟨#[105]⟩,qs],174),
  (#[qi 3,qi 0,.string ⟨#[]⟩,.string ⟨#[115,117,109]⟩,qs,qi 3,qi 0,.string ⟨#[]⟩,.string ⟨#[105]⟩,qs],174),
  (#[qi 9,qi 0,.string ⟨#[]⟩,.string ⟨#[]⟩,.slice (some ⟨n+6,0,none⟩) 2 2],174),
  (#[qi 3,qi 0,.string ⟨#[]⟩,.string ⟨#[105]⟩,qs,qi 1,qi 1,.string ⟨#[]⟩,.string ⟨#[]⟩,qs],174),
  (#[qi 10,qi 0,.string ⟨#[]⟩,.string ⟨#[]⟩,.slice (some ⟨n+8,0,none⟩) 2 2],174),
  (#[qi 1,.string ⟨#[]⟩,.string ⟨#[115,117,109]⟩,.slice (some ⟨n+7,0,none⟩) 1 1,qs,qs,qi 1,.string ⟨#[]⟩,.string ⟨#[105]⟩,.slice (some ⟨n+9,0,none⟩) 1 1,qs,qs],176),
  (#[qi 3,qi 0,.string ⟨#[]⟩,.string ⟨#[115,117,109]⟩,qs],174),
  (#[qi 1,.string ⟨#[]⟩,.string ⟨#[105]⟩,.slice (some ⟨n+4,0,none⟩) 1 1,qs,qs,qi 5,.string ⟨#[]⟩,.string ⟨#[]⟩,.slice (some ⟨n+5,0,none⟩) 1 1,.slice (some ⟨n+10,0,none⟩) 2 2,qs,qi 6,.string ⟨#[]⟩,.string ⟨#[]⟩,.slice (some ⟨n+11,0,none⟩) 1 1,qs,qs],176),
  (#[.string ⟨#[100,111,119,110]⟩,.bool true,.slice (some ⟨n+2,0,none⟩) 1 1,.slice (some ⟨n+3,0,none⟩) 1 1,.slice (some ⟨n+12,0,none⟩) 3 3],118)]
def z6k:List St:=(zpc.procs.map Pr.body).flatten
theorem z8o (w:World):MoAt (allocsC w (cntObjs w.heap.size)) Tt zpc (.agg #[.string ⟨#[99,110,116]⟩,qs,.slice (some ⟨w.heap.size+1,0,none⟩) 3 3,.slice (some ⟨w.heap.size+13,0,none⟩) 1 1,qs]) none 0 (some ⟨w.heap.size+1,0,none⟩) 3 (some ⟨w.heap.size+13,0,none⟩) 1 none 0:=by
 have d1:DAt (allocsC w (cntObjs w.heap.size)) Tt (some ⟨w.heap.size+1,0,none⟩) 3 (zku zpc.decls):=by
  refine zca (zax w _ 1 _ _ rfl) ?_ aq aq;exact .cons (zdt rfl) (.cons (ze7 aq) (.cons (z3a) (.cons (zdt rfl) (.cons (zdt rfl) (.cons (ze7 aq) (.cons (z3a) (.cons (zdt rfl) (.cons (zdt rfl) (.cons (ze7 aq) (.cons (z3a) (.cons (zdt rfl) (.nil))))))))))))
 have d2:DAt (allocsC w (cntObjs w.heap.size)) Tt (some ⟨w.heap.size+2,0,none⟩) 1 (zak [⟨#[110]⟩]):=by
  refine zca (zax w _ 2 _ _ rfl) ?_ aq aq;exact .cons (ze7 aq) (.nil)
 have d3:DAt (allocsC w (cntObjs w.heap.size)) Tt (some ⟨w.heap.size+3,0,none⟩) 1 (zak [⟨#[105]⟩]):=by
  refine zca (zax w _ 3 _ _ rfl) ?_ aq aq;exact .cons (ze7 aq) (.nil)
 have d4:DAt (allocsC w (cntObjs w.heap.size)) Tt (some ⟨w.heap.size+4,0,none⟩) 1 (zbr [.mk 3 0 ⟨#[]⟩ ⟨#[110]⟩ []]):=by
  refine zca (zax w _ 4 _ _ rfl) ?_ aq aq;exact g8
 have d5:DAt (allocsC w (cntObjs w.heap.size)) Tt (some ⟨w.heap.size+5,0,none⟩) 1 (zbr [.mk 3 0 ⟨#[]⟩ ⟨#[105]⟩ []]):=by
  refine zca (zax w _ 5 _ _ rfl) ?_ aq aq;exact g8
 have d6:DAt (allocsC w (cntObjs w.heap.size)) Tt (some ⟨w.heap.size+6,0,none⟩) 2 (zbr [.mk 3 0 ⟨#[]⟩ ⟨#[115,117,109]⟩ [],.mk 3 0 ⟨#[]⟩ ⟨#[105]⟩ []]):=by
  refine zca (zax w _ 6 _ _ rfl) ?_ aq aq;exact ib
 have d7:DAt (allocsC w (cntObjs w.heap.size)) Tt (some ⟨w.heap.size+7,0,none⟩) 1 (zbr [.mk 9 0 ⟨#[]⟩ ⟨#[]⟩ [.mk 3 0 ⟨#[]⟩ ⟨#[115,117,109]⟩ [],.mk 3 0 ⟨#[]⟩ ⟨#[105]⟩ []]]):=by
  refine zca (zax w _ 7 _ _ rfl) ?_ aq aq;exact .cons (zdt rfl) (.cons (zdt rfl) (.cons (ze7 aq) (.cons (ze7 aq) (.cons (d6.val) (.nil)))))
 have d8:DAt (allocsC w (cntObjs w.heap.size)) Tt (some ⟨w.heap.size+8,0,none⟩) 2 (zbr [.mk 3 0 ⟨#[]⟩ ⟨#[105]⟩ [],.mk 1 1 ⟨#[]⟩ ⟨#[]⟩ []]):=by
  refine zca (zax w _ 8 _ _ rfl) ?_ aq aq;exact ib
 have d9:DAt (allocsC w (cntObjs w.heap.size)) Tt (some ⟨w.heap.size+9,0,none⟩) 1 (zbr [.mk 10 0 ⟨#[]⟩ ⟨#[]⟩ [.mk 3 0 ⟨#[]⟩ ⟨#[105]⟩ [],.mk 1 1 ⟨#[]⟩ ⟨#[]⟩ []]]):=by
  refine zca (zax w _ 9 _ _ rfl) ?_ aq aq;exact .cons (zdt rfl) (.cons (zdt rfl) (.cons (ze7 aq) (.cons (ze7 aq) (.cons (d8.val) (.nil)))))
 have SD:DAt (allocsC w (cntObjs w.heap.size)) Tt (some ⟨w.heap.size+10,0,none⟩) 2 (zbs [.mk 1 ⟨#[]⟩ ⟨#[115,117,109]⟩ [.mk 9 0 ⟨#[]⟩ ⟨#[]⟩ [.mk 3 0 ⟨#[]⟩ ⟨#[115,117,109]⟩ [],.mk 3 0 ⟨#[]⟩ ⟨#[105]⟩ []]] [] [],.mk 1 ⟨#[]⟩ ⟨#[105]⟩ [.mk 10 0 ⟨#[]⟩ ⟨#[]⟩ [.mk 3 0 ⟨#[]⟩ ⟨#[105]⟩ [],.mk 1 1 ⟨#[]⟩ ⟨#[]⟩ []]] [] []]):=by
  refine zca (zax w _ 10 _ _ rfl) ?_ aq aq;exact .cons (zdt rfl) (.cons (ze7 aq) (.cons (ze7 aq) (.cons (d7.val) (.cons (zqg) (.cons (zqg) (.cons (zdt rfl) (.cons (ze7 aq) (.cons (ze7 aq) (.cons (d9.val) (.cons (zqg) (.cons (zqg) (.nil))))))))))))
 have SC:DAt (allocsC w (cntObjs w.heap.size)) Tt (some ⟨w.heap.size+11,0,none⟩) 1 (zbr [.mk 3 0 ⟨#[]⟩ ⟨#[115,117,109]⟩ []]):=by
  refine zca (zax w _ 11 _ _ rfl) ?_ aq aq;exact g8
 have SB:DAt (allocsC w (cntObjs w.heap.size)) Tt (some ⟨w.heap.size+12,0,none⟩) 3 (zbs z6k):=by
  refine zca (zax w _ 12 _ _ rfl) ?_ aq aq;exact .cons (zdt rfl) (.cons (ze7 aq) (.cons (ze7 aq) (.cons (d4.val) (.cons (zqg) (.cons (zqg) (.cons (zdt rfl) (.cons (ze7 aq) (.cons (ze7 aq) (.cons (d5.val) (.cons (SD.val) (.cons (zqg) (.cons (zdt rfl) (.cons (ze7 aq) (.cons (ze7 aq) (.cons (SC.val) (.cons (zqg) (.cons (zqg) (.nil))))))))))))))))))
 have SA:DAt (allocsC w (cntObjs w.heap.size)) Tt (some ⟨w.heap.size+13,0,none⟩) 1 (zio zpc.procs):=by
  refine zca (zax w _ 13 _ _ rfl) ?_ aq aq;exact .cons (ze7 aq) (.cons (z3a) (.cons (d2.val) (.cons (d3.val) (.cons (SB.val) (.nil)))))
 exact ⟨rfl,aq,⟨vaa _,aq,Or.inl rfl⟩,d1,SA,⟨vaa _,aq,Or.inl rfl⟩⟩
theorem zth (w:World) :
 qc 54 #[] w fun e w'=>∃ v a1 c1 a2 c2 a3 c3 a4 c4,e = .returned v/\MoAt w' Tt zpc v a1 c1 a2 c2 a3 c3 a4 c4/\qb w w':=by
 have HM:=hid (z8o w);go_enter Tryz.func54,Tryz.ntmps54;go_wp2_with fail;show bodyPost _ _ _ _ _ (allocsC w (cntObjs w.heap.size));obtain ⟨h0,h1,h2,h3,h4,A0⟩:=(zax w (cntObjs w.heap.size) 0 _ _ rfl).c5;rw [vbt] at h0 h1 h2 h3 h4 A0;have HB:=zep (cntObjs w.heap.size) w;have HM:=HM.out;generalize allocsC w (cntObjs w.heap.size)=W at *;exact bodyPost_ret (v:=.agg #[.string ⟨#[99,110,116]⟩,qs,.slice (some ⟨w.heap.size+1,0,none⟩) 3 3,.slice (some ⟨w.heap.size+13,0,none⟩) 1 1,qs]) (by simp [results,Tryz.results54,go_sem,h0,h1,h2,h3,h4]) rfl ⟨_,_,_,_,_,_,_,_,_,rfl,HM,HB⟩
theorem zti (w:World):qc 56 #[] w fun e w'=>e = .returned (.string z45)/\w'=w:=by
 go_enter Tryz.func56,Tryz.ntmps56;exact iN
end Go.Proofs.YtndkhgakfodldaaGreatDoor
