import Derived.Test.YtndkhgakfodldaaGreatDoorPm
import Derived.Test.YtndkhgakfodldaaGreatDoorLex
namespace Go.Proofs.YtndkhgakfodldaaGreatDoor
set_option maxRecDepth 100000
set_option maxHeartbeats 1600000
open Go.RowKit Go.Shelf
def zwb (ts:List Tk):Option Mo:=match zcc ts with
 | some (m,[])=>some m
 | _=>none
abbrev zne:Value:=.agg #[.string ⟨#[]⟩,qs,qs,qs,qs]
structure Pw (w W:World) (cs:Array Value) (ok:Bool):Prop where
 below:qb w W
 mb:W.heap[w.heap.size]? = some (.cells cs 27 (0,0))
 ob:W.heap[w.heap.size+1]? = some (.cells #[.bool ok] 4 (0,0))
theorem Pw.ocell {w W:World} {cs:Array Value} {ok:Bool} (h:Pw w W cs ok):W.cell? ⟨w.heap.size+1,0,none⟩=some (.bool ok)/\W.frozen? ⟨w.heap.size+1,0,none⟩=false:=by
 refine ⟨by rw [vef h.ob];rfl,?_⟩;unfold World.frozen?;simp only;rw [h.ob];simp
theorem Pw.put {w W:World} {x0 x1 x2 x3 x4:Value} {ok:Bool} (h:Pw w W #[x0,x1,x2,x3,x4] ok) (v0 v1 v2 v3 v4:Value):Pw w (set5 W w.heap.size v0 v1 v2 v3 v4) #[v0,v1,v2,v3,v4] ok:=by
 refine ⟨((((h.below.setCell (p:=(qa w.heap.size 0)) (vaa _) _).setCell (p:=(qa w.heap.size 1)) (vaa _) _).setCell (p:=(qa w.heap.size 2)) (vaa _) _).setCell (p:=(qa w.heap.size 3)) (vaa _) _).setCell (p:=(qa w.heap.size 4)) (vaa _) _,?_,?_⟩
 . exact heap_set (heap_set (heap_set (heap_set (heap_set h.mb _) _) _) _) _
 . have e:w.heap.size+1≠w.heap.size:=by omega
   exact (heap_set_ne (p:=(qa w.heap.size 4)) e _).trans ((heap_set_ne (p:=(qa w.heap.size 3)) e _).trans ((heap_set_ne (p:=(qa w.heap.size 2)) e _).trans ((heap_set_ne (p:=(qa w.heap.size 1)) e _).trans ((heap_set_ne (p:=(qa w.heap.size 0)) e _).trans h.ob))))
theorem Pw.ok {w W:World} {cs:Array Value} {b:Bool} (h:Pw w W cs b) (b':Bool):Pw w (W.setCell ⟨w.heap.size+1,0,none⟩ (.bool b')) cs b':=
 ⟨h.below.setCell (p:=⟨w.heap.size+1,0,none⟩) (vee _) _,(heap_set_ne (by show w.heap.size≠w.heap.size+1;omega) _).trans h.mb,heap_set h.ob _⟩
theorem Pw.keeps {w W W':World} {cs:Array Value} {b:Bool} {R:Nat} (h:Pw w W cs b) (hk:Keeps R W W') (hR:w.heap.size+2<=R):Pw w W' cs b:=
 ⟨⟨hk.os.trans h.below.os,hk.tape.trans h.below.tape,hk.output.trans h.below.output,vbc h.below.size hk.size,fun k Cs=>(hk.block k (vah Cs h.below.size) (by omega)).trans (h.below.block k Cs)⟩,(hk.block _ (lt_of_heap h.mb) (by omega)).trans h.mb,(hk.block _ (lt_of_heap h.ob) (by omega)).trans h.ob⟩
theorem Pw.resOf {w W:World} {x0 x1 x2 x3 x4:Value} {ok:Bool} (h:Pw w W #[x0,x1,x2,x3,x4] ok) (t:Array Value) (h2:t.getD 2 undef=pq w.heap.size 0) (h3:t.getD 3 undef = .pointer (some ⟨w.heap.size+1,0,none⟩)) :
 (results Tryz.f115 t).run Tryz.prog W = .ok (.tuple #[.agg #[x0,x1,x2,x3,x4],.bool ok]) W:=by
 obtain ⟨c0,c1,c2,c3,c4,_⟩:=zaa h.mb;obtain ⟨d0,_⟩:=h.ocell
 have FU:t[2]?.getD undef=pq w.heap.size 0:=by simpa using h2
 have Gn:t[3]?.getD undef = .pointer (some ⟨w.heap.size+1,0,none⟩):=by simpa using h3
 simp [results,Tryz.results115,go_sem,FU,Gn,c0,c1,c2,c3,c4,d0]
theorem z7p (w W:World) (x0 x1 x2 x3 x4:Value) (ok:Bool) (u:TypeId) (pv:Value) (older:List PanicEntry) (h:Pw w W #[x0,x1,x2,x3,x4] ok) :
 CallsD Tryz.prog 158 #[pq w.heap.size 0,.pointer (some ⟨w.heap.size+1,0,none⟩)] (.panicking ({ v:=.iface u pv,recovered:=false } :: older)) W fun e u' w'=>
  e = .returned (.tuple #[])/\u' = .panicking ({ v:=.iface u pv,recovered:=true } :: older)/\Pw w w' #[.string ⟨#[]⟩,qs,qs,qs,qs] false:=by
 have M8:=(h.put (.string ⟨#[]⟩) (qs) (qs) (qs) (qs)).ok false;obtain ⟨c0,c1,c2,c3,c4,c5⟩:=zaa h.mb;obtain ⟨d0,d1⟩:=(h.put (.string ⟨#[]⟩) (qs) (qs) (qs) (qs)).ocell
 refine callsD_of_wpS Tryz.func158 rfl fun c₀ cs hu=>?_
 apply wpS_seq
 apply wpS_region
 simp [wpOpsS,go_sem,recoverD,hu,Tryz.ntmps158,Exit.thenS];refine wpS_cond (t:=true) (by simp [Act.eval,Array.replicate]) ?_;simp only [if_true]
 apply wpS_region
 simp [wpOpsS,go_sem,c0,c1,c2,c3,c4,c5,d0,d1,bodyPostS,results,Tryz.results158];exact M8
theorem z86 (p q:Addr) (w:World) :
 CallsD Tryz.prog 158 #[.pointer (some p),.pointer (some q)] .returning w fun e u' w'=>e = .returned (.tuple #[])/\u' = .returning/\w'=w:=by
 refine callsD_of_wpS Tryz.func158 rfl fun c₀ cs hu=>?_
 apply wpS_seq
 apply wpS_region
 simp [wpOpsS,go_sem,recoverD,hu,Tryz.ntmps158,Exit.thenS];refine wpS_cond (t:=false) (by simp [Act.eval,Array.replicate]) ?_;simp only [vcu,if_false];refine wpS_of_wp (wp_skip ?_)
 cases c₀
 simp_all [bodyPostS,results,Tryz.results158]
theorem Pw.caught {w W:World} {x0 x1 x2 x3 x4:Value} {ok:Bool} (h:Pw w W #[x0,x1,x2,x3,x4] ok) {R:Ending->World->Prop} (t:Array Value)
 (h2:t.getD 2 undef=pq w.heap.size 0) (h3:t.getD 3 undef = .pointer (some ⟨w.heap.size+1,0,none⟩))
 (hR:∀ W',qb w W'->R (.returned (.tuple #[zne,.bool false])) W') :
 Leaves Tryz.prog Tryz.f115 t R [{ target:=Target.fn (Fn.func 158) #[Value.pointer (some (qa w.heap.size 0)),Value.pointer (some ⟨w.heap.size+1,0,none⟩)],args:=#[] }] (.panicking zag) W:=by
 refine leaves_cons (f:=158) (args:=#[pq w.heap.size 0,.pointer (some ⟨w.heap.size+1,0,none⟩)]) (by simp) (by simp [go_sem]) ?_;refine (z7p w W x0 x1 x2 x3 x4 ok 31 (qi 1) [] h).mono ?_;rintro e u' Az ⟨rfl,rfl,hp⟩;exact ⟨_,hp.resOf t h2 h3,hR Az hp.below⟩
theorem zwc (ts:List Tk) (a:OA) (cap:Nat) (w:World) (ht:zc2 w a ts) (hl:ts.length<=4096) :
 qc 115 #[.slice a ts.length cap] w fun e w'=>qb w w'/\((zwb ts=none/\e = .returned (.tuple #[zne,.bool false]))\/∃ m v,zwb ts=some m/\e = .returned (.tuple #[v,.bool true])/\zov (w.heap.size<=·) m w' v):=by
 have HT:=hid ht
 have Qf:∀ (fn:Fn) (first cap:Array Value) (w:World),(Instr.makeFunc fn first cap).run Tryz.prog w = .ok (.func fn first cap) w:=fun _ _ _ _=>rfl
 clear ht;go_enter_defers Tryz.func115,Tryz.ntmps115;go_wp2_with fail
 obtain ⟨W0,hW0⟩:∃ W0,W0=((w.alloc zcw).alloc (.cells #[.bool false] 4)).alloc (.cells #[.slice a ts.length cap,qi 0] 239):=⟨_,rfl⟩
 have Bq:W0.heap.size=w.heap.size+1+1+1:=by rw [hW0];simp
 have FZ:Hid (Pw w W0 #[.string ⟨#[]⟩,qs,qs,qs,qs] false):=by
  rw [hW0];refine ⟨((((Below.refl _ _).alloc (vaa _) _).alloc (by simp) _).alloc (by simp;omega) _),zab (zab (heap_newP _ _)),zab ?_⟩;have:=heap_newP (w.alloc zcw) (.cells #[.bool false] 4);simpa using this
 have FY:Hid (Rd (w.heap.size+1+1) a cap ts W0 ts):=by
  refine ⟨⟨0,vag _,rfl,?_⟩,HT.out.later ?_,?_,hl⟩
  . rw [hW0]
    have:=heap_newP ((w.alloc zcw).alloc (.cells #[.bool false] 4)) (.cells #[.slice a ts.length cap,qi 0] 239);simpa using this
  . exact FZ.out.below
  . rcases HT.out with h | ⟨b,off,rfl,h⟩
    . exact Or.inl h
    . refine Or.inr fun b' C7 e=>?_
      cases e
      have:=h.lt;omega
 rw [← hW0];clear hW0;refine (zwa _ cap a ts ts W0 FY.out).mono ?_;rintro e w1 ⟨KK,⟨hn,rfl⟩ | ⟨m,l1,v,hn,rfl,⟨a1,c1,a2,c2,a3,c3,a4,c4,rfl,Kt,AR,AM,hx3,hx4⟩,RD⟩⟩
 . have HN:Hid (zwb ts=none):=by show _=_;unfold zwb;rw [hn]
   exact Pw.caught (FZ.out.keeps KK (by omega)) _ rfl rfl (fun W' hB=>⟨hB,Or.inl ⟨HN.out,rfl⟩⟩)
 have Bb:=hid (FZ.out.keeps KK (by omega));have An:=KK.size;obtain ⟨k,hk,Bk,hRb⟩:=RD.idx
 have QQ:w1.cell? ⟨w.heap.size+1+1,0,none⟩=some (.slice a ts.length cap):=by rw [vef hRb];rfl
 have QP:w1.cell? ⟨w.heap.size+1+1,1,none⟩=some (qi k):=by rw [vef hRb];rfl
 have BE:=hid (Bb.out.put (.string m.name) (.slice a1 m.uses.length c1) (.slice a2 m.decls.length c2) (.slice a3 m.procs.length c3) (.slice a4 m.main.length c4));have F4:=hid ((BE.out.put (.string m.name) (.slice a1 m.uses.length c1) (.slice a2 m.decls.length c2) (.slice a3 m.procs.length c3) (.slice a4 m.main.length c4)).ok true)
 have F8:Hid (zov (w.heap.size<=·) m ((set5 (set5 w1 w.heap.size (.string m.name) (.slice a1 m.uses.length c1) (.slice a2 m.decls.length c2) (.slice a3 m.procs.length c3) (.slice a4 m.main.length c4)) w.heap.size (.string m.name) (.slice a1 m.uses.length c1) (.slice a2 m.decls.length c2) (.slice a3 m.procs.length c3) (.slice a4 m.main.length c4)).setCell ⟨w.heap.size+1,0,none⟩ (.bool true)) (.agg #[.string m.name,.slice a1 m.uses.length c1,.slice a2 m.decls.length c2,.slice a3 m.procs.length c3,.slice a4 m.main.length c4])):=by
  have hm:zad w1 (W0.heap.size<=·) ((set5 (set5 w1 w.heap.size (.string m.name) (.slice a1 m.uses.length c1) (.slice a2 m.decls.length c2) (.slice a3 m.procs.length c3) (.slice a4 m.main.length c4)) w.heap.size (.string m.name) (.slice a1 m.uses.length c1) (.slice a2 m.decls.length c2) (.slice a3 m.procs.length c3) (.slice a4 m.main.length c4)).setCell ⟨w.heap.size+1,0,none⟩ (.bool true)) (w.heap.size<=·):=
   ((((zad.refl w1 (W0.heap.size<=·)).set5 (b:=w.heap.size) (fun k _ hk=>by omega) (.string m.name) (.slice a1 m.uses.length c1) (.slice a2 m.decls.length c2) (.slice a3 m.procs.length c3) (.slice a4 m.main.length c4)).set5 (b:=w.heap.size) (fun k _ hk=>by omega) (.string m.name) (.slice a1 m.uses.length c1) (.slice a2 m.decls.length c2) (.slice a3 m.procs.length c3) (.slice a4 m.main.length c4)).set (p:=⟨w.heap.size+1,0,none⟩) (fun k _ hk=>by show k≠w.heap.size+1;omega) (.bool true)).trans ⟨vaa _,fun k _ hk=>⟨by omega,rfl⟩⟩
  exact ⟨a1,c1,a2,c2,a3,c3,a4,c4,rfl,Kt,AR.moves hm,AM.moves hm,hx3.moves hm,hx4.moves hm⟩
 obtain ⟨h0,h1,h2,h3,h4,h5⟩:=zaa Bb.out.mb;obtain ⟨d0,d1⟩:=Bb.out.ocell
 have FM:w.heap.size<w1.heap.size:=by omega
 have Cg:w.heap.size+1<w1.heap.size:=by omega
 have J7:w.heap.size+1+1<w1.heap.size:=by omega
 clear KK RD AR AM hx3 hx4 FZ FY HT hRb
 by_cases Bf:k<ts.length
 . have HN:Hid (zwb ts=none):=by
    show _=_;unfold zwb;rw [hn,Bk,List.drop_eq_getElem_cons Bf]
   clear hn;go_wp2_with fail;exact Pw.caught BE.out _ rfl rfl (fun W' hB=>⟨hB,Or.inl ⟨HN.out,rfl⟩⟩)
 . have HN:Hid (zwb ts=some m):=by
    show _=_;unfold zwb;rw [hn,Bk,vct (by omega)]
   have SB:¬ ((k:Int)<(ts.length:Int)):=by omega
   clear hn;go_wp2_with fail;refine leaves_cons (f:=158) (args:=#[pq w.heap.size 0,.pointer (some ⟨w.heap.size+1,0,none⟩)]) (by simp) (by simp [go_sem]) ?_;refine (z86 (qa w.heap.size 0) ⟨w.heap.size+1,0,none⟩ _).mono ?_;rintro e u' Az ⟨rfl,rfl,rfl⟩;exact ⟨_,F4.out.resOf _ rfl rfl,F4.out.below,Or.inr ⟨m,_,HN.out,rfl,F8.out⟩⟩
theorem zzi (s:ByteArray):zhn (lexT s):=by
 unfold lexT;split
 . exact ⟨⟨rfl,rfl⟩,by simp⟩
 . rename_i hs
   cases h:zdf s 0 with
   | none=>exact ⟨⟨rfl,rfl⟩,by simp⟩
   | some ts=>
     rw [zvw] at h;have:=zvx _ _ ts rfl h;rw [Lx.zaz] at this;exact ⟨this.1,by show ts.length<=4096;omega⟩
theorem zwd {ts:List Tk} {m:Mo} (h:zwb ts=some m) (hg:zhn ts):ts=tM m/\Fine m:=by
 unfold zwb at h
 split at h
 . rename_i m' hm
   cases h;have:=zof hm hg;simpa using this
 . cases h
theorem z7q {A:Nat->Prop} {m:Mo} {w:World} {v:Value} (h:zov A m w v) (hf:Fine m):∃ a1 c1 a2 c2 a3 c3 a4 c4,MoAt w Tt m v a1 c1 a2 c2 a3 c3 a4 c4:=by
 obtain ⟨a1,c1,a2,c2,a3,c3,a4,c4,rfl,h0,h1,h2,h3,h4⟩:=h
 have hm:zad w A w Tt:=⟨vaa _,fun _ _ _=>⟨trivial,rfl⟩⟩
 have l2:(zj0 m.decls).length=4*m.decls.length:=by
  have:∀ l:List De,(zj0 l).length=4*l.length:=by
   intro l
   induction l with
   | nil=>rfl
   | cons x r ih=>
     show (x.ds++zj0 r).length=_;rw [vam,ih]
     simp [De.ds];omega
  exact this _
 have l3:(zhz m.procs).length=5*m.procs.length:=by
  have:∀ l:List Pr,(zhz l).length=5*l.length:=by
   intro l
   induction l with
   | nil=>rfl
   | cons x r ih=>
     show (x.ds++zhz r).length=_;rw [vam,ih]
     simp [Pr.ds];omega
  exact this _
 have k1:=hf.uses;have k2:=hf.decls;have k3:=hf.procs;have k4:=hf.main;exact ⟨a1,c1,a2,c2,a3,c3,a4,c4,rfl,h0,(h1.moves hm).toD (by simp [zaj]) (by simp [zaj];omega) (zhp _),(h2.moves hm).toD (by rw [l2];omega) (by rw [l2];omega) hf.fd,(h3.moves hm).toD (by rw [l3];omega) (by rw [l3];omega) hf.fp,(h4.moves hm).toD (by rw [zeb];omega) (by rw [zeb];omega) hf.fm⟩
theorem zgh {B b:Nat} {a w:World} (h:Below B a w) (hb:B<=b) (v0 v1 v2 v3 v4:Value):Below B a (set5 w b v0 v1 v2 v3 v4):=
 ((((h.setCell (p:=(qa b 0)) hb _).setCell (p:=(qa b 1)) hb _).setCell (p:=(qa b 2)) hb _).setCell (p:=(qa b 3)) hb _).setCell (p:=(qa b 4)) hb _
theorem zov.moves {A A':Nat->Prop} {m:Mo} {w w':World} {v:Value} (h:zov A m w v) (hm:zad w A w' A'):zov A' m w' v:=by
 obtain ⟨a1,c1,a2,c2,a3,c3,a4,c4,rfl,h0,h1,h2,h3,h4⟩:=h;exact ⟨a1,c1,a2,c2,a3,c3,a4,c4,rfl,h0,h1.moves hm,h2.moves hm,h3.moves hm,h4.moves hm⟩
def zga (s:ByteArray):Option Mo:=if lexE s=0 then (match zwb (lexT s) with | some m=>if m.err=0 then some m else none | none=>none) else none
def zk1 (s:ByteArray):Int:=if lexE s=0 then (match zga s with | some _=>0 | none=>1) else lexE s
def z17 (s:ByteArray) (e:Ending) (w:World):Prop:=
 (zga s=none/\zk1 s≠0/\e = .returned (.tuple #[zne,qi (zk1 s)]))\/
 ∃ m v a1 c1 a2 c2 a3 c3 a4 c4,zga s=some m/\zk1 s=0/\e = .returned (.tuple #[v,qi 0])/\MoAt w Tt m v a1 c1 a2 c2 a3 c3 a4 c4
theorem zzj (s:ByteArray) (w:World) (hs:s.size<=maxLen) :
 qc 55 #[.string s] w fun e w'=>z17 s e w'/\qb w w':=by
 have HG:=hid (zzi s);go_enter Tryz.func55,Tryz.ntmps55;go_wp2_with fail;refine (z4q s _ hs).mono ?_;rintro e w1 ⟨a,cap,rfl,hT,A6⟩;have HT:=hid hT;have An:=A6.size;simp at An;have A7:Hid (w1.heap[w.heap.size]? = some zcw):=(A6.block w.heap.size (by simp)).trans (heap_newP _ _);have Ib:Hid (qb w w1):=thenB (al1 _ _) A6;clear hT A6;obtain ⟨h0,h1,h2,h3,h4,h5⟩:=zaa A7.out
 have FM:w.heap.size<w1.heap.size:=by omega
 by_cases he:lexE s=0
 . have HE:=hid he
   rw [he];clear he;generalize Ly:lexT s=ts at *;go_wp2_with fail;refine (zwc ts a cap w1 HT.out HG.out.2).mono ?_;rintro e w2 ⟨Ab,⟨hn,rfl⟩ | ⟨m,v,hn,rfl,hM⟩⟩
   . have HN:Hid (zga s=none/\zk1 s=1):=by
      have h:zga s=none:=by unfold zga;rw [if_pos HE.out,Ly,hn]
      refine ⟨h,?_⟩
      unfold zk1;rw [if_pos HE.out,h]
     have Ia:=hid (thenB Ib.out Ab);have AA:=Ab.size;have Af:Hid (w2.heap[w.heap.size]? = some zcw):=(Ab.block w.heap.size FM).trans A7.out;have Ae:=hid (zab (o:=zcw) Af.out);clear h0 h1 h2 h3 h4 h5 Ab;obtain ⟨h0,h1,h2,h3,h4,h5⟩:=zaa Af.out
     have Cg:w.heap.size<w2.heap.size:=by omega
     have Mt:=zgh Ia.out (vaa _) (.string ⟨#[]⟩) (qs) (qs) (qs) (qs);have E1:=hid (Mt.alloc Mt.size zcw);clear Mt;go_wp2_with fail;refine bodyPost_ret (v:=.tuple #[zne,qi 1]) (by simp [results,Tryz.results55,go_sem,h0,h1,h2,h3,h4,Cg]) rfl ⟨Or.inl ⟨HN.out.1,by rw [HN.out.2];decide,by rw [HN.out.2]⟩,E1.out⟩
   . obtain ⟨e1,hF⟩:=zwd hn HG.out
     have HF:=hid hF;have HM:=hid hM;obtain ⟨a1,c1,a2,c2,a3,c3,a4,c4,rfl,_⟩:=hM;have HN:=hid hn;have Ia:=hid (thenB Ib.out Ab);have AA:=Ab.size;have Af:Hid (w2.heap[w.heap.size]? = some zcw):=(Ab.block w.heap.size FM).trans A7.out
     have OG:∀ W,qb w2 W->qc 112 #[.agg #[.string m.name,.slice a1 m.uses.length c1,.slice a2 m.decls.length c2,.slice a3 m.procs.length c3,.slice a4 m.main.length c4]] W fun e w'=>e = .returned (qi m.err)/\qb W w':=fun W hW=>by
      obtain ⟨b1,d1,b2,d2,b3,d3,b4,d4,hA⟩:=z7q (HM.out.moves (zad.of_below hW _)) HF.out;exact zmn m _ _ _ _ _ _ _ _ _ W hA
     have I7:=hid OG;clear h0 h1 h2 h3 h4 h5 Ab e1 hF hn OG
     have Cg:w.heap.size<w2.heap.size:=by omega
     go_wp2_with fail;refine (I7.out _ (al1 _ _)).mono ?_;rintro e w3 ⟨rfl,A9⟩;have Bw:=A9.size;simp at Bw;have Ae:Hid (w3.heap[w.heap.size]? = some zcw):=(A9.block w.heap.size (by simp;omega)).trans (zab Af.out);have KU:Hid (w3.heap[w2.heap.size]? = some (.cells #[.string m.name,.slice a1 m.uses.length c1,.slice a2 m.decls.length c2,.slice a3 m.procs.length c3,.slice a4 m.main.length c4] 27 (0,0))):=(A9.block w2.heap.size (by simp)).trans (heap_newP _ _);have Ko:=hid (thenB Ia.out (thenB (al1 _ _) A9));have F8:Hid (zov (w1.heap.size<=·) m w3 (.agg #[.string m.name,.slice a1 m.uses.length c1,.slice a2 m.decls.length c2,.slice a3 m.procs.length c3,.slice a4 m.main.length c4])):=HM.out.moves ((zad.of_below (al1 _ _) _).trans (zad.of_below A9 _));obtain ⟨h0,h1,h2,h3,h4,h5⟩:=zaa Ae.out;obtain ⟨g0,g1,g2,g3,g4,g5⟩:=zaa KU.out
     have J7:w.heap.size<w3.heap.size:=by omega
     have LM:w2.heap.size<w3.heap.size:=by omega
     clear A9 I7 HM Af
     by_cases hr:m.err=0
     . have HP:Hid (zga s=some m/\zk1 s=0):=by
        have h:zga s=some m:=by unfold zga;rw [if_pos HE.out,Ly,HN.out];simp [hr]
        refine ⟨h,?_⟩
        unfold zk1;rw [if_pos HE.out,h]
       have E1:=hid (zgh Ko.out (vaa _) (.string m.name) (.slice a1 m.uses.length c1) (.slice a2 m.decls.length c2) (.slice a3 m.procs.length c3) (.slice a4 m.main.length c4));have RC:=hid (z7q (F8.out.moves (((zad.refl w3 (w1.heap.size<=·)).set5 (b:=w.heap.size) (fun k _ hk=>by omega) (.string m.name) (.slice a1 m.uses.length c1) (.slice a2 m.decls.length c2) (.slice a3 m.procs.length c3) (.slice a4 m.main.length c4)))) HF.out)
       have NY:(m.err == 0)=true:=by simp [hr]
       rw [hr];go_wp2_with fail;refine bodyPost_ret (v:=.tuple #[.agg #[.string m.name,.slice a1 m.uses.length c1,.slice a2 m.decls.length c2,.slice a3 m.procs.length c3,.slice a4 m.main.length c4],qi 0]) (by simp [results,Tryz.results55,go_sem,h0,h1,h2,h3,h4]) rfl ⟨Or.inr ?_,E1.out⟩;obtain ⟨b1,d1,b2,d2,b3,d3,b4,d4,hA⟩:=RC.out;exact ⟨m,_,b1,d1,b2,d2,b3,d3,b4,d4,HP.out.1,HP.out.2,rfl,hA⟩
     . have JX:Hid (zga s=none/\zk1 s=1):=by
        have h:zga s=none:=by unfold zga;rw [if_pos HE.out,Ly,HN.out];simp [hr]
        refine ⟨h,?_⟩
        unfold zk1;rw [if_pos HE.out,h]
       have E1:=hid (zgh Ko.out (vaa _) (.string ⟨#[]⟩) (qs) (qs) (qs) (qs))
       have NY:(m.err == 0)=false:=by simp [hr]
       have Q2:(m.err != 0)=true:=by simp [hr]
       generalize m.err=er at *;go_wp2_with fail;refine bodyPost_ret (v:=.tuple #[zne,qi 1]) (by simp [results,Tryz.results55,go_sem,h0,h1,h2,h3,h4]) rfl ⟨Or.inl ⟨JX.out.1,by rw [JX.out.2];decide,by rw [JX.out.2]⟩,E1.out⟩
 . have HN:Hid (zga s=none/\zk1 s=lexE s):=by
    refine ⟨by unfold zga;rw [if_neg he],?_⟩
    unfold zk1;rw [if_neg he]
   have E1:=hid (zgh Ib.out (vaa _) (.string ⟨#[]⟩) (qs) (qs) (qs) (qs))
   have NY:(lexE s == 0)=false:=by simp [he]
   go_wp2_with fail;refine bodyPost_ret (v:=.tuple #[zne,qi (lexE s)]) (by simp [results,Tryz.results55,go_sem,h0,h1,h2,h3,h4]) rfl ⟨Or.inl ⟨HN.out.1,by rw [HN.out.2];exact he,by rw [HN.out.2]⟩,E1.out⟩
end Go.Proofs.YtndkhgakfodldaaGreatDoor

namespace Go.Proofs.YtndkhgakfodldaaGreatDoor
set_option maxRecDepth 100000
open Go.RowKit
def zow:Mo:=⟨⟨#[99,110,116]⟩,[],[⟨1,⟨#[107]⟩,true,3⟩,⟨2,⟨#[115,117,109]⟩,true,0⟩,⟨3,⟨#[116]⟩,true,4⟩],
 [⟨⟨#[100,111,119,110]⟩,true,[⟨#[110]⟩],[⟨#[105]⟩],
   [.mk 1 ⟨#[]⟩ ⟨#[105]⟩ [.mk 3 0 ⟨#[]⟩ ⟨#[110]⟩ []] [] [],
    .mk 5 ⟨#[]⟩ ⟨#[]⟩ [.mk 3 0 ⟨#[]⟩ ⟨#[105]⟩ []]
     [.mk 1 ⟨#[]⟩ ⟨#[115,117,109]⟩ [.mk 9 0 ⟨#[]⟩ ⟨#[]⟩ [.mk 3 0 ⟨#[]⟩ ⟨#[115,117,109]⟩ [],.mk 3 0 ⟨#[]⟩ ⟨#[105]⟩ []]] [] [],
      .mk 1 ⟨#[]⟩ ⟨#[105]⟩ [.mk 10 0 ⟨#[]⟩ ⟨#[]⟩ [.mk 3 0 ⟨#[]⟩ ⟨#[105]⟩ [],.mk 1 1 ⟨#[]⟩ ⟨#[]⟩ []]] [] []] [],
    .mk 6 ⟨#[]⟩ ⟨#[]⟩ [.mk 3 0 ⟨#[]⟩ ⟨#[115,117,109]⟩ []] [] []]⟩],[]⟩
def z36:ByteArray:=⟨#[109,111,100,117,108,101,32,116,111,112,123,117,115,101,32,99,110,116,59,109,97,105,110,123,99,110,116,46,116,91,49,93,61,99,110,116,46,100,111,119,110,40,99,110,116,46,107,41,59,111,117,116,32,99,110,116,46,116,91,105,110,93,59,105,102,40,99,110,116,46,115,117,109,61,54,41,123,111,117,116,32,55,59,125,101,108,115,101,123,111,117,116,32,56,59,125,125,125]⟩
def z87:List Tk:=[⟨1,0,⟨#[109,111,100,117,108,101]⟩⟩,⟨1,0,⟨#[116,111,112]⟩⟩,⟨3,0,⟨#[123]⟩⟩,⟨1,0,⟨#[117,115,101]⟩⟩,⟨1,0,⟨#[99,110,116]⟩⟩,⟨3,0,⟨#[59]⟩⟩,⟨1,0,⟨#[109,97,105,110]⟩⟩,⟨3,0,⟨#[123]⟩⟩,⟨1,0,⟨#[99,110,116]⟩⟩,⟨3,0,⟨#[46]⟩⟩,⟨1,0,⟨#[116]⟩⟩,⟨3,0,⟨#[91]⟩⟩,⟨2,1,⟨#[]⟩⟩,⟨3,0,⟨#[93]⟩⟩,⟨3,0,⟨#[61]⟩⟩,⟨1,0,⟨#[99,110,116]⟩⟩,⟨3,0,⟨#[46]⟩⟩,⟨1,0,⟨#[100,111,119,110]⟩⟩,⟨3,0,⟨#[40]⟩⟩,⟨1,0,⟨#[99,110,116]⟩⟩,⟨3,0,⟨#[46]⟩⟩,⟨1,0,⟨#[107]⟩⟩,⟨3,0,⟨#[41]⟩⟩,⟨3,0,⟨#[59]⟩⟩,⟨1,0,⟨#[111,117,116]⟩⟩,⟨1,0,⟨#[99,110,116]⟩⟩,⟨3,0,⟨#[46]⟩⟩,⟨1,0,⟨#[116]⟩⟩,⟨3,0,⟨#[91]⟩⟩,⟨1,0,⟨#[105,110]⟩⟩,⟨3,0,⟨#[93]⟩⟩,⟨3,0,⟨#[59]⟩⟩,⟨1,0,⟨#[105,102]⟩⟩,⟨3,0,⟨#[40]⟩⟩,⟨1,0,⟨#[99,110,116]⟩⟩,⟨3,0,⟨#[46]⟩⟩,⟨1,0,⟨#[115,117,109]⟩⟩,⟨3,0,⟨#[61]⟩⟩,⟨2,6,⟨#[]⟩⟩,⟨3,0,⟨#[41]⟩⟩,⟨3,0,⟨#[123]⟩⟩,⟨1,0,⟨#[111,117,116]⟩⟩,⟨2,7,⟨#[]⟩⟩,⟨3,0,⟨#[59]⟩⟩,⟨3,0,⟨#[125]⟩⟩,⟨1,0,⟨#[101,108,115,101]⟩⟩,⟨3,0,⟨#[123]⟩⟩,⟨1,0,⟨#[111,117,116]⟩⟩,⟨2,8,⟨#[]⟩⟩,⟨3,0,⟨#[59]⟩⟩,⟨3,0,⟨#[125]⟩⟩,⟨3,0,⟨#[125]⟩⟩,⟨3,0,⟨#[125]⟩⟩]
theorem z5l:zdf z36 0=some z87:=by
 rw [← zxz 98 z36 0 (by decide)]
 kernel_rfl
theorem z18:lexT z36=z87/\lexE z36=0:=zxv (by decide) z5l
def zmb:Mo:=⟨⟨#[116,111,112]⟩,[⟨#[99,110,116]⟩],[],[],[.mk 2 ⟨#[99,110,116]⟩ ⟨#[116]⟩ [.mk 1 1 ⟨#[]⟩ ⟨#[]⟩ [],.mk 5 0 ⟨#[99,110,116]⟩ ⟨#[100,111,119,110]⟩ [.mk 3 0 ⟨#[99,110,116]⟩ ⟨#[107]⟩ []]] [] [],
 .mk 7 ⟨#[]⟩ ⟨#[]⟩ [.mk 4 0 ⟨#[99,110,116]⟩ ⟨#[116]⟩ [.mk 2 0 ⟨#[]⟩ ⟨#[]⟩ []]] [] [],
 .mk 4 ⟨#[]⟩ ⟨#[]⟩ [.mk 14 0 ⟨#[]⟩ ⟨#[]⟩ [.mk 3 0 ⟨#[99,110,116]⟩ ⟨#[115,117,109]⟩ [],.mk 1 6 ⟨#[]⟩ ⟨#[]⟩ []]] [.mk 7 ⟨#[]⟩ ⟨#[]⟩ [.mk 1 7 ⟨#[]⟩ ⟨#[]⟩ []] [] []] [.mk 7 ⟨#[]⟩ ⟨#[]⟩ [.mk 1 8 ⟨#[]⟩ ⟨#[]⟩ []] [] []]]⟩
theorem yax:zwb z87=some zmb:=by kernel_rfl
theorem z5m:zmb.err=0:=by kernel_rfl
theorem z19 {s:ByteArray} {ts:List Tk} {m:Mo} (h:lexT s=ts/\lexE s=0) (hp:zwb ts=some m) (he:m.err=0):zga s=some m:=by
 unfold zga;rw [if_pos h.2,h.1,hp];exact if_pos he
theorem zuw:zga z36=some zmb:=z19 z18 yax z5m
set_option maxHeartbeats 1600000
def allocsC (w:World):List (Array Value × TypeId)->World
 | []=>w
 | x :: r=>allocsC (w.alloc (.cells x.1 x.2)) r
theorem zed:∀ (l:List (Array Value × TypeId)) (w:World),qb w (allocsC w l)
 | [],_=>Below.refl _ _
 | _ :: r,w=>thenB (al1 w _) (zed r _)
theorem zaw:∀ (w:World) (l:List (Array Value × TypeId)) (i:Nat) (cs:Array Value) (t:TypeId),l[i]? = some (cs,t)->Blk (allocsC w l) (w.heap.size+i) cs.toList
 | w,[],i,cs,t,h=>by simp at h
 | w,x :: r,0,cs,t,h=>by
   simp at h;subst h;exact (Blk.new w cs t).later (zed r _)
 | w,x :: r,i+1,cs,t,h=>by
   have:=zaw (w.alloc (.cells x.1 x.2)) r i cs t (by simpa using h);rw [show w.heap.size+(i+1)=(w.alloc (.cells x.1 x.2)).heap.size+i from by simp;omega];exact this
theorem zb6 {w:World} {b n:Nat} {ds:List D} {cs:List Value} (h:Blk w b cs) (hd:zap w Tt ds cs) (h1:n<=ds.length) (h2:ds.length<=1000):DAt w Tt (some (qa b 0)) n ds:=
 ⟨h1,by omega,Or.inr ⟨b,0,cs,rfl,trivial,h.lt,fun j u hj=>by rw [vba];exact h.cell j u hj,hd⟩⟩
def cntObjs (n:Nat):List (Array Value × TypeId):=
 [(#[.string ⟨#[99,110,116]⟩,qs,.slice (some ⟨n+1,0,none⟩) 3 3,.slice (some ⟨n+13,0,none⟩) 1 1,qs],27),
  (#[qi 1,.string ⟨#[107]⟩,.bool true,qi 3,qi 2,.string ⟨#[115,117,109]⟩,.bool true,qi 0,qi 3,.string ⟨#[116]⟩,.bool true,qi 4],170),
  (#[.string ⟨#[110]⟩],9),
  (#[.string ⟨#[105]⟩],9),
  (#[qi 3,qi 0,.string ⟨#[]⟩,.string ⟨#[110]⟩,qs],174),
  (#[qi 3,qi 0,.string ⟨#[]⟩,.string ⟨#[105]⟩,qs],174),
  (#[qi 3,qi 0,.string ⟨#[]⟩,.string ⟨#[115,117,109]⟩,qs,qi 3,qi 0,.string ⟨#[]⟩,.string ⟨#[105]⟩,qs],174),
  (#[qi 9,qi 0,.string ⟨#[]⟩,.string ⟨#[]⟩,.slice (some ⟨n+6,0,none⟩) 2 2],174),
  (#[qi 3,qi 0,.string ⟨#[]⟩,.string ⟨#[105]⟩,qs,qi 1,qi 1,.string ⟨#[]⟩,.string ⟨#[]⟩,qs],174),
  (#[qi 10,qi 0,.string ⟨#[]⟩,.string ⟨#[]⟩,.slice (some ⟨n+8,0,none⟩) 2 2],174),
  (#[qi 1,.string ⟨#[]⟩,.string ⟨#[115,117,109]⟩,.slice (some ⟨n+7,0,none⟩) 1 1,qs,qs,qi 1,.string ⟨#[]⟩,.string ⟨#[105]⟩,.slice (some ⟨n+9,0,none⟩) 1 1,qs,qs],176),
  (#[qi 3,qi 0,.string ⟨#[]⟩,.string ⟨#[115,117,109]⟩,qs],174),
  (#[qi 1,.string ⟨#[]⟩,.string ⟨#[105]⟩,.slice (some ⟨n+4,0,none⟩) 1 1,qs,qs,qi 5,.string ⟨#[]⟩,.string ⟨#[]⟩,.slice (some ⟨n+5,0,none⟩) 1 1,.slice (some ⟨n+10,0,none⟩) 2 2,qs,qi 6,.string ⟨#[]⟩,.string ⟨#[]⟩,.slice (some ⟨n+11,0,none⟩) 1 1,qs,qs],176),
  (#[.string ⟨#[100,111,119,110]⟩,.bool true,.slice (some ⟨n+2,0,none⟩) 1 1,.slice (some ⟨n+3,0,none⟩) 1 1,.slice (some ⟨n+12,0,none⟩) 3 3],118)]
def z5n:List St:=(zow.procs.map Pr.body).flatten
theorem z7r (w:World):MoAt (allocsC w (cntObjs w.heap.size)) Tt zow (.agg #[.string ⟨#[99,110,116]⟩,qs,.slice (some ⟨w.heap.size+1,0,none⟩) 3 3,.slice (some ⟨w.heap.size+13,0,none⟩) 1 1,qs]) none 0 (some ⟨w.heap.size+1,0,none⟩) 3 (some ⟨w.heap.size+13,0,none⟩) 1 none 0:=by
 have d1:DAt (allocsC w (cntObjs w.heap.size)) Tt (some ⟨w.heap.size+1,0,none⟩) 3 (zj0 zow.decls):=by
  refine zb6 (zaw w _ 1 _ _ rfl) ?_ (by decide) (by decide);exact .cons (zdl rfl) (.cons (zeu (by decide)) (.cons (z2f) (.cons (zdl rfl) (.cons (zdl rfl) (.cons (zeu (by decide)) (.cons (z2f) (.cons (zdl rfl) (.cons (zdl rfl) (.cons (zeu (by decide)) (.cons (z2f) (.cons (zdl rfl) (.nil))))))))))))
 have d2:DAt (allocsC w (cntObjs w.heap.size)) Tt (some ⟨w.heap.size+2,0,none⟩) 1 (zaj [⟨#[110]⟩]):=by
  refine zb6 (zaw w _ 2 _ _ rfl) ?_ (by decide) (by decide);exact .cons (zeu (by decide)) (.nil)
 have d3:DAt (allocsC w (cntObjs w.heap.size)) Tt (some ⟨w.heap.size+3,0,none⟩) 1 (zaj [⟨#[105]⟩]):=by
  refine zb6 (zaw w _ 3 _ _ rfl) ?_ (by decide) (by decide);exact .cons (zeu (by decide)) (.nil)
 have d4:DAt (allocsC w (cntObjs w.heap.size)) Tt (some ⟨w.heap.size+4,0,none⟩) 1 (zbo [.mk 3 0 ⟨#[]⟩ ⟨#[110]⟩ []]):=by
  refine zb6 (zaw w _ 4 _ _ rfl) ?_ (by decide) (by decide);exact .cons (zdl rfl) (.cons (zdl rfl) (.cons (zeu (by decide)) (.cons (zeu (by decide)) (.cons (zpv) (.nil)))))
 have d5:DAt (allocsC w (cntObjs w.heap.size)) Tt (some ⟨w.heap.size+5,0,none⟩) 1 (zbo [.mk 3 0 ⟨#[]⟩ ⟨#[105]⟩ []]):=by
  refine zb6 (zaw w _ 5 _ _ rfl) ?_ (by decide) (by decide);exact .cons (zdl rfl) (.cons (zdl rfl) (.cons (zeu (by decide)) (.cons (zeu (by decide)) (.cons (zpv) (.nil)))))
 have d6:DAt (allocsC w (cntObjs w.heap.size)) Tt (some ⟨w.heap.size+6,0,none⟩) 2 (zbo [.mk 3 0 ⟨#[]⟩ ⟨#[115,117,109]⟩ [],.mk 3 0 ⟨#[]⟩ ⟨#[105]⟩ []]):=by
  refine zb6 (zaw w _ 6 _ _ rfl) ?_ (by decide) (by decide);exact .cons (zdl rfl) (.cons (zdl rfl) (.cons (zeu (by decide)) (.cons (zeu (by decide)) (.cons (zpv) (.cons (zdl rfl) (.cons (zdl rfl) (.cons (zeu (by decide)) (.cons (zeu (by decide)) (.cons (zpv) (.nil))))))))))
 have d7:DAt (allocsC w (cntObjs w.heap.size)) Tt (some ⟨w.heap.size+7,0,none⟩) 1 (zbo [.mk 9 0 ⟨#[]⟩ ⟨#[]⟩ [.mk 3 0 ⟨#[]⟩ ⟨#[115,117,109]⟩ [],.mk 3 0 ⟨#[]⟩ ⟨#[105]⟩ []]]):=by
  refine zb6 (zaw w _ 7 _ _ rfl) ?_ (by decide) (by decide);exact .cons (zdl rfl) (.cons (zdl rfl) (.cons (zeu (by decide)) (.cons (zeu (by decide)) (.cons (d6.val) (.nil)))))
 have d8:DAt (allocsC w (cntObjs w.heap.size)) Tt (some ⟨w.heap.size+8,0,none⟩) 2 (zbo [.mk 3 0 ⟨#[]⟩ ⟨#[105]⟩ [],.mk 1 1 ⟨#[]⟩ ⟨#[]⟩ []]):=by
  refine zb6 (zaw w _ 8 _ _ rfl) ?_ (by decide) (by decide);exact .cons (zdl rfl) (.cons (zdl rfl) (.cons (zeu (by decide)) (.cons (zeu (by decide)) (.cons (zpv) (.cons (zdl rfl) (.cons (zdl rfl) (.cons (zeu (by decide)) (.cons (zeu (by decide)) (.cons (zpv) (.nil))))))))))
 have d9:DAt (allocsC w (cntObjs w.heap.size)) Tt (some ⟨w.heap.size+9,0,none⟩) 1 (zbo [.mk 10 0 ⟨#[]⟩ ⟨#[]⟩ [.mk 3 0 ⟨#[]⟩ ⟨#[105]⟩ [],.mk 1 1 ⟨#[]⟩ ⟨#[]⟩ []]]):=by
  refine zb6 (zaw w _ 9 _ _ rfl) ?_ (by decide) (by decide);exact .cons (zdl rfl) (.cons (zdl rfl) (.cons (zeu (by decide)) (.cons (zeu (by decide)) (.cons (d8.val) (.nil)))))
 have Re:DAt (allocsC w (cntObjs w.heap.size)) Tt (some ⟨w.heap.size+10,0,none⟩) 2 (zbp [.mk 1 ⟨#[]⟩ ⟨#[115,117,109]⟩ [.mk 9 0 ⟨#[]⟩ ⟨#[]⟩ [.mk 3 0 ⟨#[]⟩ ⟨#[115,117,109]⟩ [],.mk 3 0 ⟨#[]⟩ ⟨#[105]⟩ []]] [] [],.mk 1 ⟨#[]⟩ ⟨#[105]⟩ [.mk 10 0 ⟨#[]⟩ ⟨#[]⟩ [.mk 3 0 ⟨#[]⟩ ⟨#[105]⟩ [],.mk 1 1 ⟨#[]⟩ ⟨#[]⟩ []]] [] []]):=by
  refine zb6 (zaw w _ 10 _ _ rfl) ?_ (by decide) (by decide);exact .cons (zdl rfl) (.cons (zeu (by decide)) (.cons (zeu (by decide)) (.cons (d7.val) (.cons (zpv) (.cons (zpv) (.cons (zdl rfl) (.cons (zeu (by decide)) (.cons (zeu (by decide)) (.cons (d9.val) (.cons (zpv) (.cons (zpv) (.nil))))))))))))
 have Rc:DAt (allocsC w (cntObjs w.heap.size)) Tt (some ⟨w.heap.size+11,0,none⟩) 1 (zbo [.mk 3 0 ⟨#[]⟩ ⟨#[115,117,109]⟩ []]):=by
  refine zb6 (zaw w _ 11 _ _ rfl) ?_ (by decide) (by decide);exact .cons (zdl rfl) (.cons (zdl rfl) (.cons (zeu (by decide)) (.cons (zeu (by decide)) (.cons (zpv) (.nil)))))
 have Rb:DAt (allocsC w (cntObjs w.heap.size)) Tt (some ⟨w.heap.size+12,0,none⟩) 3 (zbp z5n):=by
  refine zb6 (zaw w _ 12 _ _ rfl) ?_ (by decide) (by decide);exact .cons (zdl rfl) (.cons (zeu (by decide)) (.cons (zeu (by decide)) (.cons (d4.val) (.cons (zpv) (.cons (zpv) (.cons (zdl rfl) (.cons (zeu (by decide)) (.cons (zeu (by decide)) (.cons (d5.val) (.cons (Re.val) (.cons (zpv) (.cons (zdl rfl) (.cons (zeu (by decide)) (.cons (zeu (by decide)) (.cons (Rc.val) (.cons (zpv) (.cons (zpv) (.nil))))))))))))))))))
 have Ra:DAt (allocsC w (cntObjs w.heap.size)) Tt (some ⟨w.heap.size+13,0,none⟩) 1 (zhz zow.procs):=by
  refine zb6 (zaw w _ 13 _ _ rfl) ?_ (by decide) (by decide);exact .cons (zeu (by decide)) (.cons (z2f) (.cons (d2.val) (.cons (d3.val) (.cons (Rb.val) (.nil)))))
 exact ⟨rfl,by decide,⟨vaa _,by decide,Or.inl rfl⟩,d1,Ra,⟨vaa _,by decide,Or.inl rfl⟩⟩
theorem zsy (w:World) :
 qc 54 #[] w fun e w'=>∃ v a1 c1 a2 c2 a3 c3 a4 c4,e = .returned v/\MoAt w' Tt zow v a1 c1 a2 c2 a3 c3 a4 c4/\qb w w':=by
 have HM:=hid (z7r w);go_enter Tryz.func54,Tryz.ntmps54;go_wp2_with fail;show bodyPost _ _ _ _ _ (allocsC w (cntObjs w.heap.size));obtain ⟨h0,h1,h2,h3,h4,A4⟩:=(zaw w (cntObjs w.heap.size) 0 _ _ rfl).c5;rw [vbp] at h0 h1 h2 h3 h4 A4;have HB:=zed (cntObjs w.heap.size) w;have HM:=HM.out;generalize allocsC w (cntObjs w.heap.size)=W at *;exact bodyPost_ret (v:=.agg #[.string ⟨#[99,110,116]⟩,qs,.slice (some ⟨w.heap.size+1,0,none⟩) 3 3,.slice (some ⟨w.heap.size+13,0,none⟩) 1 1,qs]) (by simp [results,Tryz.results54,go_sem,h0,h1,h2,h3,h4]) rfl ⟨_,_,_,_,_,_,_,_,_,rfl,HM,HB⟩
theorem zsz (w:World):qc 56 #[] w fun e w'=>e = .returned (.string z36)/\w'=w:=by
 go_enter Tryz.func56,Tryz.ntmps56;go_wp2_with fail;go_ret;exact ⟨rfl,rfl⟩
end Go.Proofs.YtndkhgakfodldaaGreatDoor
