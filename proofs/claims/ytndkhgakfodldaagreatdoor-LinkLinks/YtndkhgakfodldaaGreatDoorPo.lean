import Derived.Test.YtndkhgakfodldaaGreatDoorPm
import Derived.Test.YtndkhgakfodldaaGreatDoorLex
namespace Go.Proofs.YtndkhgakfodldaaGreatDoor
set_option maxRecDepth 100000
set_option maxHeartbeats 1600000
open Go.RowKit Go.Shelf
abbrev z54:Value:=.agg #[.string ⟨#[]⟩,qs,qs,qs,qs]
structure Pw (w W:World) (cs:Array Value) (ok:Bool):Prop where
 below:qb w W
 mb:W.heap[w.heap.size]? = some (.cells cs 27 (0,0))
 ob:W.heap[w.heap.size+1]? = some (.cells #[.bool ok] 4 (0,0))
theorem Pw.ocell {w W:World} {cs:Array Value} {ok:Bool} (h:Pw w W cs ok):W.cell? ⟨w.heap.size+1,0,none⟩=some (.bool ok)/\W.frozen? ⟨w.heap.size+1,0,none⟩=false:=by
 refine ⟨by rw [vep h.ob];rfl,?_⟩;unfold World.frozen?;simp only;rw [h.ob];simp
theorem Pw.put {w W:World} {x0 x1 x2 x3 x4:Value} {ok:Bool} (h:Pw w W #[x0,x1,x2,x3,x4] ok) (v0 v1 v2 v3 v4:Value):Pw w (set5 W w.heap.size v0 v1 v2 v3 v4) #[v0,v1,v2,v3,v4] ok:=by
 refine ⟨((((h.below.setCell (p:=(qa w.heap.size 0)) (vaa _) _).setCell (p:=(qa w.heap.size 1)) (vaa _) _).setCell (p:=(qa w.heap.size 2)) (vaa _) _).setCell (p:=(qa w.heap.size 3)) (vaa _) _).setCell (p:=(qa w.heap.size 4)) (vaa _) _,?_,?_⟩
 . exact heap_set (heap_set (heap_set (heap_set (heap_set h.mb _) _) _) _) _
 . have e:w.heap.size+1≠w.heap.size:=by omega
   exact (heap_set_ne (p:=(qa w.heap.size 4)) e _).trans ((heap_set_ne (p:=(qa w.heap.size 3)) e _).trans ((heap_set_ne (p:=(qa w.heap.size 2)) e _).trans ((heap_set_ne (p:=(qa w.heap.size 1)) e _).trans ((heap_set_ne (p:=(qa w.heap.size 0)) e _).trans h.ob))))
theorem Pw.ok {w W:World} {cs:Array Value} {b:Bool} (h:Pw w W cs b) (b':Bool):Pw w (W.setCell ⟨w.heap.size+1,0,none⟩ (.bool b')) cs b':=
 ⟨h.below.setCell (p:=⟨w.heap.size+1,0,none⟩) (vel _) _,(heap_set_ne (by show w.heap.size≠w.heap.size+1;omega) _).trans h.mb,heap_set h.ob _⟩
theorem Pw.keeps {w W W':World} {cs:Array Value} {b:Bool} {R:Nat} (h:Pw w W cs b) (hk:Keeps R W W') (hR:w.heap.size+2<=R):Pw w W' cs b:=
 ⟨⟨hk.os.trans h.below.os,hk.tape.trans h.below.tape,hk.output.trans h.below.output,vbd h.below.size hk.size,fun k CA=>(hk.block k (vah CA h.below.size) (by omega)).trans (h.below.block k CA)⟩,(hk.block _ (lt_of_heap h.mb) (by omega)).trans h.mb,(hk.block _ (lt_of_heap h.ob) (by omega)).trans h.ob⟩
theorem Pw.resOf {w W:World} {x0 x1 x2 x3 x4:Value} {ok:Bool} (h:Pw w W #[x0,x1,x2,x3,x4] ok) (t:Array Value) (h2:t.getD 2 undef=pq w.heap.size 0) (h3:t.getD 3 undef = .pointer (some ⟨w.heap.size+1,0,none⟩)) :
 (results Tryz.f115 t).run Tryz.prog W = .ok (.tuple #[.agg #[x0,x1,x2,x3,x4],.bool ok]) W:=by
 obtain ⟨c0,c1,c2,c3,c4,_⟩:=zaa h.mb;obtain ⟨d0,_⟩:=h.ocell
 have FG:t[2]?.getD undef=pq w.heap.size 0:=by simpa using h2
 have G5:t[3]?.getD undef = .pointer (some ⟨w.heap.size+1,0,none⟩):=by simpa using h3
 simp [results,Tryz.results115,go_sem,FG,G5,c0,c1,c2,c3,c4,d0]
theorem z55 (w W:World) (x0 x1 x2 x3 x4:Value) (ok:Bool) (u:TypeId) (pv:Value) (older:List PanicEntry) (h:Pw w W #[x0,x1,x2,x3,x4] ok) :
 CallsD Tryz.prog 158 #[pq w.heap.size 0,.pointer (some ⟨w.heap.size+1,0,none⟩)] (.panicking ({ v:=.iface u pv,recovered:=false } :: older)) W fun e u' w'=>
  e = .returned (.tuple #[])/\u' = .panicking ({ v:=.iface u pv,recovered:=true } :: older)/\Pw w w' #[.string ⟨#[]⟩,qs,qs,qs,qs] false:=by
 have Mi:=(h.put (.string ⟨#[]⟩) (qs) (qs) (qs) (qs)).ok false;obtain ⟨c0,c1,c2,c3,c4,c5⟩:=zaa h.mb;obtain ⟨d0,d1⟩:=(h.put (.string ⟨#[]⟩) (qs) (qs) (qs) (qs)).ocell
 refine callsD_of_wpS Tryz.func158 rfl fun c₀ cs hu=>?_
 apply wpS_seq
 apply wpS_region
 simp [wpOpsS,go_sem,recoverD,hu,Tryz.ntmps158,Exit.thenS];refine wpS_cond (t:=true) (by simp [Act.eval,Array.replicate]) ?_;simp only [if_true]
 apply wpS_region
 simp [wpOpsS,go_sem,c0,c1,c2,c3,c4,c5,d0,d1,bodyPostS,results,Tryz.results158];exact Mi
theorem z7w (p q:Addr) (w:World) :
 CallsD Tryz.prog 158 #[.pointer (some p),.pointer (some q)] .returning w fun e u' w'=>e = .returned (.tuple #[])/\u' = .returning/\w'=w:=by
 refine callsD_of_wpS Tryz.func158 rfl fun c₀ cs hu=>?_
 apply wpS_seq
 apply wpS_region
 simp [wpOpsS,go_sem,recoverD,hu,Tryz.ntmps158,Exit.thenS];refine wpS_cond (t:=false) (by simp [Act.eval,Array.replicate]) ?_;simp only [vcu,if_false];refine wpS_of_wp (wp_skip ?_)
 cases c₀
 simp_all [bodyPostS,results,Tryz.results158]
theorem Pw.caught {w W:World} {x0 x1 x2 x3 x4:Value} {ok:Bool} (h:Pw w W #[x0,x1,x2,x3,x4] ok) {R:Ending->World->Prop} (t:Array Value)
 (h2:t.getD 2 undef=pq w.heap.size 0) (h3:t.getD 3 undef = .pointer (some ⟨w.heap.size+1,0,none⟩))
 (hR:∀ W',qb w W'->R (.returned (.tuple #[z54,.bool false])) W') :
 Leaves Tryz.prog Tryz.f115 t R [{ target:=Target.fn (Fn.func 158) #[Value.pointer (some (qa w.heap.size 0)),Value.pointer (some ⟨w.heap.size+1,0,none⟩)],args:=#[] }] (.panicking zbb) W:=by
 refine leaves_cons (f:=158) (args:=#[pq w.heap.size 0,.pointer (some ⟨w.heap.size+1,0,none⟩)]) (by simp) (by simp [go_sem]) ?_;refine (z55 w W x0 x1 x2 x3 x4 ok 31 (qi 1) [] h).mono ?_;rintro e u' Ce ⟨rfl,rfl,hp⟩;exact ⟨_,hp.resOf t h2 h3,hR Ce hp.below⟩
theorem z56 {A:Nat->Prop} {m:Mo} {w:World} {v:Value} (h:znp A m w v) (hf:Fine m):∃ a1 c1 a2 c2 a3 c3 a4 c4,MoAt w Tt m v a1 c1 a2 c2 a3 c3 a4 c4:=by
 obtain ⟨a1,c1,a2,c2,a3,c3,a4,c4,rfl,h0,h1,h2,h3,h4⟩:=h
 have hm:zad w A w Tt:=⟨vaa _,fun _ _ _=>⟨trivial,rfl⟩⟩
 have l2:(ztj m.decls).length=4*m.decls.length:=by
  have:∀ l:List De,(ztj l).length=4*l.length:=by
   intro l
   induction l with
   | nil=>rfl
   | cons x r ih=>
     show (x.ds++ztj r).length=_;rw [vak,ih]
     simp [De.ds];omega
  exact this _
 have l3:(znt m.procs).length=5*m.procs.length:=by
  have:∀ l:List Pr,(znt l).length=5*l.length:=by
   intro l
   induction l with
   | nil=>rfl
   | cons x r ih=>
     show (x.ds++znt r).length=_;rw [vak,ih]
     simp [Pr.ds];omega
  exact this _
 have k1:=hf.uses;have k2:=hf.decls;have k3:=hf.procs;have k4:=hf.main;exact ⟨a1,c1,a2,c2,a3,c3,a4,c4,rfl,h0,(h1.moves hm).toD (by simp [zaw]) (by simp [zaw];omega) (zpb _),(h2.moves hm).toD (by rw [l2];omega) (by rw [l2];omega) hf.fd,(h3.moves hm).toD (by rw [l3];omega) (by rw [l3];omega) hf.fp,(h4.moves hm).toD (by rw [zni];omega) (by rw [zni];omega) hf.fm⟩
theorem zuv {B b:Nat} {a w:World} (h:Below B a w) (hb:B<=b) (v0 v1 v2 v3 v4:Value):Below B a (set5 w b v0 v1 v2 v3 v4):=
 ((((h.setCell (p:=(qa b 0)) hb _).setCell (p:=(qa b 1)) hb _).setCell (p:=(qa b 2)) hb _).setCell (p:=(qa b 3)) hb _).setCell (p:=(qa b 4)) hb _
theorem znp.moves {A A':Nat->Prop} {m:Mo} {w w':World} {v:Value} (h:znp A m w v) (hm:zad w A w' A'):znp A' m w' v:=by
 obtain ⟨a1,c1,a2,c2,a3,c3,a4,c4,rfl,h0,h1,h2,h3,h4⟩:=h;exact ⟨a1,c1,a2,c2,a3,c3,a4,c4,rfl,h0,h1.moves hm,h2.moves hm,h3.moves hm,h4.moves hm⟩
end Go.Proofs.YtndkhgakfodldaaGreatDoor

namespace Go.Proofs.YtndkhgakfodldaaGreatDoor
set_option maxRecDepth 100000
open Go.RowKit
def znq:Mo:=⟨⟨#[99,110,116]⟩,[],[⟨1,⟨#[107]⟩,true,3⟩,⟨2,⟨#[115,117,109]⟩,true,0⟩,⟨3,⟨#[116]⟩,true,4⟩],
 [⟨⟨#[100,111,119,110]⟩,true,[⟨#[110]⟩],[⟨#[105]⟩],
   [.mk 1 ⟨#[]⟩ ⟨#[105]⟩ [.mk 3 0 ⟨#[]⟩ ⟨#[110]⟩ []] [] [],
    .mk 5 ⟨#[]⟩ ⟨#[]⟩ [.mk 3 0 ⟨#[]⟩ ⟨#[105]⟩ []]
     [.mk 1 ⟨#[]⟩ ⟨#[115,117,109]⟩ [.mk 9 0 ⟨#[]⟩ ⟨#[]⟩ [.mk 3 0 ⟨#[]⟩ ⟨#[115,117,109]⟩ [],.mk 3 0 ⟨#[]⟩ ⟨#[105]⟩ []]] [] [],
      .mk 1 ⟨#[]⟩ ⟨#[105]⟩ [.mk 10 0 ⟨#[]⟩ ⟨#[]⟩ [.mk 3 0 ⟨#[]⟩ ⟨#[105]⟩ [],.mk 1 1 ⟨#[]⟩ ⟨#[]⟩ []]] [] []] [],
    .mk 6 ⟨#[]⟩ ⟨#[]⟩ [.mk 3 0 ⟨#[]⟩ ⟨#[115,117,109]⟩ []] [] []]⟩],[]⟩
def z3x:ByteArray:=⟨#[109,111,100,117,108,101,32,116,111,112,123,117,115,101,32,99,110,116,59,109,97,105,110,123,99,110,116,46,116,91,49,93,61,99,110,116,46,100,111,119,110,40,99,110,116,46,107,41,59,111,117,116,32,99,110,116,46,116,91,105,110,93,59,105,102,40,99,110,116,46,115,117,109,61,54,41,123,111,117,116,32,55,59,125,101,108,115,101,123,111,117,116,32,56,59,125,125,125]⟩
def z57:List Tk:=[⟨1,0,⟨#[109,111,100,117,108,101]⟩⟩,⟨1,0,⟨#[116,111,112]⟩⟩,⟨3,0,⟨#[123]⟩⟩,⟨1,0,⟨#[117,115,101]⟩⟩,⟨1,0,⟨#[99,110,116]⟩⟩,⟨3,0,⟨#[59]⟩⟩,⟨1,0,⟨#[109,97,105,110]⟩⟩,⟨3,0,⟨#[123]⟩⟩,⟨1,0,⟨#[99,110,116]⟩⟩,⟨3,0,⟨#[46]⟩⟩,⟨1,0,⟨#[116]⟩⟩,⟨3,0,⟨#[91]⟩⟩,⟨2,1,⟨#[]⟩⟩,⟨3,0,⟨#[93]⟩⟩,⟨3,0,⟨#[61]⟩⟩,⟨1,0,⟨#[99,110,116]⟩⟩,⟨3,0,⟨#[46]⟩⟩,⟨1,0,⟨#[100,111,119,110]⟩⟩,⟨3,0,⟨#[40]⟩⟩,⟨1,0,⟨#[99,110,116]⟩⟩,⟨3,0,⟨#[46]⟩⟩,⟨1,0,⟨#[107]⟩⟩,⟨3,0,⟨#[41]⟩⟩,⟨3,0,⟨#[59]⟩⟩,⟨1,0,⟨#[111,117,116]⟩⟩,⟨1,0,⟨#[99,110,116]⟩⟩,⟨3,0,⟨#[46]⟩⟩,⟨1,0,⟨#[116]⟩⟩,⟨3,0,⟨#[91]⟩⟩,⟨1,0,⟨#[105,110]⟩⟩,⟨3,0,⟨#[93]⟩⟩,⟨3,0,⟨#[59]⟩⟩,⟨1,0,⟨#[105,102]⟩⟩,⟨3,0,⟨#[40]⟩⟩,⟨1,0,⟨#[99,110,116]⟩⟩,⟨3,0,⟨#[46]⟩⟩,⟨1,0,⟨#[115,117,109]⟩⟩,⟨3,0,⟨#[61]⟩⟩,⟨2,6,⟨#[]⟩⟩,⟨3,0,⟨#[41]⟩⟩,⟨3,0,⟨#[123]⟩⟩,⟨1,0,⟨#[111,117,116]⟩⟩,⟨2,7,⟨#[]⟩⟩,⟨3,0,⟨#[59]⟩⟩,⟨3,0,⟨#[125]⟩⟩,⟨1,0,⟨#[101,108,115,101]⟩⟩,⟨3,0,⟨#[123]⟩⟩,⟨1,0,⟨#[111,117,116]⟩⟩,⟨2,8,⟨#[]⟩⟩,⟨3,0,⟨#[59]⟩⟩,⟨3,0,⟨#[125]⟩⟩,⟨3,0,⟨#[125]⟩⟩,⟨3,0,⟨#[125]⟩⟩]
theorem z3y:zdo z3x 0=some z57:=by
 rw [← zwo 98 z3x 0 (by decide)]
 kernel_rfl
theorem z0l:lexT z3x=z57/\lexE z3x=0:=zwl (by decide) z3y
def zln:Mo:=⟨⟨#[116,111,112]⟩,[⟨#[99,110,116]⟩],[],[],[.mk 2 ⟨#[99,110,116]⟩ ⟨#[116]⟩ [.mk 1 1 ⟨#[]⟩ ⟨#[]⟩ [],.mk 5 0 ⟨#[99,110,116]⟩ ⟨#[100,111,119,110]⟩ [.mk 3 0 ⟨#[99,110,116]⟩ ⟨#[107]⟩ []]] [] [],
 .mk 7 ⟨#[]⟩ ⟨#[]⟩ [.mk 4 0 ⟨#[99,110,116]⟩ ⟨#[116]⟩ [.mk 2 0 ⟨#[]⟩ ⟨#[]⟩ []]] [] [],
 .mk 4 ⟨#[]⟩ ⟨#[]⟩ [.mk 14 0 ⟨#[]⟩ ⟨#[]⟩ [.mk 3 0 ⟨#[99,110,116]⟩ ⟨#[115,117,109]⟩ [],.mk 1 6 ⟨#[]⟩ ⟨#[]⟩ []]] [.mk 7 ⟨#[]⟩ ⟨#[]⟩ [.mk 1 7 ⟨#[]⟩ ⟨#[]⟩ []] [] []] [.mk 7 ⟨#[]⟩ ⟨#[]⟩ [.mk 1 8 ⟨#[]⟩ ⟨#[]⟩ []] [] []]]⟩
theorem z3z:zln.err=0:=by kernel_rfl
set_option maxHeartbeats 1600000
def allocsC (w:World):List (Array Value × TypeId)->World
 | []=>w
 | x :: r=>allocsC (w.alloc (.cells x.1 x.2)) r
theorem zdw:∀ (l:List (Array Value × TypeId)) (w:World),qb w (allocsC w l)
 | [],_=>Below.refl _ _
 | _ :: r,w=>thenB (al1 w _) (zdw r _)
theorem zas:∀ (w:World) (l:List (Array Value × TypeId)) (i:Nat) (cs:Array Value) (t:TypeId),l[i]? = some (cs,t)->Blk (allocsC w l) (w.heap.size+i) cs.toList
 | w,[],i,cs,t,h=>by simp at h
 | w,x :: r,0,cs,t,h=>by
   simp at h;subst h;exact (Blk.new w cs t).later (zdw r _)
 | w,x :: r,i+1,cs,t,h=>by
   have:=zas (w.alloc (.cells x.1 x.2)) r i cs t (by simpa using h);rw [show w.heap.size+(i+1)=(w.alloc (.cells x.1 x.2)).heap.size+i from by simp;omega];exact this
theorem zbz {w:World} {b n:Nat} {ds:List D} {cs:List Value} (h:Blk w b cs) (hd:zan w Tt ds cs) (h1:n<=ds.length) (h2:ds.length<=1000):DAt w Tt (some (qa b 0)) n ds:=
 ⟨h1,by omega,Or.inr ⟨b,0,cs,rfl,trivial,h.lt,fun j u hj=>by rw [vax];exact h.cell j u hj,hd⟩⟩
def cntObjs (n:Nat):List (Array Value × TypeId):=
 [(#[.string ⟨#[99,110,116]⟩,qs,.slice (some ⟨n+1,0,none⟩) 3 3,.slice (some ⟨n+13,0,none⟩) 1 1,qs],27),
  (#[qi 1,.string ⟨#[107]⟩,.bool true,qi 3,qi 2,.string ⟨#[115,117,109]⟩,.bool true,qi 0,qi 3,.string ⟨#[116]⟩,.bool true,qi 4],170),
  (#[.string ⟨#[110]⟩],9),
  (#[.string ⟨#[105]⟩],9),
  (#[qi 3,qi 0,.string ⟨#[]⟩,.string ⟨#[110]⟩,qs],174),
  (#[qi 3,qi 0,.string ⟨#[]⟩,.string ⟨#[105]⟩,qs],174),
  (#[qi 3,qi 0,.string ⟨#[]⟩,.string ⟨#[115,117,109]⟩,qs,qi 3,qi 0,.string ⟨#[]⟩,.string ⟨#[105]⟩,qs],174),
  (#[qi 9,qi 0,.string ⟨#[]⟩,.string ⟨#[]⟩,.slice (some ⟨n+6,0,none⟩) 2 2],174),
  (#[qi 3,qi 0,.string ⟨#[]⟩,.string ⟨#[105]⟩,qs,qi 1,qi 1,.string ⟨#[]⟩,.string ⟨#[]⟩,qs],174),
  (#[qi 10,qi 0,.string ⟨#[]⟩,.string ⟨#[]⟩,.slice (some ⟨n+8,0,none⟩) 2 2],174),
  (#[qi 1,.string ⟨#[]⟩,.string ⟨#[115,117,109]⟩,.slice (some ⟨n+7,0,none⟩) 1 1,qs,qs,qi 1,.string ⟨#[]⟩,.string ⟨#[105]⟩,.slice (some ⟨n+9,0,none⟩) 1 1,qs,qs],176),
  (#[qi 3,qi 0,.string ⟨#[]⟩,.string ⟨#[115,117,109]⟩,qs],174),
  (#[qi 1,.string ⟨#[]⟩,.string ⟨#[105]⟩,.slice (some ⟨n+4,0,none⟩) 1 1,qs,qs,qi 5,.string ⟨#[]⟩,.string ⟨#[]⟩,.slice (some ⟨n+5,0,none⟩) 1 1,.slice (some ⟨n+10,0,none⟩) 2 2,qs,qi 6,.string ⟨#[]⟩,.string ⟨#[]⟩,.slice (some ⟨n+11,0,none⟩) 1 1,qs,qs],176),
  (#[.string ⟨#[100,111,119,110]⟩,.bool true,.slice (some ⟨n+2,0,none⟩) 1 1,.slice (some ⟨n+3,0,none⟩) 1 1,.slice (some ⟨n+12,0,none⟩) 3 3],118)]
def z30:List St:=(znq.procs.map Pr.body).flatten
theorem z58 (w:World):MoAt (allocsC w (cntObjs w.heap.size)) Tt znq (.agg #[.string ⟨#[99,110,116]⟩,qs,.slice (some ⟨w.heap.size+1,0,none⟩) 3 3,.slice (some ⟨w.heap.size+13,0,none⟩) 1 1,qs]) none 0 (some ⟨w.heap.size+1,0,none⟩) 3 (some ⟨w.heap.size+13,0,none⟩) 1 none 0:=by
 have d1:DAt (allocsC w (cntObjs w.heap.size)) Tt (some ⟨w.heap.size+1,0,none⟩) 3 (ztj znq.decls):=by
  refine zbz (zas w _ 1 _ _ rfl) ?_ (by decide) (by decide);exact .cons (zc6 rfl) (.cons (zed (by decide)) (.cons (z0s) (.cons (zc6 rfl) (.cons (zc6 rfl) (.cons (zed (by decide)) (.cons (z0s) (.cons (zc6 rfl) (.cons (zc6 rfl) (.cons (zed (by decide)) (.cons (z0s) (.cons (zc6 rfl) (.nil))))))))))))
 have d2:DAt (allocsC w (cntObjs w.heap.size)) Tt (some ⟨w.heap.size+2,0,none⟩) 1 (zaw [⟨#[110]⟩]):=by
  refine zbz (zas w _ 2 _ _ rfl) ?_ (by decide) (by decide);exact .cons (zed (by decide)) (.nil)
 have d3:DAt (allocsC w (cntObjs w.heap.size)) Tt (some ⟨w.heap.size+3,0,none⟩) 1 (zaw [⟨#[105]⟩]):=by
  refine zbz (zas w _ 3 _ _ rfl) ?_ (by decide) (by decide);exact .cons (zed (by decide)) (.nil)
 have d4:DAt (allocsC w (cntObjs w.heap.size)) Tt (some ⟨w.heap.size+4,0,none⟩) 1 (zb0 [.mk 3 0 ⟨#[]⟩ ⟨#[110]⟩ []]):=by
  refine zbz (zas w _ 4 _ _ rfl) ?_ (by decide) (by decide);exact .cons (zc6 rfl) (.cons (zc6 rfl) (.cons (zed (by decide)) (.cons (zed (by decide)) (.cons (zov) (.nil)))))
 have d5:DAt (allocsC w (cntObjs w.heap.size)) Tt (some ⟨w.heap.size+5,0,none⟩) 1 (zb0 [.mk 3 0 ⟨#[]⟩ ⟨#[105]⟩ []]):=by
  refine zbz (zas w _ 5 _ _ rfl) ?_ (by decide) (by decide);exact .cons (zc6 rfl) (.cons (zc6 rfl) (.cons (zed (by decide)) (.cons (zed (by decide)) (.cons (zov) (.nil)))))
 have d6:DAt (allocsC w (cntObjs w.heap.size)) Tt (some ⟨w.heap.size+6,0,none⟩) 2 (zb0 [.mk 3 0 ⟨#[]⟩ ⟨#[115,117,109]⟩ [],.mk 3 0 ⟨#[]⟩ ⟨#[105]⟩ []]):=by
  refine zbz (zas w _ 6 _ _ rfl) ?_ (by decide) (by decide);exact .cons (zc6 rfl) (.cons (zc6 rfl) (.cons (zed (by decide)) (.cons (zed (by decide)) (.cons (zov) (.cons (zc6 rfl) (.cons (zc6 rfl) (.cons (zed (by decide)) (.cons (zed (by decide)) (.cons (zov) (.nil))))))))))
 have d7:DAt (allocsC w (cntObjs w.heap.size)) Tt (some ⟨w.heap.size+7,0,none⟩) 1 (zb0 [.mk 9 0 ⟨#[]⟩ ⟨#[]⟩ [.mk 3 0 ⟨#[]⟩ ⟨#[115,117,109]⟩ [],.mk 3 0 ⟨#[]⟩ ⟨#[105]⟩ []]]):=by
  refine zbz (zas w _ 7 _ _ rfl) ?_ (by decide) (by decide);exact .cons (zc6 rfl) (.cons (zc6 rfl) (.cons (zed (by decide)) (.cons (zed (by decide)) (.cons (d6.val) (.nil)))))
 have d8:DAt (allocsC w (cntObjs w.heap.size)) Tt (some ⟨w.heap.size+8,0,none⟩) 2 (zb0 [.mk 3 0 ⟨#[]⟩ ⟨#[105]⟩ [],.mk 1 1 ⟨#[]⟩ ⟨#[]⟩ []]):=by
  refine zbz (zas w _ 8 _ _ rfl) ?_ (by decide) (by decide);exact .cons (zc6 rfl) (.cons (zc6 rfl) (.cons (zed (by decide)) (.cons (zed (by decide)) (.cons (zov) (.cons (zc6 rfl) (.cons (zc6 rfl) (.cons (zed (by decide)) (.cons (zed (by decide)) (.cons (zov) (.nil))))))))))
 have d9:DAt (allocsC w (cntObjs w.heap.size)) Tt (some ⟨w.heap.size+9,0,none⟩) 1 (zb0 [.mk 10 0 ⟨#[]⟩ ⟨#[]⟩ [.mk 3 0 ⟨#[]⟩ ⟨#[105]⟩ [],.mk 1 1 ⟨#[]⟩ ⟨#[]⟩ []]]):=by
  refine zbz (zas w _ 9 _ _ rfl) ?_ (by decide) (by decide);exact .cons (zc6 rfl) (.cons (zc6 rfl) (.cons (zed (by decide)) (.cons (zed (by decide)) (.cons (d8.val) (.nil)))))
 have Rj:DAt (allocsC w (cntObjs w.heap.size)) Tt (some ⟨w.heap.size+10,0,none⟩) 2 (zby [.mk 1 ⟨#[]⟩ ⟨#[115,117,109]⟩ [.mk 9 0 ⟨#[]⟩ ⟨#[]⟩ [.mk 3 0 ⟨#[]⟩ ⟨#[115,117,109]⟩ [],.mk 3 0 ⟨#[]⟩ ⟨#[105]⟩ []]] [] [],.mk 1 ⟨#[]⟩ ⟨#[105]⟩ [.mk 10 0 ⟨#[]⟩ ⟨#[]⟩ [.mk 3 0 ⟨#[]⟩ ⟨#[105]⟩ [],.mk 1 1 ⟨#[]⟩ ⟨#[]⟩ []]] [] []]):=by
  refine zbz (zas w _ 10 _ _ rfl) ?_ (by decide) (by decide);exact .cons (zc6 rfl) (.cons (zed (by decide)) (.cons (zed (by decide)) (.cons (d7.val) (.cons (zov) (.cons (zov) (.cons (zc6 rfl) (.cons (zed (by decide)) (.cons (zed (by decide)) (.cons (d9.val) (.cons (zov) (.cons (zov) (.nil))))))))))))
 have Ri:DAt (allocsC w (cntObjs w.heap.size)) Tt (some ⟨w.heap.size+11,0,none⟩) 1 (zb0 [.mk 3 0 ⟨#[]⟩ ⟨#[115,117,109]⟩ []]):=by
  refine zbz (zas w _ 11 _ _ rfl) ?_ (by decide) (by decide);exact .cons (zc6 rfl) (.cons (zc6 rfl) (.cons (zed (by decide)) (.cons (zed (by decide)) (.cons (zov) (.nil)))))
 have Rh:DAt (allocsC w (cntObjs w.heap.size)) Tt (some ⟨w.heap.size+12,0,none⟩) 3 (zby z30):=by
  refine zbz (zas w _ 12 _ _ rfl) ?_ (by decide) (by decide);exact .cons (zc6 rfl) (.cons (zed (by decide)) (.cons (zed (by decide)) (.cons (d4.val) (.cons (zov) (.cons (zov) (.cons (zc6 rfl) (.cons (zed (by decide)) (.cons (zed (by decide)) (.cons (d5.val) (.cons (Rj.val) (.cons (zov) (.cons (zc6 rfl) (.cons (zed (by decide)) (.cons (zed (by decide)) (.cons (Ri.val) (.cons (zov) (.cons (zov) (.nil))))))))))))))))))
 have Rg:DAt (allocsC w (cntObjs w.heap.size)) Tt (some ⟨w.heap.size+13,0,none⟩) 1 (znt znq.procs):=by
  refine zbz (zas w _ 13 _ _ rfl) ?_ (by decide) (by decide);exact .cons (zed (by decide)) (.cons (z0s) (.cons (d2.val) (.cons (d3.val) (.cons (Rh.val) (.nil)))))
 exact ⟨rfl,by decide,⟨vaa _,by decide,Or.inl rfl⟩,d1,Rg,⟨vaa _,by decide,Or.inl rfl⟩⟩
theorem zrh (w:World) :
 qc 54 #[] w fun e w'=>∃ v a1 c1 a2 c2 a3 c3 a4 c4,e = .returned v/\MoAt w' Tt znq v a1 c1 a2 c2 a3 c3 a4 c4/\qb w w':=by
 have HM:=hid (z58 w);go_enter Tryz.func54,Tryz.ntmps54;go_wp2_with fail;show bodyPost _ _ _ _ _ (allocsC w (cntObjs w.heap.size));obtain ⟨h0,h1,h2,h3,h4,A0⟩:=(zas w (cntObjs w.heap.size) 0 _ _ rfl).c5;rw [vbs] at h0 h1 h2 h3 h4 A0;have HB:=zdw (cntObjs w.heap.size) w;have HM:=HM.out;generalize allocsC w (cntObjs w.heap.size)=W at *;exact bodyPost_ret (v:=.agg #[.string ⟨#[99,110,116]⟩,qs,.slice (some ⟨w.heap.size+1,0,none⟩) 3 3,.slice (some ⟨w.heap.size+13,0,none⟩) 1 1,qs]) (by simp [results,Tryz.results54,go_sem,h0,h1,h2,h3,h4]) rfl ⟨_,_,_,_,_,_,_,_,_,rfl,HM,HB⟩
theorem zri (w:World):qc 56 #[] w fun e w'=>e = .returned (.string z3x)/\w'=w:=by
 go_enter Tryz.func56,Tryz.ntmps56;go_wp2_with fail;go_ret;exact ⟨rfl,rfl⟩
end Go.Proofs.YtndkhgakfodldaaGreatDoor

namespace Go.Proofs.YtndkhgakfodldaaGreatDoor
set_option maxRecDepth 100000
set_option maxHeartbeats 16000000
open Go.RowKit Go.Shelf
theorem zuw (R cap:Nat) (a:OA) (ts l:List Tk) (w:World) (h:Rd R a cap ts w l) (hD:∀ k,zlm (ts.drop k)=false) (G4:∀ k,zxv (ts.drop k)=none) (hS:zch l≠none) :
 qc 159 #[pq R 0] w (zd8 R a cap ts w (zch l) (znp (w.heap.size<=·))):=by
 have HR:Hid (Rd R a cap ts w l):=h;have CT:=h.lt
 have Jc:l.length<=4096:=by
  obtain ⟨k,_,rfl,_⟩:=h.idx;have:=h.len
  rw [vcl];omega
 have Gb:=hid (zuu l);have S9:=hid hD;have RJ:=hid G4;have Ga:=hid hS;clear hD G4 hS;clear h;go_enter Tryz.func159,Tryz.ntmps159;go_wp2_with fail
 obtain ⟨w2,DT⟩:∃ w2,w2=(w.alloc zde).alloc zde:=⟨_,rfl⟩
 have AA:w2.heap.size=w.heap.size+1+1:=by rw [DT];simp
 have Eb:Hid (FSt R a cap ts w w2 (w.heap.size+1) 27 zde #[.string ⟨#[]⟩,qs,qs,qs,qs] w2 l):=
  ⟨by rw [DT];exact (HR.out.alloc _).alloc _,by rw [DT];exact ((Keeps.refl R w).alloc _).alloc _,by rw [DT];exact zab (heap_newP _ _),by rw [DT];have:=heap_newP (w.alloc zde) zde;simpa using this,zad.refl _ _,CT,by omega,by omega,l,HR.out⟩
 rw [← DT];clear DT;generalize hC:w.heap.size+1=C at *;refine (zlk R cap _ a ts l zn1 w2 AA.symm Eb.out.rd (by decide)).mono ?_;rintro e w3 ⟨KK,⟨s1,rfl⟩ | ⟨s1,rfl,RD⟩⟩
 . exact absurd (by rw [Gb.out,if_neg (by simp [s1])]) Ga.out
 have Km:=hid (Eb.out.keeps KK RD);have BO:=KK.size;have CR:=za0 (by decide) s1;clear RD KK Eb;go_wp2_with fail;refine (zje R cap a ts l.tail w3 Km.out.rd).mono ?_;rintro e w4 ⟨KK,⟨hn,rfl⟩ | ⟨nm,l4,v,hn,rfl,⟨rfl,Bq⟩,RD⟩⟩
 . exact absurd (by rw [Gb.out,if_pos s1,hn]) Ga.out
 have Ho:Hid (zch l=if skB l4 tLb then pM1 nm l4.tail else none):=by show _=_;rw [Gb.out,if_pos s1,hn]
 have Lp:=hid (Km.out.keeps KK RD);have D4:=KK.size;have Fs:=zjh hn;clear RD KK Km hn s1 Gb;have Ns:=hid (Lp.out.put 0 (.string nm))
 have Cc:(w4.setCell (qa C 0) (.string nm)).heap.size=w4.heap.size:=by simp only [vaq]
 obtain ⟨h0,h1,h2,h3,h4,h5⟩:=zaa Lp.out.cb;have O4:C<w4.heap.size:=lt_of_heap Lp.out.cb;go_wp2_with fail;generalize w4.setCell (qa C 0) (.string nm)=w5 at *;clear h0 h1 h2 h3 h4 h5 Lp;refine (zlk R cap _ a ts l4 tLb w5 (by omega) Ns.out.rd (by decide)).mono ?_;rintro e w6 ⟨KK,⟨s1,rfl⟩ | ⟨s1,rfl,RD⟩⟩
 . exact absurd (by rw [Ho.out,if_neg (by simp [s1])]) Ga.out
 have Ld:Hid (zch l=pM1 nm l4.tail):=by show _=_;rw [Ho.out,if_pos s1]
 have Ln:Hid (FSt R a cap ts w w2 C 27 zde #[.string nm,qs,qs,qs,qs] w6 l4.tail):=Ns.out.keeps KK RD;have I9:=KK.size;have G0:=za0 (by decide) s1;clear RD KK Ns s1 Ho;generalize Qo:l4.tail=l6 at *
 have Qn:l6.length<l.length:=by omega
 have HW:=hid Ln.out.restart;have Tr:C<w6.heap.size:=lt_of_heap Ln.out.cb;have PK:w2.heap.size<=w6.heap.size:=Ln.out.mv.1;clear Ln Qo CR Fs G0;go_wp2_with fail
 go_loopw [] (fun wr=>∃ (g:Nat) (A7:List ByteArray) (l':List Tk) (v:Value),Hid (zh0 zvw (l6.length+1) [] l6=zh0 zvw g A7 l')/\l'.length+1<=g/\A7.length+l'.length<=l.length/\FSt R a cap ts w w6 C 27 zde #[.string nm,v,qs,qs,qs] wr l'/\Row w6.heap.size 9 1 wr v A7.length (zaw A7)) (fun wr=>zll R ts.length wr)
 case atStart=>exact ⟨_,[],l6,_,rfl,vaa _,by simp;omega,HW.out,Row.nil _ _ _ _⟩
 case round=>
  obtain ⟨g,A7,l',v,HG,hg,hacc,hF,Ab⟩:=hrel;have HF:=hid hF;have HO:=hid Ab;have IF:Hid (zll R ts.length wr=l'.length):=hF.rd.left
  obtain ⟨g,rfl⟩:∃ g',g=g'+1:=⟨g - 1,by omega⟩
  clear hF Ab HW;go_wp2_with fail
  cases hs:skB l' zvw with
  | true =>
    refine (zbl R cap a ts l' zvw wr (by decide) HF.out.rd hs).mono ?_;rintro e w7 ⟨rfl,Av,At⟩;have CR:=za0 (by decide) hs;have IW:=At.size;have Gl:=hid (HF.out.keeps At Av);have Iw:=hid (HO.out.keeps At (by omega));obtain ⟨h0,hvw7,h2,h3,h4,h5⟩:=zaa Gl.out.cb;have MB:C<w7.heap.size:=lt_of_heap Gl.out.cb
    have JG:Hid (∀ {b:Nat} {W:World},b<W.heap.size->False->w7.heap.size<=W.heap.size->zg7 w6.heap.size v b):=fun _ h _=>h.elim
    have LI:w6.heap.size<=wr.heap.size:=HF.out.mv.1;clear At Av HF HO;go_wp2_with fail
    cases hx:zd3 l'.tail with
    | none=>
      exact absurd (show zch l=none by rw [Ld.out];unfold pM1;rw [HG.out];unfold zh0;rw [if_pos hs,hx]) Ga.out
    | some r=>
      obtain ⟨y,ly⟩:=r
      have HE:Hid (∀ w',Rd R a cap ts w' l'.tail->qc 196 #[pq R 0] w' fun e Ce=>∃ u,e = .returned u/\(Keeps R w' Ce/\(u = .string y/\y.size<=maxLen)/\Rd R a cap ts Ce ly)):=fun w' h'=>by
       refine (zje R cap a ts _ w' h').mono ?_;rintro e Ce ⟨hk,⟨h,_⟩ | ⟨y',l',u,h,rfl,hr,hd⟩⟩
       . rw [hx] at h;cases h
       . rw [hx] at h
         obtain ⟨rfl,rfl⟩:=vbc (vai h);exact ⟨u,rfl,hk,hr,hd⟩
      have N2:Hid (zh0 zvw (l6.length+1) [] l6=if skB ly zrr then zh0 zvw g (A7++[y]) ly.tail else none):=by show _=_;rw [HG.out];unfold zh0;rw [if_pos hs,hx];cases g<;>rfl
      have Qe:=zjh hx;clear hx;go_wp2_with fail
      go_region_law (first
       | (refine zf6 (by rfl) 196 _ _ (by rfl) z3w _ (by rfl) (HE.out _ Gl.out.rd.drew) ?_
          rintro u8 w8 ⟨BP,⟨rfl,hy8⟩,DL⟩;have IV:w7.heap.size<=w8.heap.size:=BP.size;have Pv:=hid (Gl.out.drew.keeps BP DL);have QH:w8.cell? (qa C 1)=some v:=(BP.cell (show C<w7.heap.size from MB) (by omega)).trans hvw7
          have Q5:C<w8.heap.size:=by omega
          have Iv:Hid (Row w6.heap.size 9 1 w8 v A7.length (zaw A7)):=(Iw.out.keeps (Keeps.refl R w7).drew (by omega)).keeps BP (by omega))
       | (refine zfv (by rfl) _ _ 22 (by rfl) w6.heap.size 9 _ 1 16 Tryz.underlying22 Tryz.infoP9 rfl (by decide) w8 _ A7.length (zaw A7) [.str y] (by rfl) Iv.out #[.string y] _ rfl (by rfl) rfl (fun _=>False) (.cons (z38 hy8) .nil) (fun b hb hA=>?_) (by omega) (by decide) (by omega) ?_
          focus (exact JG.out hb hA IV)
          intro g9 c9 w9 JZ BT Gs;obtain ⟨k0,k1,k2,k3,k4,k5⟩:=zaa (Pv.out.belowB BT (by omega)).cb
          have SO:C<w9.heap.size:=by omega
          have Nq:=hid ((Pv.out.belowB BT (by omega)).put 1 (.slice (some (qa g9 0)) (A7.length+1) c9))
          have JY:=hid (JZ.set (p:=(qa C 1)) (by show C<w6.heap.size;omega) (.slice (some (qa g9 0)) (A7.length+1) c9))))
      all_goals
       clear HE;go_wp2_with fail
       have Gt:(w9.setCell (qa C 1) (.slice (some (qa g9 0)) (A7.length+1) c9)).heap.size=w9.heap.size:=by simp only [vaq]
       generalize w9.setCell (qa C 1) (.slice (some (qa g9 0)) (A7.length+1) c9)=DP at *;refine (zlk R cap _ a ts ly zrr DP (by omega) Nq.out.rd (by decide)).mono ?_;rintro e z1 ⟨ZK,⟨zs,rfl⟩ | ⟨zs,rfl,ZR⟩⟩
       . exact absurd (by rw [Ld.out];unfold pM1;rw [N2.out,if_neg (by simp [zs])]) Ga.out
       have Pp:=hid (Nq.out.keeps ZK ZR);have RK:=hid (JY.out.keeps ZK (by omega));have SV:=za0 (by decide) zs
       have RI:Hid (zh0 zvw (l6.length+1) [] l6=zh0 zvw g (A7++[y]) ly.tail):=by show _=_;rw [N2.out,if_pos zs]
       clear ZK ZR zs N2 Nq JY;go_wp2_with fail;go_roundw
       case rel=>exact ⟨g,A7++[y],ly.tail,_,RI,by simp;omega,by simp;omega,Pp.out,by rw [vak];rw [show zaw (A7++[y])=zaw A7++[.str y] from by simp [zaw]];exact RK.out⟩
       case measure=>rw [Pp.out.rd.left,IF.out];simp;omega
  | false =>
    refine (zcf R cap a ts l' zvw wr HF.out.rd hs).mono ?_;rintro e w7 ⟨rfl,Av,At⟩;have Gl:=hid (HF.out.keeps At Av);have Iw:=hid (HO.out.keeps At (by omega))
    have Hn:Hid (zch l=pM2 nm A7 l'):=by show _=_;rw [Ld.out];unfold pM1;rw [HG.out];unfold zh0;rw [if_neg (by simp [hs])]
    obtain ⟨a7,c7,rfl,hls⟩:=Iw.out.slice;have Hf:Hid (EAt w7 (C<·) a7 A7.length (zaw A7)):=low hls (by omega);have LI:w6.heap.size<=wr.heap.size:=HF.out.mv.1;have IW:=At.size;have HW:=hid Gl.out.restart;have Tq:C<w7.heap.size:=lt_of_heap Gl.out.cb
    have Jw:l'.length<=l.length:=by omega
    clear At Av HF HO hs hls HG Ld Gl Iw IF hacc hg g;generalize FT:A7=us at *;generalize Of:l'=l7 at *;clear FT Of;go_wp2_with fail
    go_loopw [] (fun wr=>∃ (g:Nat) (A7:List De) (l':List Tk) (v:Value),Hid (zmg (l7.length+1) [] l7=zmg g A7 l')/\l'.length+1<=g/\A7.length+l'.length<=l.length/\FSt R a cap ts w w7 C 27 zde #[.string nm,.slice a7 us.length c7,v,qs,qs] wr l'/\Row w7.heap.size 170 4 wr v A7.length (ztj A7)) (fun wr=>zll R ts.length wr)
    case atStart=>exact ⟨_,[],l7,_,rfl,vaa _,by simp;omega,HW.out,Row.nil _ _ _ _⟩
    case round=>
     obtain ⟨g,A7,l',v,HG,hg,hacc,hF,Ab⟩:=hrel;have HF:=hid hF;have HO:=hid Ab;have IF:Hid (zll R ts.length wr=l'.length):=hF.rd.left
     obtain ⟨g,rfl⟩:∃ g',g=g'+1:=⟨g - 1,by omega⟩
     clear hF Ab HW;go_wp2_with fail;refine (zno R cap a ts l' wr HF.out.rd).mono ?_
     cases hs:zlm l' with
     | true=>
       obtain ⟨k,_,hk,_⟩:=HF.out.rd.idx;rw [hk,S9.out k] at hs;cases hs
     | false=>
       rintro e I6 ⟨rfl,hb13⟩;have FP:=hid (HF.out.later hb13);have K5:=hid (HO.out.later hb13)
       have Hs:Hid (zch l=pM3 nm us A7 l'):=by show _=_;rw [Hn.out];unfold pM2;rw [HG.out];unfold zmg;rw [if_neg (by simp [hs])]
       obtain ⟨JH,c13,rfl,hls⟩:=K5.out.slice;have LI:w7.heap.size<=wr.heap.size:=HF.out.mv.1;have PO:=hb13.size;have Lq:Hid (EAt I6 (C<·) JH A7.length (ztj A7)):=low hls (by omega);have JO:Hid (EAt I6 (C<·) a7 us.length (zaw us)):=FP.out.at' Hf.out;have HW:=hid FP.out.restart;have R4:C<I6.heap.size:=lt_of_heap FP.out.cb
       have Jw:l'.length<=l.length:=by omega
       clear hb13 HF HO hs hls HG Hn FP K5 IF hacc hg g Hf;generalize Jq:A7=ds at *;generalize M0:l'=l13 at *;clear Jq M0;go_wp2_with fail
       go_loopw [] (fun wr=>∃ (g:Nat) (A7:List Pr) (l':List Tk) (v:Value),Hid (zj6 (l13.length+1) [] l13=zj6 g A7 l')/\l'.length+1<=g/\A7.length+l'.length<=l.length/\FSt R a cap ts w I6 C 27 zde #[.string nm,.slice a7 us.length c7,.slice JH ds.length c13,v,qs] wr l'/\Row I6.heap.size 118 5 wr v A7.length (znt A7)) (fun wr=>zll R ts.length wr)
       case atStart=>exact ⟨_,[],l13,_,rfl,vaa _,by simp;omega,HW.out,Row.nil _ _ _ _⟩
       case round=>
        obtain ⟨g,A7,l',v,HG,hg,hacc,hF,Ab⟩:=hrel;have HF:=hid hF;have HO:=hid Ab;have IF:Hid (zll R ts.length wr=l'.length):=hF.rd.left
        obtain ⟨g,rfl⟩:∃ g',g=g'+1:=⟨g - 1,by omega⟩
        clear hF Ab HW;go_wp2_with fail
        cases hs:skB l' z06 with
        | false=>
          obtain ⟨k,_,hk,_⟩:=HF.out.rd.idx;exact absurd (show zch l=none by rw [Hs.out];unfold pM3;rw [HG.out];unfold zj6;rw [if_neg (by simp [hs]),hk,RJ.out k]) Ga.out
        | true=>
          refine (zbl R cap a ts l' z06 wr (by decide) HF.out.rd hs).mono ?_;rintro e I5 ⟨rfl,Av,At⟩;have ER:=hid (HF.out.keeps At Av);have K4:=hid (HO.out.keeps At (by omega))
          have Hr:Hid (zch l=(match pB l'.tail with
           | none=>none
           | some (b,l5)=>if skB l5 tRb then some (⟨nm,us,ds,A7,b⟩,l5.tail) else none)):=by show _=_;rw [Hs.out];unfold pM3;rw [HG.out];unfold zj6;rw [if_pos hs];rfl
          obtain ⟨MO,c23,rfl,hls⟩:=K4.out.slice;have LI:I6.heap.size<=wr.heap.size:=HF.out.mv.1;have PN:=At.size;have Lb:Hid (EAt I5 (C<·) MO A7.length (znt A7)):=low hls (by omega);have Hf:Hid (EAt I5 (C<·) a7 us.length (zaw us)):=ER.out.at' JO.out;have Kr:Hid (EAt I5 (C<·) JH ds.length (ztj ds)):=ER.out.at' Lq.out;have HW:=hid ER.out.restart;have R3:C<I5.heap.size:=lt_of_heap ER.out.cb;clear At Av HF HO hs hls HG Hs ER K4 IF JO Lq;go_wp2_with fail;refine (zxt R cap a ts l'.tail I5 HW.out.rd).mono ?_;rintro e Gr ⟨KK,⟨hn,rfl⟩ | ⟨b,l4,v,hn,rfl,⟨a4,c4,rfl,Ah⟩,RD⟩⟩
          . exact absurd (by rw [Hr.out,hn]) Ga.out
          have Hq:Hid (zch l=if skB l4 tRb then some (⟨nm,us,ds,A7,b⟩,l4.tail) else none):=by show _=_;rw [Hr.out,hn]
          have Hx:=hid (HW.out.keeps KK RD);have PM:=KK.size;have Hw:Hid (FSt R a cap ts w I5 C 27 zde #[.string nm,.slice a7 us.length c7,.slice JH ds.length c13,.slice MO A7.length c23,.slice a4 b.length c4] (Gr.setCell (qa C 4) (.slice a4 b.length c4)) l4):=Hx.out.put 4 (.slice a4 b.length c4);have H4:Hid (EAt (Gr.setCell (qa C 4) (.slice a4 b.length c4)) (C<·) a4 b.length (zby b)):=Ah.moves (((zad.refl Gr _).set (fun k _ hk=>by show k≠C;omega) _).trans ⟨vaa _,fun k _ hk=>⟨by omega,rfl⟩⟩);obtain ⟨h0,h1,h2,h3,h4,h5⟩:=zaa Hx.out.cb
          have Q8:C<Gr.heap.size:=by omega
          have PL:(Gr.setCell (qa C 4) (.slice a4 b.length c4)).heap.size=Gr.heap.size:=by simp only [vaq]
          clear KK RD hn Hx HW Ah Hr;go_wp2_with fail;generalize Gr.setCell (qa C 4) (.slice a4 b.length c4)=w25 at *;clear h0 h1 h2 h3 h4 h5;refine (zlk R cap _ a ts l4 tRb w25 (by omega) Hw.out.rd (by decide)).mono ?_;rintro e PG ⟨KK,⟨s1,rfl⟩ | ⟨s1,rfl,RD⟩⟩
          . exact absurd (by rw [Hq.out,if_neg (by simp [s1])]) Ga.out
          have P4:Hid (zch l=some (⟨nm,us,ds,A7,b⟩,l4.tail)):=by show _=_;rw [Hq.out,if_pos s1]
          have Dq:=hid (Hw.out.keeps KK RD);have hm:Hid (zad w25 (C<·) PG (C<·)):=(zad.refl w25 _).keeps KK (fun k _ hk=>by omega);have Nn:=hid (z53 (m:=⟨nm,us,ds,A7,b⟩) Dq.out P4.out Bq (Dq.out.at' Hf.out) (Dq.out.at' Kr.out) (Dq.out.at' Lb.out) (H4.out.moves hm.out));obtain ⟨h0,h1,h2,h3,h4,h5⟩:=zaa Dq.out.cb;obtain ⟨g0,g1,g2,g3,g4,g5⟩:=zaa Dq.out.zb
          have Aj:w.heap.size≠C:=by omega
          clear KK RD Dq Hw H4 hm Hf Kr Lb Hq P4 s1;go_wp2_with fail;refine bodyPost_ret (v:=.agg #[.string nm,.slice a7 us.length c7,.slice JH ds.length c13,.slice MO A7.length c23,.slice a4 b.length c4]) (by simp [results,Tryz.results159,go_sem,g0,g1,g2,g3,g4]) rfl Nn.out
theorem zux (ts:List Tk) (a:OA) (cap:Nat) (w:World) (ht:zcm w a ts) (hl:ts.length<=4096) (hD:∀ k,zlm (ts.drop k)=false) (G4:∀ k,zxv (ts.drop k)=none) (m:Mo) (hA:zch ts=some (m,[])) :
 qc 115 #[.slice a ts.length cap] w fun e w'=>qb w w'/\∃ v,e = .returned (.tuple #[v,.bool true])/\znp (w.heap.size<=·) m w' v:=by
 have HA:=hid hA;have HT:=hid ht
 have Qd:∀ (fn:Fn) (first cap:Array Value) (w:World),(Instr.makeFunc fn first cap).run Tryz.prog w = .ok (.func fn first cap) w:=fun _ _ _ _=>rfl
 clear ht;go_enter_defers Tryz.func115,Tryz.ntmps115;go_wp2_with fail
 obtain ⟨W0,hW0⟩:∃ W0,W0=((w.alloc zde).alloc (.cells #[.bool false] 4)).alloc (.cells #[.slice a ts.length cap,qi 0] 239):=⟨_,rfl⟩
 have Bs:W0.heap.size=w.heap.size+1+1+1:=by rw [hW0];simp
 have Gb:Hid (Pw w W0 #[.string ⟨#[]⟩,qs,qs,qs,qs] false):=by
  rw [hW0];refine ⟨((((Below.refl _ _).alloc (vaa _) _).alloc (by simp) _).alloc (by simp;omega) _),zab (zab (heap_newP _ _)),zab ?_⟩;have:=heap_newP (w.alloc zde) (.cells #[.bool false] 4);simpa using this
 have FI:Hid (Rd (w.heap.size+1+1) a cap ts W0 ts):=by
  refine ⟨⟨0,vae _,rfl,?_⟩,HT.out.later ?_,?_,hl⟩
  . rw [hW0]
    have:=heap_newP ((w.alloc zde).alloc (.cells #[.bool false] 4)) (.cells #[.slice a ts.length cap,qi 0] 239);simpa using this
  . exact Gb.out.below
  . rcases HT.out with h | ⟨b,off,rfl,h⟩
    . exact Or.inl h
    . refine Or.inr fun b' BG e=>?_
      cases e
      have:=h.lt;omega
 rw [← hW0];clear hW0;refine (zuw _ cap a ts ts W0 FI.out hD G4 (by rw [hA];simp)).mono ?_;rintro e w1 ⟨KK,⟨hn,rfl⟩ | ⟨m',l1,v,hn,rfl,⟨a1,c1,a2,c2,a3,c3,a4,c4,rfl,KA,AK,AB,hx3,hx4⟩,RD⟩⟩
 . rw [hA] at hn;cases hn
 obtain ⟨rfl,rfl⟩:=vbc (vai (hA.symm.trans hn));clear hA hD G4;have Bc:=hid (Gb.out.keeps KK (by omega));have Ao:=KK.size;obtain ⟨k,hk,Bm,hRb⟩:=RD.idx
 have QR:w1.cell? ⟨w.heap.size+1+1,0,none⟩=some (.slice a ts.length cap):=by rw [vep hRb];rfl
 have QQ:w1.cell? ⟨w.heap.size+1+1,1,none⟩=some (qi k):=by rw [vep hRb];rfl
 have BM:=hid (Bc.out.put (.string m.name) (.slice a1 m.uses.length c1) (.slice a2 m.decls.length c2) (.slice a3 m.procs.length c3) (.slice a4 m.main.length c4));have Hp:=hid ((BM.out.put (.string m.name) (.slice a1 m.uses.length c1) (.slice a2 m.decls.length c2) (.slice a3 m.procs.length c3) (.slice a4 m.main.length c4)).ok true)
 have EP:Hid (znp (w.heap.size<=·) m ((set5 (set5 w1 w.heap.size (.string m.name) (.slice a1 m.uses.length c1) (.slice a2 m.decls.length c2) (.slice a3 m.procs.length c3) (.slice a4 m.main.length c4)) w.heap.size (.string m.name) (.slice a1 m.uses.length c1) (.slice a2 m.decls.length c2) (.slice a3 m.procs.length c3) (.slice a4 m.main.length c4)).setCell ⟨w.heap.size+1,0,none⟩ (.bool true)) (.agg #[.string m.name,.slice a1 m.uses.length c1,.slice a2 m.decls.length c2,.slice a3 m.procs.length c3,.slice a4 m.main.length c4])):=by
  have hm:zad w1 (W0.heap.size<=·) ((set5 (set5 w1 w.heap.size (.string m.name) (.slice a1 m.uses.length c1) (.slice a2 m.decls.length c2) (.slice a3 m.procs.length c3) (.slice a4 m.main.length c4)) w.heap.size (.string m.name) (.slice a1 m.uses.length c1) (.slice a2 m.decls.length c2) (.slice a3 m.procs.length c3) (.slice a4 m.main.length c4)).setCell ⟨w.heap.size+1,0,none⟩ (.bool true)) (w.heap.size<=·):=
   ((((zad.refl w1 (W0.heap.size<=·)).set5 (b:=w.heap.size) (fun k _ hk=>by omega) (.string m.name) (.slice a1 m.uses.length c1) (.slice a2 m.decls.length c2) (.slice a3 m.procs.length c3) (.slice a4 m.main.length c4)).set5 (b:=w.heap.size) (fun k _ hk=>by omega) (.string m.name) (.slice a1 m.uses.length c1) (.slice a2 m.decls.length c2) (.slice a3 m.procs.length c3) (.slice a4 m.main.length c4)).set (p:=⟨w.heap.size+1,0,none⟩) (fun k _ hk=>by show k≠w.heap.size+1;omega) (.bool true)).trans ⟨vaa _,fun k _ hk=>⟨by omega,rfl⟩⟩
  exact ⟨a1,c1,a2,c2,a3,c3,a4,c4,rfl,KA,AK.moves hm,AB.moves hm,hx3.moves hm,hx4.moves hm⟩
 obtain ⟨h0,h1,h2,h3,h4,h5⟩:=zaa Bc.out.mb;obtain ⟨d0,d1⟩:=Bc.out.ocell
 have Fq:w.heap.size<w1.heap.size:=by omega
 have CL:w.heap.size+1<w1.heap.size:=by omega
 have Jd:w.heap.size+1+1<w1.heap.size:=by omega
 clear KK RD AK AB hx3 hx4 Gb FI HT hRb
 have Bf:¬ k<ts.length:=fun h=>by rw [List.drop_eq_getElem_cons h] at Bm;cases Bm
 have T5:¬ ((k:Int)<(ts.length:Int)):=by omega
 clear hn;go_wp2_with fail;refine leaves_cons (f:=158) (args:=#[pq w.heap.size 0,.pointer (some ⟨w.heap.size+1,0,none⟩)]) (by simp) (by simp [go_sem]) ?_;refine (z7w (qa w.heap.size 0) ⟨w.heap.size+1,0,none⟩ _).mono ?_;rintro e u' Ce ⟨rfl,rfl,rfl⟩;exact ⟨_,Hp.out.resOf _ rfl rfl,Hp.out.below,_,rfl,EP.out⟩
theorem zxw (s:ByteArray) (ts:List Tk) (m:Mo) (w:World) (hs:s.size<=maxLen) (hx:lexT s=ts/\lexE s=0) (hl:ts.length<=4096) (hD:∀ k,zlm (ts.drop k)=false) (G4:∀ k,zxv (ts.drop k)=none) (hA:zch ts=some (m,[])) (hF:Fine m) (hr:m.err=0) :
 qc 55 #[.string s] w fun e w'=>∃ v a1 c1 a2 c2 a3 c3 a4 c4,e = .returned (.tuple #[v,qi 0])/\MoAt w' Tt m v a1 c1 a2 c2 a3 c3 a4 c4/\qb w w':=by
 have HF:=hid hF;have Lb:=hid (fun (W:World) (a:OA) (cap:Nat) (ht:zcm W a ts)=>zux ts a cap W ht hl hD G4 m hA);obtain ⟨AK,AB⟩:=hx;clear hF hl hD G4 hA;go_enter Tryz.func55,Tryz.ntmps55;go_wp2_with fail;refine (z29 s _ hs).mono ?_;rintro e w1 ⟨a,cap,rfl,hT,A5⟩;have HT:=hid hT;have Ao:=A5.size;simp at Ao;have A8:Hid (w1.heap[w.heap.size]? = some zde):=(A5.block w.heap.size (by simp)).trans (heap_newP _ _);have Kv:Hid (qb w w1):=thenB (al1 _ _) A5;clear hT A5;obtain ⟨h0,h1,h2,h3,h4,h5⟩:=zaa A8.out
 have Fq:w.heap.size<w1.heap.size:=by omega
 rw [AB];rw [AK] at HT;rw [AK];clear AK AB;go_wp2_with fail;refine (Lb.out w1 a cap HT.out).mono ?_;rintro e w2 ⟨Aa,v,rfl,hM⟩;have HM:=hid hM;obtain ⟨a1,c1,a2,c2,a3,c3,a4,c4,rfl,_⟩:=hM;have NB:=hid (thenB Kv.out Aa);have AA:=Aa.size;have Ad:Hid (w2.heap[w.heap.size]? = some zde):=(Aa.block w.heap.size Fq).trans A8.out
 have OI:∀ W,qb w2 W->qc 112 #[.agg #[.string m.name,.slice a1 m.uses.length c1,.slice a2 m.decls.length c2,.slice a3 m.procs.length c3,.slice a4 m.main.length c4]] W fun e w'=>e = .returned (qi m.err)/\qb W w':=fun W hW=>by
  obtain ⟨b1,d1,b2,d2,b3,d3,b4,d4,hA⟩:=z56 (HM.out.moves (zad.of_below hW _)) HF.out;exact zmp m _ _ _ _ _ _ _ _ _ W hA
 have Ku:=hid OI;clear h0 h1 h2 h3 h4 h5 Aa OI
 have CL:w.heap.size<w2.heap.size:=by omega
 go_wp2_with fail;refine (Ku.out _ (al1 _ _)).mono ?_;rintro e w3 ⟨rfl,A9⟩;have BO:=A9.size;simp at BO;have Af:Hid (w3.heap[w.heap.size]? = some zde):=(A9.block w.heap.size (by simp;omega)).trans (zab Ad.out);have L5:Hid (w3.heap[w2.heap.size]? = some (.cells #[.string m.name,.slice a1 m.uses.length c1,.slice a2 m.decls.length c2,.slice a3 m.procs.length c3,.slice a4 m.main.length c4] 27 (0,0))):=(A9.block w2.heap.size (by simp)).trans (heap_newP _ _);have NA:=hid (thenB NB.out (thenB (al1 _ _) A9));have EP:Hid (znp (w1.heap.size<=·) m w3 (.agg #[.string m.name,.slice a1 m.uses.length c1,.slice a2 m.decls.length c2,.slice a3 m.procs.length c3,.slice a4 m.main.length c4])):=HM.out.moves ((zad.of_below (al1 _ _) _).trans (zad.of_below A9 _));obtain ⟨h0,h1,h2,h3,h4,h5⟩:=zaa Af.out;obtain ⟨g0,g1,g2,g3,g4,g5⟩:=zaa L5.out
 have Jd:w.heap.size<w3.heap.size:=by omega
 have LS:w2.heap.size<w3.heap.size:=by omega
 clear A9 Ku HM Ad;have Gq:=hid (zuv NA.out (vaa _) (.string m.name) (.slice a1 m.uses.length c1) (.slice a2 m.decls.length c2) (.slice a3 m.procs.length c3) (.slice a4 m.main.length c4));have Li:=hid (z56 (EP.out.moves (((zad.refl w3 (w1.heap.size<=·)).set5 (b:=w.heap.size) (fun k _ hk=>by omega) (.string m.name) (.slice a1 m.uses.length c1) (.slice a2 m.decls.length c2) (.slice a3 m.procs.length c3) (.slice a4 m.main.length c4)))) HF.out)
 have SK:(m.err == 0)=true:=by simp [hr]
 rw [hr];go_wp2_with fail;refine bodyPost_ret (v:=.tuple #[.agg #[.string m.name,.slice a1 m.uses.length c1,.slice a2 m.decls.length c2,.slice a3 m.procs.length c3,.slice a4 m.main.length c4],qi 0]) (by simp [results,Tryz.results55,go_sem,h0,h1,h2,h3,h4]) rfl ?_;obtain ⟨b1,d1,b2,d2,b3,d3,b4,d4,hA⟩:=Li.out;exact ⟨_,b1,d1,b2,d2,b3,d3,b4,d4,rfl,hA,Gq.out⟩
mutual
def D.fineB:D->Bool
 | .int n=>(Lit.int .i64 n).wf
 | .str _=>true
 | .bool _=>true
 | .list n ds=>decide (n<=ds.length)&&(decide (ds.length<=17592186044416)&&ztc ds)
def ztc:List D->Bool
 | []=>true
 | d :: ds=>d.fineB&&ztc ds
end
mutual
theorem z32:∀ d:D,d.fineB=true->d.fine
 | .int _,h=>by unfold D.fineB at h;unfold D.fine;exact h
 | .str _,_=>by unfold D.fine;trivial
 | .bool _,_=>by unfold D.fine;trivial
 | .list n ds,h=>by
   unfold D.fineB at h;unfold D.fine;simp only [vab,decide_eq_true_eq] at h;exact ⟨h.1,h.2.1,ze5 ds h.2.2⟩
theorem ze5:∀ l:List D,ztc l=true->D.fines l
 | [],_=>by unfold D.fines;trivial
 | d :: ds,h=>by
   unfold ztc at h;unfold D.fines;rw [vab] at h;exact ⟨z32 d h.1,ze5 ds h.2⟩
end
theorem zxx:Fine zln:=⟨by decide,by decide,by decide,by decide,ze5 _ (by kernel_rfl),ze5 _ (by kernel_rfl),ze5 _ (by kernel_rfl)⟩
theorem ztd {α β:Type} [DecidableEq β] (f:List α->β) (x:β) (l:List α) (h:((List.range (l.length+1)).all fun k=>decide (f (l.drop k)=x))=true) (k:Nat):f (l.drop k)=x:=by
 by_cases hk:k<l.length+1
 . exact of_decide_eq_true (var.1 h k (List.mem_range.2 hk))
 . have:=of_decide_eq_true (var.1 h l.length (List.mem_range.2 (by omega)))
   rw [vct (vaa _)] at this
   rw [vct (by omega)];exact this
theorem z0m {α β:Type} (f:List α->Option β) (l:List α) (h:((List.range (l.length+1)).all fun k=>(f (l.drop k)).isNone)=true) (k:Nat):f (l.drop k)=none:=
 Option.isNone_iff_eq_none.1 (by have:=ztd (fun l=>(f l).isNone) true l (by simpa using h) k;exact this)
theorem zxy (w:World):qc 55 #[.string z3x] w fun e w'=>∃ v a1 c1 a2 c2 a3 c3 a4 c4,e = .returned (.tuple #[v,qi 0])/\MoAt w' Tt zln v a1 c1 a2 c2 a3 c3 a4 c4/\qb w w':=
 zxw z3x z57 zln w (by decide) z0l (by decide) (ztd zlm false z57 (by kernel_rfl)) (z0m zxv z57 (by kernel_rfl)) (by kernel_rfl) zxx z3z
end Go.Proofs.YtndkhgakfodldaaGreatDoor
