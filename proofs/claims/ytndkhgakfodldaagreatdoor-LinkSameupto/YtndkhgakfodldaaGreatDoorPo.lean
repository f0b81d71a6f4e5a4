import Derived.Test.YtndkhgakfodldaaGreatDoorPm
import Derived.Test.YtndkhgakfodldaaGreatDoorLex
set_option maxRecDepth 100000
set_option maxHeartbeats 16000000
open Go.Proofs.Tryz
namespace Go.Proofs.YtndkhgakfodldaaGreatDoor
open Go.RowKit Go.Shelf
variable {A:Nat->Prop} {M w:World} {b:Bool} {cs:Array Value} {m:ec} {v af a4 am a5 ax:Value}
abbrev IK:Value:=.agg #[.string ⟨#[]⟩,dt,dt,dt,dt]
structure Pw (w W:World) (cs:Array Value) (ok:Bool):Prop where
 below:dm w W
 mb:W.heap[w.heap.size]? = some (.cells cs 27 (0,0))
 ob:W.heap[w.heap.size+1]? = some (.cells #[.bool ok] 4 (0,0))
theorem Pw.ocell {ok:Bool} (h:Pw w M cs ok):M.cell? ⟨w.heap.size+1,0,none⟩=some (.bool ok)/\M.frozen? ⟨w.heap.size+1,0,none⟩=false:=by
 refine ⟨by rw [eZ h.ob];rfl,?_⟩;unfold World.frozen?;simp only;rw [h.ob];simp
theorem Pw.put {ok:Bool} (h:Pw w M #[af,a4,am,a5,ax] ok) (aw aF aM bl a8:Value):Pw w (set5 M w.heap.size aw aF aM bl a8) #[aw,aF,aM,bl,a8] ok:=by
 refine ⟨((((h.below.setCell (p:=(dj w.heap.size 0)) (dA _) _).setCell (p:=(dj w.heap.size 1)) (dA _) _).setCell (p:=(dj w.heap.size 2)) (dA _) _).setCell (p:=(dj w.heap.size 3)) (dA _) _).setCell (p:=(dj w.heap.size 4)) (dA _) _,?_,?_⟩
 . exact heap_set (heap_set (heap_set (heap_set (heap_set h.mb _) _) _) _) _
 . have e:w.heap.size+1≠w.heap.size:=by omega
   exact (eh (p:=(dj w.heap.size 4)) e _).trans ((eh (p:=(dj w.heap.size 3)) e _).trans ((eh (p:=(dj w.heap.size 2)) e _).trans ((eh (p:=(dj w.heap.size 1)) e _).trans ((eh (p:=(dj w.heap.size 0)) e _).trans h.ob))))
theorem Pw.ok (h:Pw w M cs b) (b':Bool):Pw w (M.setCell ⟨w.heap.size+1,0,none⟩ (.bool b')) cs b':=
 ⟨h.below.setCell (p:=⟨w.heap.size+1,0,none⟩) (rT _) _,(eh OI _).trans h.mb,heap_set h.ob _⟩
theorem Pw.keeps {c:World} {R:Nat} (h:Pw w M cs b) (N:dK R M c) (H:w.heap.size+2<=R):Pw w c cs b:=
 ⟨⟨N.os.trans h.below.os,N.tape.trans h.below.tape,N.output.trans h.below.output,fZ h.below.size N.size,fun k Q=>(N.block k (e4 Q h.below.size) N7).trans (h.below.block k Q)⟩,(N.block _ (lt_of_heap h.mb) N7).trans h.mb,(N.block _ (lt_of_heap h.ob) N7).trans h.ob⟩
theorem Pw.resOf {ok:Bool} (h:Pw w M #[af,a4,am,a5,ax] ok) (t:Array Value) (J:t.getD 2 undef=dF w.heap.size 0) (U:t.getD 3 undef = .pointer (some ⟨w.heap.size+1,0,none⟩)) :
 (results Tryz.f115 t).run prog M = .ok (.tuple #[.agg #[af,a4,am,a5,ax],.bool ok]) M:=by
 obtain ⟨bt,ah,ae,c3,K,_⟩:=ep h.mb;obtain ⟨bE,_⟩:=h.ocell
 have b:t[2]?.getD undef=dF w.heap.size 0:=Pg
 have i:t[3]?.getD undef = .pointer (some ⟨w.heap.size+1,0,none⟩):=Qm
 simp [results,results115,go_sem,b,i,bt,ah,ae,c3,K,bE]
theorem IL (w M:World) (af a4 am a5 ax:Value) (ok:Bool) (u:TypeId) (io:Value) (older:List PanicEntry) (h:Pw w M #[af,a4,am,a5,ax] ok) :
 CallsD prog 158 #[dF w.heap.size 0,.pointer (some ⟨w.heap.size+1,0,none⟩)] (.panicking ({ v:=.iface u io,recovered:=false } :: older)) M fun e S G=>
  e = .returned (.tuple #[])/\S = .panicking ({ v:=.iface u io,recovered:=true } :: older)/\Pw w G #[.string ⟨#[]⟩,dt,dt,dt,dt] false:=by
 have b:=(h.put (.string ⟨#[]⟩) (dt) (dt) (dt) (dt)).ok false;obtain ⟨bt,ah,ae,c3,K,av⟩:=ep h.mb;obtain ⟨bE,aT⟩:=(h.put (.string ⟨#[]⟩) (dt) (dt) (dt) (dt)).ocell
 refine callsD_of_wpS func158 rfl fun a cs aL=>?_
 apply wpS_seq
 apply wpS_region
 simp [wpOpsS,go_sem,recoverD,aL,ntmps158,Exit.thenS];refine wpS_cond (t:=true) Pn ?_;simp only [if_true]
 apply wpS_region
 simp [wpOpsS,go_sem,bt,ah,ae,c3,K,av,bE,aT,bodyPostS,results,results158];exact b
theorem IM (p q:Addr) (w:World) :
 CallsD prog 158 #[.pointer (some p),.pointer (some q)] .returning w fun e S G=>e = .returned (.tuple #[])/\S = .returning/\G=w:=by
 refine callsD_of_wpS func158 rfl fun a cs aL=>?_
 apply wpS_seq
 apply wpS_region
 simp [wpOpsS,go_sem,recoverD,aL,ntmps158,Exit.thenS];refine wpS_cond (t:=false) Pn ?_;simp only [qA,if_false];refine wpS_of_wp (wp_skip ?_)
 cases a
 simp_all [bodyPostS,results,results158]
theorem Pw.caught {ok:Bool} (h:Pw w M #[af,a4,am,a5,ax] ok) {R:Ending->World->Prop} (t:Array Value)
 (J:t.getD 2 undef=dF w.heap.size 0) (U:t.getD 3 undef = .pointer (some ⟨w.heap.size+1,0,none⟩))
 (H:∀ c,dm w c->R (.returned (.tuple #[IK,.bool false])) c) :
 Leaves prog Tryz.f115 t R [{ target:=Target.fn (Fn.func 158) #[Value.pointer (some (dj w.heap.size 0)),Value.pointer (some ⟨w.heap.size+1,0,none⟩)],args:=#[] }] (.panicking iQ) M:=by
 refine leaves_cons (f:=158) (args:=#[dF w.heap.size 0,.pointer (some ⟨w.heap.size+1,0,none⟩)]) Ob O5 ?_;refine (IL w M af a4 am a5 ax ok 31 (di 1) [] h).mono ?_;rintro e S a7 ⟨rfl,rfl,aA⟩;exact ⟨_,aA.resOf t J U,H a7 aA.below⟩
theorem BM (h:ox A m w v) (Y:wK m):∃ E ah a0 ae a6 c3 c K,gS w dQ m v E ah a0 ae a6 c3 c K:=by
 obtain ⟨E,ah,a0,ae,a6,c3,c,K,rfl,ab,F,J,U,aa⟩:=h
 have a1:dU w A w dQ:=⟨dA _,fun _ _ _=>⟨trivial,rfl⟩⟩
 have j:(lb m.decls).length=4*m.decls.length:=by
  have:∀ g:List gG,(lb g).length=4*g.length:=by
   intro g
   induction g with
   | nil=>rfl
   | cons x r ay=>
     show (x.ds++lb r).length=_;rw [eM,ay]
     simp [gG.ds];omega
  exact this _
 have D:(jq m.procs).length=5*m.procs.length:=by
  have:∀ g:List fa,(jq g).length=5*g.length:=by
   intro g
   induction g with
   | nil=>rfl
   | cons x r ay=>
     show (x.ds++jq r).length=_;rw [eM,ay]
     simp [fa.ds];omega
  exact this _
 have a9:=Y.uses;have au:=Y.decls;have bn:=Y.procs;have aH:=Y.main;exact ⟨E,ah,a0,ae,a6,c3,c,K,rfl,ab,(F.moves a1).toD (by simp [eH]) (by simp [eH];omega) (AL _),(J.moves a1).toD (by rw [j];omega) (by rw [j];omega) Y.fd,(U.moves a1).toD (by rw [D];omega) (by rw [D];omega) Y.fp,(aa.moves a1).toD (by rw [wJ];omega) (by rw [wJ];omega) Y.fm⟩
theorem IO {B b:Nat} {a:World} (h:Below B a w) (I:B<=b) (aw aF aM bl a8:Value):Below B a (set5 w b aw aF aM bl a8):=
 ((((h.setCell (p:=(dj b 0)) I _).setCell (p:=(dj b 1)) I _).setCell (p:=(dj b 2)) I _).setCell (p:=(dj b 3)) I _).setCell (p:=(dj b 4)) I _
theorem ox.moves {A':Nat->Prop} {G:World} (h:ox A m w v) (a1:dU w A G A'):ox A' m G v:=by
 obtain ⟨E,ah,a0,ae,a6,c3,c,K,rfl,ab,F,J,U,aa⟩:=h;exact ⟨E,ah,a0,ae,a6,c3,c,K,rfl,ab,F.moves a1,J.moves a1,U.moves a1,aa.moves a1⟩
end Go.Proofs.YtndkhgakfodldaaGreatDoor

namespace Go.Proofs.YtndkhgakfodldaaGreatDoor
open Go.RowKit
def oy:ec:=⟨⟨#[99,110,116]⟩,[],[⟨1,⟨#[107]⟩,true,3⟩,⟨2,⟨#[115,117,109]⟩,true,0⟩,⟨3,⟨#[116]⟩,true,4⟩],
 [⟨⟨#[100,111,119,110]⟩,true,[⟨#[110]⟩],[⟨#[105]⟩],
   [.mk 1 ⟨#[]⟩ ⟨#[105]⟩ [.mk 3 0 ⟨#[]⟩ ⟨#[110]⟩ []] [] [],
    .mk 5 ⟨#[]⟩ ⟨#[]⟩ [.mk 3 0 ⟨#[]⟩ ⟨#[105]⟩ []]
     [.mk 1 ⟨#[]⟩ ⟨#[115,117,109]⟩ [.mk 9 0 ⟨#[]⟩ ⟨#[]⟩ [.mk 3 0 ⟨#[]⟩ ⟨#[115,117,109]⟩ [],.mk 3 0 ⟨#[]⟩ ⟨#[105]⟩ []]] [] [],
      .mk 1 ⟨#[]⟩ ⟨#[105]⟩ [.mk 10 0 ⟨#[]⟩ ⟨#[]⟩ [.mk 3 0 ⟨#[]⟩ ⟨#[105]⟩ [],.mk 1 1 ⟨#[]⟩ ⟨#[]⟩ []]] [] []] [],
    .mk 6 ⟨#[]⟩ ⟨#[]⟩ [.mk 3 0 ⟨#[]⟩ ⟨#[115,117,109]⟩ []] [] []]⟩],[]⟩
def qu:ByteArray:=⟨#[109,111,100,117,108,101,32,116,111,112,123,117,115,101,32,99,110,116,59,109,97,105,110,123,99,110,116,46,116,91,49,93,61,99,110,116,46,100,111,119,110,40,99,110,116,46,107,41,59,111,117,116,32,99,110,116,46,116,91,105,110,93,59,105,102,40,99,110,116,46,115,117,109,61,54,41,123,111,117,116,32,55,59,125,101,108,115,101,123,111,117,116,32,56,59,125,125,125]⟩
def nA:List Tk:=[⟨1,0,⟨#[109,111,100,117,108,101]⟩⟩,⟨1,0,⟨#[116,111,112]⟩⟩,⟨3,0,⟨#[123]⟩⟩,⟨1,0,⟨#[117,115,101]⟩⟩,⟨1,0,⟨#[99,110,116]⟩⟩,⟨3,0,⟨#[59]⟩⟩,⟨1,0,⟨#[109,97,105,110]⟩⟩,⟨3,0,⟨#[123]⟩⟩,⟨1,0,⟨#[99,110,116]⟩⟩,⟨3,0,⟨#[46]⟩⟩,⟨1,0,⟨#[116]⟩⟩,⟨3,0,⟨#[91]⟩⟩,⟨2,1,⟨#[]⟩⟩,⟨3,0,⟨#[93]⟩⟩,⟨3,0,⟨#[61]⟩⟩,⟨1,0,⟨#[99,110,116]⟩⟩,⟨3,0,⟨#[46]⟩⟩,⟨1,0,⟨#[100,111,119,110]⟩⟩,⟨3,0,⟨#[40]⟩⟩,⟨1,0,⟨#[99,110,116]⟩⟩,⟨3,0,⟨#[46]⟩⟩,⟨1,0,⟨#[107]⟩⟩,⟨3,0,⟨#[41]⟩⟩,⟨3,0,⟨#[59]⟩⟩,⟨1,0,⟨#[111,117,116]⟩⟩,⟨1,0,⟨#[99,110,116]⟩⟩,⟨3,0,⟨#[46]⟩⟩,⟨1,0,⟨#[116]⟩⟩,⟨3,0,⟨#[91]⟩⟩,⟨1,0,⟨#[105,110]⟩⟩,⟨3,0,⟨#[93]⟩⟩,⟨3,0,⟨#[59]⟩⟩,⟨1,0,⟨#[105,102]⟩⟩,⟨3,0,⟨#[40]⟩⟩,⟨1,0,⟨#[99,110,116]⟩⟩,⟨3,0,⟨#[46]⟩⟩,⟨1,0,⟨#[115,117,109]⟩⟩,⟨3,0,⟨#[61]⟩⟩,⟨2,6,⟨#[]⟩⟩,⟨3,0,⟨#[41]⟩⟩,⟨3,0,⟨#[123]⟩⟩,⟨1,0,⟨#[111,117,116]⟩⟩,⟨2,7,⟨#[]⟩⟩,⟨3,0,⟨#[59]⟩⟩,⟨3,0,⟨#[125]⟩⟩,⟨1,0,⟨#[101,108,115,101]⟩⟩,⟨3,0,⟨#[123]⟩⟩,⟨1,0,⟨#[111,117,116]⟩⟩,⟨2,8,⟨#[]⟩⟩,⟨3,0,⟨#[59]⟩⟩,⟨3,0,⟨#[125]⟩⟩,⟨3,0,⟨#[125]⟩⟩,⟨3,0,⟨#[125]⟩⟩]
theorem IP:hJ qu 0=some nA:=by
 rw [← AK 98 qu 0 N9]
 kernel_rfl
theorem IQ:jV qu=nA/\kZ qu=0:=AH N9 IP
def nB:ec:=⟨⟨#[116,111,112]⟩,[⟨#[99,110,116]⟩],[],[],[.mk 2 ⟨#[99,110,116]⟩ ⟨#[116]⟩ [.mk 1 1 ⟨#[]⟩ ⟨#[]⟩ [],.mk 5 0 ⟨#[99,110,116]⟩ ⟨#[100,111,119,110]⟩ [.mk 3 0 ⟨#[99,110,116]⟩ ⟨#[107]⟩ []]] [] [],
 .mk 7 ⟨#[]⟩ ⟨#[]⟩ [.mk 4 0 ⟨#[99,110,116]⟩ ⟨#[116]⟩ [.mk 2 0 ⟨#[]⟩ ⟨#[]⟩ []]] [] [],
 .mk 4 ⟨#[]⟩ ⟨#[]⟩ [.mk 14 0 ⟨#[]⟩ ⟨#[]⟩ [.mk 3 0 ⟨#[99,110,116]⟩ ⟨#[115,117,109]⟩ [],.mk 1 6 ⟨#[]⟩ ⟨#[]⟩ []]] [.mk 7 ⟨#[]⟩ ⟨#[]⟩ [.mk 1 7 ⟨#[]⟩ ⟨#[]⟩ []] [] []] [.mk 7 ⟨#[]⟩ ⟨#[]⟩ [.mk 1 8 ⟨#[]⟩ ⟨#[]⟩ []] [] []]]⟩
theorem IR:nB.err=0:=by kernel_rfl
def ja (w:World):List (Array Value × TypeId)->World
 | []=>w
 | x :: r=>ja (w.alloc (.cells x.1 x.2)) r
theorem uL:∀ (g:List (Array Value × TypeId)) (w:World),dm w (ja w g)
 | [],_=>Below.refl _ _
 | _ :: r,w=>dp (dn w _) (uL r _)
theorem jZ:∀ (w:World) (g:List (Array Value × TypeId)) (i:Nat) (cs:Array Value) (n:TypeId),g[i]? = some (cs,n)->dV (ja w g) (w.heap.size+i) cs.toList
 | w,[],i,cs,n,h=>Pq
 | w,x :: r,0,cs,n,h=>by
   simp at h;subst h;exact (dV.new w cs n).later (uL r _)
 | w,x :: r,i+1,cs,n,h=>by
   have:=jZ (w.alloc (.cells x.1 x.2)) r i cs n OU;rw [show w.heap.size+(i+1)=(w.alloc (.cells x.1 x.2)).heap.size+i from Of];exact this
theorem j0 {w:World} {b n:Nat} {ds:List D} {cs:List Value} (h:dV w b cs) (hd:eu w dQ ds cs) (F:n<=ds.length) (J:ds.length<=1000):dx w dQ (some (dj b 0)) n ds:=
 ⟨F,N7,Or.inr ⟨b,0,cs,rfl,trivial,h.lt,fun j u a2=>by rw [fY];exact h.cell j u a2,hd⟩⟩
def jD (n:Nat):List (Array Value × TypeId):=
 [(#[.string ⟨#[99,110,116]⟩,dt,.slice (some ⟨n+1,0,none⟩) 3 3,.slice (some ⟨n+13,0,none⟩) 1 1,dt],27),
  (#[di 1,.string ⟨#[107]⟩,.bool true,di 3,di 2,.string ⟨#[115,117,109]⟩,.bool true,di 0,di 3,.string ⟨#[116]⟩,.bool true,di 4],170),
  (#[.string ⟨#[110]⟩],9),
  (#[.string ⟨#[105]⟩],9),
  (#[di 3,di 0,.string ⟨#[]⟩,.string ⟨#[110]⟩,dt],174),
  (#[di 3,di 0,.string ⟨#[]⟩,.string ⟨#[105]⟩,dt],174),
  (#[di 3,di 0,.string ⟨#[]⟩,.string ⟨#[115,117,109]⟩,dt,di 3,di 0,.string ⟨#[]⟩,.string ⟨#[105]⟩,dt],174),
  (#[di 9,di 0,.string ⟨#[]⟩,.string ⟨#[]⟩,.slice (some ⟨n+6,0,none⟩) 2 2],174),
  (#[di 3,di 0,.string ⟨#[]⟩,.string ⟨#[105]⟩,dt,di 1,di 1,.string ⟨#[]⟩,.string ⟨#[]⟩,dt],174),
  (#[di 10,di 0,.string ⟨#[]⟩,.string ⟨#[]⟩,.slice (some ⟨n+8,0,none⟩) 2 2],174),
  (#[di 1,.string ⟨#[]⟩,.string ⟨#[115,117,109]⟩,.slice (some ⟨n+7,0,none⟩) 1 1,dt,dt,di 1,.string ⟨#[]⟩,.string ⟨#[105]⟩,.slice (some ⟨n+9,0,none⟩) 1 1,dt,dt],176),
  (#[di 3,di 0,.string ⟨#[]⟩,.string ⟨#[115,117,109]⟩,dt],174),
  (#[di 1,.string ⟨#[]⟩,.string ⟨#[105]⟩,.slice (some ⟨n+4,0,none⟩) 1 1,dt,dt,di 5,.string ⟨#[]⟩,.string ⟨#[]⟩,.slice (some ⟨n+5,0,none⟩) 1 1,.slice (some ⟨n+10,0,none⟩) 2 2,dt,di 6,.string ⟨#[]⟩,.string ⟨#[]⟩,.slice (some ⟨n+11,0,none⟩) 1 1,dt,dt],176),
  (#[.string ⟨#[100,111,119,110]⟩,.bool true,.slice (some ⟨n+2,0,none⟩) 1 1,.slice (some ⟨n+3,0,none⟩) 1 1,.slice (some ⟨n+12,0,none⟩) 3 3],118)]
def IU:List St:=(oy.procs.map fa.body).flatten
theorem IV (w:World):gS (ja w (jD w.heap.size)) dQ oy (.agg #[.string ⟨#[99,110,116]⟩,dt,.slice (some ⟨w.heap.size+1,0,none⟩) 3 3,.slice (some ⟨w.heap.size+13,0,none⟩) 1 1,dt]) none 0 (some ⟨w.heap.size+1,0,none⟩) 3 (some ⟨w.heap.size+13,0,none⟩) 1 none 0:=by
 have aT:dx (ja w (jD w.heap.size)) dQ (some ⟨w.heap.size+1,0,none⟩) 3 (lb oy.decls):=by
  refine j0 (jZ w _ 1 _ _ rfl) ?_ N9 N9;exact .cons (eY rfl) (.cons (fz N9) (.cons (ve) (.cons (eY rfl) (.cons (eY rfl) (.cons (fz N9) (.cons (ve) (.cons (eY rfl) (.cons (eY rfl) (.cons (fz N9) (.cons (ve) (.cons (eY rfl) (.nil))))))))))))
 have aU:dx (ja w (jD w.heap.size)) dQ (some ⟨w.heap.size+2,0,none⟩) 1 (eH [⟨#[110]⟩]):=by
  refine j0 (jZ w _ 2 _ _ rfl) ?_ N9 N9;exact .cons (fz N9) (.nil)
 have bh:dx (ja w (jD w.heap.size)) dQ (some ⟨w.heap.size+3,0,none⟩) 1 (eH [⟨#[105]⟩]):=by
  refine j0 (jZ w _ 3 _ _ rfl) ?_ N9 N9;exact .cons (fz N9) (.nil)
 have a3:dx (ja w (jD w.heap.size)) dQ (some ⟨w.heap.size+4,0,none⟩) 1 (eV [.mk 3 0 ⟨#[]⟩ ⟨#[110]⟩ []]):=by
  refine j0 (jZ w _ 4 _ _ rfl) ?_ N9 N9;exact Rv
 have bp:dx (ja w (jD w.heap.size)) dQ (some ⟨w.heap.size+5,0,none⟩) 1 (eV [.mk 3 0 ⟨#[]⟩ ⟨#[105]⟩ []]):=by
  refine j0 (jZ w _ 5 _ _ rfl) ?_ N9 N9;exact Rv
 have bL:dx (ja w (jD w.heap.size)) dQ (some ⟨w.heap.size+6,0,none⟩) 2 (eV [.mk 3 0 ⟨#[]⟩ ⟨#[115,117,109]⟩ [],.mk 3 0 ⟨#[]⟩ ⟨#[105]⟩ []]):=by
  refine j0 (jZ w _ 6 _ _ rfl) ?_ N9 N9;exact Rx
 have c:dx (ja w (jD w.heap.size)) dQ (some ⟨w.heap.size+7,0,none⟩) 1 (eV [.mk 9 0 ⟨#[]⟩ ⟨#[]⟩ [.mk 3 0 ⟨#[]⟩ ⟨#[115,117,109]⟩ [],.mk 3 0 ⟨#[]⟩ ⟨#[105]⟩ []]]):=by
  refine j0 (jZ w _ 7 _ _ rfl) ?_ N9 N9;exact .cons (eY rfl) (.cons (eY rfl) (.cons (fz N9) (.cons (fz N9) (.cons (bL.val) (.nil)))))
 have b:dx (ja w (jD w.heap.size)) dQ (some ⟨w.heap.size+8,0,none⟩) 2 (eV [.mk 3 0 ⟨#[]⟩ ⟨#[105]⟩ [],.mk 1 1 ⟨#[]⟩ ⟨#[]⟩ []]):=by
  refine j0 (jZ w _ 8 _ _ rfl) ?_ N9 N9;exact Rx
 have f:dx (ja w (jD w.heap.size)) dQ (some ⟨w.heap.size+9,0,none⟩) 1 (eV [.mk 10 0 ⟨#[]⟩ ⟨#[]⟩ [.mk 3 0 ⟨#[]⟩ ⟨#[105]⟩ [],.mk 1 1 ⟨#[]⟩ ⟨#[]⟩ []]]):=by
  refine j0 (jZ w _ 9 _ _ rfl) ?_ N9 N9;exact .cons (eY rfl) (.cons (eY rfl) (.cons (fz N9) (.cons (fz N9) (.cons (b.val) (.nil)))))
 have g:dx (ja w (jD w.heap.size)) dQ (some ⟨w.heap.size+10,0,none⟩) 2 (eE [.mk 1 ⟨#[]⟩ ⟨#[115,117,109]⟩ [.mk 9 0 ⟨#[]⟩ ⟨#[]⟩ [.mk 3 0 ⟨#[]⟩ ⟨#[115,117,109]⟩ [],.mk 3 0 ⟨#[]⟩ ⟨#[105]⟩ []]] [] [],.mk 1 ⟨#[]⟩ ⟨#[105]⟩ [.mk 10 0 ⟨#[]⟩ ⟨#[]⟩ [.mk 3 0 ⟨#[]⟩ ⟨#[105]⟩ [],.mk 1 1 ⟨#[]⟩ ⟨#[]⟩ []]] [] []]):=by
  refine j0 (jZ w _ 10 _ _ rfl) ?_ N9 N9;exact .cons (eY rfl) (.cons (fz N9) (.cons (fz N9) (.cons (c.val) (.cons (jc) (.cons (jc) (.cons (eY rfl) (.cons (fz N9) (.cons (fz N9) (.cons (f.val) (.cons (jc) (.cons (jc) (.nil))))))))))))
 have e:dx (ja w (jD w.heap.size)) dQ (some ⟨w.heap.size+11,0,none⟩) 1 (eV [.mk 3 0 ⟨#[]⟩ ⟨#[115,117,109]⟩ []]):=by
  refine j0 (jZ w _ 11 _ _ rfl) ?_ N9 N9;exact Rv
 have a:dx (ja w (jD w.heap.size)) dQ (some ⟨w.heap.size+12,0,none⟩) 3 (eE IU):=by
  refine j0 (jZ w _ 12 _ _ rfl) ?_ N9 N9;exact .cons (eY rfl) (.cons (fz N9) (.cons (fz N9) (.cons (a3.val) (.cons (jc) (.cons (jc) (.cons (eY rfl) (.cons (fz N9) (.cons (fz N9) (.cons (bp.val) (.cons (g.val) (.cons (jc) (.cons (eY rfl) (.cons (fz N9) (.cons (fz N9) (.cons (e.val) (.cons (jc) (.cons (jc) (.nil))))))))))))))))))
 have d:dx (ja w (jD w.heap.size)) dQ (some ⟨w.heap.size+13,0,none⟩) 1 (jq oy.procs):=by
  refine j0 (jZ w _ 13 _ _ rfl) ?_ N9 N9;exact .cons (fz N9) (.cons (ve) (.cons (aU.val) (.cons (bh.val) (.cons (a.val) (.nil)))))
 exact ⟨rfl,N9,⟨dA _,N9,Or.inl rfl⟩,aT,d,⟨dA _,N9,Or.inl rfl⟩⟩
theorem IW (w:World) :
 dw 54 #[] w fun e G=>∃ v E ah a0 ae a6 c3 c K,e = .returned v/\gS G dQ oy v E ah a0 ae a6 c3 c K/\dm w G:=by
 have L:=hid (IV w);go_enter func54,ntmps54;go_wp2_with fail;show bodyPost _ _ _ _ _ (ja w (jD w.heap.size));obtain ⟨ab,F,J,U,aa,ac⟩:=(jZ w (jD w.heap.size) 0 _ _ rfl).c5;rw [gQ] at ab F J U aa ac;have ag:=uL (jD w.heap.size) w;have L:=L.out;generalize ja w (jD w.heap.size)=M at *;exact bodyPost_ret (v:=.agg #[.string ⟨#[99,110,116]⟩,dt,.slice (some ⟨w.heap.size+1,0,none⟩) 3 3,.slice (some ⟨w.heap.size+13,0,none⟩) 1 1,dt]) (by simp [results,results54,go_sem,ab,F,J,U,aa]) rfl ⟨_,_,_,_,_,_,_,_,_,rfl,L,ag⟩
theorem IX (w:World):dw 56 #[] w fun e G=>e = .returned (.string qu)/\G=w:=by
 go_enter func56,ntmps56;exact RJ
end Go.Proofs.YtndkhgakfodldaaGreatDoor

namespace Go.Proofs.YtndkhgakfodldaaGreatDoor
open Go.RowKit Go.Shelf
theorem IY (R q:Nat) (a:OA) (d:List Tk) (ai:ko d) (l:List Tk) (w:World) (h:dH R a q d w l) (an:∀ k,nz (d.drop k)=false) (y:∀ k,sV (d.drop k)=none) (aE:kH l≠none) :
 dw 159 #[dF R 0] w (fL R a q d w (kH l) (ox (w.heap.size<=·))):=by
 have z:Hid (dH R a q d w l):=h;have ad:=h.lt
 have bb:l.length<=4096:=by
  exact R8
 have t:=hid (II l);have bo:=hid an;have bl:=hid y;have aT:=hid aE;clear an y aE;clear h;go_enter func159,ntmps159;go_wp2_with fail
 obtain ⟨w2,a6⟩:∃ w2,w2=(w.alloc jY).alloc jY:=⟨_,rfl⟩
 have bA:w2.heap.size=w.heap.size+1+1:=by rw [a6];simp
 have x:Hid (gD R a q d w w2 (w.heap.size+1) 27 jY #[.string ⟨#[]⟩,dt,dt,dt,dt] w2 l):=
  ⟨by rw [a6];exact (z.alloc _).alloc _,by rw [a6];exact ((dK.refl R w).alloc _).alloc _,by rw [a6];exact eR (dX _ _),by rw [a6];have:=dX (w.alloc jY) jY;simpa using this,dU.refl _ _,ad,N7,N7,l,z⟩
 rw [← a6];clear a6;generalize bj:w.heap.size+1=j at *;refine (nv R q _ a d l xY w2 bA.symm x.rd N9).mono ?_;rintro e dC ⟨n,⟨ay,rfl⟩ | ⟨ay,rfl,RD⟩⟩
 . exact absurd (by rw [t.out,if_neg Qf]) aT
 have ag:=hid (x.keeps n RD);have bX:=n.size;have bf:=f9 N9 ay;clear RD n x;go_wp2_with fail;refine (uF R q a d l.tail dC ag.rd).mono ?_;rintro e dD ⟨n,⟨Z,rfl⟩ | ⟨s,l4,v,Z,rfl,⟨rfl,bF⟩,RD⟩⟩
 . exact absurd (by rw [t.out,if_pos ay,Z]) aT
 have br:Hid (kH l=if dG l4 sa then qt s l4.tail else none):=by show _=_;rw [t.out,if_pos ay,Z]
 have T:=hid (ag.keeps n RD);have bv:=n.size;have b8:=vk Z;clear RD n ag Z ay t;have aQ:=hid (T.put 0 (.string s))
 have bV:(dD.setCell (dj j 0) (.string s)).heap.size=dD.heap.size:=O9
 obtain ⟨ab,F,J,U,aa,aB⟩:=ep T.cb;have bh:j<dD.heap.size:=lt_of_heap T.cb;go_wp2_with fail;generalize dD.setCell (dj j 0) (.string s)=dJ at *;clear ab F J U aa aB T;refine (nv R q _ a d l4 sa dJ N7 aQ.rd N9).mono ?_;rintro e eD ⟨n,⟨ay,rfl⟩ | ⟨ay,rfl,RD⟩⟩
 . exact absurd (by rw [br.out,if_neg Qf]) aT
 have am:Hid (kH l=qt s l4.tail):=by show _=_;rw [br.out,if_pos ay]
 have aj:Hid (gD R a q d w w2 j 27 jY #[.string s,dt,dt,dt,dt] eD l4.tail):=aQ.keeps n RD;have cc:=n.size;have aV:=f9 N9 ay;clear RD n aQ ay br;generalize bH:l4.tail=l6 at *
 have c0:l6.length<l.length:=N7
 have aS:=hid aj.restart;have bK:j<eD.heap.size:=lt_of_heap aj.cb;have bT:w2.heap.size<=eD.heap.size:=aj.mv.1;clear aj bH bf b8 aV;go_wp2_with fail
 go_loopw [] (fun wr=>∃ (al:Nat) (H:List ByteArray) (L:List Tk) (v:Value),Hid (lA mS (l6.length+1) [] l6=lA mS al H L)/\L.length+1<=al/\H.length+L.length<=l.length/\gD R a q d w eD j 27 jY #[.string s,v,dt,dt,dt] wr L/\Row eD.heap.size 9 1 wr v H.length (eH H)) (fun wr=>ny R d.length wr)
 case atStart=>exact ⟨_,[],l6,_,rfl,dA _,Of,aS,Row.nil _ _ _ _⟩
 case round=>
  obtain ⟨al,H,L,v,bz,ak,hacc,b7,b5⟩:=hrel;have aD:=hid b7;have P:=hid b5;have O:Hid (ny R d.length wr=L.length):=b7.rd.left
  obtain ⟨al,rfl⟩:∃ ac,al=ac+1:=⟨al - 1,N7⟩
  clear b7 b5 aS;go_wp2_with fail
  cases a8:dG L mS with
  | true =>
    refine (lx R q a d L mS wr N9 aD.rd a8).mono ?_;rintro e eP ⟨rfl,b3,i⟩;have bf:=f9 N9 a8;have cd:=i.size;have f:=hid (aD.keeps i b3);have aK:=hid (P.keeps i N7);obtain ⟨ab,hvw7,J,U,aa,aB⟩:=ep f.cb;have bG:j<eP.heap.size:=lt_of_heap f.cb
    have bD:Hid (∀ {b:Nat} {M:World},b<M.heap.size->False->eP.heap.size<=M.heap.size->ow eD.heap.size v b):=fun _ h _=>h.elim
    have aA:eD.heap.size<=wr.heap.size:=aD.mv.1;clear i b3 aD P;go_wp2_with fail
    cases S:iw L.tail with
    | none=>
      exact absurd (show kH l=none by rw [am.out];unfold qt;rw [bz.out];unfold lA;rw [if_pos a8,S]) aT
    | some r=>
      obtain ⟨a3,ly⟩:=r
      have aP:Hid (∀ G,dH R a q d G L.tail->dw 196 #[dF R 0] G fun e a7=>∃ u,e = .returned u/\(dK R G a7/\(u = .string a3/\a3.size<=maxLen)/\dH R a q d a7 ly)):=fun G a5=>by
       refine (uF R q a d _ G a5).mono ?_;exact Ri
      have aJ:Hid (lA mS (l6.length+1) [] l6=if dG ly nI then lA mS al (H++[a3]) ly.tail else none):=by show _=_;rw [bz.out];unfold lA;rw [if_pos a8,S];cases al<;>rfl
      have bu:=vk S;clear S;go_wp2_with fail
      go_region_law (first
       | (refine uI Oq 196 _ _ Oq IH _ Oq (aP _ f.rd.drew) ?_
          rintro u8 bw ⟨o,⟨rfl,hy8⟩,ae⟩;have cl:eP.heap.size<=bw.heap.size:=o.size;have b4:=hid (f.drew.keeps o ae);have bJ:bw.cell? (dj j 1)=some v:=(o.cell (show j<eP.heap.size from bG) N7).trans hvw7
          have bk:j<bw.heap.size:=N7
          have aN:Hid (Row eD.heap.size 9 1 bw v H.length (eH H)):=(aK.keeps (dK.refl R eP).drew N7).keeps o N7)
       | (refine BB Oq _ _ 22 Oq eD.heap.size 9 _ 1 16 Tryz.underlying22 Tryz.infoP9 rfl N9 bw _ H.length (eH H) [.str a3] Oq aN #[.string a3] _ rfl Oq rfl (fun _=>False) (.cons (qG hy8) .nil) (fun b I aO=>?_) N7 N9 N7 ?_
          focus (exact bD I aO cl)
          intro E aw ar aM p bm;obtain ⟨g,a9,au,bn,aH,k5⟩:=ep (b4.belowB p N7).cb
          have bQ:j<ar.heap.size:=N7
          have az:=hid ((b4.belowB p N7).put 1 (.slice (some (dj E 0)) (H.length+1) aw))
          have aY:=hid (aM.set (p:=(dj j 1)) (by show j<eD.heap.size;omega) (.slice (some (dj E 0)) (H.length+1) aw))))
      all_goals
       clear aP;go_wp2_with fail
       have aR:(ar.setCell (dj j 1) (.slice (some (dj E 0)) (H.length+1) aw)).heap.size=ar.heap.size:=O9
       generalize ar.setCell (dj j 1) (.slice (some (dj E 0)) (H.length+1) aw)=a2 at *;refine (nv R q _ a d ly nI a2 N7 az.rd N9).mono ?_;rintro e be ⟨av,⟨X,rfl⟩ | ⟨X,rfl,ZR⟩⟩
       . exact absurd (by rw [am.out];unfold qt;rw [aJ.out,if_neg (by simp [X])]) aT
       have b9:=hid (az.keeps av ZR);have bt:=hid (aY.keeps av N7);have bW:=f9 N9 X
       have bp:Hid (lA mS (l6.length+1) [] l6=lA mS al (H++[a3]) ly.tail):=by show _=_;rw [aJ.out,if_pos X]
       clear av ZR X aJ az aY;go_wp2_with fail;go_roundw
       case rel=>exact ⟨al,H++[a3],ly.tail,_,bp,Of,Of,b9,by rw [eM];rw [show eH (H++[a3])=eH H++[.str a3] from by simp [eH]];exact bt⟩
       case measure=>rw [b9.out.rd.left,O.out];simp;omega
  | false =>
    refine (kE R q a d L mS wr aD.rd a8).mono ?_;rintro e eP ⟨rfl,b3,i⟩;have f:=hid (aD.keeps i b3);have aK:=hid (P.keeps i N7)
    have ap:Hid (kH l=uK s H L):=by show _=_;rw [am.out];unfold qt;rw [bz.out];unfold lA;rw [if_neg (by simp [a8])]
    obtain ⟨B,aq,rfl,hls⟩:=aK.slice;have bi:Hid (ee eP (j<·) B H.length (eH H)):=xg hls N7;have aA:eD.heap.size<=wr.heap.size:=aD.mv.1;have cd:=i.size;have aS:=hid f.restart;have bY:j<eP.heap.size:=lt_of_heap f.cb
    have bB:L.length<=l.length:=N7
    clear i b3 aD P a8 hls bz am f aK O hacc ak al;generalize aF:H=m at *;generalize b0:L=l7 at *;clear aF b0;go_wp2_with fail
    go_loopw [] (fun wr=>∃ (al:Nat) (H:List gG) (L:List Tk) (v:Value),Hid (rH (l7.length+1) [] l7=rH al H L)/\L.length+1<=al/\H.length+L.length<=l.length/\gD R a q d w eP j 27 jY #[.string s,.slice B m.length aq,v,dt,dt] wr L/\Row eP.heap.size 170 4 wr v H.length (lb H)) (fun wr=>ny R d.length wr)
    case atStart=>exact ⟨_,[],l7,_,rfl,dA _,Of,aS,Row.nil _ _ _ _⟩
    case round=>
     obtain ⟨al,H,L,v,bz,ak,hacc,b7,b5⟩:=hrel;have aD:=hid b7;have P:=hid b5;have O:Hid (ny R d.length wr=L.length):=b7.rd.left
     obtain ⟨al,rfl⟩:∃ ac,al=ac+1:=⟨al - 1,N7⟩
     clear b7 b5 aS;go_wp2_with fail;refine (IG R q a d L wr aD.rd).mono ?_
     cases a8:nz L with
     | true=>
       obtain ⟨k,_,N,_⟩:=aD.rd.idx;rw [N,bo.out k] at a8;cases a8
     | false=>
       rintro e W ⟨rfl,hb13⟩;have ah:=hid (aD.later hb13);have b6:=hid (P.later hb13)
       have aG:Hid (kH l=sW s m H L):=by show _=_;rw [ap.out];unfold uK;rw [bz.out];unfold rH;rw [if_neg (by simp [a8])]
       obtain ⟨a0,c13,rfl,hls⟩:=b6.slice;have aA:eP.heap.size<=wr.heap.size:=aD.mv.1;have bN:=hb13.size;have ba:Hid (ee W (j<·) a0 H.length (lb H)):=xg hls N7;have b1:Hid (ee W (j<·) B m.length (eH m)):=ah.at' bi;have aS:=hid ah.restart;have bR:j<W.heap.size:=lt_of_heap ah.cb
       have bB:L.length<=l.length:=N7
       clear hb13 aD P a8 hls bz ap ah b6 O hacc ak al bi;generalize af:H=Y at *;generalize bq:L=l13 at *;clear af bq;go_wp2_with fail
       go_loopw [] (fun wr=>∃ (al:Nat) (H:List fa) (L:List Tk) (v:Value),Hid (qs (l13.length+1) [] l13=qs al H L)/\L.length+1<=al/\H.length+L.length<=l.length/\gD R a q d w W j 27 jY #[.string s,.slice B m.length aq,.slice a0 Y.length c13,v,dt] wr L/\Row W.heap.size 118 5 wr v H.length (jq H)) (fun wr=>ny R d.length wr)
       case atStart=>exact ⟨_,[],l13,_,rfl,dA _,Of,aS,Row.nil _ _ _ _⟩
       case round=>
        obtain ⟨al,H,L,v,bz,ak,hacc,b7,b5⟩:=hrel;have aD:=hid b7;have P:=hid b5;have O:Hid (ny R d.length wr=L.length):=b7.rd.left
        obtain ⟨al,rfl⟩:∃ ac,al=ac+1:=⟨al - 1,N7⟩
        clear b7 b5 aS;go_wp2_with fail
        cases a8:dG L x7 with
        | false=>
          obtain ⟨k,_,N,_⟩:=aD.rd.idx;exact absurd (show kH l=none by rw [aG.out];unfold sW;rw [bz.out];unfold qs;rw [if_neg (by simp [a8]),N,bl.out k]) aT
        | true=>
          refine (lx R q a d L x7 wr N9 aD.rd a8).mono ?_;rintro e D ⟨rfl,b3,i⟩;have a4:=hid (aD.keeps i b3);have aZ:=hid (P.keeps i N7)
          have aI:Hid (kH l=(match pB L.tail with
           | none=>none
           | some (b,l5)=>if dG l5 oM then some (⟨s,m,Y,H,b⟩,l5.tail) else none)):=by show _=_;rw [aG.out];unfold sW;rw [bz.out];unfold qs;rw [if_pos a8];rfl
          obtain ⟨ax,c23,rfl,hls⟩:=aZ.slice;have aA:W.heap.size<=wr.heap.size:=aD.mv.1;have bP:=i.size;have ao:Hid (ee D (j<·) ax H.length (jq H)):=xg hls N7;have bi:Hid (ee D (j<·) B m.length (eH m)):=a4.at' b1;have b2:Hid (ee D (j<·) a0 Y.length (lb Y)):=a4.at' ba;have aS:=hid a4.restart;have bO:j<D.heap.size:=lt_of_heap a4.cb;clear i b3 aD P a8 hls bz aG a4 aZ O b1 ba;go_wp2_with fail;refine (ID R q a d ai L.tail D aS.rd).mono ?_;rintro e C ⟨n,⟨Z,rfl⟩ | ⟨b,l4,v,Z,rfl,⟨c,K,rfl,bc⟩,RD⟩⟩
          . exact absurd (by rw [aI.out,Z]) aT
          have aL:Hid (kH l=if dG l4 oM then some (⟨s,m,Y,H,b⟩,l4.tail) else none):=by show _=_;rw [aI.out,Z]
          have aU:=hid (aS.keeps n RD);have bZ:=n.size;have aW:Hid (gD R a q d w D j 27 jY #[.string s,.slice B m.length aq,.slice a0 Y.length c13,.slice ax H.length c23,.slice c b.length K] (C.setCell (dj j 4) (.slice c b.length K)) l4):=aU.put 4 (.slice c b.length K);have V:Hid (ee (C.setCell (dj j 4) (.slice c b.length K)) (j<·) c b.length (eE b)):=bc.moves (((dU.refl C _).set (fun k _ N=>by show k≠j;omega) _).trans ⟨dA _,fun k _ N=>⟨N7,rfl⟩⟩);obtain ⟨ab,F,J,U,aa,aB⟩:=ep aU.cb
          have c1:j<C.heap.size:=N7
          have c2:(C.setCell (dj j 4) (.slice c b.length K)).heap.size=C.heap.size:=O9
          clear n RD Z aU aS bc aI;go_wp2_with fail;generalize C.setCell (dj j 4) (.slice c b.length K)=w25 at *;clear ab F J U aa aB;refine (nv R q _ a d l4 oM w25 N7 aW.rd N9).mono ?_;rintro e bC ⟨n,⟨ay,rfl⟩ | ⟨ay,rfl,RD⟩⟩
          . exact absurd (by rw [aL.out,if_neg Qf]) aT
          have bg:Hid (kH l=some (⟨s,m,Y,H,b⟩,l4.tail)):=by show _=_;rw [aL.out,if_pos ay]
          have A:=hid (aW.keeps n RD);have a1:Hid (dU w25 (j<·) bC (j<·)):=(dU.refl w25 _).keeps n (fun k _ N=>N7);have bx:=hid (IJ (m:=⟨s,m,Y,H,b⟩) A bg bF (A.at' bi) (A.at' b2) (A.at' ao) (V.moves a1));obtain ⟨ab,F,J,U,aa,aB⟩:=ep A.cb;obtain ⟨bU,bd,bs,bI,bM,bL⟩:=ep A.zb
          have aX:w.heap.size≠j:=N7
          clear n RD A aW V a1 bi b2 ao aL bg ay;go_wp2_with fail;refine bodyPost_ret (v:=.agg #[.string s,.slice B m.length aq,.slice a0 Y.length c13,.slice ax H.length c23,.slice c b.length K]) (by simp [results,results159,go_sem,bU,bd,bs,bI,bM]) rfl bx
theorem IZ (d:List Tk) (ai:ko d) (a:OA) (q:Nat) (w:World) (ax:i8 w a d) (X:d.length<=4096) (an:∀ k,nz (d.drop k)=false) (y:∀ k,sV (d.drop k)=none) (m:ec) (aO:kH d=some (m,[])) :
 dw 115 #[.slice a d.length q] w fun e G=>dm w G/\∃ v,e = .returned (.tuple #[v,.bool true])/\ox (w.heap.size<=·) m G v:=by
 have aR:=hid aO;have aM:=hid ax
 have x:∀ (a2:Fn) (first q:Array Value) (w:World),(Instr.makeFunc a2 first q).run prog w = .ok (.func a2 first q) w:=fun _ _ _ _=>rfl
 clear ax;go_enter_defers func115,ntmps115;go_wp2_with fail
 obtain ⟨i,hW0⟩:∃ i,i=((w.alloc jY).alloc (.cells #[.bool false] 4)).alloc (.cells #[.slice a d.length q,di 0] 239):=⟨_,rfl⟩
 have a9:i.heap.size=w.heap.size+1+1+1:=by rw [hW0];simp
 have t:Hid (Pw w i #[.string ⟨#[]⟩,dt,dt,dt,dt] false):=by
  rw [hW0];refine ⟨((((Below.refl _ _).alloc (dA _) _).alloc Ob _).alloc Of _),eR (eR (dX _ _)),eR ?_⟩;have:=dX (w.alloc jY) (.cells #[.bool false] 4);exact S2
 have aI:Hid (dH (w.heap.size+1+1) a q d i d):=by
  refine ⟨⟨0,dY _,rfl,?_⟩,aM.later ?_,?_,X⟩
  . rw [hW0]
    have:=dX ((w.alloc jY).alloc (.cells #[.bool false] 4)) (.cells #[.slice a d.length q,di 0] 239);exact S2
  . exact t.below
  . rcases aM.out with h | ⟨b,C,rfl,h⟩
    . exact Or.inl h
    . refine Or.inr fun aL c0 e=>?_
      cases e
      have:=h.lt;omega
 rw [← hW0];clear hW0;refine (IY _ q a d ai d i aI an y (by rw [aO];simp)).mono ?_;rintro e dk ⟨n,⟨Z,rfl⟩ | ⟨j,P,v,Z,rfl,⟨E,ah,a0,ae,a6,c3,c,K,rfl,ck,a4,am,hx3,a5⟩,RD⟩⟩
 . rw [aO] at Z;cases Z
 obtain ⟨rfl,rfl⟩:=g0 (eX (aO.symm.trans Z));clear aO an y;have f:=hid (t.keeps n N7);have ba:=n.size;obtain ⟨k,N,aY,hRb⟩:=RD.idx
 have r:dk.cell? ⟨w.heap.size+1+1,0,none⟩=some (.slice a d.length q):=by rw [eZ hRb];rfl
 have p:dk.cell? ⟨w.heap.size+1+1,1,none⟩=some (di k):=by rw [eZ hRb];rfl
 have g:=hid (f.put (.string m.name) (.slice E m.uses.length ah) (.slice a0 m.decls.length ae) (.slice a6 m.procs.length c3) (.slice c m.main.length K));have l:=hid ((g.put (.string m.name) (.slice E m.uses.length ah) (.slice a0 m.decls.length ae) (.slice a6 m.procs.length c3) (.slice c m.main.length K)).ok true)
 have bc:Hid (ox (w.heap.size<=·) m ((set5 (set5 dk w.heap.size (.string m.name) (.slice E m.uses.length ah) (.slice a0 m.decls.length ae) (.slice a6 m.procs.length c3) (.slice c m.main.length K)) w.heap.size (.string m.name) (.slice E m.uses.length ah) (.slice a0 m.decls.length ae) (.slice a6 m.procs.length c3) (.slice c m.main.length K)).setCell ⟨w.heap.size+1,0,none⟩ (.bool true)) (.agg #[.string m.name,.slice E m.uses.length ah,.slice a0 m.decls.length ae,.slice a6 m.procs.length c3,.slice c m.main.length K])):=by
  have a1:dU dk (i.heap.size<=·) ((set5 (set5 dk w.heap.size (.string m.name) (.slice E m.uses.length ah) (.slice a0 m.decls.length ae) (.slice a6 m.procs.length c3) (.slice c m.main.length K)) w.heap.size (.string m.name) (.slice E m.uses.length ah) (.slice a0 m.decls.length ae) (.slice a6 m.procs.length c3) (.slice c m.main.length K)).setCell ⟨w.heap.size+1,0,none⟩ (.bool true)) (w.heap.size<=·):=
   ((((dU.refl dk (i.heap.size<=·)).set5 (b:=w.heap.size) (fun k _ N=>N7) (.string m.name) (.slice E m.uses.length ah) (.slice a0 m.decls.length ae) (.slice a6 m.procs.length c3) (.slice c m.main.length K)).set5 (b:=w.heap.size) (fun k _ N=>N7) (.string m.name) (.slice E m.uses.length ah) (.slice a0 m.decls.length ae) (.slice a6 m.procs.length c3) (.slice c m.main.length K)).set (p:=⟨w.heap.size+1,0,none⟩) (fun k _ N=>by show k≠w.heap.size+1;omega) (.bool true)).trans ⟨dA _,fun k _ N=>⟨N7,rfl⟩⟩
  exact ⟨E,ah,a0,ae,a6,c3,c,K,rfl,ck,a4.moves a1,am.moves a1,hx3.moves a1,a5.moves a1⟩
 obtain ⟨ab,F,J,U,aa,aB⟩:=ep f.mb;obtain ⟨bE,aT⟩:=f.ocell
 have o:w.heap.size<dk.heap.size:=N7
 have be:w.heap.size+1<dk.heap.size:=N7
 have R:w.heap.size+1+1<dk.heap.size:=N7
 clear n RD a4 am hx3 a5 t aI aM hRb
 have ag:¬ k<d.length:=fun h=>by rw [qw h] at aY;cases aY
 have s:¬ ((k:Int)<(d.length:Int)):=N7
 clear Z;go_wp2_with fail;refine leaves_cons (f:=158) (args:=#[dF w.heap.size 0,.pointer (some ⟨w.heap.size+1,0,none⟩)]) Ob O5 ?_;refine (IM (dj w.heap.size 0) ⟨w.heap.size+1,0,none⟩ _).mono ?_;rintro e S a7 ⟨rfl,rfl,rfl⟩;exact ⟨_,l.resOf _ rfl rfl,l.below,_,rfl,bc⟩
theorem I0 (s:ByteArray) (d:List Tk) (ai:ko d) (m:ec) (w:World) (a8:s.size<=maxLen) (S:jV s=d/\kZ s=0) (X:d.length<=4096) (an:∀ k,nz (d.drop k)=false) (y:∀ k,sV (d.drop k)=none) (aO:kH d=some (m,[])) (b7:wK m) (Q:m.err=0) :
 dw 55 #[.string s] w fun e G=>∃ v E ah a0 ae a6 c3 c K,e = .returned (.tuple #[v,di 0])/\gS G dQ m v E ah a0 ae a6 c3 c K/\dm w G:=by
 have aD:=hid b7;have ao:=hid (fun (M:World) (a:OA) (q:Nat) (ax:i8 M a d)=>IZ d ai a q M ax X an y m aO);obtain ⟨a4,am⟩:=S;clear b7 X an y aO ai;go_enter func55,ntmps55;go_wp2_with fail;refine (Gi s _ a8).mono ?_;rintro e dk ⟨a,q,rfl,H,aq⟩;have aM:=hid H;have ba:=aq.size;simp at ba;have B:Hid (dk.heap[w.heap.size]? = some jY):=(aq.block w.heap.size Ob).trans (dX _ _);have b9:Hid (dm w dk):=dp (dn _ _) aq;clear H aq;obtain ⟨ab,F,J,U,aa,aB⟩:=ep B
 have o:w.heap.size<dk.heap.size:=N7
 rw [am];rw [a4] at aM;rw [a4];clear a4 am;go_wp2_with fail;refine (ao dk a q aM).mono ?_;rintro e w2 ⟨aN,v,rfl,a7⟩;have L:=hid a7;obtain ⟨E,ah,a0,ae,a6,c3,c,K,rfl,_⟩:=a7;have h:=hid (dp b9 aN);have bA:=aN.size;have O:Hid (w2.heap[w.heap.size]? = some jY):=(aN.block w.heap.size o).trans B
 have b:∀ M,dm w2 M->dw 112 #[.agg #[.string m.name,.slice E m.uses.length ah,.slice a0 m.decls.length ae,.slice a6 m.procs.length c3,.slice c m.main.length K]] M fun e G=>e = .returned (di m.err)/\dm M G:=fun M ai=>by
  obtain ⟨bt,aT,bv,aU,aR,bh,u,a3,aO⟩:=BM (L.moves (dU.of_below ai _)) aD;exact Cw m _ _ _ _ _ _ _ _ _ M aO (Cv Q)
 have g:=hid b;clear ab F J U aa aB aN b
 have be:w.heap.size<w2.heap.size:=N7
 go_wp2_with fail;refine (g _ (dn _ _)).mono ?_;rintro e dC ⟨rfl,T⟩;have bX:=T.size;simp at bX;have t:Hid (dC.heap[w.heap.size]? = some jY):=(T.block w.heap.size Of).trans (eR O);have a1:Hid (dC.heap[w2.heap.size]? = some (.cells #[.string m.name,.slice E m.uses.length ah,.slice a0 m.decls.length ae,.slice a6 m.procs.length c3,.slice c m.main.length K] 27 (0,0))):=(T.block w2.heap.size Ob).trans (dX _ _);have f:=hid (dp h (dp (dn _ _) T));have bc:Hid (ox (dk.heap.size<=·) m dC (.agg #[.string m.name,.slice E m.uses.length ah,.slice a0 m.decls.length ae,.slice a6 m.procs.length c3,.slice c m.main.length K])):=L.moves ((dU.of_below (dn _ _) _).trans (dU.of_below T _));obtain ⟨ab,F,J,U,aa,aB⟩:=ep t;obtain ⟨bU,bd,bs,bI,bM,bL⟩:=ep a1
 have R:w.heap.size<dC.heap.size:=N7
 have z:w2.heap.size<dC.heap.size:=N7
 clear T g L O;have V:=hid (IO f (dA _) (.string m.name) (.slice E m.uses.length ah) (.slice a0 m.decls.length ae) (.slice a6 m.procs.length c3) (.slice c m.main.length K));have i:=hid (BM (bc.moves (((dU.refl dC (dk.heap.size<=·)).set5 (b:=w.heap.size) (fun k _ N=>N7) (.string m.name) (.slice E m.uses.length ah) (.slice a0 m.decls.length ae) (.slice a6 m.procs.length c3) (.slice c m.main.length K)))) aD)
 have j:(m.err == 0)=true:=by simp [Q]
 rw [Q];go_wp2_with fail;refine bodyPost_ret (v:=.tuple #[.agg #[.string m.name,.slice E m.uses.length ah,.slice a0 m.decls.length ae,.slice a6 m.procs.length c3,.slice c m.main.length K],di 0]) (by simp [results,results55,go_sem,ab,F,J,U,aa]) rfl ?_;obtain ⟨bt,aT,bv,aU,aR,bh,u,a3,aO⟩:=i.out;exact ⟨_,bt,aT,bv,aU,aR,bh,u,a3,rfl,aO,V⟩
mutual
def D.fineB:D->Bool
 | .int n=>(Lit.int .i64 n).wf
 | .str _=>true
 | .bool _=>true
 | .list n Y=>decide (n<=Y.length)&&(decide (Y.length<=17592186044416)&&uM Y)
def uM:List D->Bool
 | []=>true
 | d :: Y=>d.fineB&&uM Y
end
mutual
theorem I1:∀ d:D,d.fineB=true->d.fine
 | .int _,h=>by unfold D.fineB at h;unfold D.fine;exact h
 | .str _,_=>by unfold D.fine;trivial
 | .bool _,_=>by unfold D.fine;trivial
 | .list n Y,h=>by
   unfold D.fineB at h;unfold D.fine;simp only [dO,decide_eq_true_eq] at h;exact ⟨h.1,h.2.1,qv Y h.2.2⟩
theorem qv:∀ g:List D,uM g=true->D.fines g
 | [],_=>by unfold D.fines;trivial
 | d :: Y,h=>by
   unfold uM at h;unfold D.fines;rw [dO] at h;exact ⟨I1 d h.1,qv Y h.2⟩
end
variable {α β:Type}
theorem I2:wK nB:=⟨N9,N9,N9,N9,qv _ (by kernel_rfl),qv _ (by kernel_rfl),qv _ (by kernel_rfl)⟩
theorem rI [DecidableEq β] (f:List α->β) (x:β) (l:List α) (h:((List.range (l.length+1)).all fun k=>decide (f (l.drop k)=x))=true) (k:Nat):f (l.drop k)=x:=by
 by_cases N:k<l.length+1
 . exact of_decide_eq_true (e1.1 h k (s3.2 N))
 . have:=of_decide_eq_true (e1.1 h l.length (s3.2 N7))
   rw [rM (dA _)] at this
   rw [rM N7];exact this
theorem I3:ko nA:=⟨rI (fun g=>dG g sd) false nA (by kernel_rfl),rI (fun g=>dG g sb) false nA (by kernel_rfl),rI (fun g=>dG g oK) false nA (by kernel_rfl),rI (fun g=>dG g oL) false nA (by kernel_rfl)⟩
theorem I4 (f:List α->Option β) (l:List α) (h:((List.range (l.length+1)).all fun k=>(f (l.drop k)).isNone)=true) (k:Nat):f (l.drop k)=none:=
 Option.isNone_iff_eq_none.1 (by have:=rI (fun l=>(f l).isNone) true l OU k;exact this)
theorem I5 (w:World):dw 55 #[.string qu] w fun e G=>∃ v E ah a0 ae a6 c3 c K,e = .returned (.tuple #[v,di 0])/\gS G dQ nB v E ah a0 ae a6 c3 c K/\dm w G:=
 I0 qu nA I3 nB w N9 IQ N9 (rI nz false nA (by kernel_rfl)) (I4 sV nA (by kernel_rfl)) (by kernel_rfl) I2 IR
end Go.Proofs.YtndkhgakfodldaaGreatDoor
