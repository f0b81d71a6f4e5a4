import Derived.Test.YtndkhgakfodldaaGreatDoorBc
import Derived.Test.YtndkhgakfodldaaGreatDoorUt
namespace Go.Proofs.YtndkhgakfodldaaGreatDoor
set_option maxRecDepth 100000
set_option maxHeartbeats 1600000
open Go.RowKit Go.Shelf
set_option linter.unusedSimpArgs false
set_option linter.unusedVariables false
section
variable {α:Type} {p:L8->Option (α × L8)} {A7:List α} {n:Nat} {l r:L8} {i:α}
end
theorem str_one (x:ByteArray):∀ u ∈ (#[Value.string x]:Array Value).toList,u.oneCell'=true:=by simp;rfl
theorem int_one (x:Int):∀ u ∈ (#[Value.int .i64 x]:Array Value).toList,u.oneCell'=true:=by simp;rfl
set_option maxHeartbeats 12800000
abbrev zC:Obj:=kzD ⟨#[]⟩ none 0 0 0 none 0 0 none 0 0 none 0 0 0
abbrev zV:Value:=.agg #[.string ⟨#[]⟩,qs,qi 0,qs,qs,qs,qi 0]
structure OvLo (w:World) (lo:Nat) (o:Ob) (x1:OA) (x3:OA) (x4:OA) (x5:OA):Prop where
 wn:o.name.size<=maxLen
 uses:DAt w (lo<=·) x1 o.uses.length (zaw o.uses)
 wd:(Lit.int .i64 o.data).wf=true
 code:DAt w (lo<=·) x3 o.code.length (zvt o.code)
 fixes:DAt w (lo<=·) x4 o.fixes.length (z19 o.fixes)
 entries:DAt w (lo<=·) x5 o.entries.length (zfm o.entries)
 wm:(Lit.int .i64 o.main).wf=true
theorem OvLo.moves {w w':World} {lo lo':Nat} {o:Ob} {x1 x3 x4 x5:OA} (h:OvLo w lo o x1 x3 x4 x5) (m:zad w (lo<=·) w' (lo'<=·)):OvLo w' lo' o x1 x3 x4 x5:=
 ⟨h.wn,h.uses.moves m,h.wd,h.code.moves m,h.fixes.moves m,h.entries.moves m,h.wm⟩
theorem OvLo.ov {w:World} {lo:Nat} {o:Ob} {x1 x3 x4 x5:OA} (h:OvLo w lo o x1 x3 x4 x5):OvAt w o x1 x3 x4 x5:=
 have m:zad w (lo<=·) w Tt:=⟨vaa _,fun b hb _=>⟨trivial,rfl⟩⟩
 ⟨h.wn,h.uses.moves m,h.wd,h.code.moves m,h.fixes.moves m,h.entries.moves m,h.wm⟩
set_option maxHeartbeats 6400000
def noneO (w:World) (b:Nat):World:=((((((((w.alloc zC).setCell (qa b 0) (.string ⟨#[]⟩)).setCell (qa b 1) (qs)).setCell (qa b 2) (qi 0)).setCell (qa b 3) (qs)).setCell (qa b 4) (qs)).setCell (qa b 5) (qs)).setCell (qa b 6) (qi 0)).setCell ⟨b+1,0,none⟩ (.bool false)
def z7a (w:World) (b:Nat) (x0 x1 x2 x3 x4 x5 x6:Value):World:=(((((((w.setCell (qa b 0) (x0)).setCell (qa b 1) (x1)).setCell (qa b 2) (x2)).setCell (qa b 3) (x3)).setCell (qa b 4) (x4)).setCell (qa b 5) (x5)).setCell (qa b 6) (x6))
theorem z7b {w:World} {b:Nat} {y0 y1 y2 y3 y4 y5 y6:Value} {t:TypeId} {f:Nat × Nat} (h:w.heap[b]? = some (.cells #[y0,y1,y2,y3,y4,y5,y6] t f)) (x0 x1 x2 x3 x4 x5 x6:Value):(z7a w b x0 x1 x2 x3 x4 x5 x6).heap[b]? = some (.cells #[x0,x1,x2,x3,x4,x5,x6] t f):=by
 have h0:(w.setCell (qa b 0) x0).heap[b]? = some (.cells #[x0,y1,y2,y3,y4,y5,y6] t f):=heap_set h x0;have h1:((w.setCell (qa b 0) x0).setCell (qa b 1) x1).heap[b]? = some (.cells #[x0,x1,y2,y3,y4,y5,y6] t f):=heap_set h0 x1;have h2:(((w.setCell (qa b 0) x0).setCell (qa b 1) x1).setCell (qa b 2) x2).heap[b]? = some (.cells #[x0,x1,x2,y3,y4,y5,y6] t f):=heap_set h1 x2;have h3:((((w.setCell (qa b 0) x0).setCell (qa b 1) x1).setCell (qa b 2) x2).setCell (qa b 3) x3).heap[b]? = some (.cells #[x0,x1,x2,x3,y4,y5,y6] t f):=heap_set h2 x3;have h4:(((((w.setCell (qa b 0) x0).setCell (qa b 1) x1).setCell (qa b 2) x2).setCell (qa b 3) x3).setCell (qa b 4) x4).heap[b]? = some (.cells #[x0,x1,x2,x3,x4,y5,y6] t f):=heap_set h3 x4;have h5:((((((w.setCell (qa b 0) x0).setCell (qa b 1) x1).setCell (qa b 2) x2).setCell (qa b 3) x3).setCell (qa b 4) x4).setCell (qa b 5) x5).heap[b]? = some (.cells #[x0,x1,x2,x3,x4,x5,y6] t f):=heap_set h4 x5
 have h6:(((((((w.setCell (qa b 0) x0).setCell (qa b 1) x1).setCell (qa b 2) x2).setCell (qa b 3) x3).setCell (qa b 4) x4).setCell (qa b 5) x5).setCell (qa b 6) x6).heap[b]? = some (.cells #[x0,x1,x2,x3,x4,x5,x6] t f):=heap_set h5 x6;exact h6
theorem zzs {w:World} {b k:Nat} (hn:k≠b) (x0 x1 x2 x3 x4 x5 x6:Value):(z7a w b x0 x1 x2 x3 x4 x5 x6).heap[k]? = w.heap[k]?:=
 (heap_set_ne hn _).trans ((heap_set_ne hn _).trans ((heap_set_ne hn _).trans ((heap_set_ne hn _).trans ((heap_set_ne hn _).trans ((heap_set_ne hn _).trans (heap_set_ne hn _))))))
theorem zud {B:Nat} {w w':World} {b:Nat} (h:Below B w w') (hb:B<=b) (x0 x1 x2 x3 x4 x5 x6:Value):Below B w (z7a w' b x0 x1 x2 x3 x4 x5 x6):=
 (((((((h.setCell (p:=(qa b 0)) hb _).setCell (p:=(qa b 1)) hb _).setCell (p:=(qa b 2)) hb _).setCell (p:=(qa b 3)) hb _).setCell (p:=(qa b 4)) hb _).setCell (p:=(qa b 5)) hb _).setCell (p:=(qa b 6)) hb _)
theorem zm5 (b:Nat) (x0 x1 x2 x3 x4 x5 x6:Value) (y:Bool) (u:TypeId) (pv:Value) (w:World) (hX:w.heap[b]? = some (.cells #[x0,x1,x2,x3,x4,x5,x6] 62 (0,0))) (hK:w.heap[b+1]? = some (.cells #[.bool y] 4 (0,0))) :
 CallsD Tryz.prog 136 #[pq b 0,.pointer (some ⟨b+1,0,none⟩)] (.panicking [{ v:=.iface u pv,recovered:=false }]) w fun e u' w'=>
  e = .returned (.tuple #[])/\u' = .panicking [{ v:=.iface u pv,recovered:=true }]/\w'=noneO w b:=by
 have Jx:=zab (o:=kzD ⟨#[]⟩ none 0 0 0 none 0 0 none 0 0 none 0 0 0) hX;have My:=zab (o:=kzD ⟨#[]⟩ none 0 0 0 none 0 0 none 0 0 none 0 0 0) hK;obtain ⟨a0,a1,a2,a3,a4,a5,a6,az⟩:=zaj Jx
 have Rp:∀ j,(w.alloc zC).frozen? (qa b j)=false:=fun j=>veq Jx j
 have k0:(w.alloc zC).cell? ⟨b+1,0,none⟩=some (.bool y):=by rw [vep My];rfl
 have kf:(w.alloc zC).frozen? ⟨b+1,0,none⟩=false:=veq My 0;obtain ⟨n0,n1,n2,n3,n4,n5,n6,nz⟩:=zaj (heap_newP w zC);have hE:noneO w b=((((((((w.alloc zC).setCell (qa b 0) (.string ⟨#[]⟩)).setCell (qa b 1) (qs)).setCell (qa b 2) (qi 0)).setCell (qa b 3) (qs)).setCell (qa b 4) (qs)).setCell (qa b 5) (qs)).setCell (qa b 6) (qi 0)).setCell ⟨b+1,0,none⟩ (.bool false):=rfl;rw [hE];clear hX hK Jx My hE
 refine callsD_of_wpS Tryz.func136 rfl fun c₀ cs hu=>?_
 apply wpS_seq
 apply wpS_region
 simp [wpOpsS,go_sem,recoverD,hu,Tryz.ntmps136,Exit.thenS];refine wpS_cond (t:=true) (by simp [Act.eval,Array.replicate]) ?_;simp only [if_true]
 apply wpS_seq
 apply wpS_region
 simp [wpOpsS,go_sem,Exit.thenS]
 apply wpS_region
 simp [wpOpsS,go_sem,n0,n1,n2,n3,n4,n5,n6,a0,a1,a2,a3,a4,a5,a6,Rp,k0,kf,bodyPostS,results,Tryz.results136]
theorem caught (u:TypeId) (pv:Value) (w W:World) (x0 x1 x2 x3 x4 x5 x6:Value) (y:Bool) (hX:W.heap[w.heap.size]? = some (.cells #[x0,x1,x2,x3,x4,x5,x6] 62 (0,0))) (hK:W.heap[w.heap.size+1]? = some (.cells #[.bool y] 4 (0,0))) (hB:qb w W) {R:Ending->World->Prop} (t:Array Value)
 (h4:t.getD 4 undef=pq w.heap.size 0) (h5:t.getD 5 undef = .pointer (some ⟨w.heap.size+1,0,none⟩))
 (hR:∀ W',qb w W'->R (.returned (.tuple #[zV,.bool false])) W') :
 Leaves Tryz.prog Tryz.f95 t R [{ target:=Target.fn (Fn.func 136) #[Value.pointer (some (qa w.heap.size 0)),Value.pointer (some ⟨w.heap.size+1,0,none⟩)],args:=#[] }] (.panicking [{ v:=.iface u pv,recovered:=false }]) W:=by
 refine leaves_cons (f:=136) (args:=#[pq w.heap.size 0,.pointer (some ⟨w.heap.size+1,0,none⟩)]) (by simp) (by simp [go_sem]) ?_;refine (zm5 w.heap.size x0 x1 x2 x3 x4 x5 x6 y u pv W hX hK).mono ?_;rintro e u' Ce ⟨rfl,rfl,rfl⟩;have Jx:=z7b (zab (o:=kzD ⟨#[]⟩ none 0 0 0 none 0 0 none 0 0 none 0 0 0) hX) (.string ⟨#[]⟩) (qs) (qi 0) (qs) (qs) (qs) (qi 0);have QN:(noneO W w.heap.size).heap[w.heap.size]? = some (zC):=(heap_set_ne (p:=⟨w.heap.size+1,0,none⟩) (by show w.heap.size≠w.heap.size+1;omega) _).trans Jx;have JA:(noneO W w.heap.size).heap[w.heap.size+1]? = some (.cells #[.bool false] 4 (0,0)):=heap_set ((zzs (by omega) _ _ _ _ _ _ _).trans (zab (o:=kzD ⟨#[]⟩ none 0 0 0 none 0 0 none 0 0 none 0 0 0) hK)) _;have hb:qb w (noneO W w.heap.size):=(zud (hB.alloc hB.size _) (vaa _) _ _ _ _ _ _ _).setCell (p:=⟨w.heap.size+1,0,none⟩) (vel _) _
 obtain ⟨c0,c1,c2,c3,c4,c5,c6,_⟩:=zaj QN
 have k0:(noneO W w.heap.size).cell? ⟨w.heap.size+1,0,none⟩=some (.bool false):=by rw [vep JA];rfl
 generalize noneO W w.heap.size=X at *
 have R8:t[4]?.getD undef=pq w.heap.size 0:=by simpa using h4
 have R7:t[5]?.getD undef = .pointer (some ⟨w.heap.size+1,0,none⟩):=by simpa using h5
 refine ⟨.tuple #[zV,.bool false],?_,hR X hb⟩;simp [results,Tryz.results95,go_sem,R8,R7,c0,c1,c2,c3,c4,c5,c6,k0]
end Go.Proofs.YtndkhgakfodldaaGreatDoor

namespace Go.Proofs.YtndkhgakfodldaaGreatDoor
set_option maxRecDepth 100000
set_option maxHeartbeats 12800000
open Go.RowKit Go.Maps Go.WideMaps
set_option linter.unusedSimpArgs false
set_option linter.unusedVariables false
end Go.Proofs.YtndkhgakfodldaaGreatDoor

namespace Go.Proofs.YtndkhgakfodldaaGreatDoor
set_option maxRecDepth 100000
set_option maxHeartbeats 1600000
open Go.RowKit Go.Shelf
set_option linter.unusedSimpArgs false
set_option linter.unusedVariables false
theorem DAt.tailI {w:World} {A:Nat->Prop} {b off:Nat} {x:Int} {r:List Int} (h:DAt w A (some (qa b off)) (x :: r).length (zfm (x :: r))):DAt w A (some ⟨b,off+1,none⟩) r.length (zfm r):=by
 obtain ⟨h1,h2,h3⟩:=h;have e:zfm (x :: r) = .int x :: zfm r:=rfl;rw [e] at h1 h2 h3;refine ⟨by simp only [vaw] at h1;omega,by simp only [vaw] at h2;omega,?_⟩
 rcases h3 with h4 | ⟨b',BG,cs,ha,hl,hb,hc,hx⟩
 . simp at h4
 . cases ha
   unfold zan at hx;obtain ⟨v,t,rfl,_,hx⟩:=hx;refine Or.inr ⟨b,off+1,t,rfl,hl,hb,fun j u hj=>?_,hx⟩;have:=hc (j+1) u (by simpa using hj);rw [show off+1+j=off+(j+1) from by omega];exact this
theorem Wd.fromIn {w:World} {B base:Nat} {cx:Cx} {K:Wk} {vo:Value} {s:Sw} {e:Int} {x:Int} {r:List Int} {ai aj:OA} {ci cj:Nat} (h:Wd w B base cx K vo s e) (hs:s.inp=x :: r) (hb:w.heap[B]? = some (.cells (wC cx K ai ci vo s e) 128 (0,0))) (hi:DAt w (·<base) aj r.length (zfm r)) (hc:r.length<=cj):Wd (w.setCell (qa B 4) (.slice aj r.length cj)) B base cx K vo { s with inp:=r } e:=by
 have h6:=h.ro.lB;refine ⟨⟨aj,cj,heap_set hb _,hi.moves ⟨by simp,fun b _ A0=>⟨A0,heap_set_ne (by show b≠B;omega) _⟩⟩,hc⟩,?_,?_,h.ro.moves (by simp) (fun b _ hn _=>heap_set_ne (by show b≠B;exact hn) _),h.cd,h.dl,h.tl,h.tm,h.cl,h.ol⟩
 . exact (heap_set_ne (by show K.D≠B;exact fun e=>h.ro.BD e.symm) _).trans h.data
 . exact zaf h.out (fun k hk=>heap_set_ne (fun e=>h.oB (by rw [hk];exact congrArg some e)) _)
theorem next_any (B base:Nat) (cx:Cx) (K:Wk) (vo:Value) (s:Sw) (w:World) (h:Wd w B base cx K vo s 0) :
 qc 290 #[pq B 0] w fun e w'=>Sr z89 B base cx K w vo (zm9 s) e w':=by
 obtain ⟨ai,ci,hb,hi,hc⟩:=h.blk;have HW:=hid h
 cases hs:s.inp with
 | nil=>
   have HR:Hid (zm9 s = .ok 0 s):=by show _=_;unfold zm9;rw [hs]
   have AZ:=hb;unfold wC at AZ;rw [hs] at AZ;obtain ⟨q0,q1,q2,q3,q4,q5,q6,q7,q8,q9,qz,qf⟩:=zep AZ;clear h hb AZ hi hc hs;go_enter Tryz.func290,Tryz.ntmps290;go_wp2_with fail
   go_returns
   exact ⟨vo,Fm.refl _ _ _ _,Or.inl ⟨0,s,HR.out,rfl,HW.out⟩⟩
 | cons x r=>
   have HR:Hid (zm9 s = .ok x { s with inp:=r }):=by show _=_;unfold zm9;rw [hs]
   have CZ:=hi;rw [hs] at CZ;obtain ⟨b,off,rfl,Au,c0,hwx⟩:=CZ.num 0 (by simp);rw [hs] at hc;simp only [vaw] at hc;have HT:=hid CZ.tailI;have HP:=hid (fun aj cj (h1:DAt w (·<base) aj r.length (zfm r)) (h2:r.length<=cj)=>HW.out.fromIn hs hb h1 h2);have AZ:=hb;unfold wC at AZ;rw [hs] at AZ;have Bt:=CZ.bound;obtain ⟨q0,q1,q2,q3,q4,q5,q6,q7,q8,q9,qz,qf⟩:=zep AZ;simp only [vaw,vbs,vbl] at q4 c0 Bt;clear h hb AZ hi CZ hs
   by_cases Bg:ci=1
   . subst Bg
     obtain rfl:r=[]:=vam (by omega);simp only [vco,vax] at q4;go_enter Tryz.func290,Tryz.ntmps290;go_wp2_with fail
     go_returns
     exact ⟨vo,Fm.grown zdz,Or.inl ⟨x,_,HR.out,rfl,HP.out _ _ ⟨by simp [zfm],by simp [zfm],Or.inl rfl⟩ (by simp)⟩⟩
   . have C1:¬ ci - 1=0:=by omega
     have Ej:¬ ci<=1:=by omega
     go_enter Tryz.func290,Tryz.ntmps290;go_wp2_with fail
     go_returns
     exact ⟨vo,Fm.grown zdz,Or.inl ⟨x,_,HR.out,rfl,HP.out _ _ HT.out (by omega)⟩⟩
theorem Wd.told {w w1:World} {B base:Nat} {cx:Cx} {K:Wk} {vo:Value} {s:Sw} {o:Obj} {n:Int} {q c:Nat} (h:Wd w B base cx K vo s 0) (hg:(w.alloc o).grownBy w1 vo.ownBlock) (AF:vo.ownBlock=some q\/q=w.heap.size+1) (ho:w1.ownsRow K.S 3 1 (.slice (some (qa q 0)) (s.out.length+1) c) (s.out.length+1) (intV s.out++[qi n])) (hl:s.out.length≠200) :
 Wd (w1.setCell (qa B 5) (.slice (some (qa q 0)) (s.out.length+1) c)) B base cx K (.slice (some (qa q 0)) (s.out.length+1) c) { s with out:=s.out++[n] } 0/\Fm B K.D vo (.slice (some (qa q 0)) (s.out.length+1) c) w (w1.setCell (qa B 5) (.slice (some (qa q 0)) (s.out.length+1) c)):=by
 obtain ⟨ai,ci,hb,hi,hc⟩:=h.blk;have Au:=lt_of_heap hb;have GN:=lt_of_heap h.data
 have k:∀ b,b<w.heap.size->vo.ownBlock≠some b->w1.heap[b]? = w.heap[b]?:=fun b hb hn=>(hg.block b (by simp;omega) (fun e=>hn e.symm)).trans ((al1 w o).block b hb)
 have Q4:q≠B:=by
  rcases AF with e | e
  . exact fun x=>h.oB (by rw [e,x])
  . omega
 have SN:q≠K.D:=by
  rcases AF with e | e
  . exact fun x=>h.oD (by rw [e,x])
  . omega
 have hS:=h.ro.zS;have Ts:=h.ro.BS;have SZ:=h.ro.lB
 have Id:∀ b,b<K.S->w1.heap[b]? = w.heap[b]?:=fun b A0=>k b (by omega) (fun e=>by have:=(h.out.lt b e).1;omega)
 have Co:w.heap.size<=w1.heap.size:=vbd (by simp) hg.size;have KF:=h.ol;refine ⟨⟨⟨ai,ci,?_,hi.moves ⟨by simpa using Co,fun b AZ A0=>⟨A0,(heap_set_ne (by show b≠B;omega) _).trans (Id b (by omega))⟩⟩,hc⟩,?_,?_,h.ro.moves (by simpa using Co) (fun b h1 hn _=>(heap_set_ne (by show b≠B;exact hn) _).trans (Id b h1)),h.cd,h.dl,h.tl,h.tm,h.cl,?_⟩,⟨hg.os,hg.tape,hg.output,by simpa using Co,fun b h1 h2 _ h4=>(heap_set_ne (by show b≠B;exact h2) _).trans (k b h1 h4),fun x e hx=>?_⟩⟩
 . exact heap_set ((k B Au h.oB).trans hb) _
 . exact (heap_set_ne (by show K.D≠B;exact fun e=>h.ro.BD e.symm) _).trans ((k K.D GN h.oD).trans h.data)
 . show (w1.setCell _ _).ownsRow K.S 3 1 _ (s.out++[n]).length (intV (s.out++[n]))
   rw [vak,vdi,zql];exact zaf ho (fun k hk=>heap_set_ne (fun e=>Q4 ((vai hk).trans e)) _)
 . show (s.out++[n]).length<=200
   rw [vak,vdi];omega
 . obtain rfl:q=x:=vai e
   rcases AF with h1 | h1
   . exact h1
   . omega
theorem tell_any (B base:Nat) (cx:Cx) (K:Wk) (vo:Value) (s:Sw) (n:Int) (w:World) (h:Wd w B base cx K vo s 0) :
 qc 266 #[pq B 0,qi n] w fun e w'=>Sr z8a B base cx K w vo (zqt n s) e w':=by
 obtain ⟨ai,ci,hb,_,_⟩:=h.blk;obtain ⟨av,cv,hvo,_,_⟩:=zag h.out;obtain ⟨q0,q1,q2,q3,q4,q5,q6,q7,q8,q9,qz,qf⟩:=zep hb;have KF:=h.ol;have HW:=hid h
 by_cases ht:s.out.length=200
 . have HR:Hid (zqt n s = .stop 5 s):=if_pos ht
   have HS:=hid (stop_any B base cx K vo s 5 w h);subst hvo;rw [ht] at q5;clear h hb;go_enter Tryz.func266,Tryz.ntmps266;go_wp2_with fail;refine HS.out.mono ?_;rintro e w1 ⟨rfl,hg,hw⟩;exact ⟨rfl,_,Fm.grown hg,Or.inr ⟨5,s,HR.out,rfl,hw⟩⟩
 . have HR:Hid (zqt n s = .ok () { s with out:=s.out++[n] }):=if_neg ht
   have PV:¬ (s.out.length:Int)=200:=by omega
   have SJ:((s.out.length:Int) == 200)=false:=by rw [beq_eq_false_iff_ne];exact PV
   obtain ⟨i0,hi,Bs,Ao,AA⟩:=info_parts Tryz.infoInt;have MX:=hid (ownsRow_later h.out (al1 w (.cells #[qi n] 3)));have Th:K.S<=w.heap.size:=h.ro.zS;subst hvo;have Rx:=hid (fun w1 q c hg AF ho=>h.told (w1:=w1) (o:=.cells #[qi n] 3) (n:=n) (q:=q) (c:=c) hg AF ho ht);have Sl:=hid (fun w1 (hg:(w.alloc (.cells #[qi n] 3)).grownBy w1 (Value.ownBlock (.slice av s.out.length cv)))=>(hg.block B (by simp;omega) (fun e=>h.oB e.symm)).trans (((al1 w (.cells #[qi n] 3)).block B (lt_of_heap hb)).trans hb));clear h hb;go_enter Tryz.func266,Tryz.ntmps266
   go_wp2_with (at_builtin;refine wpList_append_lies _ rfl (.tmp 16) (.tmp 18) _ rfl K.S 3 i0 _ 1 8 Tryz.underlying49 hi Bs Ao AA rfl (by omega) (.slice av s.out.length cv) s.out.length (intV s.out) rfl MX.out (qa _ 0) 1 1 [qi n] rfl rfl (Fx.zky (by simp)) (by simp;rfl) (by omega) (by unfold maxLen;omega) (by omega) (by simp;omega) _ rfl ?_;intro q9' c9 w1 hown1 hg AF CL;have HT:=hid (Rx.out w1 q9' c9 hg (by simpa using AF) hown1);have hX:=Sl.out w1 hg;obtain ⟨p0,p1,p2,p3,p4,p5,p6,p7,p8,p9,pz,pf⟩:=zep hX;clear hX hown1 hg AF)
   go_end0;exact ⟨_,HT.out.2,Or.inl ⟨(),_,HR.out,rfl,HT.out.1⟩⟩
def Cl (w:World) (B C u:Nat) (lv:Value) (ret:Int):Prop:=w.heap[C]? = some (.cells #[pq B 0,qi u,lv,qi ret] 257 (0,0))
theorem z2y {w:World} {b:Nat} {x0 x1 x2 x3:Value} {t:TypeId} (h:w.heap[b]? = some (.cells #[x0,x1,x2,x3] t (0,0))) :
 w.cell? (qa b 0)=some x0/\w.cell? (qa b 1)=some x1/\w.cell? (qa b 2)=some x2/\w.cell? (qa b 3)=some x3/\b<w.heap.size/\∀ j,w.frozen? (qa b j)=false:=by
 refine ⟨?_,?_,?_,?_,lt_of_heap h,fun j=>veq h j⟩<;>(rw [vep h];rfl)
theorem DAt.row {w:World} {A:Nat->Prop} {a:OA} {l:List (List Nat)} (h:DAt w A a l.length (zsc l)) (i:Nat) (hi:i<l.length):∃ b off a1 k1,a=some (qa b off)/\b<w.heap.size/\w.cell? ⟨b,off+i,none⟩=some (.slice a1 l[i].length k1)/\DAt w A a1 l[i].length (zfm (natI l[i])):=by
 obtain ⟨b,off,ha,hb,hc⟩:=h.cell (by omega);obtain ⟨v,hv,hd⟩:=hc i (.list l[i].length (zfm (natI l[i]))) (by simp [zsc,hi]);obtain ⟨a1,k1,rfl,h1⟩:=zav hd;exact ⟨b,off,a1,k1,ha,hb,hv,h1⟩
end Go.Proofs.YtndkhgakfodldaaGreatDoor

namespace Go.Proofs.YtndkhgakfodldaaGreatDoor
set_option linter.unusedVariables false
def z6z (cx:Cx) (u sz:Nat) (m at_ n:Int):Prop:=
 0<=m/\0<=at_/\∃ (h1:u<cx.near.length) (h2:m.toNat<cx.near[u].length) (h3:cx.near[u][m.toNat]<cx.beg.length),0<=cx.beg[cx.near[u][m.toNat]]/\cx.beg[cx.near[u][m.toNat]]+at_+n<=sz
def z81 (cx:Cx) (u k:Nat) (m at_:Int):Prop:=
 0<=m/\0<=at_/\∃ (h1:u<cx.near.length) (h2:m.toNat<cx.near[u].length) (h3:cx.near[u][m.toNat]<cx.us.length) (h4:at_.toNat<cx.us[cx.near[u][m.toNat]].parts.length),(cx.us[cx.near[u][m.toNat]].parts[at_.toNat]).params=k
def okN (cx:Cx) (u nl sz:Nat):Nat->Nd->Prop
 | 0,_=>False
 | k+1,x=>
   x.op=1\/x.op=2\/(x.op=16/\0<=x.at_/\x.at_<nl)\/(x.op=3/\z6z cx u sz x.m x.at_ 1)
   \/(x.op=4/\1<=x.n/\z6z cx u sz x.m x.at_ x.n/\x.args.length=1/\∀ y ∈ x.args,okN cx u nl sz k y)
   \/(x.op=5/\z81 cx u x.args.length x.m x.at_/\∀ y ∈ x.args,okN cx u nl sz k y)
   \/(x.op=6/\x.args.length=1/\∀ y ∈ x.args,okN cx u nl sz k y)
   \/(7<=x.op/\x.op<=15/\x.args.length=2/\∀ y ∈ x.args,okN cx u nl sz k y)
def okA (cx:Cx) (u nl sz:Nat):Nat->Ac->Prop
 | 0,_=>False
 | k+1,a=>
   (∀ y ∈ a.args,okN cx u nl sz 6 y)/\
   ((a.op=1/\a.args.length=1/\((a.m = -1/\0<=a.at_/\a.at_<nl)\/(a.m≠-1/\z6z cx u sz a.m a.at_ 1)))
   \/(a.op=2/\a.args.length=2/\1<=a.n/\z6z cx u sz a.m a.at_ a.n)
   \/(a.op=3/\z81 cx u a.args.length a.m a.at_)
   \/(a.op=4/\a.args.length=1/\(∀ b ∈ a.body,okA cx u nl sz k b)/\∀ b ∈ a.other,okA cx u nl sz k b)
   \/(a.op=5/\a.args.length=1/\∀ b ∈ a.body,okA cx u nl sz k b)
   \/(a.op=6/\a.args.length=1)\/(a.op=7/\a.args.length=1))
def Lo (w:World) (lv:Value) (L:Nat) (loc:List Int):Prop:=(loc=[]/\∃ a,lv = .slice a 0 0)\/(lv = .slice (some (qa L 0)) loc.length loc.length/\w.heap[L]? = some (.cells (intV loc).toArray 3 (0,0)))
theorem Fm.keep {B D b:Nat} {vo vo':Value} {w w':World} {x:Obj} (h:Fm B D vo vo' w w') (hb:w.heap[b]? = some x) (h1:b≠B) (h2:b≠D) (h3:vo.ownBlock≠some b):w'.heap[b]? = some x/\vo'.ownBlock≠some b:=
 ⟨(h.block b (lt_of_heap hb) h1 h2 h3).trans hb,fun e=>h3 (h.own b e (lt_of_heap hb))⟩
end Go.Proofs.YtndkhgakfodldaaGreatDoor

namespace Go.Proofs.YtndkhgakfodldaaGreatDoor
set_option maxRecDepth 100000
open Go.RowKit Go.Shelf
set_option linter.unusedSimpArgs false
set_option linter.unusedVariables false
abbrev En (cx:Cx) (n:Nat):zzk:=(lvp cx n).ent
structure Ca where
 C:Nat
 u:Nat
 lv:Value
 L:Nat
structure Cn (n:Nat) (w:World) (B base:Nat) (cx:Cx) (K:Wk) (vo:Value) (s:Sw) (c:Ca) (loc:List Int) (ret:Int):Prop where
 wd:Wd w B base cx K vo s 0
 cl:Cl w B c.C c.u c.lv ret
 lo:Lo w c.lv c.L loc
 cS:K.S<=c.C
 cO:vo.ownBlock≠some c.C
 lS:K.S<=c.L
 lz:c.L<w.heap.size
 la:loc=[]\/(c.L≠c.C/\vo.ownBlock≠some c.L)
 fu:cx.lim+1<=s.ticks+n
theorem Lo.moves {w w':World} {lv:Value} {L:Nat} {loc:List Int} (h:Lo w lv L loc) (hk:loc=[]\/w'.heap[L]? = w.heap[L]?):Lo w' lv L loc:=by
 rcases h with h | ⟨h1,h2⟩
 . exact Or.inl h
 . rcases hk with rfl | hk
   . exact Or.inl ⟨rfl,_,h1⟩
   . exact Or.inr ⟨h1,hk.trans h2⟩
theorem Lo.len {w:World} {lv:Value} {L:Nat} {loc:List Int} (h:Lo w lv L loc):∃ a,lv = .slice a loc.length loc.length:=by
 rcases h with ⟨rfl,a,h⟩ | ⟨h1,h2⟩
 . exact ⟨a,h⟩
 . exact ⟨_,h1⟩
theorem Cn.ne {n:Nat} {w:World} {B base:Nat} {cx:Cx} {K:Wk} {vo:Value} {s:Sw} {c:Ca} {loc:List Int} {ret:Int} (h:Cn n w B base cx K vo s c loc ret):c.C≠B/\c.C≠K.D/\base<=c.C/\B<w.heap.size/\K.D<w.heap.size:=by
 have h1:=h.cS;have h2:=h.wd.ro.BS;have h3:=h.wd.ro.DS;have h4:=h.wd.ro.lB;have h5:=h.wd.ro.zS;omega
theorem Lo.lt {w:World} {lv:Value} {L:Nat} {loc:List Int} (h:Lo w lv L loc):loc=[]\/L<w.heap.size:=by
 rcases h with ⟨h,_⟩ | ⟨_,h2⟩
 . exact Or.inl h
 . exact Or.inr (lt_of_heap h2)
theorem Cn.on {n:Nat} {w w':World} {B base:Nat} {cx:Cx} {K:Wk} {vo vo':Value} {s s':Sw} {c:Ca} {loc:List Int} {ret:Int} (h:Cn n w B base cx K vo s c loc ret) (hf:Fm B K.D vo vo' w w') (hw:Wd w' B base cx K vo' s' 0) (ht:s.ticks<=s'.ticks):Cn n w' B base cx K vo' s' c loc ret:=by
 have hn:=h.ne;have GJ:=h.fu;obtain ⟨k1,k2⟩:=hf.keep h.cl hn.1 hn.2.1 h.cO;have h1:=h.lS;refine ⟨hw,k1,h.lo.moves ?_,h.cS,k2,h1,vah h.lz hf.size,?_,by omega⟩
 . rcases h.la with e | ⟨h2,h3⟩
   . exact Or.inl e
   . rcases h.lo.lt with e | hl
     . exact Or.inl e
     . have:=h.wd.ro.BS
       have:=h.wd.ro.DS;exact Or.inr (hf.block _ hl (by omega) (by omega) h3)
 . rcases h.la with e | ⟨h2,h3⟩
   . exact Or.inl e
   . rcases h.lo.lt with e | hl
     . exact Or.inl e
     . exact Or.inr ⟨h2,fun e=>h3 (hf.own _ e hl)⟩
theorem Cn.below {n:Nat} {w w':World} {B base:Nat} {cx:Cx} {K:Wk} {vo:Value} {s:Sw} {c:Ca} {loc:List Int} {ret:Int} (h:Cn n w B base cx K vo s c loc ret) (hb:qb w w'):Cn n w' B base cx K vo s c loc ret:=h.on (Fm.below hb) (h.wd.below hb) (vaa _)
theorem Cn.step {α:Type} {AD:α->Value} {n:Nat} {w w':World} {B base:Nat} {cx:Cx} {K:Wk} {vo:Value} {s:Sw} {c:Ca} {loc:List Int} {ret:Int} {F:Sw->Rr α} {e:Ending} (h:Cn n w B base cx K vo s c loc ret) (hk:Kp F) (hr:Sr AD B base cx K w vo (F s) e w') :
 (∃ k s' vo',F s = .stop k s'/\e = .panicked (z4u k)/\Fm B K.D vo vo' w w'/\Wd w' B base cx K vo' s' k)\/(∃ a s' vo',F s = .ok a s'/\e = .returned (AD a)/\Fm B K.D vo vo' w w'/\Cn n w' B base cx K vo' s' c loc ret):=by
 obtain ⟨vo',hf,⟨a,s',hr,he,hw⟩ | ⟨k,s',hr,he,hw⟩⟩:=hr
 . refine Or.inr ⟨a,s',vo',hr,he,hf,h.on hf hw ?_⟩
   have:=(hk s).2.2.2;rw [hr] at this;exact this
 . exact Or.inl ⟨k,s',vo',hr,he,hf,hw⟩
theorem Sr.ok {α:Type} {AD:α->Value} {B base:Nat} {cx:Cx} {K:Wk} {w w':World} {vo vo':Value} {r:Rr α} {a:α} {s:Sw} (hf:Fm B K.D vo vo' w w') (hr:r = .ok a s) (hw:Wd w' B base cx K vo' s 0):Sr AD B base cx K w vo r (.returned (AD a)) w':=⟨vo',hf,Or.inl ⟨a,s,hr,rfl,hw⟩⟩
theorem Sr.no {α:Type} {AD:α->Value} {B base:Nat} {cx:Cx} {K:Wk} {w w':World} {vo vo':Value} {r:Rr α} {k:Int} {s:Sw} (hf:Fm B K.D vo vo' w w') (hr:r = .stop k s) (hw:Wd w' B base cx K vo' s k):Sr AD B base cx K w vo r (.panicked (z4u k)) w':=⟨vo',hf,Or.inr ⟨k,s,hr,rfl,hw⟩⟩
theorem DAt.fm {B Dd base:Nat} {vo vo':Value} {w w':World} {a:OA} {m:Nat} {l:List D} (h:DAt w (·<base) a m l) (hf:Fm B Dd vo vo' w w') (h1:base<=B) (h2:base<=Dd) (h3:∀ k,vo.ownBlock=some k->base<=k):DAt w' (·<base) a m l:=
 h.moves ⟨hf.size,fun b hb hl=>⟨hl,hf.block b hb (by omega) (by omega) (fun e=>by have:=h3 b e;omega)⟩⟩
set_option maxHeartbeats 1600000
theorem Wd.cell {w:World} {B base:Nat} {cx:Cx} {K:Wk} {vo:Value} {s:Sw} {e:Int} (h:Wd w B base cx K vo s e) (i:Nat) (hi:i<s.data.length):w.cell? (qa K.D i)=some (qi (s.data.getD i 0)):=by
 rw [vep h.data,vdj];simp [intV,hi]
theorem Lo.cell {w:World} {lv:Value} {L:Nat} {loc:List Int} (h:Lo w lv L loc) (i:Nat) (hi:i<loc.length):lv = .slice (some (qa L 0)) loc.length loc.length/\L<w.heap.size/\w.cell? (qa L i)=some (qi (loc.getD i 0)):=by
 rcases h with ⟨rfl,_⟩ | ⟨h1,h2⟩
 . simp at hi
 . refine ⟨h1,lt_of_heap h2,?_⟩
   rw [vep h2,vdj];simp [intV,hi]
theorem Wd.top {w:World} {B base:Nat} {cx:Cx} {K:Wk} {vo:Value} {s:Sw} {e:Int} (h:Wd w B base cx K vo s e):w.cell? (qa B 3)=some (.slice (some (qa K.D 0)) K.cd K.cd)/\B<w.heap.size/\K.D<w.heap.size:=by
 obtain ⟨ai,ci,hb, -, -⟩:=h.blk;obtain ⟨q0,q1,q2,q3, -⟩:=zep hb;refine ⟨?_,lt_of_heap hb,lt_of_heap h.data⟩;rw [q3,h.cd]
def reckV:Option Int->Value
 | some n=>.tuple #[.int .i64 n,.bool true]
 | none=>.tuple #[.int .i64 0,.bool false]
def part (op a b:Int):Option Int:=if b=0 then none else if op=12 then some (wrap64 (a.tdiv b)) else if op=13 then some (a.tmod b) else none
theorem parted_any (op a b:Int) (w:World) :
 qc 292 #[qi op,qi a,qi b] w fun en w'=>en = .returned (reckV (part op a b))/\w'=w:=by
 by_cases hb:b=0
 . have HP:Hid (part op a b=none):=if_pos hb
   subst hb;go_enter Tryz.func292,Tryz.ntmps292;go_wp2_with fail;go_ret2;exact ⟨by rw [HP.out];rfl,rfl⟩
 have AZ:(b == 0)=false:=beq_eq_false_iff_ne.2 hb
 by_cases E5:op=12
 . have HP:Hid (part op a b=some (wrap64 (a.tdiv b))):=(if_neg hb).trans (if_pos E5)
   subst E5;go_enter Tryz.func292,Tryz.ntmps292;go_wp2_with fail;go_ret2;exact ⟨by rw [HP.out];rfl,rfl⟩
 have ML:(op == 12)=false:=beq_eq_false_iff_ne.2 E5
 by_cases EJ:op=13
 . have HP:Hid (part op a b=some (a.tmod b)):=(if_neg hb).trans ((if_neg E5).trans (if_pos EJ))
   subst EJ;go_enter Tryz.func292,Tryz.ntmps292;go_wp2_with fail;go_ret2;exact ⟨by rw [HP.out];rfl,rfl⟩
 have MK:(op == 13)=false:=beq_eq_false_iff_ne.2 EJ;have HP:Hid (part op a b=none):=(if_neg hb).trans ((if_neg E5).trans (if_neg EJ));clear hb E5 EJ;go_enter Tryz.func292,Tryz.ntmps292;go_wp2_with fail;go_ret2;exact ⟨by rw [HP.out];rfl,rfl⟩
set_option maxHeartbeats 3200000
theorem Cn.keepS {n:Nat} {w w':World} {B base:Nat} {cx:Cx} {K:Wk} {vo vo':Value} {s:Sw} {c:Ca} {loc:List Int} {ret:Int} (h:Cn n w B base cx K vo s c loc ret) (hf:Fm B K.D vo vo' w w') {b:Nat} {x:Obj} (hb:w.heap[b]? = some x) (hS:K.S<=b) (ho:vo.ownBlock≠some b):w'.heap[b]? = some x/\vo'.ownBlock≠some b:=by
 have h1:=h.wd.ro.BS;have h2:=h.wd.ro.DS;exact hf.keep hb (by omega) (by omega) ho
theorem Cn.new {n:Nat} {w:World} {B base:Nat} {cx:Cx} {K:Wk} {vo:Value} {s:Sw} {c:Ca} {loc:List Int} {ret:Int} (h:Cn n w B base cx K vo s c loc ret):K.S<=w.heap.size/\vo.ownBlock≠some w.heap.size:=
 ⟨h.wd.ro.zS,fun e=>by have:=(h.wd.out.lt _ e).2;omega⟩
theorem bind_ok {α β:Type} {r:Rr α} {a:α} {s:Sw} {f:α->Sw->Rr β} (h:r = .ok a s):r.bind f=f a s:=by rw [h];rfl
theorem zv1 {α β:Type} {r:Rr α} {e:Int} {s:Sw} {f:α->Sw->Rr β} (h:r = .stop e s):r.bind f = .stop e s:=by rw [h];rfl
section
variable (E:zzk) (cx:Cx) (u:Nat) (loc:List Int) (k:Nat) (nn m at_:Int) (args:List Nd) (s:Sw)
end
structure Gm (B D:Nat) (X:Nat->Prop) (vo vo':Value) (w w':World):Prop where
 os:w'.os=w.os
 tape:w'.tape=w.tape
 output:w'.output=w.output
 size:w.heap.size<=w'.heap.size
 block:∀ b,b<w.heap.size->b≠B->b≠D->¬ X b->vo.ownBlock≠some b->w'.heap[b]? = w.heap[b]?
 own:∀ k,vo'.ownBlock=some k->k<w.heap.size->vo.ownBlock=some k
theorem Fm.gm {B D:Nat} {X:Nat->Prop} {vo vo':Value} {w w':World} (h:Fm B D vo vo' w w'):Gm B D X vo vo' w w':=⟨h.os,h.tape,h.output,h.size,fun b h1 h2 h3 _ h5=>h.block b h1 h2 h3 h5,h.own⟩
theorem Gm.fm {B D:Nat} {X:Nat->Prop} {vo vo':Value} {w w':World} (h:Gm B D X vo vo' w w') (hx:∀ b,X b->w.heap.size<=b):Fm B D vo vo' w w':=⟨h.os,h.tape,h.output,h.size,fun b h1 h2 h3 h5=>h.block b h1 h2 h3 (fun x=>by have:=hx b x;omega) h5,h.own⟩
theorem Gm.trans {B D:Nat} {X:Nat->Prop} {v1 v2 v3:Value} {a b c:World} (h:Gm B D X v1 v2 a b) (k:Gm B D X v2 v3 b c):Gm B D X v1 v3 a c:=
 ⟨k.os.trans h.os,k.tape.trans h.tape,k.output.trans h.output,vbd h.size k.size,fun x hx h1 h2 h4 h3=>(k.block x (vah hx h.size) h1 h2 h4 (fun e=>h3 (h.own x e hx))).trans (h.block x hx h1 h2 h4 h3),fun x e hx=>h.own x (k.own x e (vah hx h.size)) hx⟩
theorem Gm.cell {B D b i:Nat} {X:Nat->Prop} {vo:Value} {w:World} {u:Value} (hx:X b):Gm B D X vo vo w (w.setCell (qa b i) u):=⟨rfl,rfl,rfl,by simp,fun k _ _ _ h4 _=>heap_set_ne (fun e=>h4 (by rw [show k=b from e];exact hx)) u,fun _ h _=>h⟩
theorem Gm.mono {B D:Nat} {X Y:Nat->Prop} {vo vo':Value} {w w':World} (h:Gm B D X vo vo' w w') (hx:∀ b,X b->Y b):Gm B D Y vo vo' w w':=⟨h.os,h.tape,h.output,h.size,fun b h1 h2 h3 h4 h5=>h.block b h1 h2 h3 (fun x=>h4 (hx b x)) h5,h.own⟩
def Sx {α:Type} (AD:α->Value) (B base:Nat) (cx:Cx) (K:Wk) (X:Nat->Prop) (w:World) (vo:Value) (r:Rr α) (e:Ending) (w':World):Prop:=
 ∃ vo',Gm B K.D X vo vo' w w'/\((∃ a s,r = .ok a s/\e = .returned (AD a)/\Wd w' B base cx K vo' s 0)\/(∃ c s,r = .stop c s/\e = .panicked (z4u c)/\Wd w' B base cx K vo' s c))
def EnV (n B base:Nat) (cx:Cx) (K:Wk):Prop:=∀ (u:Nat) (body:List Ac) (ab:OA) (kb:Nat) (lv:Value) (L:Nat) (loc:List Int) (vo:Value) (s:Sw) (w:World),Wd w B base cx K vo s 0->cx.lim+1<=s.ticks+n->Lo w lv L loc->K.S<=L->(loc=[]\/vo.ownBlock≠some L)->u<cx.us.length->DAt w (·<base) ab body.length (zc7 body)->(∀ a ∈ body,okA cx u loc.length K.cd 6 a)->
 qc 125 #[pq B 0,qi u,.slice ab body.length kb,lv] w fun e w'=>Sx z89 B base cx K (·=L) w vo (En cx n u body loc s) e w'
theorem Wd.far {w:World} {B base:Nat} {cx:Cx} {K:Wk} {vo:Value} {s:Sw} {e:Int} (h:Wd w B base cx K vo s e) {L i:Nat} (hL:K.S<=L) (ho:vo.ownBlock≠some L) (u:Value):Wd (w.setCell (qa L i) u) B base cx K vo s e:=by
 obtain ⟨ai,ci,hB,hi,hc⟩:=h.blk;have h1:=h.ro.BS;have h2:=h.ro.DS;have h3:=h.ro.lB;exact ⟨⟨ai,ci,(heap_set_ne (by show B≠L;omega) u).trans hB,hi.moves ⟨by simp,fun b _ hl=>⟨hl,heap_set_ne (by show b≠L;omega) u⟩⟩,hc⟩,(heap_set_ne (by show K.D≠L;omega) u).trans h.data,zaf h.out (fun k hk=>heap_set_ne (fun e=>ho (by rw [hk];exact congrArg some e)) u),h.ro.moves (by simp) (fun b hb _ _=>heap_set_ne (by show b≠L;omega) u),h.cd,h.dl,h.tl,h.tm,h.cl,h.ol⟩
theorem zsp (f:Nd->Sw->Rr Int):∀ (a b:List Nd) (s:Sw),zej f (a++b) s=(zej f a s).bind fun vs s=>(zej f b s).bind fun us s=>.ok (vs++us) s
 | [],b,s=>by
   show zej f b s=(zej f b s).bind fun us s=>.ok us s
   cases zej f b s<;>rfl
 | x :: r,b,s=>by
   show (f x s).bind _=((f x s).bind _).bind _
   cases f x s with
   | stop e t=>rfl
   | ok v t=>
     show (zej f (r++b) t).bind _=((zej f r t).bind _).bind _;rw [zsp f r b t]
     cases zej f r t with
     | stop e t=>rfl
     | ok vs t=>
       show ((zej f b t).bind _).bind _=(zej f b t).bind _
       cases zej f b t<;>rfl
theorem zzt (f:Nd->Sw->Rr Int) (x:Nd) (s:Sw):zej f [x] s=(f x s).bind fun v s=>.ok [v] s:=rfl
theorem zv2 {f:Nd->Sw->Rr Int} {l:List Nd} {s t t':Sw} {vs:List Int} {v:Int} {j:Nat} (hj:j<l.length) (h:zej f (l.take j) s = .ok vs t) (hv:f l[j] t = .ok v t'):zej f (l.take (j+1)) s = .ok (vs++[v]) t':=by
 rw [vaf hj,zsp,h];show (zej f [l[j]] t).bind _=_;rw [zzt,hv]
 rfl
theorem zzu (vs:List Int) (n:Nat) (v:Int) (h:vs.length<n):(zo1 vs n).set vs.length v=zo1 (vs++[v]) n:=by
 unfold zo1;rw [List.set_append_right _ _ (vaa _),Nat.sub_self,vbp,vak,vdi,show n - vs.length=(n - (vs.length+1))+1 from by omega,List.replicate_succ,van,vdf]
 rfl
set_option maxHeartbeats 6400000
structure Pc (n B base:Nat) (cx:Cx) (K:Wk) (vo0:Value) (w0:World) (c:Ca) (loc:List Int) (ret:Int) (L Pb:Nat) (px:Obj) (nl:Nat) (F:Nd->Sw->Rr Int) (args:List Nd) (s0:Sw) (j:Nat) (wr:World) (vo:Value) (s:Sw) (vs:List Int):Prop where
 cn:Cn n wr B base cx K vo s c loc ret
 fm:Fm B K.D vo0 vo w0 wr
 lo:wr.heap[L]? = some (.cells (intV (zo1 vs nl)).toArray 3 (0,0))
 pb:wr.heap[Pb]? = some px
 lO:vo.ownBlock≠some L
 pO:vo.ownBlock≠some Pb
 vl:vs.length=j
 ar:zej F (args.take j) s0 = .ok vs s
theorem Pc.alloc {n B base:Nat} {cx:Cx} {K:Wk} {vo0:Value} {w0:World} {c:Ca} {loc:List Int} {ret:Int} {L Pb:Nat} {px:Obj} {nl:Nat} {F:Nd->Sw->Rr Int} {args:List Nd} {s0:Sw} {j:Nat} {wr:World} {vo:Value} {s:Sw} {vs:List Int} (h:Pc n B base cx K vo0 w0 c loc ret L Pb px nl F args s0 j wr vo s vs) (o:Obj):Pc n B base cx K vo0 w0 c loc ret L Pb px nl F args s0 j (wr.alloc o) vo s vs:=
 ⟨h.cn.below (al1 wr o),h.fm.trans (Fm.below (al1 wr o)),((al1 wr o).block _ (lt_of_heap h.lo)).trans h.lo,((al1 wr o).block _ (lt_of_heap h.pb)).trans h.pb,h.lO,h.pO,h.vl,h.ar⟩
theorem Pc.next {n B base:Nat} {cx:Cx} {K:Wk} {vo0:Value} {w0:World} {c:Ca} {loc:List Int} {ret:Int} {L Pb:Nat} {px:Obj} {nl:Nat} {F:Nd->Sw->Rr Int} {args:List Nd} {s0:Sw} {j:Nat} {wr w1:World} {vo EU:Value} {s s1:Sw} {vs:List Int} {v:Int} (h:Pc n B base cx K vo0 w0 c loc ret L Pb px nl F args s0 j wr vo s vs) (hf:Fm B K.D vo EU wr w1) (hc:Cn n w1 B base cx K EU s1 c loc ret) (hj:j<args.length) (hn:j<nl) (hr:F args[j] s = .ok v s1) (hL:K.S<=L) (KU:w0.heap.size<=L) (hP:K.S<=Pb) (QV:L≠Pb) (QX:c.C≠L) (QW:loc=[]\/c.L≠L) :
 w1.heap[L]? = some (.cells (intV (zo1 vs nl)).toArray 3 (0,0))/\Pc n B base cx K vo0 w0 c loc ret L Pb px nl F args s0 (j+1) (w1.setCell (qa L j) (qi v)) EU s1 (vs++[v]):=by
 obtain ⟨k1,k2⟩:=h.cn.keepS hf h.lo hL h.lO;obtain ⟨k3,k4⟩:=h.cn.keepS hf h.pb hP h.pO;refine ⟨k1,?_,?_,?_,?_,k2,k4,by rw [vak,h.vl];rfl,zv2 hj h.ar hr⟩
 . refine ⟨hc.wd.far hL k2 _,(heap_set_ne (by show c.C≠L;exact QX) _).trans hc.cl,hc.lo.moves ?_,hc.cS,hc.cO,hc.lS,by simpa using hc.lz,hc.la,hc.fu⟩
   rcases QW with e | e
   . exact Or.inl e
   . exact Or.inr (heap_set_ne e _)
 . have g:Gm B K.D (·=L) vo0 EU w0 (w1.setCell (qa L j) (qi v)):=(h.fm.trans hf).gm.trans (Gm.cell rfl)
   exact g.fm (fun b e=>by rw [show b=L from e];exact KU)
 . rw [heap_set k1,vad]
   have e:(intV (zo1 vs nl)).set j (qi v)=intV (zo1 (vs++[v]) nl):=by
    rw [← zzu vs nl v (by rw [h.vl];exact hn),h.vl];simp [intV,List.map_set]
   rw [e]
 . exact (heap_set_ne (by show Pb≠L;exact fun e=>QV e.symm) _).trans k3
set_option maxHeartbeats 3200000
abbrev Wn (cx:Cx) (n:Nat):Whl:=(lvp cx n).whl
def Xc (c:Ca) (b:Nat):Prop:=b=c.C\/b=c.L
def z82 (d:Bool × Fr):Value:=.bool d.1
def Sa (AD:Bool × Fr->Value) (n B base:Nat) (cx:Cx) (K:Wk) (c:Ca) (w:World) (vo:Value) (r:Rr (Bool × Fr)) (e:Ending) (w':World):Prop:=
 ∃ vo',Gm B K.D (Xc c) vo vo' w w'/\((∃ k s,r = .stop k s/\e = .panicked (z4u k)/\Wd w' B base cx K vo' s k)\/(∃ d s,r = .ok d s/\e = .returned (AD d)/\Cn n w' B base cx K vo' s c d.2.loc d.2.ret))
theorem Sa.ok {AD:Bool × Fr->Value} {n B base:Nat} {cx:Cx} {K:Wk} {c:Ca} {w w':World} {vo vo':Value} {r:Rr (Bool × Fr)} {b:Bool} {loc:List Int} {ret:Int} {s:Sw} (hf:Gm B K.D (Xc c) vo vo' w w') (hr:r = .ok (b,⟨loc,ret⟩) s) (hw:Cn n w' B base cx K vo' s c loc ret):Sa AD n B base cx K c w vo r (.returned (AD (b,⟨loc,ret⟩))) w':=⟨vo',hf,Or.inr ⟨_,s,hr,rfl,hw⟩⟩
theorem Sa.no {AD:Bool × Fr->Value} {n B base:Nat} {cx:Cx} {K:Wk} {c:Ca} {w w':World} {vo vo':Value} {r:Rr (Bool × Fr)} {k:Int} {s:Sw} (hf:Gm B K.D (Xc c) vo vo' w w') (hr:r = .stop k s) (hw:Wd w' B base cx K vo' s k):Sa AD n B base cx K c w vo r (.panicked (z4u k)) w':=⟨vo',hf,Or.inl ⟨k,s,hr,rfl,hw⟩⟩
theorem Cn.len {n n':Nat} {w w':World} {B base:Nat} {cx:Cx} {K:Wk} {vo vo':Value} {s s':Sw} {c:Ca} {loc IO:List Int} {ret LA:Int} (h:Cn n w B base cx K vo s c loc ret) (h':Cn n' w' B base cx K vo' s' c IO LA):IO.length=loc.length:=by
 obtain ⟨a,e⟩:=h.lo.len;obtain ⟨a',e'⟩:=h'.lo.len;rw [e] at e';simp only [Value.slice.injEq] at e';exact e'.2.1.symm
set_option maxHeartbeats 6400000
def BlV (n B base:Nat) (cx:Cx) (K:Wk) (k:Nat) (l:List Ac):Prop:=∀ (c:Ca) (loc:List Int) (ret:Int) (vo:Value) (s:Sw) (a:OA) (ka:Nat) (w:World),Cn n w B base cx K vo s c loc ret->DAt w (·<base) a l.length (zc7 l)->(∀ x ∈ l,okA cx c.u loc.length K.cd k x)->
 qc 168 #[pq c.C 0,.slice a l.length ka] w fun e w'=>Sa z82 n B base cx K c w vo (bN (aN (En cx n) (Wn cx n) cx c.u k) l ⟨loc,ret⟩ s) e w'
theorem Gm.refl (B D:Nat) (X:Nat->Prop) (vo:Value) (w:World):Gm B D X vo vo w w:=(Fm.refl B D vo w).gm
def z83 (B:Nat) (w:World):Nat:=match w.cell? ⟨B,7,none⟩ with
 | some (.int _ t)=>t.toNat
 | _=>0
theorem Wd.tk {w:World} {B base:Nat} {cx:Cx} {K:Wk} {vo:Value} {s:Sw} {e:Int} (h:Wd w B base cx K vo s e):z83 B w=s.ticks:=by
 obtain ⟨ai,ci,hb, -, -⟩:=h.blk;obtain ⟨q0,q1,q2,q3,q4,q5,q6,q7, -⟩:=zep hb;unfold z83;rw [q7];exact vbp _
set_option maxHeartbeats 3200000
set_option maxHeartbeats 6400000
theorem z7c (cx:Cx) (n u k:Nat) (l:List Ac) (c:Fr):Cq (bN (aN (En cx n) (Wn cx n) cx u k) l c):=zl0 (zzy cx.lim cx.lim) (n:=0) (zsu (zzy cx.lim cx.lim) (zna cx n).ent cx cx.lim (zna cx n).whl u k) l c
theorem z5f (cx:Cx) (n u:Nat) (body:List Ac) (loc:List Int) (s:Sw):En cx (n+1) u body loc s=(ziw cx.lim s).bind fun _ s=>if s.calls=24 then .stop 4 s else (bN (aN (En cx n) (Wn cx n) cx u 6) body ⟨loc,0⟩ { s with calls:=s.calls+1 }).bind fun d s=>.ok d.2.ret { s with calls:=s.calls - 1 }:=by
 unfold En Wn;rw [z2d]
 rfl
theorem Wd.call {n B base:Nat} {cx:Cx} {K:Wk} {vo:Value} {s:Sw} {w:World} {lv:Value} {L u:Nat} {loc:List Int} (h:Wd w B base cx K vo s 0) (hf:cx.lim+1<=s.ticks+n) (hL:Lo w lv L loc) (hS:K.S<=L) (hO:loc=[]\/vo.ownBlock≠some L) :
 ∃ c:Ca,c.C=w.heap.size/\c.u=u/\c.lv=lv/\(c.L=c.C\/c.L=L)/\Cn n (w.alloc (.cells #[pq B 0,qi u,lv,qi 0] 257)) B base cx K vo s c loc 0:=by
 have hz:=h.ro.zS
 have ho:vo.ownBlock≠some w.heap.size:=fun e=>by have:=(h.out.lt _ e).2;omega
 have DY:Cl (w.alloc (.cells #[pq B 0,qi u,lv,qi 0] 257)) B w.heap.size u lv 0:=heap_alloc_new w _
 have CN:Lo (w.alloc (.cells #[pq B 0,qi u,lv,qi 0] 257)) lv L loc:=hL.moves (by
  rcases hL.lt with e | e
  . exact Or.inl e
  . exact Or.inr ((al1 w _).block L e))
 by_cases hl:loc=[]
 . subst hl
   refine ⟨⟨w.heap.size,u,lv,w.heap.size⟩,rfl,rfl,rfl,Or.inl rfl,h.below (al1 w _),DY,?_,hz,ho,hz,by simp,Or.inl rfl,hf⟩;obtain ⟨a,e⟩:=hL.len;exact Or.inl ⟨rfl,a,e⟩
 . have A0:=hL.lt.resolve_left hl
   exact ⟨⟨w.heap.size,u,lv,L⟩,rfl,rfl,rfl,Or.inr rfl,h.below (al1 w _),DY,CN,hz,ho,hS,by simp;omega,Or.inr ⟨by show L≠w.heap.size;omega,hO.resolve_left hl⟩,hf⟩
theorem Gm.drop {B Dd L z:Nat} {c:Ca} {vo vo':Value} {w w' w0:World} (h:Gm B Dd (Xc c) vo vo' w w') (h1:c.C=z) (h2:c.L=c.C\/c.L=L) (h3:w0.heap.size<=z):Gm B Dd (fun b=>b=L\/w0.heap.size<=b) vo vo' w w':=h.mono (fun b e=>by
 rcases e with e | e
 . exact Or.inr (by omega)
 . rcases h2 with e' | e'
   . exact Or.inr (by omega)
   . exact Or.inl (by omega))
theorem Gm.lop {B Dd L:Nat} {vo vo':Value} {w w':World} (h:Gm B Dd (fun b=>b=L\/w.heap.size<=b) vo vo' w w'):Gm B Dd (·=L) vo vo' w w':=⟨h.os,h.tape,h.output,h.size,fun b h1 h2 h3 h4 h5=>h.block b h1 h2 h3 (fun e=>by rcases e with e | e;exact h4 e;omega) h5,h.own⟩
theorem enter_any {n B base:Nat} {cx:Cx} {K:Wk} (hB:∀ l,BlV n B base cx K 6 l):EnV (n+1) B base cx K:=by
 intro u body ab kb lv L loc vo s w hw GJ hLo hLS hLO hu hD hN;obtain ⟨la,rfl⟩:=hLo.len;rw [z5f]
 obtain ⟨R0,hR0⟩:∃ R0:Rr Int,R0=(ziw cx.lim s).bind fun _ s=>if s.calls=24 then .stop 4 s else (bN (aN (En cx n) (Wn cx n) cx u 6) body ⟨loc,0⟩ { s with calls:=s.calls+1 }).bind fun d s=>.ok d.2.ret { s with calls:=s.calls - 1 }:=⟨_,rfl⟩
 have FI:=hid hR0;rw [← hR0];have HT:=hid (tick_any B base cx K vo s w hw);have HB:=hid hB;have HD:=hid hD;have HN:=hid hN;have Nj:=hid hLo;have Hd:=hid hw;have Pe:=hid hLO;have Md:=hid GJ;have Jz:=hid hLS;clear hw GJ hLo hLO hu hD hN hB hR0 hLS;go_enter Tryz.func125,Tryz.ntmps125;go_wp2_with fail;refine HT.out.mono ?_;rintro e w1 ⟨EU,hf,hx⟩
 rcases hx.symm with ⟨k',s1,hr,rfl,Cm⟩ | ⟨a,s1,hr,rfl,Cm⟩
 . exact ⟨rfl,EU,hf.gm,Or.inr ⟨k',s1,FI.out.trans (zv1 hr),rfl,Cm⟩⟩
 . have Jf:w.heap.size<=w1.heap.size:=hf.size
   have ht:s1.ticks=s.ticks+1:=by
    by_cases hl:s.ticks=cx.lim
    . rw [zsv hl] at hr;cases hr
    . rw [zwb hl] at hr;cases hr;rfl
   have HF:=hid hf;have HR:=hid (FI.out.trans (bind_ok hr));have Ir:=hid Cm;obtain ⟨ai,ci,hb, -, -⟩:=Cm.blk;obtain ⟨q0,q1,q2,q3,q4,q5,q6,q7,q8,q9,qz,qf⟩:=zep hb;have DY:=Cm.cl;clear hx hr hf Cm hb;unfold z8a
   by_cases hc:s1.calls=24
   . have A5:((s1.calls:Int) == 24)=true:=by rw [hc];rfl
     have HS:=hid (stop_any B base cx K EU s1 4 w1 Ir.out);have Am:=hid (HR.out.trans (if_pos hc));clear hc;go_wp2_with fail;refine HS.out.mono ?_;rintro e w2 ⟨rfl,hg,hw⟩;exact ⟨rfl,EU,(HF.out.trans (Fm.grown hg)).gm,Or.inr ⟨4,s1,Am.out,rfl,hw⟩⟩
   . have A5:((s1.calls:Int) == 24)=false:=by rw [beq_eq_false_iff_ne];omega
     have Am:=hid (HR.out.trans (if_neg hc));have HP:=hid (Ir.out.put (i:=8) (u:=qi ((s1.calls:Int)+1)) (s':={ s1 with calls:=s1.calls+1 }) (e':=0) (fun _ _=>rfl) rfl rfl rfl Ir.out.tl (by show s1.calls+1<=24;omega))
     have OG:Lo (w1.setCell (qa B 8) (qi ((s1.calls:Int)+1))) (.slice la loc.length loc.length) L loc:=Nj.out.moves (by
      rcases Nj.out.lt with e | e
      . exact Or.inl e
      . rcases Pe.out with e' | e'
        . exact Or.inl e'
        . have h1:=Hd.out.ro.BS
          have h2:=Hd.out.ro.DS;have h3:=Jz.out
          exact Or.inr ((heap_set_ne (by show L≠B;omega) _).trans (HF.out.block L e (by omega) (by omega) e')))
     have OD:loc=[]\/EU.ownBlock≠some L:=by
      rcases Nj.out.lt with e | e
      . exact Or.inl e
      . rcases Pe.out with e' | e'
        . exact Or.inl e'
        . exact Or.inr (fun x=>e' (HF.out.own L x e))
     obtain ⟨c,Mp,hcu,KP,QG,hCn⟩:=HP.out.call (n:=n) (u:=u) (by show cx.lim+1<=s1.ticks+n;rw [ht];have:=Md.out;omega) OG Jz.out OD;simp only [vaq] at Mp;have Ki:=hid ((HF.out.trans (Fm.grown (zdz (B:=B) (i:=8) (u:=qi ((s1.calls:Int)+1))))).trans (Fm.below (D:=K.D) (B:=B) (al1 (w1.setCell (qa B 8) (qi ((s1.calls:Int)+1))) (.cells #[pq B 0,qi u,.slice la loc.length loc.length,qi 0] 257))));have C8:DAt ((w1.setCell (qa B 8) (qi ((s1.calls:Int)+1))).alloc (.cells #[pq B 0,qi u,.slice la loc.length loc.length,qi 0] 257)) (·<base) ab body.length (zc7 body):=HD.out.fm Ki.out Hd.out.ro.lB Hd.out.ro.lD (fun k e=>by have:=(Hd.out.out.lt k e).1;have:=Hd.out.ro.BS;have:=Hd.out.ro.lB;omega);have Kv:=HB.out body c loc 0 EU { s1 with calls:=s1.calls+1 } ab kb _ hCn C8 (by rw [hcu];exact HN.out)
     rw [Mp,hcu] at Kv;have HX:=hid Kv;have TX:=hid hCn;have HC:=hid (And.intro Mp QG)
     have IZ:wrap64 ((s1.calls:Int)+1)=(s1.calls:Int)+1:=by unfold wrap64;omega
     clear Kv hCn C8 OD OG KP hcu hc;go_wp2_with fail;refine HX.out.mono ?_;rintro e w4 ⟨NE,hg,⟨k',s4,hr,rfl,hw⟩ | ⟨⟨db,dl,dr⟩,s4,hr,rfl,hw⟩⟩
     . exact ⟨rfl,NE,(Ki.out.gm.trans (Gm.drop (L:=L) hg HC.out.1 HC.out.2 Jf)).lop,Or.inr ⟨k',s4,Am.out.trans (zv1 hr),rfl,hw⟩⟩
     . have S5:=hid (Ki.out.gm.trans (Gm.drop (L:=L) hg HC.out.1 HC.out.2 Jf))
       have Jt:=z7c cx n u 6 body ⟨loc,0⟩ _ _ _ hr;have Jt:s4.calls=s1.calls+1:=Jt;have AP:=hid (Am.out.trans (bind_ok hr));have Ho:=hid (hw.wd.put (i:=8) (u:=qi (s1.calls:Int)) (s':={ s4 with calls:=s4.calls - 1 }) (e':=0) (fun _ _=>by rw [Jt,Nat.add_sub_cancel];rfl) rfl rfl rfl hw.wd.tl (by show s4.calls - 1<=24;omega));have MC:=hw.cl;rw [HC.out.1] at MC;obtain ⟨p0,p1,p2,p3,pz,pf⟩:=z2y MC;obtain ⟨TQ,ci4,Ah, -, -⟩:=hw.wd.blk;obtain ⟨r0,r1,r2,r3,r4,r5,r6,r7,r8,r9,rz,rf⟩:=zep Ah
       have Sy:w4.cell? (qa B 8)=some (qi ((s1.calls:Int)+1)):=by rw [r8,Jt];rfl
       have m1:B≠w1.heap.size:=by omega
       clear hg hr hw MC Ah r8 Jt r0 r1 r2 r3 r4 r5 r6 r7 r9 q0 q1 q2 q3 q4 q5 q6 q7 q8 q9 qf p0 p1 p2;unfold z82;go_wp2_with fail
       go_returns
       exact ⟨NE,(S5.out.trans (Fm.grown zdz).gm).lop,Or.inl ⟨dr,_,AP.out,rfl,Ho.out⟩⟩
def Rr.en {α:Type}:Rr α->Int
 | .ok _ _=>0
 | .stop e _=>e
end Go.Proofs.YtndkhgakfodldaaGreatDoor

namespace Go.Proofs.YtndkhgakfodldaaGreatDoor
set_option maxRecDepth 100000
open Go.RowKit Go.Shelf Go.Maps Go.WideMaps
set_option linter.unusedSimpArgs false
set_option linter.unusedVariables false
theorem zkq.moves {w w':World} {b n:Nat} {L:Lc} (h:zkq w b n L) (hb:w'.heap[b]? = w.heap[b]?):zkq w' b n L:=by
 obtain ⟨D,⟨es,clock,hh,r⟩,k⟩:=h;exact ⟨D,⟨es,clock,hb.trans hh,r⟩,k⟩
theorem zkq.has {w w':World} {b n:Nat} {L:Lc} (h:zkq w b n L) (hb:∀ x,w.heap[b]? = some x->w'.heap[b]? = some x):zkq w' b n L:=by
 obtain ⟨D,⟨es,clock,hh,r⟩,k⟩:=h;exact ⟨D,⟨es,clock,hb _ hh,r⟩,k⟩
structure Nr (S0:Nat) (wr:World) (rs:List (List Nat)) (bs:List Int) (vn vb:Value) (vs:List Value):Prop where
 on:wr.ownsRow S0 49 1 vn rs.length vs
 ob:wr.ownsRow S0 3 1 vb bs.length (intV bs)
 ap:Apt vn vb
 vl:vs.length=rs.length
 rw:∀ i (h:i<rs.length) (h':i<vs.length),wr.ownsRow S0 3 1 vs[i] rs[i].length (intV (natI rs[i]))/\Apt vs[i] vn/\Apt vs[i] vb
theorem Nr.keep {S0:Nat} {wr w':World} {rs:List (List Nat)} {bs:List Int} {vn vb:Value} {vs:List Value} (h:Nr S0 wr rs bs vn vb vs) (hk:∀ b,S0<=b->b<wr.heap.size->w'.heap[b]? = wr.heap[b]?):Nr S0 w' rs bs vn vb vs:=
 ⟨zaf h.on (fun k e=>hk k (h.on.lt k e).1 (h.on.lt k e).2),zaf h.ob (fun k e=>hk k (h.ob.lt k e).1 (h.ob.lt k e).2),h.ap,h.vl,fun i h1 h2=>⟨zaf (h.rw i h1 h2).1 (fun k e=>hk k ((h.rw i h1 h2).1.lt k e).1 ((h.rw i h1 h2).1.lt k e).2),(h.rw i h1 h2).2⟩⟩
theorem zm6 {W:World} {A:Nat->Prop}:∀ l:List Int,(∀ i ∈ l,(Lit.int .i64 i).wf=true)->zan W A (zfm l) (intV l)
 | [],_=>zan.nil
 | x :: r,hf=>.cons (zc6 (hf x (vap ..))) (zm6 r (fun j hj=>hf j (vaj _ hj)))
theorem zm7 {W:World} {base:Nat} {t:TypeId} {sz:Nat} {a:OA} {n cap:Nat} {xs:List Value} {ds:List D} {A:Nat->Prop} (h:W.ownsRow base t sz (.slice a n cap) n xs) (hx:zan W A ds xs) (h1:n<=ds.length) (h2:ds.length<=17592186044416) (hA:∀ q,base<=q->q<W.heap.size->A q):DAt W A a n ds:=by
 refine ⟨h1,h2,?_⟩
 rcases h.2 with ⟨e,h0⟩ | ⟨g,cap',AC,e,hb,hg,_⟩
 . exact Or.inl h0
 . cases e
   refine Or.inr ⟨g,0,xs,rfl,hA g hb (lt_of_heap hg),lt_of_heap hg,fun j u hj=>?_,hx⟩;have:=h.cells (g:=g) rfl j u hj;rw [show ((qa g 0):Addr).add j=(qa g j) from by unfold Addr.add;split<;>simp_all] at this
   rw [vax];exact this
theorem Nr.beg {S0 n cb:Nat} {w:World} {rs:List (List Nat)} {bs:List Int} {vn:Value} {ab:OA} {vs:List Value} {A:Nat->Prop} (h:Nr S0 w rs bs vn (.slice ab n cb) vs) (hn:n=bs.length) (hA:∀ q,S0<=q->q<w.heap.size->A q) (hf:∀ i ∈ bs,(Lit.int .i64 i).wf=true) (hl:bs.length<=1000):DAt w A ab bs.length (zfm bs):=by
 subst hn;exact zm7 h.ob (zm6 bs hf) (by simp [zfm]) (by simp [zfm];omega) hA
theorem zsq {S0:Nat} {w:World} {A:Nat->Prop} (hA:∀ q,S0<=q->q<w.heap.size->A q):∀ (rs:List (List Nat)) (vs:List Value),vs.length=rs.length->(∀ r ∈ rs,r.length<=3000000/\∀ i ∈ natI r,(Lit.int .i64 i).wf=true)->(∀ i (h:i<rs.length) (h':i<vs.length),w.ownsRow S0 3 1 vs[i] rs[i].length (intV (natI rs[i])))->zan w A (zsc rs) vs
 | [],[],_,_,_=>zan.nil
 | [],_ :: _,h,_,_=>by simp at h
 | _ :: _,[],h,_,_=>by simp at h
 | r :: rs,v :: vs,h,hf,ho=>by
   have h0:=ho 0 (by simp) (by simp);simp only [vbl] at h0;obtain ⟨a,cap,rfl,_,_⟩:=zag h0;have hr:=hf r (vap ..)
   have hl:(natI r).length=r.length:=by simp [natI]
   refine .cons (DAt.val (zm7 h0 (zm6 _ hr.2) (by simp [zfm,hl]) (by simp [zfm,hl];omega) hA)) (zsq hA rs vs (by simpa using h) (fun r' h'=>hf r' (vaj _ h')) (fun i h1 h2=>?_));have:=ho (i+1) (by simpa using h1) (by simpa using h2);simpa using this
theorem Nr.near {S0 n cn:Nat} {w:World} {rs:List (List Nat)} {bs:List Int} {vb:Value} {an:OA} {vs:List Value} {A:Nat->Prop} (h:Nr S0 w rs bs (.slice an n cn) vb vs) (hn:n=rs.length) (hA:∀ q,S0<=q->q<w.heap.size->A q) (hf:∀ r ∈ rs,r.length<=3000000/\∀ i ∈ natI r,(Lit.int .i64 i).wf=true) (hl:rs.length<=1000):DAt w A an rs.length (zsc rs):=by
 subst hn;exact zm7 h.on (zsq hA rs vs h.vl hf (fun i h1 h2=>(h.rw i h1 h2).1)) (by simp [zsc]) (by simp [zsc];omega) hA
theorem Apt.new {v u:Value} {w:World} {B C:Nat} {e e2:TypeId} {z z2 n n2:Nat} {xs ys:List Value} {w':World} (h:w.ownsRow B e z v n xs) (h':w'.ownsRow C e2 z2 u n2 ys) (hw:w'.heap.size<=B):Apt v u:=fun k h1 h2=>by
 have:=(h.lt k h1).1;have:=(h'.lt k h2).2;omega
set_option maxHeartbeats 12800000
end Go.Proofs.YtndkhgakfodldaaGreatDoor

namespace Go.Proofs.YtndkhgakfodldaaGreatDoor
set_option maxRecDepth 100000
set_option maxHeartbeats 800000
open Go.RowKit Go.Shelf
set_option linter.unusedSimpArgs false
set_option linter.unusedVariables false
def ziu (w:World) (a:OA) (l:List Int):Prop:=l=[]\/∃ b off,a=some (qa b off)/\b<w.heap.size/\∀ i (h:i<l.length),w.cell? ⟨b,off+i,none⟩=some (qi l[i])
theorem ziu.later {w w':World} {a:OA} {l:List Int} (h:ziu w a l) (hb:qb w w'):ziu w' a l:=by
 rcases h with h | ⟨b,off,ha,hl,hc⟩
 . exact Or.inl h
 . exact Or.inr ⟨b,off,ha,vah hl hb.size,fun i h=>(hb.cell (p:=⟨b,off+i,none⟩) hl).trans (hc i h)⟩
theorem ziu.at_ {w:World} {a:OA} {l:List Int} (h:ziu w a l) (i:Nat) (hi:i<l.length):∃ b off,a=some (qa b off)/\b<w.heap.size/\w.cell? ⟨b,off+i,none⟩=some (qi l[i]):=by
 rcases h with rfl | ⟨b,off,ha,hl,hc⟩
 . simp at hi
 . exact ⟨b,off,ha,hl,hc i hi⟩
theorem ziu.own {w:World} {B n:Nat} {a:OA} {cap:Nat} {l:List Int} (h:w.ownsRow B 3 1 (.slice a n cap) n (intV l)) (hn:n=l.length):ziu w a l:=by
 subst hn
 rcases h.2 with ⟨_,h0⟩ | ⟨g,cap',AC,e,_,hg,_⟩
 . exact Or.inl (vam h0)
 . cases e
   refine Or.inr ⟨g,0,rfl,lt_of_heap hg,fun i hi=>?_⟩;have:=h.cells (g:=g) rfl i (qi l[i]) (by simp [intV,hi]);rw [show ((qa g 0):Addr).add i=(qa g i) from by unfold Addr.add;split<;>simp_all] at this
   rw [vax];exact this
theorem ziu.blk {w:World} {g:Nat} {l:List Int} (h:w.heap[g]? = some (.cells (intV l).toArray 3 (0,0))):ziu w (some (qa g 0)) l:=Or.inr ⟨g,0,rfl,lt_of_heap h,fun i hi=>by
 rw [vep h,vdj]
 simp [intV,hi]⟩
theorem ziu.take {w:World} {a:OA} {l m:List Int} (h:ziu w a l) (hp:m <+: l):ziu w a m:=by
 obtain ⟨t,rfl⟩:=hp
 rcases h with h | ⟨b,off,ha,hl,hc⟩
 . exact Or.inl (List.append_eq_nil_iff.1 h).1
 . refine Or.inr ⟨b,off,ha,hl,fun i hi=>?_⟩
   have:=hc i (by rw [vak];omega);rw [vch hi] at this;exact this
theorem zow {w w':World} (h:qb w w') (m:Nat):qb w (w'.drewN m):=zcz h m
theorem zie (a b:OA) (c1 c2:Nat) (l:List Int) (w:World) (ha:ziu w a l) (hb:ziu w b l) (Bt:l.length<=1000000) :
 qc 28 #[.slice a l.length c1,.slice b l.length c2] w fun e w'=>e = .returned (.bool true)/\∃ m,w'=w.drewN m:=by
 have HA:=hid ha;have HB:=hid hb;clear ha hb;go_enter Tryz.func28,Tryz.ntmps28;go_wp2_with fail
 go_loopw [5] (fun i wr=>∃ k m:Nat,k<=l.length/\i=qi k/\wr=w.drewN m) (fun i _=>l.length - (intOf i).toNat)
 case atStart=>exact ⟨0,0,vae _,rfl,rfl⟩
 case round=>
  obtain ⟨k,m,hk,rfl,rfl⟩:=hrel
  by_cases A0:k<l.length
  . obtain ⟨b1,o1,rfl,Cz,CB⟩:=(HA.out.later (bd w m)).at_ k A0
    obtain ⟨b2,o2,rfl,Cg,Fw⟩:=(HB.out.later (bd w m)).at_ k A0;have hc:=hid CB;generalize l[k]=lk at *;generalize hW:w.drewN m=W at *;have HW:=hid hW;clear hW;go_wp2_with fail
    go_quiet ((fail))
    go_wp2_with fail;go_roundw
    case rel=>exact ⟨k+1,m+nq,by omega,by go_num,by rw [← HW.out,vey]⟩
    case measure=>simp [intOf];omega
  . go_wp2_with fail
    go_ret;exact ⟨rfl,m,rfl⟩
theorem ziv (en tk:Int) (oa ob da db:OA) (c1 c2 c3 c4:Nat) (l r:List Int) (w:World) (h1:ziu w oa l) (h2:ziu w ob l) (h3:ziu w da r) (h4:ziu w db r) (hl:l.length<=1000000) (hr:r.length<=1000000) :
 qc 29 #[.agg #[qi en,.slice oa l.length c1,.slice da r.length c3,qi tk],.agg #[qi en,.slice ob l.length c2,.slice db r.length c4,qi tk]] w fun e w'=>e = .returned (.bool true)/\qb w w':=by
 have HS:Hid (∀ W,qb w W->qc 28 #[.slice oa l.length c1,.slice ob l.length c2] W fun e w'=>e = .returned (.bool true)/\∃ m,w'=W.drewN m):=fun W hb=>zie oa ob c1 c2 l W (h1.later hb) (h2.later hb) hl
 have HT:Hid (∀ W,qb w W->qc 28 #[.slice da r.length c3,.slice db r.length c4] W fun e w'=>e = .returned (.bool true)/\∃ m,w'=W.drewN m):=fun W hb=>zie da db c3 c4 r W (h3.later hb) (h4.later hb) hr
 clear h1 h2 h3 h4 hl hr;have Ad:=hid (thenB (al1 w (.cells #[qi en,.slice oa l.length c1,.slice da r.length c3,qi tk] 51)) (al1 _ (.cells #[qi en,.slice ob l.length c2,.slice db r.length c4,qi tk] 51)));generalize l.length=n at *;generalize r.length=k at *;go_enter Tryz.func29,Tryz.ntmps29;go_wp2_with fail;refine (HS.out _ Ad.out).mono ?_;rintro e w1 ⟨rfl,m1,rfl⟩;go_wp2_with fail;refine (HT.out _ (zow Ad.out m1)).mono ?_;rintro e w1 ⟨rfl,m2,rfl⟩;go_wp2_with fail;go_ret;exact ⟨rfl,zow Ad.out _⟩
def z7d (w:World) (r:Rs) (v:Value):Prop:=∃ ao co ad cd,v = .agg #[qi r.end_,.slice ao r.out.length co,.slice ad r.data.length cd,qi r.ticks]/\ziu w ao r.out/\ziu w ad r.data/\r.out.length<=co
theorem z7d.later {w w':World} {r:Rs} {v:Value} (h:z7d w r v) (hb:qb w w'):z7d w' r v:=by
 obtain ⟨ao,co,ad,cd,e,h1,h2,h3⟩:=h;exact ⟨ao,co,ad,cd,e,h1.later hb,h2.later hb,h3⟩
end Go.Proofs.YtndkhgakfodldaaGreatDoor
