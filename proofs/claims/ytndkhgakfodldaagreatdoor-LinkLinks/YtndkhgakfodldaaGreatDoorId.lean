import Derived.Test.YtndkhgakfodldaaGreatDoorBc
import Derived.Test.YtndkhgakfodldaaGreatDoorUt
namespace Go.Proofs.YtndkhgakfodldaaGreatDoor
set_option maxRecDepth 100000
set_option maxHeartbeats 1600000
open Go.RowKit Go.Shelf
set_option linter.unusedSimpArgs false
set_option linter.unusedVariables false
section
variable {α:Type} {p:L8->Option (α × L8)} {A5:List α} {n:Nat} {l r:L8} {i:α}
end
theorem str_one (x:ByteArray):∀ u ∈ (#[Value.string x]:Array Value).toList,u.oneCell'=true:=by simp;rfl
theorem int_one (x:Int):∀ u ∈ (#[Value.int .i64 x]:Array Value).toList,u.oneCell'=true:=by simp;rfl
set_option maxHeartbeats 12800000
abbrev zC:Obj:=kzD ⟨#[]⟩ none 0 0 0 none 0 0 none 0 0 none 0 0 0
abbrev zV:Value:=.agg #[.string ⟨#[]⟩,qs,qi 0,qs,qs,qs,qi 0]
structure OvLo (w:World) (lo:Nat) (o:Ob) (x1:OA) (x3:OA) (x4:OA) (x5:OA):Prop where
 wn:o.name.size<=maxLen
 uses:DAt w (lo<=·) x1 o.uses.length (zak o.uses)
 wd:(Lit.int .i64 o.data).wf=true
 code:DAt w (lo<=·) x3 o.code.length (zxw o.code)
 fixes:DAt w (lo<=·) x4 o.fixes.length (z4r o.fixes)
 entries:DAt w (lo<=·) x5 o.entries.length (zgf o.entries)
 wm:(Lit.int .i64 o.main).wf=true
theorem OvLo.moves {w w':World} {lo lo':Nat} {o:Ob} {x1 x3 x4 x5:OA} (h:OvLo w lo o x1 x3 x4 x5) (m:zad w (lo<=·) w' (lo'<=·)):OvLo w' lo' o x1 x3 x4 x5:=
 ⟨h.wn,h.uses.moves m,h.wd,h.code.moves m,h.fixes.moves m,h.entries.moves m,h.wm⟩
theorem OvLo.ov {w:World} {lo:Nat} {o:Ob} {x1 x3 x4 x5:OA} (h:OvLo w lo o x1 x3 x4 x5):OvAt w o x1 x3 x4 x5:=
 have m:zad w (lo<=·) w Tt:=⟨vaa _,fun b hb _=>⟨trivial,rfl⟩⟩
 ⟨h.wn,h.uses.moves m,h.wd,h.code.moves m,h.fixes.moves m,h.entries.moves m,h.wm⟩
set_option maxHeartbeats 6400000
def noneO (w:World) (b:Nat):World:=((((((((w.alloc zC).setCell (qa b 0) (.string ⟨#[]⟩)).setCell (qa b 1) (qs)).setCell (qa b 2) (qi 0)).setCell (qa b 3) (qs)).setCell (qa b 4) (qs)).setCell (qa b 5) (qs)).setCell (qa b 6) (qi 0)).setCell ⟨b+1,0,none⟩ (.bool false)
def z9p (w:World) (b:Nat) (x0 x1 x2 x3 x4 x5 x6:Value):World:=(((((((w.setCell (qa b 0) (x0)).setCell (qa b 1) (x1)).setCell (qa b 2) (x2)).setCell (qa b 3) (x3)).setCell (qa b 4) (x4)).setCell (qa b 5) (x5)).setCell (qa b 6) (x6))
theorem z9q {w:World} {b:Nat} {y0 y1 y2 y3 y4 y5 y6:Value} {t:TypeId} {f:Nat × Nat} (h:w.heap[b]? = some (.cells #[y0,y1,y2,y3,y4,y5,y6] t f)) (x0 x1 x2 x3 x4 x5 x6:Value):(z9p w b x0 x1 x2 x3 x4 x5 x6).heap[b]? = some (.cells #[x0,x1,x2,x3,x4,x5,x6] t f):=by
 have h0:(w.setCell (qa b 0) x0).heap[b]? = some (.cells #[x0,y1,y2,y3,y4,y5,y6] t f):=heap_set h x0;have h1:((w.setCell (qa b 0) x0).setCell (qa b 1) x1).heap[b]? = some (.cells #[x0,x1,y2,y3,y4,y5,y6] t f):=heap_set h0 x1;have h2:(((w.setCell (qa b 0) x0).setCell (qa b 1) x1).setCell (qa b 2) x2).heap[b]? = some (.cells #[x0,x1,x2,y3,y4,y5,y6] t f):=heap_set h1 x2;have h3:((((w.setCell (qa b 0) x0).setCell (qa b 1) x1).setCell (qa b 2) x2).setCell (qa b 3) x3).heap[b]? = some (.cells #[x0,x1,x2,x3,y4,y5,y6] t f):=heap_set h2 x3;have h4:(((((w.setCell (qa b 0) x0).setCell (qa b 1) x1).setCell (qa b 2) x2).setCell (qa b 3) x3).setCell (qa b 4) x4).heap[b]? = some (.cells #[x0,x1,x2,x3,x4,y5,y6] t f):=heap_set h3 x4;have h5:((((((w.setCell (qa b 0) x0).setCell (qa b 1) x1).setCell (qa b 2) x2).setCell (qa b 3) x3).setCell (qa b 4) x4).setCell (qa b 5) x5).heap[b]? = some (.cells #[x0,x1,x2,x3,x4,x5,y6] t f):=heap_set h4 x5
 have h6:(((((((w.setCell (qa b 0) x0).setCell (qa b 1) x1).setCell (qa b 2) x2).setCell (qa b 3) x3).setCell (qa b 4) x4).setCell (qa b 5) x5).setCell (qa b 6) x6).heap[b]? = some (.cells #[x0,x1,x2,x3,x4,x5,x6] t f):=heap_set h5 x6;exact h6
theorem z12 {w:World} {b k:Nat} (hn:k≠b) (x0 x1 x2 x3 x4 x5 x6:Value):(z9p w b x0 x1 x2 x3 x4 x5 x6).heap[k]? = w.heap[k]?:=
 (heap_set_ne hn _).trans ((heap_set_ne hn _).trans ((heap_set_ne hn _).trans ((heap_set_ne hn _).trans ((heap_set_ne hn _).trans ((heap_set_ne hn _).trans (heap_set_ne hn _))))))
theorem zwe {B:Nat} {w w':World} {b:Nat} (h:Below B w w') (hb:B<=b) (x0 x1 x2 x3 x4 x5 x6:Value):Below B w (z9p w' b x0 x1 x2 x3 x4 x5 x6):=
 (((((((h.setCell (p:=(qa b 0)) hb _).setCell (p:=(qa b 1)) hb _).setCell (p:=(qa b 2)) hb _).setCell (p:=(qa b 3)) hb _).setCell (p:=(qa b 4)) hb _).setCell (p:=(qa b 5)) hb _).setCell (p:=(qa b 6)) hb _)
theorem zoo (b:Nat) (x0 x1 x2 x3 x4 x5 x6:Value) (y:Bool) (u:TypeId) (pv:Value) (w:World) (hX:w.heap[b]? = some (.cells #[x0,x1,x2,x3,x4,x5,x6] 62 (0,0))) (hK:w.heap[b+1]? = some (.cells #[.bool y] 4 (0,0))) :
 CallsD Tryz.prog 136 #[pq b 0,.pointer (some ⟨b+1,0,none⟩)] (.panicking [{ v:=.iface u pv,recovered:=false }]) w fun e u' w'=>
  e = .returned (.tuple #[])/\u' = .panicking [{ v:=.iface u pv,recovered:=true }]/\w'=noneO w b:=by
 have Kw:=zab (o:=kzD ⟨#[]⟩ none 0 0 0 none 0 0 none 0 0 none 0 0 0) hX;have NI:=zab (o:=kzD ⟨#[]⟩ none 0 0 0 none 0 0 none 0 0 none 0 0 0) hK;obtain ⟨a0,a1,a2,a3,a4,a5,a6,az⟩:=zam Kw
 have SI:∀ j,(w.alloc zC).frozen? (qa b j)=false:=fun j=>veq Kw j
 have k0:(w.alloc zC).cell? ⟨b+1,0,none⟩=some (.bool y):=by rw [vep NI];rfl
 have kf:(w.alloc zC).frozen? ⟨b+1,0,none⟩=false:=veq NI 0;obtain ⟨n0,n1,n2,n3,n4,n5,n6,nz⟩:=zam (heap_newP w zC);have hE:noneO w b=((((((((w.alloc zC).setCell (qa b 0) (.string ⟨#[]⟩)).setCell (qa b 1) (qs)).setCell (qa b 2) (qi 0)).setCell (qa b 3) (qs)).setCell (qa b 4) (qs)).setCell (qa b 5) (qs)).setCell (qa b 6) (qi 0)).setCell ⟨b+1,0,none⟩ (.bool false):=rfl;rw [hE];clear hX hK Kw NI hE
 refine callsD_of_wpS Tryz.func136 rfl fun c₀ cs hu=>?_
 apply wpS_seq
 apply wpS_region
 simp [wpOpsS,go_sem,recoverD,hu,Tryz.ntmps136,Exit.thenS];refine wpS_cond (t:=true) cg ?_;simp only [if_true]
 apply wpS_seq
 apply wpS_region
 simp [wpOpsS,go_sem,Exit.thenS]
 apply wpS_region
 simp [wpOpsS,go_sem,n0,n1,n2,n3,n4,n5,n6,a0,a1,a2,a3,a4,a5,a6,SI,k0,kf,bodyPostS,results,Tryz.results136]
theorem caught (u:TypeId) (pv:Value) (w W:World) (x0 x1 x2 x3 x4 x5 x6:Value) (y:Bool) (hX:W.heap[w.heap.size]? = some (.cells #[x0,x1,x2,x3,x4,x5,x6] 62 (0,0))) (hK:W.heap[w.heap.size+1]? = some (.cells #[.bool y] 4 (0,0))) (hB:qb w W) {R:Ending->World->Prop} (t:Array Value)
 (h4:t.getD 4 undef=pq w.heap.size 0) (h5:t.getD 5 undef = .pointer (some ⟨w.heap.size+1,0,none⟩))
 (hR:∀ W',qb w W'->R (.returned (.tuple #[zV,.bool false])) W') :
 Leaves Tryz.prog Tryz.f95 t R [{ target:=Target.fn (Fn.func 136) #[Value.pointer (some (qa w.heap.size 0)),Value.pointer (some ⟨w.heap.size+1,0,none⟩)],args:=#[] }] (.panicking [{ v:=.iface u pv,recovered:=false }]) W:=by
 refine leaves_cons (f:=136) (args:=#[pq w.heap.size 0,.pointer (some ⟨w.heap.size+1,0,none⟩)]) aA cN ?_;refine (zoo w.heap.size x0 x1 x2 x3 x4 x5 x6 y u pv W hX hK).mono ?_;rintro e u' AC ⟨rfl,rfl,rfl⟩;have Kw:=z9q (zab (o:=kzD ⟨#[]⟩ none 0 0 0 none 0 0 none 0 0 none 0 0 0) hX) (.string ⟨#[]⟩) (qs) (qi 0) (qs) (qs) (qs) (qi 0);have S4:(noneO W w.heap.size).heap[w.heap.size]? = some (zC):=(heap_set_ne (p:=⟨w.heap.size+1,0,none⟩) bq _).trans Kw;have Kz:(noneO W w.heap.size).heap[w.heap.size+1]? = some (.cells #[.bool false] 4 (0,0)):=heap_set ((z12 ae _ _ _ _ _ _ _).trans (zab (o:=kzD ⟨#[]⟩ none 0 0 0 none 0 0 none 0 0 none 0 0 0) hK)) _;have hb:qb w (noneO W w.heap.size):=(zwe (hB.alloc hB.size _) (vaa _) _ _ _ _ _ _ _).setCell (p:=⟨w.heap.size+1,0,none⟩) (vel _) _
 obtain ⟨c0,c1,c2,c3,c4,c5,c6,_⟩:=zam S4
 have k0:(noneO W w.heap.size).cell? ⟨w.heap.size+1,0,none⟩=some (.bool false):=by rw [vep Kz];rfl
 generalize noneO W w.heap.size=X at *
 have NT:t[4]?.getD undef=pq w.heap.size 0:=by simpa using h4
 have NR:t[5]?.getD undef = .pointer (some ⟨w.heap.size+1,0,none⟩):=by simpa using h5
 refine ⟨.tuple #[zV,.bool false],?_,hR X hb⟩;simp [results,Tryz.results95,go_sem,NT,NR,c0,c1,c2,c3,c4,c5,c6,k0]
end Go.Proofs.YtndkhgakfodldaaGreatDoor

namespace Go.Proofs.YtndkhgakfodldaaGreatDoor
set_option maxRecDepth 100000
set_option maxHeartbeats 12800000
open Go.RowKit Go.Maps Go.WideMaps
set_option linter.unusedSimpArgs false
set_option linter.unusedVariables false
end Go.Proofs.YtndkhgakfodldaaGreatDoor

namespace Go.Proofs.YtndkhgakfodldaaGreatDoor
set_option maxRecDepth 100000
set_option maxHeartbeats 1600000
open Go.RowKit Go.Shelf
set_option linter.unusedSimpArgs false
set_option linter.unusedVariables false
theorem DAt.tailI {w:World} {A:Nat->Prop} {b off:Nat} {x:Int} {r:List Int} (h:DAt w A (some (qa b off)) (x :: r).length (zgf (x :: r))):DAt w A (some ⟨b,off+1,none⟩) r.length (zgf r):=by
 obtain ⟨h1,h2,h3⟩:=h;have e:zgf (x :: r) = .int x :: zgf r:=rfl;rw [e] at h1 h2 h3;refine ⟨by simp only [vaw] at h1;omega,by simp only [vaw] at h2;omega,?_⟩
 rcases h3 with h4 | ⟨b',BN,cs,ha,hl,hb,hc,hx⟩
 . simp at h4
 . cases ha
   unfold zaq at hx;obtain ⟨v,t,rfl,_,hx⟩:=hx;refine Or.inr ⟨b,off+1,t,rfl,hl,hb,fun j u hj=>?_,hx⟩;have:=hc (j+1) u (by simpa using hj);rw [show off+1+j=off+(j+1) from ae];exact this
theorem Wd.fromIn {w:World} {B base:Nat} {cx:Cx} {K:Wk} {vo:Value} {s:Sw} {e:Int} {x:Int} {r:List Int} {ai aj:OA} {ci cj:Nat} (h:Wd w B base cx K vo s e) (hs:s.inp=x :: r) (hb:w.heap[B]? = some (.cells (wC cx K ai ci vo s e) 128 (0,0))) (hi:DAt w (·<base) aj r.length (zgf r)) (hc:r.length<=cj):Wd (w.setCell (qa B 4) (.slice aj r.length cj)) B base cx K vo { s with inp:=r } e:=by
 have h6:=h.ro.lB;refine ⟨⟨aj,cj,heap_set hb _,hi.moves ⟨aA,fun b _ A0=>⟨A0,heap_set_ne (by show b≠B;omega) _⟩⟩,hc⟩,?_,?_,h.ro.moves aA (fun b _ hn _=>heap_set_ne (by show b≠B;exact hn) _),h.cd,h.dl,h.tl,h.tm,h.cl,h.ol⟩
 . exact (heap_set_ne dy _).trans h.data
 . exact zaf h.out (fun k hk=>heap_set_ne (fun e=>h.oB eG) _)
theorem next_any (B base:Nat) (cx:Cx) (K:Wk) (vo:Value) (s:Sw) (w:World) (h:Wd w B base cx K vo s 0) :
 qc 290 #[pq B 0] w fun e w'=>Sr ybh B base cx K w vo (zos s) e w':=by
 obtain ⟨ai,ci,hb,hi,hc⟩:=h.blk;have HW:=hid h
 cases hs:s.inp with
 | nil=>
   have HR:Hid (zos s = .ok 0 s):=by show _=_;unfold zos;rw [hs]
   have B6:=hb;unfold wC at B6;rw [hs] at B6;obtain ⟨q0,q1,q2,q3,q4,q5,q6,q7,q8,q9,qz,qf⟩:=zfi B6;clear h hb B6 hi hc hs;go_enter Tryz.func290,Tryz.ntmps290;go_wp2_with fail
   go_returns
   exact ⟨vo,Fm.refl _ _ _ _,Or.inl ⟨0,s,HR.out,rfl,HW.out⟩⟩
 | cons x r=>
   have HR:Hid (zos s = .ok x { s with inp:=r }):=by show _=_;unfold zos;rw [hs]
   have Dl:=hi;rw [hs] at Dl;obtain ⟨b,off,rfl,Av,c0,hwx⟩:=Dl.num 0 aA;rw [hs] at hc;simp only [vaw] at hc;have HT:=hid Dl.tailI;have HP:=hid (fun aj cj (h1:DAt w (·<base) aj r.length (zgf r)) (h2:r.length<=cj)=>HW.out.fromIn hs hb h1 h2);have B6:=hb;unfold wC at B6;rw [hs] at B6;have Bz:=Dl.bound;obtain ⟨q0,q1,q2,q3,q4,q5,q6,q7,q8,q9,qz,qf⟩:=zfi B6;simp only [vaw,vbt,vbm] at q4 c0 Bz;clear h hb B6 hi Dl hs
   by_cases Bk:ci=1
   . subst Bk
     obtain rfl:r=[]:=vam ae;simp only [vcr,vaz] at q4;go_enter Tryz.func290,Tryz.ntmps290;go_wp2_with fail
     go_returns
     exact ⟨vo,Fm.grown zet,Or.inl ⟨x,_,HR.out,rfl,HP.out _ _ ⟨by simp [zgf],by simp [zgf],Or.inl rfl⟩ aA⟩⟩
   . have C7:¬ ci - 1=0:=by omega
     have EX:¬ ci<=1:=ae
     go_enter Tryz.func290,Tryz.ntmps290;go_wp2_with fail
     go_returns
     exact ⟨vo,Fm.grown zet,Or.inl ⟨x,_,HR.out,rfl,HP.out _ _ HT.out ae⟩⟩
theorem Wd.told {w w1:World} {B base:Nat} {cx:Cx} {K:Wk} {vo:Value} {s:Sw} {o:Obj} {n:Int} {q c:Nat} (h:Wd w B base cx K vo s 0) (hg:(w.alloc o).grownBy w1 vo.ownBlock) (AH:vo.ownBlock=some q\/q=w.heap.size+1) (ho:w1.ownsRow K.S 3 1 (.slice (some (qa q 0)) (s.out.length+1) c) (s.out.length+1) (intV s.out++[qi n])) (hl:s.out.length≠200) :
 Wd (w1.setCell (qa B 5) (.slice (some (qa q 0)) (s.out.length+1) c)) B base cx K (.slice (some (qa q 0)) (s.out.length+1) c) { s with out:=s.out++[n] } 0/\Fm B K.D vo (.slice (some (qa q 0)) (s.out.length+1) c) w (w1.setCell (qa B 5) (.slice (some (qa q 0)) (s.out.length+1) c)):=by
 obtain ⟨ai,ci,hb,hi,hc⟩:=h.blk;have Av:=lt_of_heap hb;have Ij:=lt_of_heap h.data
 have k:∀ b,b<w.heap.size->vo.ownBlock≠some b->w1.heap[b]? = w.heap[b]?:=fun b hb hn=>(hg.block b aF (fun e=>hn e.symm)).trans ((al1 w o).block b hb)
 have Rj:q≠B:=by
  rcases AH with e | e
  . exact fun x=>h.oB (by rw [e,x])
  . omega
 have TX:q≠K.D:=by
  rcases AH with e | e
  . exact fun x=>h.oD (by rw [e,x])
  . omega
 have hS:=h.ro.zS;have Uw:=h.ro.BS;have U7:=h.ro.lB
 have Je:∀ b,b<K.S->w1.heap[b]? = w.heap[b]?:=fun b A0=>k b ae (fun e=>by have:=(h.out.lt b e).1;omega)
 have Cy:w.heap.size<=w1.heap.size:=vbd aA hg.size;have LK:=h.ol;refine ⟨⟨⟨ai,ci,?_,hi.moves ⟨by simpa using Cy,fun b B6 A0=>⟨A0,(heap_set_ne (by show b≠B;omega) _).trans (Je b ae)⟩⟩,hc⟩,?_,?_,h.ro.moves (by simpa using Cy) (fun b h1 hn _=>(heap_set_ne (by show b≠B;exact hn) _).trans (Je b h1)),h.cd,h.dl,h.tl,h.tm,h.cl,?_⟩,⟨hg.os,hg.tape,hg.output,by simpa using Cy,fun b h1 h2 _ h4=>(heap_set_ne (by show b≠B;exact h2) _).trans (k b h1 h4),fun x e hx=>?_⟩⟩
 . exact heap_set ((k B Av h.oB).trans hb) _
 . exact (heap_set_ne dy _).trans ((k K.D Ij h.oD).trans h.data)
 . show (w1.setCell _ _).ownsRow K.S 3 1 _ (s.out++[n]).length (intV (s.out++[n]))
   rw [vaj,vdk,zsa];exact zaf ho (fun k hk=>heap_set_ne (fun e=>Rj ((vab hk).trans e)) _)
 . show (s.out++[n]).length<=200
   rw [vaj,vdk];omega
 . obtain rfl:q=x:=vab e
   rcases AH with h1 | h1
   . exact h1
   . omega
theorem tell_any (B base:Nat) (cx:Cx) (K:Wk) (vo:Value) (s:Sw) (n:Int) (w:World) (h:Wd w B base cx K vo s 0) :
 qc 266 #[pq B 0,qi n] w fun e w'=>Sr yak B base cx K w vo (zsh n s) e w':=by
 obtain ⟨ai,ci,hb,_,_⟩:=h.blk;obtain ⟨av,cv,hvo,_,_⟩:=zag h.out;obtain ⟨q0,q1,q2,q3,q4,q5,q6,q7,q8,q9,qz,qf⟩:=zfi hb;have LK:=h.ol;have HW:=hid h
 by_cases ht:s.out.length=200
 . have HR:Hid (zsh n s = .stop 5 s):=if_pos ht
   have HS:=hid (stop_any B base cx K vo s 5 w h);subst hvo;rw [ht] at q5;clear h hb;go_enter Tryz.func266,Tryz.ntmps266;go_wp2_with fail;refine HS.out.mono ?_;rintro e w1 ⟨rfl,hg,hw⟩;exact ⟨rfl,_,Fm.grown hg,Or.inr ⟨5,s,HR.out,rfl,hw⟩⟩
 . have HR:Hid (zsh n s = .ok () { s with out:=s.out++[n] }):=if_neg ht
   have Ra:¬ (s.out.length:Int)=200:=ae
   have TU:((s.out.length:Int) == 200)=false:=by rw [beq_eq_false_iff_ne];exact Ra
   obtain ⟨i0,hi,Bx,Ao,Ay⟩:=info_parts Tryz.infoInt;have Oa:=hid (ownsRow_later h.out (al1 w (.cells #[qi n] 3)));have Uj:K.S<=w.heap.size:=h.ro.zS;subst hvo;have SO:=hid (fun w1 q c hg AH ho=>h.told (w1:=w1) (o:=.cells #[qi n] 3) (n:=n) (q:=q) (c:=c) hg AH ho ht);have TB:=hid (fun w1 (hg:(w.alloc (.cells #[qi n] 3)).grownBy w1 (Value.ownBlock (.slice av s.out.length cv)))=>(hg.block B aF (fun e=>h.oB e.symm)).trans (((al1 w (.cells #[qi n] 3)).block B (lt_of_heap hb)).trans hb));clear h hb;go_enter Tryz.func266,Tryz.ntmps266
   go_wp2_with (at_builtin;refine wpList_append_lies _ rfl (.tmp 16) (.tmp 18) _ rfl K.S 3 i0 _ 1 8 Tryz.underlying49 hi Bx Ao Ay rfl ae (.slice av s.out.length cv) s.out.length (intV s.out) rfl Oa.out (qa _ 0) 1 1 [qi n] rfl rfl (Fx.zme aA) (by simp;rfl) ae aP ae aF _ rfl ?_;intro q9' c9 w1 hown1 hg AH CA;have HT:=hid (SO.out w1 q9' c9 hg (by simpa using AH) hown1);have hX:=TB.out w1 hg;obtain ⟨p0,p1,p2,p3,p4,p5,p6,p7,p8,p9,pz,pf⟩:=zfi hX;clear hX hown1 hg AH)
   go_end0;exact ⟨_,HT.out.2,Or.inl ⟨(),_,HR.out,rfl,HT.out.1⟩⟩
def Cl (w:World) (B C u:Nat) (lv:Value) (ret:Int):Prop:=w.heap[C]? = some (.cells #[pq B 0,qi u,lv,qi ret] 257 (0,0))
theorem z5h {w:World} {b:Nat} {x0 x1 x2 x3:Value} {t:TypeId} (h:w.heap[b]? = some (.cells #[x0,x1,x2,x3] t (0,0))) :
 w.cell? (qa b 0)=some x0/\w.cell? (qa b 1)=some x1/\w.cell? (qa b 2)=some x2/\w.cell? (qa b 3)=some x3/\b<w.heap.size/\∀ j,w.frozen? (qa b j)=false:=by
 refine ⟨?_,?_,?_,?_,lt_of_heap h,fun j=>veq h j⟩<;>(rw [vep h];rfl)
theorem DAt.row {w:World} {A:Nat->Prop} {a:OA} {l:List (List Nat)} (h:DAt w A a l.length (zua l)) (i:Nat) (hi:i<l.length):∃ b off a1 k1,a=some (qa b off)/\b<w.heap.size/\w.cell? ⟨b,off+i,none⟩=some (.slice a1 l[i].length k1)/\DAt w A a1 l[i].length (zgf (natI l[i])):=by
 obtain ⟨b,off,ha,hb,hc⟩:=h.cell ae;obtain ⟨v,hv,hd⟩:=hc i (.list l[i].length (zgf (natI l[i]))) (by simp [zua,hi]);obtain ⟨a1,k1,rfl,h1⟩:=za1 hd;exact ⟨b,off,a1,k1,ha,hb,hv,h1⟩
end Go.Proofs.YtndkhgakfodldaaGreatDoor

namespace Go.Proofs.YtndkhgakfodldaaGreatDoor
set_option linter.unusedVariables false
def z9f (cx:Cx) (u sz:Nat) (m at_ n:Int):Prop:=
 0<=m/\0<=at_/\∃ (h1:u<cx.near.length) (h2:m.toNat<cx.near[u].length) (h3:cx.near[u][m.toNat]<cx.beg.length),0<=cx.beg[cx.near[u][m.toNat]]/\cx.beg[cx.near[u][m.toNat]]+at_+n<=sz
def ybb (cx:Cx) (u k:Nat) (m at_:Int):Prop:=
 0<=m/\0<=at_/\∃ (h1:u<cx.near.length) (h2:m.toNat<cx.near[u].length) (h3:cx.near[u][m.toNat]<cx.us.length) (h4:at_.toNat<cx.us[cx.near[u][m.toNat]].parts.length),(cx.us[cx.near[u][m.toNat]].parts[at_.toNat]).params=k
def okN (cx:Cx) (u nl sz:Nat):Nat->Nd->Prop
 | 0,_=>False
 | k+1,x=>
   x.op=1\/x.op=2\/(x.op=16/\0<=x.at_/\x.at_<nl)\/(x.op=3/\z9f cx u sz x.m x.at_ 1)
   \/(x.op=4/\1<=x.n/\z9f cx u sz x.m x.at_ x.n/\x.args.length=1/\∀ y ∈ x.args,okN cx u nl sz k y)
   \/(x.op=5/\ybb cx u x.args.length x.m x.at_/\∀ y ∈ x.args,okN cx u nl sz k y)
   \/(x.op=6/\x.args.length=1/\∀ y ∈ x.args,okN cx u nl sz k y)
   \/(7<=x.op/\x.op<=15/\x.args.length=2/\∀ y ∈ x.args,okN cx u nl sz k y)
def okA (cx:Cx) (u nl sz:Nat):Nat->Ac->Prop
 | 0,_=>False
 | k+1,a=>
   (∀ y ∈ a.args,okN cx u nl sz 6 y)/\
   ((a.op=1/\a.args.length=1/\((a.m = -1/\0<=a.at_/\a.at_<nl)\/(a.m≠-1/\z9f cx u sz a.m a.at_ 1)))
   \/(a.op=2/\a.args.length=2/\1<=a.n/\z9f cx u sz a.m a.at_ a.n)
   \/(a.op=3/\ybb cx u a.args.length a.m a.at_)
   \/(a.op=4/\a.args.length=1/\(∀ b ∈ a.body,okA cx u nl sz k b)/\∀ b ∈ a.other,okA cx u nl sz k b)
   \/(a.op=5/\a.args.length=1/\∀ b ∈ a.body,okA cx u nl sz k b)
   \/(a.op=6/\a.args.length=1)\/(a.op=7/\a.args.length=1))
def Lo (w:World) (lv:Value) (L:Nat) (loc:List Int):Prop:=(loc=[]/\∃ a,lv = .slice a 0 0)\/(lv = .slice (some (qa L 0)) loc.length loc.length/\w.heap[L]? = some (.cells (intV loc).toArray 3 (0,0)))
theorem Fm.keep {B D b:Nat} {vo vo':Value} {w w':World} {x:Obj} (h:Fm B D vo vo' w w') (hb:w.heap[b]? = some x) (h1:b≠B) (h2:b≠D) (h3:vo.ownBlock≠some b):w'.heap[b]? = some x/\vo'.ownBlock≠some b:=
 ⟨(h.block b (lt_of_heap hb) h1 h2 h3).trans hb,fun e=>h3 (h.own b e (lt_of_heap hb))⟩
end Go.Proofs.YtndkhgakfodldaaGreatDoor

namespace Go.Proofs.YtndkhgakfodldaaGreatDoor
set_option maxRecDepth 100000
open Go.RowKit Go.Shelf
set_option linter.unusedSimpArgs false
set_option linter.unusedVariables false
abbrev En (cx:Cx) (n:Nat):z1v:=(lvp cx n).ent
structure Ca where
 C:Nat
 u:Nat
 lv:Value
 L:Nat
structure Cn (n:Nat) (w:World) (B base:Nat) (cx:Cx) (K:Wk) (vo:Value) (s:Sw) (c:Ca) (loc:List Int) (ret:Int):Prop where
 wd:Wd w B base cx K vo s 0
 cl:Cl w B c.C c.u c.lv ret
 lo:Lo w c.lv c.L loc
 cS:K.S<=c.C
 cO:vo.ownBlock≠some c.C
 lS:K.S<=c.L
 lz:c.L<w.heap.size
 la:loc=[]\/(c.L≠c.C/\vo.ownBlock≠some c.L)
 fu:cx.lim+1<=s.ticks+n
theorem Lo.moves {w w':World} {lv:Value} {L:Nat} {loc:List Int} (h:Lo w lv L loc) (hk:loc=[]\/w'.heap[L]? = w.heap[L]?):Lo w' lv L loc:=by
 rcases h with h | ⟨h1,h2⟩
 . exact Or.inl h
 . rcases hk with rfl | hk
   . exact Or.inl ⟨rfl,_,h1⟩
   . exact Or.inr ⟨h1,hk.trans h2⟩
theorem Lo.len {w:World} {lv:Value} {L:Nat} {loc:List Int} (h:Lo w lv L loc):∃ a,lv = .slice a loc.length loc.length:=by
 rcases h with ⟨rfl,a,h⟩ | ⟨h1,h2⟩
 . exact ⟨a,h⟩
 . exact ⟨_,h1⟩
theorem Cn.ne {n:Nat} {w:World} {B base:Nat} {cx:Cx} {K:Wk} {vo:Value} {s:Sw} {c:Ca} {loc:List Int} {ret:Int} (h:Cn n w B base cx K vo s c loc ret):c.C≠B/\c.C≠K.D/\base<=c.C/\B<w.heap.size/\K.D<w.heap.size:=by
 have h1:=h.cS;have h2:=h.wd.ro.BS;have h3:=h.wd.ro.DS;have h4:=h.wd.ro.lB;have h5:=h.wd.ro.zS;omega
theorem Lo.lt {w:World} {lv:Value} {L:Nat} {loc:List Int} (h:Lo w lv L loc):loc=[]\/L<w.heap.size:=by
 rcases h with ⟨h,_⟩ | ⟨_,h2⟩
 . exact Or.inl h
 . exact Or.inr (lt_of_heap h2)
theorem Cn.on {n:Nat} {w w':World} {B base:Nat} {cx:Cx} {K:Wk} {vo vo':Value} {s s':Sw} {c:Ca} {loc:List Int} {ret:Int} (h:Cn n w B base cx K vo s c loc ret) (hf:Fm B K.D vo vo' w w') (hw:Wd w' B base cx K vo' s' 0) (ht:s.ticks<=s'.ticks):Cn n w' B base cx K vo' s' c loc ret:=by
 have hn:=h.ne;have Ie:=h.fu;obtain ⟨k1,k2⟩:=hf.keep h.cl hn.1 hn.2.1 h.cO;have h1:=h.lS;refine ⟨hw,k1,h.lo.moves ?_,h.cS,k2,h1,vai h.lz hf.size,?_,ae⟩
 . rcases h.la with e | ⟨h2,h3⟩
   . exact Or.inl e
   . rcases h.lo.lt with e | hl
     . exact Or.inl e
     . have:=h.wd.ro.BS
       have:=h.wd.ro.DS;exact Or.inr (hf.block _ hl ae ae h3)
 . rcases h.la with e | ⟨h2,h3⟩
   . exact Or.inl e
   . rcases h.lo.lt with e | hl
     . exact Or.inl e
     . exact Or.inr ⟨h2,fun e=>h3 (hf.own _ e hl)⟩
theorem Cn.below {n:Nat} {w w':World} {B base:Nat} {cx:Cx} {K:Wk} {vo:Value} {s:Sw} {c:Ca} {loc:List Int} {ret:Int} (h:Cn n w B base cx K vo s c loc ret) (hb:qb w w'):Cn n w' B base cx K vo s c loc ret:=h.on (Fm.below hb) (h.wd.below hb) (vaa _)
theorem Cn.step {α:Type} {AE:α->Value} {n:Nat} {w w':World} {B base:Nat} {cx:Cx} {K:Wk} {vo:Value} {s:Sw} {c:Ca} {loc:List Int} {ret:Int} {F:Sw->Rr α} {e:Ending} (h:Cn n w B base cx K vo s c loc ret) (hk:Kp F) (hr:Sr AE B base cx K w vo (F s) e w') :
 (∃ k s' vo',F s = .stop k s'/\e = .panicked (z7e k)/\Fm B K.D vo vo' w w'/\Wd w' B base cx K vo' s' k)\/(∃ a s' vo',F s = .ok a s'/\e = .returned (AE a)/\Fm B K.D vo vo' w w'/\Cn n w' B base cx K vo' s' c loc ret):=by
 obtain ⟨vo',hf,⟨a,s',hr,he,hw⟩ | ⟨k,s',hr,he,hw⟩⟩:=hr
 . refine Or.inr ⟨a,s',vo',hr,he,hf,h.on hf hw ?_⟩
   have:=(hk s).2.2.2;rw [hr] at this;exact this
 . exact Or.inl ⟨k,s',vo',hr,he,hf,hw⟩
theorem Sr.ok {α:Type} {AE:α->Value} {B base:Nat} {cx:Cx} {K:Wk} {w w':World} {vo vo':Value} {r:Rr α} {a:α} {s:Sw} (hf:Fm B K.D vo vo' w w') (hr:r = .ok a s) (hw:Wd w' B base cx K vo' s 0):Sr AE B base cx K w vo r (.returned (AE a)) w':=⟨vo',hf,Or.inl ⟨a,s,hr,rfl,hw⟩⟩
theorem Sr.no {α:Type} {AE:α->Value} {B base:Nat} {cx:Cx} {K:Wk} {w w':World} {vo vo':Value} {r:Rr α} {k:Int} {s:Sw} (hf:Fm B K.D vo vo' w w') (hr:r = .stop k s) (hw:Wd w' B base cx K vo' s k):Sr AE B base cx K w vo r (.panicked (z7e k)) w':=⟨vo',hf,Or.inr ⟨k,s,hr,rfl,hw⟩⟩
theorem DAt.fm {B Dd base:Nat} {vo vo':Value} {w w':World} {a:OA} {m:Nat} {l:List D} (h:DAt w (·<base) a m l) (hf:Fm B Dd vo vo' w w') (h1:base<=B) (h2:base<=Dd) (h3:∀ k,vo.ownBlock=some k->base<=k):DAt w' (·<base) a m l:=
 h.moves ⟨hf.size,fun b hb hl=>⟨hl,hf.block b hb ae ae (fun e=>by have:=h3 b e;omega)⟩⟩
set_option maxHeartbeats 1600000
theorem Wd.cell {w:World} {B base:Nat} {cx:Cx} {K:Wk} {vo:Value} {s:Sw} {e:Int} (h:Wd w B base cx K vo s e) (i:Nat) (hi:i<s.data.length):w.cell? (qa K.D i)=some (qi (s.data.getD i 0)):=by
 rw [vep h.data,vdl];simp [intV,hi]
theorem Lo.cell {w:World} {lv:Value} {L:Nat} {loc:List Int} (h:Lo w lv L loc) (i:Nat) (hi:i<loc.length):lv = .slice (some (qa L 0)) loc.length loc.length/\L<w.heap.size/\w.cell? (qa L i)=some (qi (loc.getD i 0)):=by
 rcases h with ⟨rfl,_⟩ | ⟨h1,h2⟩
 . simp at hi
 . refine ⟨h1,lt_of_heap h2,?_⟩
   rw [vep h2,vdl];simp [intV,hi]
theorem Wd.top {w:World} {B base:Nat} {cx:Cx} {K:Wk} {vo:Value} {s:Sw} {e:Int} (h:Wd w B base cx K vo s e):w.cell? (qa B 3)=some (.slice (some (qa K.D 0)) K.cd K.cd)/\B<w.heap.size/\K.D<w.heap.size:=by
 obtain ⟨ai,ci,hb, -, -⟩:=h.blk;obtain ⟨q0,q1,q2,q3, -⟩:=zfi hb;refine ⟨?_,lt_of_heap hb,lt_of_heap h.data⟩;rw [q3,h.cd]
def reckV:Option Int->Value
 | some n=>.tuple #[.int .i64 n,.bool true]
 | none=>.tuple #[.int .i64 0,.bool false]
def part (op a b:Int):Option Int:=if b=0 then none else if op=12 then some (wrap64 (a.tdiv b)) else if op=13 then some (a.tmod b) else none
theorem parted_any (op a b:Int) (w:World) :
 qc 292 #[qi op,qi a,qi b] w fun en w'=>en = .returned (reckV (part op a b))/\w'=w:=by
 by_cases hb:b=0
 . have HP:Hid (part op a b=none):=if_pos hb
   subst hb;exact gx
 have B6:(b == 0)=false:=beq_eq_false_iff_ne.2 hb
 by_cases EE:op=12
 . have HP:Hid (part op a b=some (wrap64 (a.tdiv b))):=(if_neg hb).trans (if_pos EE)
   subst EE;exact gx
 have NY:(op == 12)=false:=beq_eq_false_iff_ne.2 EE
 by_cases Fp:op=13
 . have HP:Hid (part op a b=some (a.tmod b)):=(if_neg hb).trans ((if_neg EE).trans (if_pos Fp))
   subst Fp;exact gx
 have NW:(op == 13)=false:=beq_eq_false_iff_ne.2 Fp;have HP:Hid (part op a b=none):=(if_neg hb).trans ((if_neg EE).trans (if_neg Fp));clear hb EE Fp;exact gx
set_option maxHeartbeats 3200000
theorem Cn.keepS {n:Nat} {w w':World} {B base:Nat} {cx:Cx} {K:Wk} {vo vo':Value} {s:Sw} {c:Ca} {loc:List Int} {ret:Int} (h:Cn n w B base cx K vo s c loc ret) (hf:Fm B K.D vo vo' w w') {b:Nat} {x:Obj} (hb:w.heap[b]? = some x) (hS:K.S<=b) (ho:vo.ownBlock≠some b):w'.heap[b]? = some x/\vo'.ownBlock≠some b:=by
 have h1:=h.wd.ro.BS;have h2:=h.wd.ro.DS;exact hf.keep hb ae ae ho
theorem Cn.new {n:Nat} {w:World} {B base:Nat} {cx:Cx} {K:Wk} {vo:Value} {s:Sw} {c:Ca} {loc:List Int} {ret:Int} (h:Cn n w B base cx K vo s c loc ret):K.S<=w.heap.size/\vo.ownBlock≠some w.heap.size:=
 ⟨h.wd.ro.zS,fun e=>by have:=(h.wd.out.lt _ e).2;omega⟩
theorem bind_ok {α β:Type} {r:Rr α} {a:α} {s:Sw} {f:α->Sw->Rr β} (h:r = .ok a s):r.bind f=f a s:=by rw [h];rfl
theorem zx6 {α β:Type} {r:Rr α} {e:Int} {s:Sw} {f:α->Sw->Rr β} (h:r = .stop e s):r.bind f = .stop e s:=by rw [h];rfl
section
variable (E:z1v) (cx:Cx) (u:Nat) (loc:List Int) (k:Nat) (nn m at_:Int) (args:List Nd) (s:Sw)
end
structure Gm (B D:Nat) (X:Nat->Prop) (vo vo':Value) (w w':World):Prop where
 os:w'.os=w.os
 tape:w'.tape=w.tape
 output:w'.output=w.output
 size:w.heap.size<=w'.heap.size
 block:∀ b,b<w.heap.size->b≠B->b≠D->¬ X b->vo.ownBlock≠some b->w'.heap[b]? = w.heap[b]?
 own:∀ k,vo'.ownBlock=some k->k<w.heap.size->vo.ownBlock=some k
theorem Fm.gm {B D:Nat} {X:Nat->Prop} {vo vo':Value} {w w':World} (h:Fm B D vo vo' w w'):Gm B D X vo vo' w w':=⟨h.os,h.tape,h.output,h.size,fun b h1 h2 h3 _ h5=>h.block b h1 h2 h3 h5,h.own⟩
theorem Gm.fm {B D:Nat} {X:Nat->Prop} {vo vo':Value} {w w':World} (h:Gm B D X vo vo' w w') (hx:∀ b,X b->w.heap.size<=b):Fm B D vo vo' w w':=⟨h.os,h.tape,h.output,h.size,fun b h1 h2 h3 h5=>h.block b h1 h2 h3 (fun x=>by have:=hx b x;omega) h5,h.own⟩
theorem Gm.trans {B D:Nat} {X:Nat->Prop} {v1 v2 v3:Value} {a b c:World} (h:Gm B D X v1 v2 a b) (k:Gm B D X v2 v3 b c):Gm B D X v1 v3 a c:=
 ⟨k.os.trans h.os,k.tape.trans h.tape,k.output.trans h.output,vbd h.size k.size,fun x hx h1 h2 h4 h3=>(k.block x (vai hx h.size) h1 h2 h4 (fun e=>h3 (h.own x e hx))).trans (h.block x hx h1 h2 h4 h3),fun x e hx=>h.own x (k.own x e (vai hx h.size)) hx⟩
theorem Gm.cell {B D b i:Nat} {X:Nat->Prop} {vo:Value} {w:World} {u:Value} (hx:X b):Gm B D X vo vo w (w.setCell (qa b i) u):=⟨rfl,rfl,rfl,aA,fun k _ _ _ h4 _=>heap_set_ne (fun e=>h4 (by rw [show k=b from e];exact hx)) u,fun _ h _=>h⟩
theorem Gm.mono {B D:Nat} {X Y:Nat->Prop} {vo vo':Value} {w w':World} (h:Gm B D X vo vo' w w') (hx:∀ b,X b->Y b):Gm B D Y vo vo' w w':=⟨h.os,h.tape,h.output,h.size,fun b h1 h2 h3 h4 h5=>h.block b h1 h2 h3 (fun x=>h4 (hx b x)) h5,h.own⟩
def Sx {α:Type} (AE:α->Value) (B base:Nat) (cx:Cx) (K:Wk) (X:Nat->Prop) (w:World) (vo:Value) (r:Rr α) (e:Ending) (w':World):Prop:=
 ∃ vo',Gm B K.D X vo vo' w w'/\((∃ a s,r = .ok a s/\e = .returned (AE a)/\Wd w' B base cx K vo' s 0)\/(∃ c s,r = .stop c s/\e = .panicked (z7e c)/\Wd w' B base cx K vo' s c))
def EnV (n B base:Nat) (cx:Cx) (K:Wk):Prop:=∀ (u:Nat) (body:List Ac) (ab:OA) (kb:Nat) (lv:Value) (L:Nat) (loc:List Int) (vo:Value) (s:Sw) (w:World),Wd w B base cx K vo s 0->cx.lim+1<=s.ticks+n->Lo w lv L loc->K.S<=L->(loc=[]\/vo.ownBlock≠some L)->u<cx.us.length->DAt w (·<base) ab body.length (zdu body)->(∀ a ∈ body,okA cx u loc.length K.cd 6 a)->
 qc 125 #[pq B 0,qi u,.slice ab body.length kb,lv] w fun e w'=>Sx ybh B base cx K (·=L) w vo (En cx n u body loc s) e w'
theorem Wd.far {w:World} {B base:Nat} {cx:Cx} {K:Wk} {vo:Value} {s:Sw} {e:Int} (h:Wd w B base cx K vo s e) {L i:Nat} (hL:K.S<=L) (ho:vo.ownBlock≠some L) (u:Value):Wd (w.setCell (qa L i) u) B base cx K vo s e:=by
 obtain ⟨ai,ci,hB,hi,hc⟩:=h.blk;have h1:=h.ro.BS;have h2:=h.ro.DS;have h3:=h.ro.lB;exact ⟨⟨ai,ci,(heap_set_ne (by show B≠L;omega) u).trans hB,hi.moves ⟨aA,fun b _ hl=>⟨hl,heap_set_ne (by show b≠L;omega) u⟩⟩,hc⟩,(heap_set_ne (by show K.D≠L;omega) u).trans h.data,zaf h.out (fun k hk=>heap_set_ne (fun e=>ho eG) u),h.ro.moves aA (fun b hb _ _=>heap_set_ne (by show b≠L;omega) u),h.cd,h.dl,h.tl,h.tm,h.cl,h.ol⟩
theorem zun (f:Nd->Sw->Rr Int):∀ (a b:List Nd) (s:Sw),zfc f (a++b) s=(zfc f a s).bind fun vs s=>(zfc f b s).bind fun us s=>.ok (vs++us) s
 | [],b,s=>by
   show zfc f b s=(zfc f b s).bind fun us s=>.ok us s
   cases zfc f b s<;>rfl
 | x :: r,b,s=>by
   show (f x s).bind _=((f x s).bind _).bind _
   cases f x s with
   | stop e t=>rfl
   | ok v t=>
     show (zfc f (r++b) t).bind _=((zfc f r t).bind _).bind _;rw [zun f r b t]
     cases zfc f r t with
     | stop e t=>rfl
     | ok vs t=>
       show ((zfc f b t).bind _).bind _=(zfc f b t).bind _
       cases zfc f b t<;>rfl
theorem z13 (f:Nd->Sw->Rr Int) (x:Nd) (s:Sw):zfc f [x] s=(f x s).bind fun v s=>.ok [v] s:=rfl
theorem zx7 {f:Nd->Sw->Rr Int} {l:List Nd} {s t t':Sw} {vs:List Int} {v:Int} {j:Nat} (hj:j<l.length) (h:zfc f (l.take j) s = .ok vs t) (hv:f l[j] t = .ok v t'):zfc f (l.take (j+1)) s = .ok (vs++[v]) t':=by
 rw [vag hj,zun,h];show (zfc f [l[j]] t).bind _=_;rw [z13,hv]
 rfl
theorem z14 (vs:List Int) (n:Nat) (v:Int) (h:vs.length<n):(zqn vs n).set vs.length v=zqn (vs++[v]) n:=by
 unfold zqn;rw [List.set_append_right _ _ (vaa _),Nat.sub_self,vbq,vaj,vdk,show n - vs.length=(n - (vs.length+1))+1 from ae,List.replicate_succ,van,vdg]
 rfl
set_option maxHeartbeats 6400000
structure Pc (n B base:Nat) (cx:Cx) (K:Wk) (vo0:Value) (w0:World) (c:Ca) (loc:List Int) (ret:Int) (L Pb:Nat) (px:Obj) (nl:Nat) (F:Nd->Sw->Rr Int) (args:List Nd) (s0:Sw) (j:Nat) (wr:World) (vo:Value) (s:Sw) (vs:List Int):Prop where
 cn:Cn n wr B base cx K vo s c loc ret
 fm:Fm B K.D vo0 vo w0 wr
 lo:wr.heap[L]? = some (.cells (intV (zqn vs nl)).toArray 3 (0,0))
 pb:wr.heap[Pb]? = some px
 lO:vo.ownBlock≠some L
 pO:vo.ownBlock≠some Pb
 vl:vs.length=j
 ar:zfc F (args.take j) s0 = .ok vs s
theorem Pc.alloc {n B base:Nat} {cx:Cx} {K:Wk} {vo0:Value} {w0:World} {c:Ca} {loc:List Int} {ret:Int} {L Pb:Nat} {px:Obj} {nl:Nat} {F:Nd->Sw->Rr Int} {args:List Nd} {s0:Sw} {j:Nat} {wr:World} {vo:Value} {s:Sw} {vs:List Int} (h:Pc n B base cx K vo0 w0 c loc ret L Pb px nl F args s0 j wr vo s vs) (o:Obj):Pc n B base cx K vo0 w0 c loc ret L Pb px nl F args s0 j (wr.alloc o) vo s vs:=
 ⟨h.cn.below (al1 wr o),h.fm.trans (Fm.below (al1 wr o)),((al1 wr o).block _ (lt_of_heap h.lo)).trans h.lo,((al1 wr o).block _ (lt_of_heap h.pb)).trans h.pb,h.lO,h.pO,h.vl,h.ar⟩
theorem Pc.next {n B base:Nat} {cx:Cx} {K:Wk} {vo0:Value} {w0:World} {c:Ca} {loc:List Int} {ret:Int} {L Pb:Nat} {px:Obj} {nl:Nat} {F:Nd->Sw->Rr Int} {args:List Nd} {s0:Sw} {j:Nat} {wr w1:World} {vo FN:Value} {s s1:Sw} {vs:List Int} {v:Int} (h:Pc n B base cx K vo0 w0 c loc ret L Pb px nl F args s0 j wr vo s vs) (hf:Fm B K.D vo FN wr w1) (hc:Cn n w1 B base cx K FN s1 c loc ret) (hj:j<args.length) (hn:j<nl) (hr:F args[j] s = .ok v s1) (hL:K.S<=L) (LY:w0.heap.size<=L) (hP:K.S<=Pb) (Sd:L≠Pb) (Sf:c.C≠L) (Se:loc=[]\/c.L≠L) :
 w1.heap[L]? = some (.cells (intV (zqn vs nl)).toArray 3 (0,0))/\Pc n B base cx K vo0 w0 c loc ret L Pb px nl F args s0 (j+1) (w1.setCell (qa L j) (qi v)) FN s1 (vs++[v]):=by
 obtain ⟨k1,k2⟩:=h.cn.keepS hf h.lo hL h.lO;obtain ⟨k3,k4⟩:=h.cn.keepS hf h.pb hP h.pO;refine ⟨k1,?_,?_,?_,?_,k2,k4,by rw [vaj,h.vl];rfl,zx7 hj h.ar hr⟩
 . refine ⟨hc.wd.far hL k2 _,(heap_set_ne (by show c.C≠L;exact Sf) _).trans hc.cl,hc.lo.moves ?_,hc.cS,hc.cO,hc.lS,by simpa using hc.lz,hc.la,hc.fu⟩
   rcases Se with e | e
   . exact Or.inl e
   . exact Or.inr (heap_set_ne e _)
 . have g:Gm B K.D (·=L) vo0 FN w0 (w1.setCell (qa L j) (qi v)):=(h.fm.trans hf).gm.trans (Gm.cell rfl)
   exact g.fm (fun b e=>by rw [show b=L from e];exact LY)
 . rw [heap_set k1,vae]
   have e:(intV (zqn vs nl)).set j (qi v)=intV (zqn (vs++[v]) nl):=by
    rw [← z14 vs nl v (by rw [h.vl];exact hn),h.vl];simp [intV,List.map_set]
   rw [e]
 . exact (heap_set_ne (by show Pb≠L;exact fun e=>Sd e.symm) _).trans k3
set_option maxHeartbeats 3200000
abbrev Wn (cx:Cx) (n:Nat):Whl:=(lvp cx n).whl
def Xc (c:Ca) (b:Nat):Prop:=b=c.C\/b=c.L
def ybc (d:Bool × Fr):Value:=.bool d.1
def Sa (AE:Bool × Fr->Value) (n B base:Nat) (cx:Cx) (K:Wk) (c:Ca) (w:World) (vo:Value) (r:Rr (Bool × Fr)) (e:Ending) (w':World):Prop:=
 ∃ vo',Gm B K.D (Xc c) vo vo' w w'/\((∃ k s,r = .stop k s/\e = .panicked (z7e k)/\Wd w' B base cx K vo' s k)\/(∃ d s,r = .ok d s/\e = .returned (AE d)/\Cn n w' B base cx K vo' s c d.2.loc d.2.ret))
theorem Sa.ok {AE:Bool × Fr->Value} {n B base:Nat} {cx:Cx} {K:Wk} {c:Ca} {w w':World} {vo vo':Value} {r:Rr (Bool × Fr)} {b:Bool} {loc:List Int} {ret:Int} {s:Sw} (hf:Gm B K.D (Xc c) vo vo' w w') (hr:r = .ok (b,⟨loc,ret⟩) s) (hw:Cn n w' B base cx K vo' s c loc ret):Sa AE n B base cx K c w vo r (.returned (AE (b,⟨loc,ret⟩))) w':=⟨vo',hf,Or.inr ⟨_,s,hr,rfl,hw⟩⟩
theorem Sa.no {AE:Bool × Fr->Value} {n B base:Nat} {cx:Cx} {K:Wk} {c:Ca} {w w':World} {vo vo':Value} {r:Rr (Bool × Fr)} {k:Int} {s:Sw} (hf:Gm B K.D (Xc c) vo vo' w w') (hr:r = .stop k s) (hw:Wd w' B base cx K vo' s k):Sa AE n B base cx K c w vo r (.panicked (z7e k)) w':=⟨vo',hf,Or.inl ⟨k,s,hr,rfl,hw⟩⟩
theorem Cn.len {n n':Nat} {w w':World} {B base:Nat} {cx:Cx} {K:Wk} {vo vo':Value} {s s':Sw} {c:Ca} {loc JI:List Int} {ret MA:Int} (h:Cn n w B base cx K vo s c loc ret) (h':Cn n' w' B base cx K vo' s' c JI MA):JI.length=loc.length:=by
 obtain ⟨a,e⟩:=h.lo.len;obtain ⟨a',e'⟩:=h'.lo.len;rw [e] at e';simp only [Value.slice.injEq] at e';exact e'.2.1.symm
set_option maxHeartbeats 6400000
def BlV (n B base:Nat) (cx:Cx) (K:Wk) (k:Nat) (l:List Ac):Prop:=∀ (c:Ca) (loc:List Int) (ret:Int) (vo:Value) (s:Sw) (a:OA) (ka:Nat) (w:World),Cn n w B base cx K vo s c loc ret->DAt w (·<base) a l.length (zdu l)->(∀ x ∈ l,okA cx c.u loc.length K.cd k x)->
 qc 168 #[pq c.C 0,.slice a l.length ka] w fun e w'=>Sa ybc n B base cx K c w vo (bN (aN (En cx n) (Wn cx n) cx c.u k) l ⟨loc,ret⟩ s) e w'
theorem Gm.refl (B D:Nat) (X:Nat->Prop) (vo:Value) (w:World):Gm B D X vo vo w w:=(Fm.refl B D vo w).gm
def ybd (B:Nat) (w:World):Nat:=match w.cell? ⟨B,7,none⟩ with
 | some (.int _ t)=>t.toNat
 | _=>0
theorem Wd.tk {w:World} {B base:Nat} {cx:Cx} {K:Wk} {vo:Value} {s:Sw} {e:Int} (h:Wd w B base cx K vo s e):ybd B w=s.ticks:=by
 obtain ⟨ai,ci,hb, -, -⟩:=h.blk;obtain ⟨q0,q1,q2,q3,q4,q5,q6,q7, -⟩:=zfi hb;unfold ybd;rw [q7];exact vbq _
set_option maxHeartbeats 3200000
set_option maxHeartbeats 6400000
theorem z9r (cx:Cx) (n u k:Nat) (l:List Ac) (c:Fr):Cq (bN (aN (En cx n) (Wn cx n) cx u k) l c):=znd (z18 cx.lim cx.lim) (n:=0) (zus (z18 cx.lim cx.lim) (zot cx n).ent cx cx.lim (zot cx n).whl u k) l c
theorem z7w (cx:Cx) (n u:Nat) (body:List Ac) (loc:List Int) (s:Sw):En cx (n+1) u body loc s=(zj9 cx.lim s).bind fun _ s=>if s.calls=24 then .stop 4 s else (bN (aN (En cx n) (Wn cx n) cx u 6) body ⟨loc,0⟩ { s with calls:=s.calls+1 }).bind fun d s=>.ok d.2.ret { s with calls:=s.calls - 1 }:=by
 unfold En Wn;rw [z4v]
 rfl
theorem Wd.call {n B base:Nat} {cx:Cx} {K:Wk} {vo:Value} {s:Sw} {w:World} {lv:Value} {L u:Nat} {loc:List Int} (h:Wd w B base cx K vo s 0) (hf:cx.lim+1<=s.ticks+n) (hL:Lo w lv L loc) (hS:K.S<=L) (hO:loc=[]\/vo.ownBlock≠some L) :
 ∃ c:Ca,c.C=w.heap.size/\c.u=u/\c.lv=lv/\(c.L=c.C\/c.L=L)/\Cn n (w.alloc (.cells #[pq B 0,qi u,lv,qi 0] 257)) B base cx K vo s c loc 0:=by
 have hz:=h.ro.zS
 have ho:vo.ownBlock≠some w.heap.size:=fun e=>by have:=(h.out.lt _ e).2;omega
 have Ew:Cl (w.alloc (.cells #[pq B 0,qi u,lv,qi 0] 257)) B w.heap.size u lv 0:=heap_alloc_new w _
 have D4:Lo (w.alloc (.cells #[pq B 0,qi u,lv,qi 0] 257)) lv L loc:=hL.moves (by
  rcases hL.lt with e | e
  . exact Or.inl e
  . exact Or.inr ((al1 w _).block L e))
 by_cases hl:loc=[]
 . subst hl
   refine ⟨⟨w.heap.size,u,lv,w.heap.size⟩,rfl,rfl,rfl,Or.inl rfl,h.below (al1 w _),Ew,?_,hz,ho,hz,aA,Or.inl rfl,hf⟩;obtain ⟨a,e⟩:=hL.len;exact Or.inl ⟨rfl,a,e⟩
 . have A0:=hL.lt.resolve_left hl
   exact ⟨⟨w.heap.size,u,lv,L⟩,rfl,rfl,rfl,Or.inr rfl,h.below (al1 w _),Ew,D4,hz,ho,hS,aF,Or.inr ⟨by show L≠w.heap.size;omega,hO.resolve_left hl⟩,hf⟩
theorem Gm.drop {B Dd L z:Nat} {c:Ca} {vo vo':Value} {w w' w0:World} (h:Gm B Dd (Xc c) vo vo' w w') (h1:c.C=z) (h2:c.L=c.C\/c.L=L) (h3:w0.heap.size<=z):Gm B Dd (fun b=>b=L\/w0.heap.size<=b) vo vo' w w':=h.mono (fun b e=>by
 rcases e with e | e
 . exact Or.inr ae
 . rcases h2 with e' | e'
   . exact Or.inr ae
   . exact Or.inl ae)
theorem Gm.lop {B Dd L:Nat} {vo vo':Value} {w w':World} (h:Gm B Dd (fun b=>b=L\/w.heap.size<=b) vo vo' w w'):Gm B Dd (·=L) vo vo' w w':=⟨h.os,h.tape,h.output,h.size,fun b h1 h2 h3 h4 h5=>h.block b h1 h2 h3 (fun e=>by rcases e with e | e;exact h4 e;omega) h5,h.own⟩
theorem enter_any {n B base:Nat} {cx:Cx} {K:Wk} (hB:∀ l,BlV n B base cx K 6 l):EnV (n+1) B base cx K:=by
 intro u body ab kb lv L loc vo s w hw Ie hLo hLS hLO hu hD hN;obtain ⟨la,rfl⟩:=hLo.len;rw [z7w]
 obtain ⟨R0,hR0⟩:∃ R0:Rr Int,R0=(zj9 cx.lim s).bind fun _ s=>if s.calls=24 then .stop 4 s else (bN (aN (En cx n) (Wn cx n) cx u 6) body ⟨loc,0⟩ { s with calls:=s.calls+1 }).bind fun d s=>.ok d.2.ret { s with calls:=s.calls - 1 }:=⟨_,rfl⟩
 have GD:=hid hR0;rw [← hR0];have HT:=hid (tick_any B base cx K vo s w hw);have HB:=hid hB;have HD:=hid hD;have HN:=hid hN;have Oz:=hid hLo;have IE:=hid hw;have Qv:=hid hLO;have Np:=hid Ie;have Ky:=hid hLS;clear hw Ie hLo hLO hu hD hN hB hR0 hLS;go_enter Tryz.func125,Tryz.ntmps125;go_wp2_with fail;refine HT.out.mono ?_;rintro e w1 ⟨FN,hf,hx⟩
 rcases hx.symm with ⟨k',s1,hr,rfl,Cw⟩ | ⟨a,s1,hr,rfl,Cw⟩
 . exact ⟨rfl,FN,hf.gm,Or.inr ⟨k',s1,GD.out.trans (zx6 hr),rfl,Cw⟩⟩
 . have Kb:w.heap.size<=w1.heap.size:=hf.size
   have ht:s1.ticks=s.ticks+1:=by
    by_cases hl:s.ticks=cx.lim
    . rw [zut hl] at hr;cases hr
    . rw [zyg hl] at hr;cases hr;rfl
   have HF:=hid hf;have HR:=hid (GD.out.trans (bind_ok hr));have Jr:=hid Cw;obtain ⟨ai,ci,hb, -, -⟩:=Cw.blk;obtain ⟨q0,q1,q2,q3,q4,q5,q6,q7,q8,q9,qz,qf⟩:=zfi hb;have Ew:=Cw.cl;clear hx hr hf Cw hb;unfold yak
   by_cases hc:s1.calls=24
   . have A6:((s1.calls:Int) == 24)=true:=by rw [hc];rfl
     have HS:=hid (stop_any B base cx K FN s1 4 w1 Jr.out);have An:=hid (HR.out.trans (if_pos hc));clear hc;go_wp2_with fail;refine HS.out.mono ?_;rintro e w2 ⟨rfl,hg,hw⟩;exact ⟨rfl,FN,(HF.out.trans (Fm.grown hg)).gm,Or.inr ⟨4,s1,An.out,rfl,hw⟩⟩
   . have A6:((s1.calls:Int) == 24)=false:=by rw [beq_eq_false_iff_ne];omega
     have An:=hid (HR.out.trans (if_neg hc));have HP:=hid (Jr.out.put (i:=8) (u:=qi ((s1.calls:Int)+1)) (s':={ s1 with calls:=s1.calls+1 }) (e':=0) (fun _ _=>rfl) rfl rfl rfl Jr.out.tl (by show s1.calls+1<=24;omega))
     have PX:Lo (w1.setCell (qa B 8) (qi ((s1.calls:Int)+1))) (.slice la loc.length loc.length) L loc:=Oz.out.moves (by
      rcases Oz.out.lt with e | e
      . exact Or.inl e
      . rcases Qv.out with e' | e'
        . exact Or.inl e'
        . have h1:=IE.out.ro.BS
          have h2:=IE.out.ro.DS;have h3:=Ky.out
          exact Or.inr ((heap_set_ne (by show L≠B;omega) _).trans (HF.out.block L e ae ae e')))
     have PV:loc=[]\/FN.ownBlock≠some L:=by
      rcases Oz.out.lt with e | e
      . exact Or.inl e
      . rcases Qv.out with e' | e'
        . exact Or.inl e'
        . exact Or.inr (fun x=>e' (HF.out.own L x e))
     obtain ⟨c,NA,hcu,LT,RX,hCn⟩:=HP.out.call (n:=n) (u:=u) (by show cx.lim+1<=s1.ticks+n;rw [ht];have:=Np.out;omega) PX Ky.out PV;simp only [vaq] at NA;have Lj:=hid ((HF.out.trans (Fm.grown (zet (B:=B) (i:=8) (u:=qi ((s1.calls:Int)+1))))).trans (Fm.below (D:=K.D) (B:=B) (al1 (w1.setCell (qa B 8) (qi ((s1.calls:Int)+1))) (.cells #[pq B 0,qi u,.slice la loc.length loc.length,qi 0] 257))));have Cj:DAt ((w1.setCell (qa B 8) (qi ((s1.calls:Int)+1))).alloc (.cells #[pq B 0,qi u,.slice la loc.length loc.length,qi 0] 257)) (·<base) ab body.length (zdu body):=HD.out.fm Lj.out IE.out.ro.lB IE.out.ro.lD (fun k e=>by have:=(IE.out.out.lt k e).1;have:=IE.out.ro.BS;have:=IE.out.ro.lB;omega);have J5:=HB.out body c loc 0 FN { s1 with calls:=s1.calls+1 } ab kb _ hCn Cj (by rw [hcu];exact HN.out)
     rw [NA,hcu] at J5;have HX:=hid J5;have UZ:=hid hCn;have HC:=hid (And.intro NA RX)
     have JR:wrap64 ((s1.calls:Int)+1)=(s1.calls:Int)+1:=bZ
     clear J5 hCn Cj PV PX LT hcu hc;go_wp2_with fail;refine HX.out.mono ?_;rintro e w4 ⟨OR,hg,⟨k',s4,hr,rfl,hw⟩ | ⟨⟨db,dl,dr⟩,s4,hr,rfl,hw⟩⟩
     . exact ⟨rfl,OR,(Lj.out.gm.trans (Gm.drop (L:=L) hg HC.out.1 HC.out.2 Kb)).lop,Or.inr ⟨k',s4,An.out.trans (zx6 hr),rfl,hw⟩⟩
     . have Tn:=hid (Lj.out.gm.trans (Gm.drop (L:=L) hg HC.out.1 HC.out.2 Kb))
       have Ks:=z9r cx n u 6 body ⟨loc,0⟩ _ _ _ hr;have Ks:s4.calls=s1.calls+1:=Ks;have AU:=hid (An.out.trans (bind_ok hr));have CY:=hid (hw.wd.put (i:=8) (u:=qi (s1.calls:Int)) (s':={ s4 with calls:=s4.calls - 1 }) (e':=0) (fun _ _=>by rw [Ks,Nat.add_sub_cancel];rfl) rfl rfl rfl hw.wd.tl (by show s4.calls - 1<=24;omega));have NL:=hw.cl;rw [HC.out.1] at NL;obtain ⟨p0,p1,p2,p3,pz,pf⟩:=z5h NL;obtain ⟨US,ci4,Aj, -, -⟩:=hw.wd.blk;obtain ⟨r0,r1,r2,r3,r4,r5,r6,r7,r8,r9,rz,rf⟩:=zfi Aj
       have TJ:w4.cell? (qa B 8)=some (qi ((s1.calls:Int)+1)):=by rw [r8,Ks];rfl
       have m1:B≠w1.heap.size:=ae
       clear hg hr hw NL Aj r8 Ks r0 r1 r2 r3 r4 r5 r6 r7 r9 q0 q1 q2 q3 q4 q5 q6 q7 q8 q9 qf p0 p1 p2;unfold ybc;go_wp2_with fail
       go_returns
       exact ⟨OR,(Tn.out.trans (Fm.grown zet).gm).lop,Or.inl ⟨dr,_,AU.out,rfl,CY.out⟩⟩
def Rr.en {α:Type}:Rr α->Int
 | .ok _ _=>0
 | .stop e _=>e
end Go.Proofs.YtndkhgakfodldaaGreatDoor

namespace Go.Proofs.YtndkhgakfodldaaGreatDoor
set_option maxRecDepth 100000
open Go.RowKit Go.Shelf Go.Maps Go.WideMaps
set_option linter.unusedSimpArgs false
set_option linter.unusedVariables false
theorem zl6.moves {w w':World} {b n:Nat} {L:Lc} (h:zl6 w b n L) (hb:w'.heap[b]? = w.heap[b]?):zl6 w' b n L:=by
 obtain ⟨D,⟨es,clock,hh,r⟩,k⟩:=h;exact ⟨D,⟨es,clock,hb.trans hh,r⟩,k⟩
theorem zl6.has {w w':World} {b n:Nat} {L:Lc} (h:zl6 w b n L) (hb:∀ x,w.heap[b]? = some x->w'.heap[b]? = some x):zl6 w' b n L:=by
 obtain ⟨D,⟨es,clock,hh,r⟩,k⟩:=h;exact ⟨D,⟨es,clock,hb _ hh,r⟩,k⟩
structure Nr (S0:Nat) (wr:World) (rs:List (List Nat)) (bs:List Int) (vn vb:Value) (vs:List Value):Prop where
 on:wr.ownsRow S0 49 1 vn rs.length vs
 ob:wr.ownsRow S0 3 1 vb bs.length (intV bs)
 ap:Apt vn vb
 vl:vs.length=rs.length
 rw:∀ i (h:i<rs.length) (h':i<vs.length),wr.ownsRow S0 3 1 vs[i] rs[i].length (intV (natI rs[i]))/\Apt vs[i] vn/\Apt vs[i] vb
theorem Nr.keep {S0:Nat} {wr w':World} {rs:List (List Nat)} {bs:List Int} {vn vb:Value} {vs:List Value} (h:Nr S0 wr rs bs vn vb vs) (hk:∀ b,S0<=b->b<wr.heap.size->w'.heap[b]? = wr.heap[b]?):Nr S0 w' rs bs vn vb vs:=
 ⟨zaf h.on (fun k e=>hk k (h.on.lt k e).1 (h.on.lt k e).2),zaf h.ob (fun k e=>hk k (h.ob.lt k e).1 (h.ob.lt k e).2),h.ap,h.vl,fun i h1 h2=>⟨zaf (h.rw i h1 h2).1 (fun k e=>hk k ((h.rw i h1 h2).1.lt k e).1 ((h.rw i h1 h2).1.lt k e).2),(h.rw i h1 h2).2⟩⟩
theorem zop {W:World} {A:Nat->Prop}:∀ l:List Int,(∀ i ∈ l,(Lit.int .i64 i).wf=true)->zaq W A (zgf l) (intV l)
 | [],_=>zaq.nil
 | x :: r,hf=>.cons (zdt (hf x (var ..))) (zop r (fun j hj=>hf j (vak _ hj)))
theorem zoq {W:World} {base:Nat} {t:TypeId} {sz:Nat} {a:OA} {n cap:Nat} {xs:List Value} {ds:List D} {A:Nat->Prop} (h:W.ownsRow base t sz (.slice a n cap) n xs) (hx:zaq W A ds xs) (h1:n<=ds.length) (h2:ds.length<=17592186044416) (hA:∀ q,base<=q->q<W.heap.size->A q):DAt W A a n ds:=by
 refine ⟨h1,h2,?_⟩
 rcases h.2 with ⟨e,h0⟩ | ⟨g,cap',AD,e,hb,hg,_⟩
 . exact Or.inl h0
 . cases e
   refine Or.inr ⟨g,0,xs,rfl,hA g hb (lt_of_heap hg),lt_of_heap hg,fun j u hj=>?_,hx⟩;exact iO
theorem Nr.beg {S0 n cb:Nat} {w:World} {rs:List (List Nat)} {bs:List Int} {vn:Value} {ab:OA} {vs:List Value} {A:Nat->Prop} (h:Nr S0 w rs bs vn (.slice ab n cb) vs) (hn:n=bs.length) (hA:∀ q,S0<=q->q<w.heap.size->A q) (hf:∀ i ∈ bs,(Lit.int .i64 i).wf=true) (hl:bs.length<=1000):DAt w A ab bs.length (zgf bs):=by
 subst hn;exact zoq h.ob (zop bs hf) (by simp [zgf]) (by simp [zgf];omega) hA
theorem zuo {S0:Nat} {w:World} {A:Nat->Prop} (hA:∀ q,S0<=q->q<w.heap.size->A q):∀ (rs:List (List Nat)) (vs:List Value),vs.length=rs.length->(∀ r ∈ rs,r.length<=3000000/\∀ i ∈ natI r,(Lit.int .i64 i).wf=true)->(∀ i (h:i<rs.length) (h':i<vs.length),w.ownsRow S0 3 1 vs[i] rs[i].length (intV (natI rs[i])))->zaq w A (zua rs) vs
 | [],[],_,_,_=>zaq.nil
 | [],_ :: _,h,_,_=>dH
 | _ :: _,[],h,_,_=>dH
 | r :: rs,v :: vs,h,hf,ho=>by
   have h0:=ho 0 aA aA;simp only [vbm] at h0;obtain ⟨a,cap,rfl,_,_⟩:=zag h0;have hr:=hf r (var ..)
   have hl:(natI r).length=r.length:=by simp [natI]
   refine .cons (DAt.val (zoq h0 (zop _ hr.2) (by simp [zgf,hl]) (by simp [zgf,hl];omega) hA)) (zuo hA rs vs bT (fun r' h'=>hf r' (vak _ h')) (fun i h1 h2=>?_));have:=ho (i+1) (by simpa using h1) dz;simpa using this
theorem Nr.near {S0 n cn:Nat} {w:World} {rs:List (List Nat)} {bs:List Int} {vb:Value} {an:OA} {vs:List Value} {A:Nat->Prop} (h:Nr S0 w rs bs (.slice an n cn) vb vs) (hn:n=rs.length) (hA:∀ q,S0<=q->q<w.heap.size->A q) (hf:∀ r ∈ rs,r.length<=3000000/\∀ i ∈ natI r,(Lit.int .i64 i).wf=true) (hl:rs.length<=1000):DAt w A an rs.length (zua rs):=by
 subst hn;exact zoq h.on (zuo hA rs vs h.vl hf (fun i h1 h2=>(h.rw i h1 h2).1)) (by simp [zua]) (by simp [zua];omega) hA
theorem Apt.new {v u:Value} {w:World} {B C:Nat} {e e2:TypeId} {z z2 n n2:Nat} {xs ys:List Value} {w':World} (h:w.ownsRow B e z v n xs) (h':w'.ownsRow C e2 z2 u n2 ys) (hw:w'.heap.size<=B):Apt v u:=fun k h1 h2=>by
 have:=(h.lt k h1).1;have:=(h'.lt k h2).2;omega
set_option maxHeartbeats 12800000
end Go.Proofs.YtndkhgakfodldaaGreatDoor

namespace Go.Proofs.YtndkhgakfodldaaGreatDoor
set_option maxRecDepth 100000
set_option maxHeartbeats 800000
open Go.RowKit Go.Shelf
set_option linter.unusedSimpArgs false
set_option linter.unusedVariables false
def zj7 (w:World) (a:OA) (l:List Int):Prop:=l=[]\/∃ b off,a=some (qa b off)/\b<w.heap.size/\∀ i (h:i<l.length),w.cell? ⟨b,off+i,none⟩=some (qi l[i])
theorem zj7.later {w w':World} {a:OA} {l:List Int} (h:zj7 w a l) (hb:qb w w'):zj7 w' a l:=by
 rcases h with h | ⟨b,off,ha,hl,hc⟩
 . exact Or.inl h
 . exact Or.inr ⟨b,off,ha,vai hl hb.size,fun i h=>(hb.cell (p:=⟨b,off+i,none⟩) hl).trans (hc i h)⟩
theorem zj7.at_ {w:World} {a:OA} {l:List Int} (h:zj7 w a l) (i:Nat) (hi:i<l.length):∃ b off,a=some (qa b off)/\b<w.heap.size/\w.cell? ⟨b,off+i,none⟩=some (qi l[i]):=by
 rcases h with rfl | ⟨b,off,ha,hl,hc⟩
 . simp at hi
 . exact ⟨b,off,ha,hl,hc i hi⟩
theorem zj7.own {w:World} {B n:Nat} {a:OA} {cap:Nat} {l:List Int} (h:w.ownsRow B 3 1 (.slice a n cap) n (intV l)) (hn:n=l.length):zj7 w a l:=by
 subst hn
 rcases h.2 with ⟨_,h0⟩ | ⟨g,cap',AD,e,_,hg,_⟩
 . exact Or.inl (vam h0)
 . cases e
   refine Or.inr ⟨g,0,rfl,lt_of_heap hg,fun i hi=>?_⟩;have:=h.cells (g:=g) rfl i (qi l[i]) (by simp [intV,hi]);rw [show ((qa g 0):Addr).add i=(qa g i) from aS] at this
   rw [vaz];exact this
theorem zj7.blk {w:World} {g:Nat} {l:List Int} (h:w.heap[g]? = some (.cells (intV l).toArray 3 (0,0))):zj7 w (some (qa g 0)) l:=Or.inr ⟨g,0,rfl,lt_of_heap h,fun i hi=>by
 rw [vep h,vdl]
 simp [intV,hi]⟩
theorem zj7.take {w:World} {a:OA} {l m:List Int} (h:zj7 w a l) (hp:m <+: l):zj7 w a m:=by
 obtain ⟨t,rfl⟩:=hp
 rcases h with h | ⟨b,off,ha,hl,hc⟩
 . exact Or.inl (List.append_eq_nil_iff.1 h).1
 . refine Or.inr ⟨b,off,ha,hl,fun i hi=>?_⟩
   have:=hc i (by rw [vaj];omega);rw [vcl hi] at this;exact this
theorem zqi {w w':World} (h:qb w w') (m:Nat):qb w (w'.drewN m):=zdj h m
theorem zjp (a b:OA) (c1 c2:Nat) (l:List Int) (w:World) (ha:zj7 w a l) (hb:zj7 w b l) (Bz:l.length<=1000000) :
 qc 28 #[.slice a l.length c1,.slice b l.length c2] w fun e w'=>e = .returned (.bool true)/\∃ m,w'=w.drewN m:=by
 have HA:=hid ha;have HB:=hid hb;clear ha hb;go_enter Tryz.func28,Tryz.ntmps28;go_wp2_with fail
 go_loopw [5] (fun i wr=>∃ k m:Nat,k<=l.length/\i=qi k/\wr=w.drewN m) (fun i _=>l.length - (intOf i).toNat)
 case atStart=>exact ⟨0,0,vaf _,rfl,rfl⟩
 case round=>
  obtain ⟨k,m,hk,rfl,rfl⟩:=hrel
  by_cases A0:k<l.length
  . obtain ⟨b1,o1,rfl,CJ,CL⟩:=(HA.out.later (bd w m)).at_ k A0
    obtain ⟨b2,o2,rfl,Ch,Gr⟩:=(HB.out.later (bd w m)).at_ k A0;have hc:=hid CL;exact gA
  . go_wp2_with fail
    go_ret;exact ⟨rfl,m,rfl⟩
theorem zj8 (en tk:Int) (oa ob da db:OA) (c1 c2 c3 c4:Nat) (l r:List Int) (w:World) (h1:zj7 w oa l) (h2:zj7 w ob l) (h3:zj7 w da r) (h4:zj7 w db r) (hl:l.length<=1000000) (hr:r.length<=1000000) :
 qc 29 #[.agg #[qi en,.slice oa l.length c1,.slice da r.length c3,qi tk],.agg #[qi en,.slice ob l.length c2,.slice db r.length c4,qi tk]] w fun e w'=>e = .returned (.bool true)/\qb w w':=by
 have HS:Hid (∀ W,qb w W->qc 28 #[.slice oa l.length c1,.slice ob l.length c2] W fun e w'=>e = .returned (.bool true)/\∃ m,w'=W.drewN m):=fun W hb=>zjp oa ob c1 c2 l W (h1.later hb) (h2.later hb) hl
 have HT:Hid (∀ W,qb w W->qc 28 #[.slice da r.length c3,.slice db r.length c4] W fun e w'=>e = .returned (.bool true)/\∃ m,w'=W.drewN m):=fun W hb=>zjp da db c3 c4 r W (h3.later hb) (h4.later hb) hr
 clear h1 h2 h3 h4 hl hr;have Ad:=hid (thenB (al1 w (.cells #[qi en,.slice oa l.length c1,.slice da r.length c3,qi tk] 51)) (al1 _ (.cells #[qi en,.slice ob l.length c2,.slice db r.length c4,qi tk] 51)));generalize l.length=n at *;generalize r.length=k at *;go_enter Tryz.func29,Tryz.ntmps29;go_wp2_with fail;refine (HS.out _ Ad.out).mono ?_;rintro e w1 ⟨rfl,m1,rfl⟩;go_wp2_with fail;refine (HT.out _ (zqi Ad.out m1)).mono ?_;rintro e w1 ⟨rfl,m2,rfl⟩;go_wp2_with fail;go_ret;exact ⟨rfl,zqi Ad.out _⟩
def z9s (w:World) (r:Rs) (v:Value):Prop:=∃ ao co ad cd,v = .agg #[qi r.end_,.slice ao r.out.length co,.slice ad r.data.length cd,qi r.ticks]/\zj7 w ao r.out/\zj7 w ad r.data/\r.out.length<=co
theorem z9s.later {w w':World} {r:Rs} {v:Value} (h:z9s w r v) (hb:qb w w'):z9s w' r v:=by
 obtain ⟨ao,co,ad,cd,e,h1,h2,h3⟩:=h;exact ⟨ao,co,ad,cd,e,h1.later hb,h2.later hb,h3⟩
end Go.Proofs.YtndkhgakfodldaaGreatDoor
