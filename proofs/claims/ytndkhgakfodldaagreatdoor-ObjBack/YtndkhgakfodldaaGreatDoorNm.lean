/-
  Package gen: the writer, and a row of entries beside it.
-/
import Derived.Test.YtndkhgakfodldaaGreatDoorNj
import Derived.Test.YtndkhgakfodldaaGreatDoorUn
namespace Go.Proofs.YtndkhgakfodldaaGreatDoor
set_option maxRecDepth 100000
open Go.RowKit Go.Maps Go.WideMaps
set_option linter.unusedSimpArgs false
set_option linter.unusedVariables false
def intV (l:List Int):List Value:=l.map (Value.int .i64 ·)
theorem intV_snoc (l:List Int) (x:Int):intV (l++[x])=intV l++[.int .i64 x]:=by simp [intV]
def Ent (B:Nat) (v:Value) (es:List Int) (E:List (Nat × Obj)):Prop:=
 (es=[]/\v = .slice none 0 0/\E=[])\/∃ g cap cur,v = .slice (some ⟨g,0,none⟩) es.length cap/\E=[(g,.cells cur 3)]/\B<=g/\es.length<=cap/\cap<=maxLen/\cur.size=cap*1/\cur.toList.take (es.length*1)=intV es
def Wre (w0 w:World) (R:Nat) (K:List (Nat × Obj)) (s:Wrt) (v:Value) (es:List Int):Prop:=∃ E,Ent w0.heap.size v es E/\Wri w0 w R (E++K) s/\∀ x ∈ K,v.ownBlock≠some x.1
section
variable {w0 w w':World} {R:Nat} {K:List (Nat × Obj)} {s:Wrt} {v:Value} {es:List Int}
theorem Wre.start (h:Wri w0 w R K s):Wre w0 w R K s (.slice none 0 0) []:=⟨[],Or.inl ⟨rfl,rfl,rfl⟩,h,fun x _ e=>by simp [Value.ownBlock] at e⟩
theorem Wre.own (h:Wre w0 w R K s v es):w.ownsRow w0.heap.size 3 1 v es.length (intV es):=by
 obtain ⟨E,hE,hw,_⟩:=h;refine ⟨by simp [intV],?_⟩
 rcases hE with ⟨h1,h2,_⟩ | ⟨g,cap,cur,hv,hE,hB,h3,h4,h5,h6⟩
 . exact Or.inl ⟨h2,by rw [h1];rfl⟩
 . subst hE
   exact Or.inr ⟨g,cap,cur,hv,hB,hw.head,h3,h4,h5,h6⟩
theorem Wre.form (h:Wre w0 w R K s v es):∃ a cap,v = .slice a es.length cap/\es.length<=cap/\cap<=maxLen:=ownsRow_form h.own
theorem Wre.wri (h:Wre w0 w R K s v es):Wri w0 w R K s:=by
 obtain ⟨E,_,hw,_⟩:=h;exact hw.sub (fun x hx=>List.mem_append_right _ hx)
theorem Wre.later (h:Wre w0 w R K s v es) (hb:Below w.heap.size w w'):Wre w0 w' R K s v es:=by
 obtain ⟨E,hE,hw,hx⟩:=h;exact ⟨E,hE,hw.later hb,hx⟩
theorem Wre.alloc (h:Wre w0 w R K s v es) (o:Obj):Wre w0 (w.alloc o) R K s v es:=h.later ((Below.refl _ _).alloc (Nat.le_refl _) o)
theorem Wre.box (h:Wre w0 w R K s v es) (o:Obj):Wre w0 (w.alloc o) R ((w.heap.size,o) :: K) s v es:=by
 have hown:=h.own;obtain ⟨E,hE,hw,hx⟩:=h;refine ⟨E,hE,(hw.box o).sub (fun x hx=>?_),fun x hm=>?_⟩
 . rcases List.mem_append.1 hx with h1 | h1
   . exact List.mem_cons_of_mem _ (List.mem_append_left _ h1)
   . rcases List.mem_cons.1 h1 with rfl | h1
     . exact List.mem_cons_self ..
     . exact List.mem_cons_of_mem _ (List.mem_append_right _ h1)
 . rcases List.mem_cons.1 hm with rfl | hm
   . intro e
     have:=(hown.lt _ e).2;simp only at this;omega
   . exact hx x hm
theorem Wre.tail {x:Nat × Obj} (h:Wre w0 w R (x :: K) s v es):Wre w0 w R K s v es:=by
 obtain ⟨E,hE,hw,hx⟩:=h;refine ⟨E,hE,hw.sub (fun y hy=>?_),fun y hy=>hx y (List.mem_cons_of_mem _ hy)⟩
 rcases List.mem_append.1 hy with h1 | h1
 . exact List.mem_append_left _ h1
 . exact List.mem_append_right _ (List.mem_cons_of_mem _ h1)
theorem Wre.call {P:Program} {f:FuncId} {args:Array Value} {s':Wrt} (h:Wre w0 w R K s v es) (hc:∀ K',Wri w0 w R K' s->Calls P f args w fun e w'=>e = .returned (.tuple #[])/\Wri w0 w' R K' s') :
 Calls P f args w fun e w'=>e = .returned (.tuple #[])/\Wre w0 w' R K s' v es:=by
 obtain ⟨E,hE,hw,hx⟩:=h;exact (hc _ hw).mono (fun e w' h=>⟨h.1,E,hE,h.2,hx⟩)
theorem Wre.onto {x:Int} {g cap:Nat} (h:Wre w0 w R K s v es) (ho:Onto w w' w0.heap.size 3 1 v es.length g cap (intV es++[.int .i64 x])) :
 Wre w0 w' R K s (.slice (some ⟨g,0,none⟩) (es.length+1) cap) (es++[x]):=by
 have hown:=h.own;obtain ⟨E,hE,⟨hl,cv,fv,hw⟩,hx⟩:=h
 have hv:∀ k,v.ownBlock=some k->k≠R/\cv.ownBlock≠some k/\fv.ownBlock≠some k:=fun k hk=>by
  rcases hE with ⟨_,h2,_⟩ | ⟨g',cap',cur,hv,hE,_⟩
  . rw [h2] at hk;simp [Value.ownBlock] at hk
  . subst hE
    rw [hv] at hk;simp only [Value.ownBlock,Option.some.injEq] at hk;subst hk;obtain ⟨_,h2,h3,h4⟩:=hw.kp (g',.cells cur 3) (List.mem_append_left _ (List.mem_cons_self ..));exact ⟨h2,h3,h4⟩
 have hnew:∀ k,k<w.heap.size->v.ownBlock≠some k->g≠k:=fun k hk hne e=>by
  rcases ho.at_ with h1 | h1
  . exact hne (by rw [h1,e])
  . omega
 rcases ho.own.2 with ⟨h1,_⟩ | ⟨g',cap',cur,hv',hB,hg,h3,h4,h5,h6⟩
 . cases h1
 cases hv'
 have hcv:∀ k,cv.ownBlock=some k->v.ownBlock≠some k:=fun k h1 h2=>(hv k h2).2.1 h1
 have hfv:∀ k,fv.ownBlock=some k->v.ownBlock≠some k:=fun k h1 h2=>(hv k h2).2.2 h1
 have keep:∀ k,k<w.heap.size->v.ownBlock≠some k->w'.heap[k]? = w.heap[k]?:=fun k hk hne=>
  (ho.old k _ (Array.getElem?_eq_getElem hk) hne).trans (Array.getElem?_eq_getElem hk).symm
 refine ⟨[(g,.cells cur 3)],Or.inr ⟨g,cap,cur,by rw [List.length_append];rfl,rfl,hB,by rw [List.length_append];exact h3,h4,h5,by rw [List.length_append,intV_snoc];exact h6⟩,⟨hl,cv,fv,?_⟩,fun y hy e=>?_⟩
 . exact {
    blk:=(keep R hw.ltR (fun e=>(hv R e).1 rfl)).trans hw.blk
    hR:=hw.hR
    code:=ownsRow_keep hw.code (fun k hk=>keep k (hw.code.lt k hk).2 (hcv k hk))
    fix:=ownsRow_keep hw.fix (fun k hk=>keep k (hw.fix.lt k hk).2 (hfv k hk))
    apt:=hw.apt
    nc:=hw.nc
    nf:=hw.nf
    below:=hw.below.trans ho.below
    kp :=fun y hy=>by
     rcases List.mem_append.1 hy with h7 | h7
     . rw [List.mem_singleton] at h7
       subst h7;refine ⟨hg,hnew R hw.ltR (fun e=>(hv R e).1 rfl),fun e=>?_,fun e=>?_⟩
       . exact hnew g (hw.code.lt g e).2 (hcv g e) rfl
       . exact hnew g (hw.fix.lt g e).2 (hfv g e) rfl
     . obtain ⟨k1,k2,k3,k4⟩:=hw.kp y (List.mem_append_right _ h7)
       exact ⟨ho.old _ _ k1 (hx y h7),k2,k3,k4⟩}
 . have k1:=(hw.kp y (List.mem_append_right _ hy)).1
   simp only [Value.ownBlock,Option.some.injEq] at e;exact hnew y.1 (lt_of_heap k1) (hx y hy) e
end
end Go.Proofs.YtndkhgakfodldaaGreatDoor

namespace Go.Proofs.YtndkhgakfodldaaGreatDoor
set_option maxRecDepth 100000
set_option maxHeartbeats 3200000
open Go.RowKit Go.Maps Go.WideMaps
set_option linter.unusedSimpArgs false
set_option linter.unusedVariables false
theorem containsU_any (l:List ByteArray) (x:ByteArray) (a:Option Addr) (cap:Nat) (w:World) (h:DAt w Tt a l.length (strsD l)) :
 Calls Tryz.prog 76 #[.slice a l.length cap,.string x] w fun e w'=>e = .returned (.bool (Go.Lib.containsS l x))/\w'=w:=by
 have hb:=h.bound
 rcases (strs_at h).1 with rfl | ⟨b,off,rfl,_,hc⟩
 . have:Go.Lib.containsS [] x=false:=by
    cases hq:Go.Lib.containsS [] x with
    | false=>rfl
    | true=>have:=(Go.Lib.containsS_iff [] x).1 hq;simp at this
   rw [this];exact Tryz.slices_Contains_string_empty a cap x w
 . have:=Tryz.slices_Contains_string b off l.length cap l x w (Nat.le_refl _) (by omega) (fun j hj=>by rw [hc j hj];simp [List.getD_eq_getElem?_getD,hj])
   rw [List.take_length] at this;exact this
def GenEnd (w:World) (u:Un) (e:Ending) (w':World):Prop:=
 match genM u with
 | .error c=>e = .returned (.tuple #[.agg #[.string ⟨#[]⟩,.slice none 0 0,.int .i64 0,.slice none 0 0,.slice none 0 0,.slice none 0 0,.int .i64 0],.int .i64 c])
 | .ok o=>∃ ua uc ca cc fa fc ea ec,e = .returned (.tuple #[.agg #[.string o.name,.slice ua o.uses.length uc,.int .i64 o.data,.slice ca o.code.length cc,.slice fa o.fixes.length fc,.slice ea o.entries.length ec,.int .i64 o.main],.int .i64 0])/\
  w'.ownsRow w.heap.size 9 1 (.slice ua o.uses.length uc) o.uses.length (strV o.uses)/\w'.ownsRow w.heap.size 69 3 (.slice ca o.code.length cc) o.code.length (gisV o.code)/\
  w'.ownsRow w.heap.size 67 3 (.slice fa o.fixes.length fc) o.fixes.length (gfsV o.fixes)/\w'.ownsRow w.heap.size 3 1 (.slice ea o.entries.length ec) o.entries.length (intV o.entries)
theorem below7 {B:Nat} {w w':World} {b:Nat} (h:Below B w w') (hb:B<=b) (v0 v1 v2 v3 v4 v5 v6:Value) :
 Below B w (((((((w'.setCell ⟨b,0,none⟩ v0).setCell ⟨b,1,none⟩ v1).setCell ⟨b,2,none⟩ v2).setCell ⟨b,3,none⟩ v3).setCell ⟨b,4,none⟩ v4).setCell ⟨b,5,none⟩ v5).setCell ⟨b,6,none⟩ v6):=
 (((((((h.setCell (p:=⟨b,0,none⟩) hb v0).setCell (p:=⟨b,1,none⟩) hb v1).setCell (p:=⟨b,2,none⟩) hb v2).setCell (p:=⟨b,3,none⟩) hb v3).setCell (p:=⟨b,4,none⟩) hb v4).setCell (p:=⟨b,5,none⟩) hb v5).setCell (p:=⟨b,6,none⟩) hb v6)
theorem Gen_err1 (u:Un) (x1:Option Addr) (y1:Nat) (x2:Option Addr) (y2:Nat) (x3:Option Addr) (y3:Nat) (w:World) (hU:UvAt w u x1 y1 x2 y2 x3 y3) (hc:(Go.Lib.containsS u.uses u.name || !holdB u numS prtS)=true) :
 Calls Tryz.prog 31 #[.agg #[.string u.name,.slice x1 u.uses.length y1,.int .i64 u.data,.slice x2 u.parts.length y2,.slice x3 u.main.length y3]] w fun e w'=>GenEnd w u e w'/\Below w.heap.size w w':=by
 have HG:Hid (genM u = .error 1):=if_pos hc;have HB2:Hid (Below w.heap.size w ((w.alloc (.cells #[.string u.name,.slice x1 u.uses.length y1,.int .i64 u.data,.slice x2 u.parts.length y2,.slice x3 u.main.length y3] 42)).alloc (.cells #[.string ⟨#[]⟩,.slice none 0 0,.int .i64 0,.slice none 0 0,.slice none 0 0,.slice none 0 0,.int .i64 0] 62))):=((Below.refl _ _).alloc (Nat.le_refl _) _).alloc (by simp) _;have HC:=hid (containsU_any u.uses u.name x1 y1 _ (hU.later HB2.out).uses);have HH:=hid (holdS_any u x1 y1 x2 y2 x3 y3 _ (hU.later HB2.out));have hb1:=hU.uses.bound
 cases hq:Go.Lib.containsS u.uses u.name with
 | true=>
   rw [hq] at HC;clear hc hU HH hq;go_enter Tryz.func31,Tryz.ntmps31;go_wp2_with fail;refine HC.out.mono ?_;rintro e w' ⟨rfl,rfl⟩;go_wp2_with fail;refine bodyPost_ret (v:=.tuple #[.agg #[.string ⟨#[]⟩,.slice none 0 0,.int .i64 0,.slice none 0 0,.slice none 0 0,.slice none 0 0,.int .i64 0],.int .i64 1]) (by simp [results,Tryz.results31,go_sem]) rfl ⟨by unfold GenEnd;rw [HG.out],?_⟩;exact HB2.out
 | false=>
   rw [hq] at HC hc
   have hh:holdB u numS prtS=false:=by simpa using hc
   rw [hh] at HH;clear hc hU hq hh;go_enter Tryz.func31,Tryz.ntmps31;go_wp2_with fail;refine HC.out.mono ?_;rintro e w' ⟨rfl,rfl⟩;go_wp2_with fail;refine HH.out.mono ?_;rintro e w3 ⟨rfl,hb3⟩;have HB3:=hid (thenB HB2.out hb3)
   have hk:w3.heap[w.heap.size+1]? = some (.cells #[.string ⟨#[]⟩,.slice none 0 0,.int .i64 0,.slice none 0 0,.slice none 0 0,.slice none 0 0,.int .i64 0] 62):=by
    have h1:=heap_newP (w.alloc (.cells #[.string u.name,.slice x1 u.uses.length y1,.int .i64 u.data,.slice x2 u.parts.length y2,.slice x3 u.main.length y3] 42)) (.cells #[.string ⟨#[]⟩,.slice none 0 0,.int .i64 0,.slice none 0 0,.slice none 0 0,.slice none 0 0,.int .i64 0] 62);rw [World.size_alloc] at h1;exact (hb3.block (w.heap.size+1) (by simp)).trans h1
   obtain ⟨q0,q1,q2,q3,q4,q5,q6,qz⟩:=cells7 hk;have hlt:=lt_of_heap hk
   have hf:∀ j,w3.frozen? ⟨w.heap.size+1,j,none⟩=false:=fun j=>Lib.frozen_of_heap hk j
   clear hb3 hk;go_wp2_with fail;refine bodyPost_ret (v:=.tuple #[.agg #[.string ⟨#[]⟩,.slice none 0 0,.int .i64 0,.slice none 0 0,.slice none 0 0,.slice none 0 0,.int .i64 0],.int .i64 1]) (by simp [results,Tryz.results31,go_sem,q0,q1,q2,q3,q4,q5,q6,hlt]) rfl ⟨by unfold GenEnd;rw [HG.out],?_⟩;exact below7 HB3.out (by omega) _ _ _ _ _ _ _
end Go.Proofs.YtndkhgakfodldaaGreatDoor

namespace Go.Proofs.YtndkhgakfodldaaGreatDoor
set_option maxRecDepth 100000
set_option maxHeartbeats 6400000
open Go.RowKit Go.Maps Go.WideMaps
set_option linter.unusedSimpArgs false
set_option linter.unusedVariables false
theorem Tryz.infoInt:(Tryz.prog.info? 3).map (fun i=>(i.zero,i.size,i.bytes))=some (some (.int .i64 0),1,8):=by kernel_rfl
theorem Wri.new {w0 w:World} {K:List (Nat × Obj)} (hb:Below w0.heap.size w0 w) (hK:∀ x ∈ K,w.heap[x.1]? = some x.2):Wri w0 (w.alloc (.cells #[.slice none 0 0,.slice none 0 0] 136)) w.heap.size K wr0:=
 ⟨Nat.le_refl _,_,_,{
  blk:=heap_newP _ _
  hR:=hb.size
  code:=World.ownsRow_nil _ _ _ _
  fix:=World.ownsRow_nil _ _ _ _
  apt:=Apt.nil _
  nc:=fun e=>by simp [Value.ownBlock] at e
  nf:=fun e=>by simp [Value.ownBlock] at e
  below:=hb.alloc hb.size _
  kp:=fun x hx=>⟨heap_old (hK x hx),fun e=>by have:=lt_of_heap (hK x hx);omega,fun e=>by simp [Value.ownBlock] at e,fun e=>by simp [Value.ownBlock] at e⟩}⟩
theorem headB_uses {u:Un} (h:headB u=true):u.uses.length<=3:=by
 unfold headB at h;rw [Bool.and_eq_true] at h;exact (many_parts (chk_err (of_decide_eq_true h.1))).1
theorem own7 {W:World} {B:Nat} {e:TypeId} {sz:Nat} {v:Value} {n:Nat} {xs:List Value} {b:Nat} (h:W.ownsRow B e sz v n xs) (hb:v.ownBlock≠some b) (v0 v1 v2 v3 v4 v5 v6:Value) :
 (((((((W.setCell ⟨b,0,none⟩ v0).setCell ⟨b,1,none⟩ v1).setCell ⟨b,2,none⟩ v2).setCell ⟨b,3,none⟩ v3).setCell ⟨b,4,none⟩ v4).setCell ⟨b,5,none⟩ v5).setCell ⟨b,6,none⟩ v6).ownsRow B e sz v n xs:=by
 refine ownsRow_keep h (fun k hk=>?_)
 have hne:k≠b:=fun e=>hb (by rw [hk,e])
 rw [heap_set_ne (p:=⟨b,6,none⟩) hne,heap_set_ne (p:=⟨b,5,none⟩) hne,heap_set_ne (p:=⟨b,4,none⟩) hne,heap_set_ne (p:=⟨b,3,none⟩) hne,heap_set_ne (p:=⟨b,2,none⟩) hne,heap_set_ne (p:=⟨b,1,none⟩) hne,heap_set_ne (p:=⟨b,0,none⟩) hne]
theorem ownsRow_lower {W:World} {B B':Nat} {e:TypeId} {sz:Nat} {v:Value} {n:Nat} {xs:List Value} (h:W.ownsRow B e sz v n xs) (hb:B'<=B):W.ownsRow B' e sz v n xs:=by
 refine ⟨h.1,?_⟩
 rcases h.2 with h1 | ⟨g,cap,cur,hv,hB,hr⟩
 . exact Or.inl h1
 . exact Or.inr ⟨g,cap,cur,hv,Nat.le_trans hb hB,hr⟩
theorem Wre.has {w0 w:World} {R:Nat} {K:List (Nat × Obj)} {s:Wrt} {v:Value} {es:List Int} (h:Wre w0 w R K s v es) {b:Nat} {o:Obj} (hx:(b,o) ∈ K):w.heap[b]? = some o:=h.wri.has hx
theorem Gen_ok (u:Un) (x1:Option Addr) (y1:Nat) (x2:Option Addr) (y2:Nat) (x3:Option Addr) (y3:Nat) (w:World) (hU:UvAt w u x1 y1 x2 y2 x3 y3) (hc:Go.Lib.containsS u.uses u.name=false) (hh:holdB u numS prtS=true) :
 Calls Tryz.prog 31 #[.agg #[.string u.name,.slice x1 u.uses.length y1,.int .i64 u.data,.slice x2 u.parts.length y2,.slice x3 u.main.length y3]] w fun e w'=>GenEnd w u e w'/\Below w.heap.size w w':=by
 have HB2:Hid (Below w.heap.size w ((w.alloc (.cells #[.string u.name,.slice x1 u.uses.length y1,.int .i64 u.data,.slice x2 u.parts.length y2,.slice x3 u.main.length y3] 42)).alloc (.cells #[.string ⟨#[]⟩,.slice none 0 0,.int .i64 0,.slice none 0 0,.slice none 0 0,.slice none 0 0,.int .i64 0] 62))):=((Below.refl _ _).alloc (Nat.le_refl _) _).alloc (by simp) _;have HC:=hid (containsU_any u.uses u.name x1 y1 _ (hU.later HB2.out).uses);have HH:=hid (holdS_any u x1 y1 x2 y2 x3 y3 _ (hU.later HB2.out));have hb1:=hU.uses.bound;have hbp:=hU.parts.bound;have HU:=hid hU;have HL:=hid (fun j hj=>partsW_le hh j hj);have HP:=hid (holdB_parts hh);have h6:=headB_six HP.out.2.2;have hu3:u.uses.length<=3:=headB_uses HP.out.2.2;have HE:=hid (genS_le hh)
 have HNe:Hid (¬ (Go.Lib.containsS u.uses u.name || !holdB u numS prtS)=true):=by show ¬ _;rw [hc,hh];decide
 rw [hc] at HC;rw [hh] at HH;clear hc hh hU;go_enter Tryz.func31,Tryz.ntmps31;go_wp2_with fail;refine HC.out.mono ?_;rintro e w' ⟨rfl,rfl⟩;go_wp2_with fail;refine HH.out.mono ?_;rintro e w3 ⟨rfl,hb3⟩
 have HK:Hid (∀ x ∈ [(w.heap.size,(.cells #[.string u.name,.slice x1 u.uses.length y1,.int .i64 u.data,.slice x2 u.parts.length y2,.slice x3 u.main.length y3] 42)),(w.heap.size+1,(.cells #[.string ⟨#[]⟩,.slice none 0 0,.int .i64 0,.slice none 0 0,.slice none 0 0,.slice none 0 0,.int .i64 0] 62))],w3.heap[x.1]? = some x.2):=fun x hx=>by
  have h1:=heap_newP (w.alloc (.cells #[.string u.name,.slice x1 u.uses.length y1,.int .i64 u.data,.slice x2 u.parts.length y2,.slice x3 u.main.length y3] 42)) (.cells #[.string ⟨#[]⟩,.slice none 0 0,.int .i64 0,.slice none 0 0,.slice none 0 0,.slice none 0 0,.int .i64 0] 62);rw [World.size_alloc] at h1;have h2:((w.alloc (.cells #[.string u.name,.slice x1 u.uses.length y1,.int .i64 u.data,.slice x2 u.parts.length y2,.slice x3 u.main.length y3] 42)).alloc (.cells #[.string ⟨#[]⟩,.slice none 0 0,.int .i64 0,.slice none 0 0,.slice none 0 0,.slice none 0 0,.int .i64 0] 62)).heap[w.heap.size]? = some (.cells #[.string u.name,.slice x1 u.uses.length y1,.int .i64 u.data,.slice x2 u.parts.length y2,.slice x3 u.main.length y3] 42):=heap_old (heap_newP w (.cells #[.string u.name,.slice x1 u.uses.length y1,.int .i64 u.data,.slice x2 u.parts.length y2,.slice x3 u.main.length y3] 42))
  rcases List.mem_cons.1 hx with rfl | hx
  . exact (hb3.block w.heap.size (by simp;omega)).trans h2
  . rw [List.mem_singleton] at hx
    subst hx;exact (hb3.block (w.heap.size+1) (by simp)).trans h1
 have HW:=hid (Wri.new (thenB HB2.out hb3) HK.out);obtain ⟨u0,u1,u2,u3,u4,uf⟩:=cellsOf5 (HK.out (w.heap.size,(.cells #[.string u.name,.slice x1 u.uses.length y1,.int .i64 u.data,.slice x2 u.parts.length y2,.slice x3 u.main.length y3] 42)) (List.mem_cons_self ..));have hlu:=lt_of_heap (HK.out (w.heap.size,(.cells #[.string u.name,.slice x1 u.uses.length y1,.int .i64 u.data,.slice x2 u.parts.length y2,.slice x3 u.main.length y3] 42)) (List.mem_cons_self ..));clear hb3;go_wp2_with fail;clear u0 u1 u2 u3 u4 uf hlu;generalize hR:w3.heap.size=R at *;generalize hw4:w3.alloc (.cells #[.slice none 0 0,.slice none 0 0] 136)=w4 at *
 go_loopw [5,28] (fun v i wr=>∃ j:Nat,j<=u.parts.length/\i = .int .i64 j/\Wre w wr R [(w.heap.size,(.cells #[.string u.name,.slice x1 u.uses.length y1,.int .i64 u.data,.slice x2 u.parts.length y2,.slice x3 u.main.length y3] 42)),(w.heap.size+1,(.cells #[.string ⟨#[]⟩,.slice none 0 0,.int .i64 0,.slice none 0 0,.slice none 0 0,.slice none 0 0,.int .i64 0] 62))] (partsW (u.parts.take j)) v (entsTo u.parts j)) (fun _ i _=>u.parts.length - (intOf i).toNat)
 case atStart=>exact ⟨0,Nat.zero_le _,rfl,Wre.start HW.out⟩
 case round=>
  obtain ⟨j,hj,rfl,hw⟩:=hrel;have H1:=hid hw;obtain ⟨ea,ec,rfl, -, -⟩:=hw.form;rw [entsTo_len] at *;clear hw
  by_cases hlt:j<u.parts.length
  . obtain ⟨b,off,pa,pc,rfl,hx⟩:=HU.out.parts.pt j hlt
    have hB:=H1.out.wri.below;have hbl:b<wr.heap.size:=Nat.lt_of_lt_of_le hx.lt hB.size;have z0:=(hB.cell (p:=⟨b,off+j*3,none⟩) hx.lt).trans hx.c0;have z1:=(hB.cell (p:=⟨b,off+j*3+1,none⟩) hx.lt).trans hx.c1;have z2:=(hB.cell (p:=⟨b,off+j*3+2,none⟩) hx.lt).trans hx.c2;have HA:=hid hx.body';have HT:=hid (partsW_take u.parts j hlt);have HQ:=hid (HP.out.1 _ (List.getElem_mem hlt));have HS:=hid (HL.out (j+1) (by omega));have HS0:=hid (HL.out j hj);rw [HT.out] at HS;clear hx hB;generalize u.parts[j]=p at *;have HB:=hid (H1.out.box (.cells #[.int .i64 p.params,.int .i64 p.locals,.slice pa p.body.length pc] 106));have HBo:=hid HB.out.own;rw [entsTo_len] at HBo;go_wp2_with fail;refine (here_any HB.out.wri).mono ?_;rintro e w5 ⟨rfl,rfl⟩
    go_wp2_with (at_builtin;refine append_w rfl (.tmp 32) (.tmp 35) 49 rfl w.heap.size 3 _ 1 8 Tryz.underlying49 Tryz.infoInt rfl (by decide) (wr.alloc (.cells #[.int .i64 p.params,.int .i64 p.locals,.slice pa p.body.length pc] 106)) (.slice ea j ec) j (intV (entsTo u.parts j)) rfl HBo.out #[.int .i64 (partsW (u.parts.take j)).code.length] (wr.heap.size+1) (by simp) rfl rfl (by simp;rfl) (by omega) (by decide) HB.out.wri.below.size _ rfl ?_;intro g5 c5 w5 ho;have HO:=hid (HB.out.onto (x:=((partsW (u.parts.take j)).code.length:Int)) (by rw [entsTo_len];exact ho));rw [entsTo_len,← entsTo_succ] at HO;obtain ⟨q0,q1,q2, -⟩:=cellsOf3 (HO.out.has (List.mem_cons_self ..));clear ho)
    refine (HO.out.call (fun K' h=>wbody_any (cap:=pc) HQ.out HA.out h (by have:=HS.out;omega))).mono ?_;rintro e w6 ⟨rfl,h6'⟩;have H6:=hid h6';clear h6' q0 q1 q2;go_wp2_with fail;go_roundw
    case rel=>exact ⟨j+1,by omega,by go_num,by rw [HT.out];exact H6.out.tail⟩
    case measure=>simp [intOf];omega
  . obtain rfl:j=u.parts.length:=by omega
    rw [List.take_length] at H1;have HM0:=hid (HL.out _ (Nat.le_refl _));rw [List.take_length] at HM0;obtain ⟨u0,u1,u2,u3,u4,uf⟩:=cellsOf5 (H1.out.has (List.mem_cons_self ..));go_wp2_with fail;refine (here_any H1.out.wri).mono ?_;rintro e w5 ⟨rfl,rfl⟩;go_wp2_with fail;refine (H1.out.call (fun K' h=>wbody_any (p:=⟨0,0,u.main⟩) (cap:=y3) HP.out.2.1 HU.out.main h (by have:=HE.out;unfold genS at this;omega))).mono ?_;rintro e w6 ⟨rfl,h6'⟩;have H6:Hid (Wre w w6 R [(w.heap.size,(.cells #[.string u.name,.slice x1 u.uses.length y1,.int .i64 u.data,.slice x2 u.parts.length y2,.slice x3 u.main.length y3] 42)),(w.heap.size+1,(.cells #[.string ⟨#[]⟩,.slice none 0 0,.int .i64 0,.slice none 0 0,.slice none 0 0,.slice none 0 0,.int .i64 0] 62))] (genS u) (.slice ea u.parts.length ec) (entsTo u.parts u.parts.length)):=h6';clear h6' u0 u1 u2 u3 u4 uf;go_wp2_with fail
    refine (isFull_any H6.out.wri).mono ?_
    cases hf:fullW (genS u) with
    | true=>
      rintro e w7 ⟨rfl,rfl⟩
      have HG:Hid (genM u = .error 2):=by show _=_;unfold genM;rw [if_neg HNe.out,if_pos hf]
      have hk:=H6.out.has (b:=w.heap.size+1) (List.mem_cons_of_mem _ (List.mem_cons_self ..));obtain ⟨q0,q1,q2,q3,q4,q5,q6,qz⟩:=cells7 hk;have hlt':=lt_of_heap hk
      have hfz:∀ j,w7.frozen? ⟨w.heap.size+1,j,none⟩=false:=fun j=>Lib.frozen_of_heap hk j
      have HB6:=hid H6.out.wri.below;clear hk hf;go_wp2_with fail;refine bodyPost_ret (v:=.tuple #[.agg #[.string ⟨#[]⟩,.slice none 0 0,.int .i64 0,.slice none 0 0,.slice none 0 0,.slice none 0 0,.int .i64 0],.int .i64 2]) (by simp [results,Tryz.results31,go_sem,q0,q1,q2,q3,q4,q5,q6,hlt']) rfl ⟨by unfold GenEnd;rw [HG.out],?_⟩;exact below7 HB6.out (by omega) _ _ _ _ _ _ _
    | false=>
      rintro e w7 ⟨rfl,rfl⟩
      have HG:Hid (genM u = .ok (genOb u)):=by show _=_;unfold genM;rw [if_neg HNe.out,if_neg (by rw [hf];decide)]
      obtain ⟨u0,u1,u2,u3,u4,uf⟩:=cellsOf5 (H6.out.has (List.mem_cons_self ..));have hub:=lt_of_heap (H6.out.has (List.mem_cons_self ..));have hob:=H6.out.has (b:=w.heap.size+1) (List.mem_cons_of_mem _ (List.mem_cons_self ..));obtain ⟨v',w8,hr8,ho8,hg8⟩:=run_append_strs w7.heap.size 22 (.slice none 0 0) 0 [] (World.ownsRow_nil _ _ _ _) u.uses x1 y1 (strs_at (HU.out.later H6.out.wri.below).uses).1 (by omega) (Nat.le_refl _);rw [Nat.zero_add,List.nil_append] at ho8;have hb8:Below w7.heap.size w7 w8:=(Below.refl _ w7).grown hg8 (Nat.le_refl _) (fun k hk=>by simp [Value.ownBlock] at hk);have HO8:=hid ho8;have HRn:=hid hr8;have hE8:=H6.out.later hb8;obtain ⟨E,hE,⟨hfl,cv,fv,hA⟩,hxx⟩:=hE8;have hEn:=(H6.out.later hb8).own;rw [entsTo_len] at hEn
      have hob8:=(hA.kp (w.heap.size+1,(.cells #[.string ⟨#[]⟩,.slice none 0 0,.int .i64 0,.slice none 0 0,.slice none 0 0,.slice none 0 0,.int .i64 0] 62)) (List.mem_append_right _ (List.mem_cons_of_mem _ (List.mem_cons_self ..))))
      have hub8:=(hA.kp (w.heap.size,(.cells #[.string u.name,.slice x1 u.uses.length y1,.int .i64 u.data,.slice x2 u.parts.length y2,.slice x3 u.main.length y3] 42)) (List.mem_append_right _ (List.mem_cons_self ..))).1;have HNe8:=hid (hxx (w.heap.size+1,(.cells #[.string ⟨#[]⟩,.slice none 0 0,.int .i64 0,.slice none 0 0,.slice none 0 0,.slice none 0 0,.int .i64 0] 62)) (List.mem_cons_of_mem _ (List.mem_cons_self ..)))
      have HNo:Hid (v'.ownBlock≠some (w.heap.size+1)):=fun e=>by
       have h1:=(HO8.out.lt _ e).1;have h2:=lt_of_heap hob;omega
      have HAt:=hid hA;have HEn:=hid hEn;have HOb:=hid hob8;obtain ⟨ua,uc,rfl, -⟩:=strV_own ho8;obtain ⟨ca,cc,rfl, -, -⟩:=ownsRow_form hA.code;obtain ⟨fa,fc,rfl, -, -⟩:=ownsRow_form hA.fix;obtain ⟨c0,c1, -⟩:=HAt.out.cells;have hRl:=HAt.out.ltR;obtain ⟨q0,q1,q2,q3,q4,q5,q6,qz⟩:=cells7 hob8.1
      have hfz:∀ j,w8.frozen? ⟨w.heap.size+1,j,none⟩=false:=fun j=>Lib.frozen_of_heap hob8.1 j
      have hlo:=lt_of_heap hob8.1;clear hb8 ho8 hg8 hr8 hf hE hfl hA hxx hEn hob hob8
      go_wp2_with (at_builtin;refine Lib.wpList_append_run _ rfl _ _ _ _ rfl _ _ rfl rfl _ w8 HRn.out ?_)
      clear u0 u1 u2 u3 u4 uf hub;obtain ⟨u0,u1,u2,u3,u4,uf⟩:=cellsOf5 hub8;have hub:=lt_of_heap hub8;clear hub8;have HLe:Hid (w.heap.size<=w7.heap.size):=H6.out.wri.below.size
      go_region
      go_wp2_with fail;refine bodyPost_ret (v:=.tuple #[.agg #[.string u.name,.slice ua u.uses.length uc,.int .i64 u.data,.slice ca (genS u).code.length cc,.slice fa (genS u).fixes.length fc,.slice ea u.parts.length ec,.int .i64 (partsW u.parts).code.length],.int .i64 0]) (by simp [results,Tryz.results31,go_sem,q0,q1,q2,q3,q4,q5,q6,hlo]) rfl ⟨?_,?_⟩
      . unfold GenEnd
        rw [HG.out];have hel:(genOb u).entries.length=u.parts.length:=entsTo_len ..;refine ⟨ua,uc,ca,cc,fa,fc,ea,ec,by rw [hel];rfl,?_,?_,?_,?_⟩
        . exact (ownsRow_lower (own7 HO8.out HNo.out _ _ _ _ _ _ _) HLe.out).drew
        . exact (own7 HAt.out.code HOb.out.2.2.1 _ _ _ _ _ _ _).drew
        . exact (own7 HAt.out.fix HOb.out.2.2.2 _ _ _ _ _ _ _).drew
        . rw [hel]
          exact (own7 HEn.out HNe8.out _ _ _ _ _ _ _).drew
      . exact (below7 HAt.out.below (by omega) _ _ _ _ _ _ _).drew
theorem Gen_any (u:Un) (x1:Option Addr) (y1:Nat) (x2:Option Addr) (y2:Nat) (x3:Option Addr) (y3:Nat) (w:World) (hU:UvAt w u x1 y1 x2 y2 x3 y3) :
 Calls Tryz.prog 31 #[.agg #[.string u.name,.slice x1 u.uses.length y1,.int .i64 u.data,.slice x2 u.parts.length y2,.slice x3 u.main.length y3]] w fun e w'=>GenEnd w u e w'/\Below w.heap.size w w':=by
 by_cases hc:(Go.Lib.containsS u.uses u.name || !holdB u numS prtS)=true
 . exact Gen_err1 u x1 y1 x2 y2 x3 y3 w hU hc
 . simp only [Bool.not_eq_true,Bool.or_eq_false_iff] at hc
   exact Gen_ok u x1 y1 x2 y2 x3 y3 w hU hc.1 (by simpa using hc.2)
end Go.Proofs.YtndkhgakfodldaaGreatDoor

namespace Go.Proofs.YtndkhgakfodldaaGreatDoor
set_option maxRecDepth 100000
open Go.RowKit Go.Maps Go.WideMaps
set_option linter.unusedSimpArgs false
set_option linter.unusedVariables false
def Gi.ds (i:Gi):List D:=[.int i.op,.int i.a,.int i.b]
def gisD (l:List Gi):List D:=l.flatMap Gi.ds
def Gf.ds (f:Gf):List D:=[.int f.at_,.int f.kind,.int f.m]
def gfsD (l:List Gf):List D:=l.flatMap Gf.ds
def intD (l:List Int):List D:=l.map D.int
def Ob.ds (o:Ob):List D:=[.str o.name,.list o.uses.length (strsD o.uses),.int o.data,.list o.code.length (gisD o.code),.list o.fixes.length (gfsD o.fixes),.list o.entries.length (intD o.entries),.int o.main]
structure OvAt (w:World) (o:Ob) (x1:Option Addr) (x3:Option Addr) (x4:Option Addr) (x5:Option Addr):Prop where
 wn:o.name.size<=maxLen
 uses:DAt w Tt x1 o.uses.length (strsD o.uses)
 wd:(Lit.int .i64 o.data).wf=true
 code:DAt w Tt x3 o.code.length (gisD o.code)
 fixes:DAt w Tt x4 o.fixes.length (gfsD o.fixes)
 entries:DAt w Tt x5 o.entries.length (intD o.entries)
 wm:(Lit.int .i64 o.main).wf=true
theorem OvAt.later {w w':World} {o:Ob} {x1 x3 x4 x5:Option Addr} (h:OvAt w o x1 x3 x4 x5) (hb:Below w.heap.size w w'):OvAt w' o x1 x3 x4 x5:=
 ⟨h.wn,h.uses.later hb,h.wd,h.code.later hb,h.fixes.later hb,h.entries.later hb,h.wm⟩
def oMany (o:Ob):Bool:=decide (3<o.uses.length)||(decide (6<o.entries.length)||(decide (o.code.length<1)||decide (2048<o.code.length)))
def placeB (o:Ob) (x:Int):Bool:=decide (0<=x/\x<o.code.length)
theorem oName_any (s:ByteArray) (w:World) (hs:s.size<=maxLen) :
 Calls Tryz.prog 131 #[.string s] w fun e w'=>e = .returned (.bool (Lx.nameB s.data.toList))/\Below w.heap.size w w':=by
 have HK:Hid ((checkN [⟨1,0,s⟩] == 0)=Lx.nameB s.data.toList):=by rw [← okB_name];exact checkN_one ⟨1,0,s⟩ rfl
 have HC:Hid (∀ (w1:World) (n:Nat),n=w1.heap.size->Calls Tryz.prog 116 #[.slice (some ⟨n,0,none⟩) 1 1] (w1.alloc (.cells #[.int .i64 1,.int .i64 0,.string s] 184)) fun e w'=>e = .returned (.int .i64 (checkN [⟨1,0,s⟩]))/\Below w1.heap.size w1 w'):=
  fun w1 n hn=>by
   subst hn;refine (Check_any _ 1 [⟨1,0,s⟩] _ (tok_new ⟨1,0,s⟩ w1 hs) (by simp)).mono ?_;rintro e w' ⟨rfl,hb⟩;exact ⟨rfl,((Below.refl _ _).alloc (Nat.le_refl _) _).trans (hb.mono (by simp))⟩
 go_enter Tryz.func131,Tryz.ntmps131
 go_wp2_with (go_at_call 116;refine (HC.out _ _ (by simp)).mono ?_;rintro e w' ⟨rfl,hb⟩)
 go_ret;exact ⟨ret_bool HK.out,hb⟩
theorem oPlace_any (o:Ob) (s:ByteArray) (x1:Option Addr) (n1 y1:Nat) (d:Int) (x3:Option Addr) (y3:Nat) (x4:Option Addr) (n4 y4:Nat) (x5:Option Addr) (n5 y5:Nat) (m x:Int) (w:World) (hb:o.code.length<=17592186044416) :
 Calls Tryz.prog 132 #[.agg #[.string s,.slice x1 n1 y1,.int .i64 d,.slice x3 o.code.length y3,.slice x4 n4 y4,.slice x5 n5 y5,.int .i64 m],.int .i64 x] w fun e w'=>e = .returned (.bool (placeB o x))/\Below w.heap.size w w':=by
 by_cases t:0<=x
 . have HR:Hid (placeB o x=decide (x<o.code.length)):=by show _=_;unfold placeB;exact decide_eq_decide.2 ⟨fun h=>h.2,fun h=>⟨t,h⟩⟩
   go_enter Tryz.func132,Tryz.ntmps132;go_wp2_with fail;go_ret;exact ⟨ret_bool (by first | exact HR.out.symm | (rw [HR.out]<;>first | (simp;omega) | (simp [*];done))),al1 _ _⟩
 . have HR:Hid (placeB o x=false):=by show _=_;unfold placeB;exact decide_eq_false (fun h=>t h.1)
   have t':x<0:=by omega
   clear t;go_enter Tryz.func132,Tryz.ntmps132;go_wp2_with fail;go_ret;exact ⟨ret_bool (by first | exact HR.out.symm | (rw [HR.out]<;>first | (simp;omega) | (simp [*];done))),al1 _ _⟩
theorem oMany_any (o:Ob) (s:ByteArray) (x1:Option Addr) (y1:Nat) (d:Int) (x3:Option Addr) (y3:Nat) (x4:Option Addr) (n4 y4:Nat) (x5:Option Addr) (y5:Nat) (m:Int) (w:World) (h1:o.uses.length<=17592186044416) (h3:o.code.length<=17592186044416) (h5:o.entries.length<=17592186044416) :
 Calls Tryz.prog 81 #[.agg #[.string s,.slice x1 o.uses.length y1,.int .i64 d,.slice x3 o.code.length y3,.slice x4 n4 y4,.slice x5 o.entries.length y5,.int .i64 m]] w fun e w'=>e = .returned (.bool (oMany o))/\Below w.heap.size w w':=by
 have HR:Hid (oMany o=(decide (3<o.uses.length)||(decide (6<o.entries.length)||(decide (o.code.length<1)||decide (2048<o.code.length))))):=rfl
 by_cases t1:3<o.uses.length
 . have HT:Hid (oMany o=true):=by show _=_;rw [HR.out,decide_eq_true t1];rfl
   have t1':(3:Int)<o.uses.length:=by omega
   go_enter Tryz.func81,Tryz.ntmps81;go_wp2_with fail;go_ret;exact ⟨ret_bool (by first | exact HT.out.symm | (rw [HT.out]<;>first | (simp;omega) | (simp [*];done))),al1 _ _⟩
 by_cases t2:6<o.entries.length
 . have HT:Hid (oMany o=true):=by show _=_;rw [HR.out,decide_eq_true t2,decide_eq_false t1];rfl
   have t1':¬ (3:Int)<o.uses.length:=by omega
   have t2':(6:Int)<o.entries.length:=by omega
   go_enter Tryz.func81,Tryz.ntmps81;go_wp2_with fail;go_ret;exact ⟨ret_bool (by first | exact HT.out.symm | (rw [HT.out]<;>first | (simp;omega) | (simp [*];done))),al1 _ _⟩
 have t1':¬ (3:Int)<o.uses.length:=by omega
 have t2':¬ (6:Int)<o.entries.length:=by omega
 by_cases t3:o.code.length<1
 . have HT:Hid (oMany o=true):=by show _=_;rw [HR.out,decide_eq_true t3,decide_eq_false t1,decide_eq_false t2];rfl
   have t3':(o.code.length:Int)<1:=by omega
   clear t3;go_enter Tryz.func81,Tryz.ntmps81;go_wp2_with fail;go_ret;exact ⟨ret_bool (by first | exact HT.out.symm | (rw [HT.out]<;>first | (simp;omega) | (simp [*];done))),al1 _ _⟩
 . have HT:Hid (oMany o=decide (2048<o.code.length)):=by show _=_;rw [HR.out,decide_eq_false t3,decide_eq_false t1,decide_eq_false t2];rfl
   have t3':¬ (o.code.length:Int)<1:=by omega
   clear t3;go_enter Tryz.func81,Tryz.ntmps81;go_wp2_with fail;go_ret;exact ⟨ret_bool (by first | exact HT.out.symm | (rw [HT.out]<;>first | (simp;omega) | (simp [*];done))),al1 _ _⟩
end Go.Proofs.YtndkhgakfodldaaGreatDoor

namespace Go.Proofs.YtndkhgakfodldaaGreatDoor
set_option maxRecDepth 100000
open Go.RowKit Go.Maps Go.WideMaps
set_option linter.unusedSimpArgs false
set_option linter.unusedVariables false
structure GiAt (w:World) (b o:Nat) (x:Gi):Prop where
 lt:b<w.heap.size
 c0:w.cell? ⟨b,o,none⟩=some (.int .i64 x.op)
 c1:w.cell? ⟨b,o+1,none⟩=some (.int .i64 x.a)
 c2:w.cell? ⟨b,o+2,none⟩=some (.int .i64 x.b)
 w0:(Lit.int .i64 x.op).wf=true
 w1:(Lit.int .i64 x.a).wf=true
 w2:(Lit.int .i64 x.b).wf=true
theorem DAt.gi {w:World} {A:Nat->Prop} {a:Option Addr} {l:List Gi} (h:DAt w A a l.length (gisD l)) (i:Nat) (hi:i<l.length):∃ b off,a=some ⟨b,off,none⟩/\GiAt w b (off+i*3) l[i]:=by
 obtain ⟨b,off,ha,hb,hc⟩:=h.cell (by omega);generalize hx:l[i]=x;obtain ⟨op,a',b'⟩:=x
 have g:∀ j d,j<3->(Gi.mk op a' b').ds[j]? = some d->∃ v,w.cell? ⟨b,off+i*3+j,none⟩=some v/\DVal w A d v:=fun j d hj hd=>by
  rw [Nat.add_assoc];exact hc (i*3+j) d ((flat_get Gi.ds 3 (fun _=>rfl) l i hi j hj).trans (by rw [hx];exact hd))
 obtain ⟨v0,q0,d0⟩:=g 0 (.int op) (by omega) (by simp [Gi.ds]);obtain ⟨v1,q1,d1⟩:=g 1 (.int a') (by omega) (by simp [Gi.ds]);obtain ⟨v2,q2,d2⟩:=g 2 (.int b') (by omega) (by simp [Gi.ds]);obtain ⟨rfl,w0⟩:=dnum_of d0;obtain ⟨rfl,w1⟩:=dnum_of d1;obtain ⟨rfl,w2⟩:=dnum_of d2;exact ⟨b,off,ha,hb,q0,q1,q2,w0,w1,w2⟩
structure GfAt (w:World) (b o:Nat) (x:Gf):Prop where
 lt:b<w.heap.size
 c0:w.cell? ⟨b,o,none⟩=some (.int .i64 x.at_)
 c1:w.cell? ⟨b,o+1,none⟩=some (.int .i64 x.kind)
 c2:w.cell? ⟨b,o+2,none⟩=some (.int .i64 x.m)
 w0:(Lit.int .i64 x.at_).wf=true
 w1:(Lit.int .i64 x.kind).wf=true
 w2:(Lit.int .i64 x.m).wf=true
theorem DAt.gf {w:World} {A:Nat->Prop} {a:Option Addr} {l:List Gf} (h:DAt w A a l.length (gfsD l)) (i:Nat) (hi:i<l.length):∃ b off,a=some ⟨b,off,none⟩/\GfAt w b (off+i*3) l[i]:=by
 obtain ⟨b,off,ha,hb,hc⟩:=h.cell (by omega);generalize hx:l[i]=x;obtain ⟨op,a',b'⟩:=x
 have g:∀ j d,j<3->(Gf.mk op a' b').ds[j]? = some d->∃ v,w.cell? ⟨b,off+i*3+j,none⟩=some v/\DVal w A d v:=fun j d hj hd=>by
  rw [Nat.add_assoc];exact hc (i*3+j) d ((flat_get Gf.ds 3 (fun _=>rfl) l i hi j hj).trans (by rw [hx];exact hd))
 obtain ⟨v0,q0,d0⟩:=g 0 (.int op) (by omega) (by simp [Gf.ds]);obtain ⟨v1,q1,d1⟩:=g 1 (.int a') (by omega) (by simp [Gf.ds]);obtain ⟨v2,q2,d2⟩:=g 2 (.int b') (by omega) (by simp [Gf.ds]);obtain ⟨rfl,w0⟩:=dnum_of d0;obtain ⟨rfl,w1⟩:=dnum_of d1;obtain ⟨rfl,w2⟩:=dnum_of d2;exact ⟨b,off,ha,hb,q0,q1,q2,w0,w1,w2⟩
theorem DAt.num {w:World} {A:Nat->Prop} {a:Option Addr} {l:List Int} (h:DAt w A a l.length (intD l)) (i:Nat) (hi:i<l.length):∃ b off,a=some ⟨b,off,none⟩/\b<w.heap.size/\w.cell? ⟨b,off+i,none⟩=some (.int .i64 l[i])/\(Lit.int .i64 l[i]).wf=true:=by
 obtain ⟨b,off,ha,hb,hc⟩:=h.cell (by omega);obtain ⟨v0,q0,d0⟩:=hc i (.int l[i]) (by simp [intD,hi]);obtain ⟨rfl,w0⟩:=dnum_of d0;exact ⟨b,off,ha,hb,q0,w0⟩
def okF (a far m uses:Int):Bool:=decide (0<=a)&&(decide (a<=far)&&(decide (0<=m)&&decide (m<=uses)))
def aAt (o:Ob) (x:Int):Int:=match o.code[x.toNat]? with | some i=>i.a | none=>0
def fixB (o:Ob) (f:Gf):Bool:=
 if f.kind=1 then okF (aAt o f.at_) o.code.length f.m 0
 else if f.kind=2\/f.kind=3 then okF (aAt o f.at_) 2048 f.m o.uses.length
 else false
end Go.Proofs.YtndkhgakfodldaaGreatDoor

namespace Go.Proofs.YtndkhgakfodldaaGreatDoor
open Go.RowKit Go.Maps Go.WideMaps
def allTo (n:Nat) (q:Nat->Bool):Bool:=(List.range n).all q
theorem allTo_true {n:Nat} {q:Nat->Bool}:allTo n q=true↔∀ i,i<n->q i=true:=by simp [allTo]
theorem allTo_false {n:Nat} {q:Nat->Bool} {i:Nat} (h:i<n) (hq:q i=false):allTo n q=false:=by
 cases e:allTo n q with
 | false=>rfl
 | true=>rw [allTo_true.1 e i h] at hq;cases hq
theorem upto_succ {q:Nat->Bool} {j:Nat} (h:∀ k,k<j->q k=true) (hq:q j=true):∀ k,k<j+1->q k=true:=fun k hk=>by
 rcases Nat.lt_or_ge k j with h1 | h1
 . exact h k h1
 . obtain rfl:k=j:=by omega
   exact hq
theorem str_beq (a b:ByteArray):(a.toList == b.toList)=decide (a=b):=by
 rw [Bool.eq_iff_iff];simp only [beq_iff_eq,decide_eq_true_eq]
 constructor
 . intro h
   rw [Lib.toList_data,Lib.toList_data] at h;exact bytes_inj h
 . rintro rfl;rfl
def opB (i:Gi):Bool:=decide (1<=i.op/\i.op<=22)
def opAt (o:Ob) (j:Nat):Bool:=match o.code[j]? with | some i=>opB i | none=>true
def entAt (o:Ob) (j:Nat):Bool:=match o.entries[j]? with | some x=>placeB o x | none=>true
def dataB (o:Ob):Bool:=placeB o o.main&&decide (0<=o.data/\o.data<=512)
def codeB (o:Ob):Bool:=allTo o.code.length (opAt o)&&(allTo o.entries.length (entAt o)&&dataB o)
def useAt (o:Ob) (i:Nat):Bool:=match o.uses[i]? with | some x=>Lx.nameB x.data.toList&&(!decide (x=o.name) && !Go.Lib.containsS (o.uses.take i) x) | none=>true
def namesB (o:Ob):Bool:=Lx.nameB o.name.data.toList&&allTo o.uses.length (useAt o)
def lastAt (o:Ob):Nat->Int
 | 0=>-1
 | j+1=>match o.fixes[j]? with | some f=>f.at_ | none=>-1
def fixAt (o:Ob) (j:Nat):Bool:=match o.fixes[j]? with | some f=>decide (lastAt o j<f.at_)&&(placeB o f.at_&&fixB o f) | none=>true
def fixesB (o:Ob):Bool:=allTo o.fixes.length (fixAt o)
def oChk (o:Ob):Int:=if oMany o=true then 2 else if (namesB o&&(codeB o&&fixesB o))=true then 0 else 1
end Go.Proofs.YtndkhgakfodldaaGreatDoor

namespace Go.Proofs.YtndkhgakfodldaaGreatDoor
set_option linter.unusedSimpArgs false
set_option linter.unusedVariables false
def Home (B:List Nat) (s:Wrt):Prop:=(∀ b ∈ B,b<=s.code.length)/\∀ f ∈ s.fixes,f.kind=1->∃ (k:Nat) (i:Gi),s.code[k]? = some i/\f.at_=(k:Int)/\i.a<s.code.length/\∀ b ∈ B,(k<b->i.a<b)/\(b<=k->(b:Int)<=i.a)
theorem Home.mem {B B':List Nat} {s:Wrt} (h:Home B s) (hB:∀ b ∈ B',b ∈ B):Home B' s:=
 ⟨fun b hb=>h.1 b (hB b hb),fun f hf hk=>by
  obtain ⟨k,i,h1,h2,h3,h4⟩:=h.2 f hf hk
  exact ⟨k,i,h1,h2,h3,fun b hb=>h4 b (hB b hb)⟩⟩
theorem Home.more {B:List Nat} {s:Wrt} (h:Home B s):Home (s.code.length :: B) s:=by
 refine ⟨fun b hb=>?_,fun f hf hk=>?_⟩
 . rcases List.mem_cons.1 hb with rfl | hb
   . exact Nat.le_refl _
   . exact h.1 b hb
 . obtain ⟨k,i,h1,h2,h3,h4⟩:=h.2 f hf hk
   refine ⟨k,i,h1,h2,h3,fun b hb=>?_⟩
   rcases List.mem_cons.1 hb with rfl | hb
   . have:=lt_some h1
     exact ⟨fun _=>h3,fun h=>by omega⟩
   . exact h4 b hb
theorem Home.body {us:Int} {B:List Nat} {s t:Wrt} (h:Home B s) (ha:Adds us (fun _=>False) s t):Home B (putW 15 0 0 (putW 1 0 0 t)):=by
 obtain ⟨e,he,_,hf⟩:=ha.fx;have hl:=ha.le
 have len:(putW 15 0 0 (putW 1 0 0 t)).code.length=t.code.length+2:=by rw [putW_len,putW_len]
 have old:∀ k,k<t.code.length->(putW 15 0 0 (putW 1 0 0 t)).code[k]? = t.code[k]?:=fun k hk=>by
  simp only [putW];rw [List.getElem?_append_left (by simp;omega),List.getElem?_append_left hk]
 refine ⟨fun b hb=>by have:=h.1 b hb;rw [len];omega,fun f hfm hk=>?_⟩
 have hfm':f ∈ s.fixes++e:=by rw [← he];exact hfm
 rw [len]
 rcases List.mem_append.1 hfm' with h1 | h1
 . obtain ⟨k,i,h1,h2,h3,h4⟩:=h.2 f h1 hk
   have hks:=lt_some h1;exact ⟨k,i,(old k (by omega)).trans ((ha.pre k hks).trans h1),h2,by omega,h4⟩
 . obtain ⟨k,i,h1,h2,h3,h4⟩:=hf f h1
   refine ⟨k,i,(old k (lt_some h1)).trans h1,h2,?_,fun b hb=>?_⟩
   all_goals rcases h4 with ⟨_,_,h5 | h5⟩ | ⟨h5,_⟩
   . exact h5.elim
   . omega
   . omega
   . exact h5.elim
   . have:=h.1 b hb
     exact ⟨fun _=>by omega,fun _=>by omega⟩
   . omega
theorem ck_sane {u:Un} (h:headB u=true) (lc:Int) (hl:lc<=64):Sane (ckOf u numS prtS lc):=by
 have h6:=headB_six h;have hd:=headB_data h;refine ⟨fun m at_ n hn h=>?_,fun m at_ k h=>?_,hl⟩
 . unfold numB at h
   split at h
   . rename_i e
     have h:0<=at_/\at_+n<=u.data:=of_decide_eq_true h;subst e;exact ⟨by omega,by omega,by simp only [ckOf];omega⟩
   . rw [Bool.and_eq_true] at h
     obtain ⟨h1,h2⟩:=h;have h1:1<=m/\m<=u.uses.length:=of_decide_eq_true h1;have h2:numS m at_ n=true:=h2;simp only [numS,Bool.or_eq_true,lieB,decide_eq_true_eq] at h2;exact ⟨by omega,by omega,by simp only [ckOf];omega⟩
 . unfold prtB at h
   split at h
   . rename_i e
     have h:hasP u.parts at_ k=true:=h;unfold hasP at h;rw [Bool.and_eq_true,decide_eq_true_eq] at h;obtain ⟨h1,h2⟩:=h
     cases hq:u.parts[at_.toNat]? with
     | none=>rw [hq] at h2;cases h2
     | some p=>
       have:=lt_some hq;subst e;exact ⟨by omega,by omega,by simp only [ckOf];omega⟩
   . rw [Bool.and_eq_true] at h
     obtain ⟨h1,h2⟩:=h;have h1:1<=m/\m<=u.uses.length:=of_decide_eq_true h1;have h2:prtS m at_ k=true:=h2;simp only [prtS,Bool.and_eq_true,decide_eq_true_eq] at h2;exact ⟨by omega,by omega,by simp only [ckOf];omega⟩
def startsTo (l:List Pt) (j:Nat):List Nat:=(List.range j).map (fun i=>(partsW (l.take i)).code.length)
theorem parts_grow {u:Un} (h:holdB u numS prtS=true):∀ j,j<=u.parts.length->Adds u.uses.length (fun _=>False) wr0 (partsW (u.parts.take j))/\Home (startsTo u.parts j) (partsW (u.parts.take j))
 | 0,_=>⟨Adds.refl _,fun b hb=>by simp [startsTo] at hb,fun f hf=>by cases hf⟩
 | j + 1,hj=>by
   obtain ⟨h1,h2⟩:=parts_grow h j (by omega);obtain ⟨hp,_,hh⟩:=holdB_parts h
   have hpt:ptB u.parts[j]=true:=by
    unfold headB at hh;simp only [Bool.and_eq_true,List.all_eq_true] at hh;exact hh.2.1 _ (List.getElem_mem (by omega))
   have hlc:u.parts[j].params+u.parts[j].locals<=64:=by
    have:=hpt;unfold ptB at this;simp only [Bool.and_eq_true,decide_eq_true_eq] at this;omega
   obtain ⟨t,ha,_,hb⟩:=good_body (ck_sane hh _ hlc) u.parts[j] (hp _ (List.getElem_mem (by omega))) hpt (partsW (u.parts.take j));rw [partsW_take _ _ (by omega),hb];refine ⟨((h1.then ha).put 1 0 0 (by decide)).put 15 0 0 (by decide),(h2.more.body ha).mem (fun b hb=>?_)⟩;unfold startsTo at hb;rw [List.range_succ,List.map_append,List.mem_append] at hb
   rcases hb with hb | hb
   . exact List.mem_cons_of_mem _ hb
   . simp only [List.map_cons,List.map_nil,List.mem_singleton] at hb
     subst hb;exact List.mem_cons_self ..
theorem gen_grow {u:Un} (h:holdB u numS prtS=true):Adds u.uses.length (fun _=>False) wr0 (genS u)/\Home ((partsW u.parts).code.length :: startsTo u.parts u.parts.length) (genS u)/\(partsW u.parts).code.length<(genS u).code.length/\∀ b ∈ startsTo u.parts u.parts.length,b<=(partsW u.parts).code.length:=by
 obtain ⟨h1,h2⟩:=parts_grow h _ (Nat.le_refl _);rw [List.take_length] at h1 h2;obtain ⟨_,hm,hh⟩:=holdB_parts h;obtain ⟨t,ha,hl,hb⟩:=good_body (ck_sane hh 0 (by decide)) ⟨0,0,u.main⟩ hm rfl (partsW u.parts);unfold genS;rw [hb];refine ⟨((h1.then ha).put 1 0 0 (by decide)).put 15 0 0 (by decide),h2.more.body ha,?_,h2.1⟩;rw [putW_len,putW_len];omega
theorem ents_starts (l:List Pt):entsW l=(startsTo l l.length).map (fun n:Nat=>(n:Int)):=by
 unfold entsW startsTo;rw [List.map_map]
 rfl
end Go.Proofs.YtndkhgakfodldaaGreatDoor

namespace Go.Proofs.YtndkhgakfodldaaGreatDoor
set_option maxRecDepth 100000
set_option maxHeartbeats 3200000
open Go.RowKit Go.Maps Go.WideMaps
set_option linter.unusedSimpArgs false
set_option linter.unusedVariables false
theorem codeB_eq (o:Ob):codeB o=(allTo o.code.length (opAt o)&&(allTo o.entries.length (entAt o)&&dataB o)):=rfl
theorem codeHolds_any (o:Ob) (x1:Option Addr) (y1:Nat) (x3:Option Addr) (y3:Nat) (x4:Option Addr) (y4:Nat) (x5:Option Addr) (y5:Nat) (w:World) (hO:OvAt w o x1 x3 x4 x5) :
 Calls Tryz.prog 83 #[.agg #[.string o.name,.slice x1 o.uses.length y1,.int .i64 o.data,.slice x3 o.code.length y3,.slice x4 o.fixes.length y4,.slice x5 o.entries.length y5,.int .i64 o.main]] w fun e w'=>e = .returned (.bool (codeB o))/\Below w.heap.size w w':=by
 have hb3:=hO.code.bound;have hb5:=hO.entries.bound;have HO:=hid hO;have HP:=hid (fun (x:Int) (W:World)=>oPlace_any o o.name x1 o.uses.length y1 o.data x3 y3 x4 o.fixes.length y4 x5 o.entries.length y5 o.main x W hb3);clear hO;go_enter Tryz.func83,Tryz.ntmps83;go_wp2_with fail
 go_loopw [10] (fun i wr=>∃ j:Nat,j<=o.code.length/\i = .int .i64 j/\(∀ k,k<j->opAt o k=true)/\Below w.heap.size w wr/\wr.heap[w.heap.size]? = some (.cells #[.string o.name,.slice x1 o.uses.length y1,.int .i64 o.data,.slice x3 o.code.length y3,.slice x4 o.fixes.length y4,.slice x5 o.entries.length y5,.int .i64 o.main] 62)) (fun i _=>o.code.length - (intOf i).toNat)
 case atStart=>exact ⟨0,Nat.zero_le _,rfl,fun k hk=>absurd hk (Nat.not_lt_zero k),al1 _ _,heap_newP w (.cells #[.string o.name,.slice x1 o.uses.length y1,.int .i64 o.data,.slice x3 o.code.length y3,.slice x4 o.fixes.length y4,.slice x5 o.entries.length y5,.int .i64 o.main] 62)⟩
 case round=>
  obtain ⟨j,hj,rfl,hall,hb,hB⟩:=hrel;obtain ⟨q0,q1,q2,q3,q4,q5,q6,_⟩:=cells7 hB;have qz:=lt_of_heap hB;have HB:=hid hb;have HX:=hid hB;have HL:=hid hall;clear hall hB hb
  by_cases hlt:j<o.code.length
  . obtain ⟨b,off,rfl,hx⟩:=(HO.out.later HB.out).code.gi j hlt
    have HE:Hid (opAt o j=opB o.code[j]):=by show _=_;unfold opAt;rw [List.getElem?_eq_getElem hlt]
    have HF:=hid (fun (h:opB o.code[j]=false)=>(by rw [codeB_eq,allTo_false hlt (HE.out.trans h)];rfl:codeB o=false));have HT:=hid (fun (h:opB o.code[j]=true)=>upto_succ HL.out (HE.out.trans h));obtain ⟨hbl,p0,p1,p2,_,_,_⟩:=hx;generalize o.code[j]=p at *
    by_cases t1:p.op<1
    . have HF':=hid (HF.out (by unfold opB;exact decide_eq_false (by omega)))
      go_wp2_with fail;go_ret;exact ⟨ret_bool (by first | exact HF'.out.symm | (rw [HF'.out]<;>first | (simp;omega) | (simp [*];done))),thenB HB.out (al1 _ _)⟩
    by_cases t2:22<p.op
    . have HF':=hid (HF.out (by unfold opB;exact decide_eq_false (by omega)))
      have t1':1<=p.op:=by omega
      clear t1;go_wp2_with fail;go_ret;exact ⟨ret_bool (by first | exact HF'.out.symm | (rw [HF'.out]<;>first | (simp;omega) | (simp [*];done))),thenB HB.out (al1 _ _)⟩
    have HT':=hid (HT.out (by unfold opB;exact decide_eq_true (by omega)))
    have t1':1<=p.op:=by omega
    have t2':p.op<=22:=by omega
    clear t1 t2;go_wp2_with fail;go_roundw
    case rel=>exact ⟨j+1,by omega,by go_num,HT'.out,thenB HB.out (al1 _ _),heap_old HX.out⟩
    case measure=>simp [intOf];omega
  . obtain rfl:j=o.code.length:=by omega
    have HC:Hid (codeB o=(allTo o.entries.length (entAt o)&&dataB o)):=by show _=_;rw [codeB_eq,allTo_true.2 HL.out];rfl
    go_wp2_with fail
    go_loopw [26] (fun i wr=>∃ j:Nat,j<=o.entries.length/\i = .int .i64 j/\(∀ k,k<j->entAt o k=true)/\Below w.heap.size w wr/\wr.heap[w.heap.size]? = some (.cells #[.string o.name,.slice x1 o.uses.length y1,.int .i64 o.data,.slice x3 o.code.length y3,.slice x4 o.fixes.length y4,.slice x5 o.entries.length y5,.int .i64 o.main] 62)) (fun i _=>o.entries.length - (intOf i).toNat)
    case atStart=>exact ⟨0,Nat.zero_le _,rfl,fun k hk=>absurd hk (Nat.not_lt_zero k),HB.out,HX.out⟩
    case round=>
     clear q0 q1 q2 q3 q4 q5 q6 qz;obtain ⟨j,hj,rfl,hall,hb,hB⟩:=hrel;obtain ⟨q0,q1,q2,q3,q4,q5,q6,_⟩:=cells7 hB;have qz:=lt_of_heap hB;have HB:=hid hb;have HX:=hid hB;have HL:=hid hall;clear hall hB hb
     by_cases hlt:j<o.entries.length
     . obtain ⟨b,off,rfl,hbl,p0,_⟩:=(HO.out.later HB.out).entries.num j hlt
       have HE:Hid (entAt o j=placeB o o.entries[j]):=by show _=_;unfold entAt;rw [List.getElem?_eq_getElem hlt]
       have HF:=hid (fun (h:placeB o o.entries[j]=false)=>(by rw [HC.out,allTo_false hlt (HE.out.trans h)];rfl:codeB o=false));have HT:=hid (fun (h:placeB o o.entries[j]=true)=>upto_succ HL.out (HE.out.trans h));generalize o.entries[j]=p at *;go_wp2_with fail;refine (HP.out p _).mono ?_;rintro e w1 ⟨rfl,hb1⟩;have HB1:=hid (thenB HB.out hb1);have HX1:=hid ((hb1.block _ qz).trans HX.out);clear q0 q1 q2 q3 q4 q5 q6 qz hb1
       cases hp:placeB o p with
       | false=>
         have HF':=hid (HF.out hp);go_wp2_with fail;go_ret;exact ⟨ret_bool (by first | exact HF'.out.symm | (rw [HF'.out]<;>first | (simp;omega) | (simp [*];done))),HB1.out⟩
       | true=>
         have HT':=hid (HT.out hp);go_wp2_with fail;go_roundw
         case rel=>exact ⟨j+1,by omega,by go_num,HT'.out,HB1.out,HX1.out⟩
         case measure=>simp [intOf];omega
     . obtain rfl:j=o.entries.length:=by omega
       have HD:Hid (codeB o=(placeB o o.main&&decide (0<=o.data/\o.data<=512))):=by show _=_;rw [HC.out,allTo_true.2 HL.out];rfl
       go_wp2_with fail;refine (HP.out o.main _).mono ?_;rintro e w1 ⟨rfl,hb1⟩;have HB1:=hid (thenB HB.out hb1);have HX1:=hid ((hb1.block _ qz).trans HX.out);clear q0 q1 q2 q3 q4 q5 q6 qz hb1;obtain ⟨q0,q1,q2,q3,q4,q5,q6,_⟩:=cells7 HX1.out;have qz:=lt_of_heap HX1.out
       cases hp:placeB o o.main with
       | false=>
         have HR:Hid (codeB o=false):=by show _=_;rw [HD.out,hp];rfl
         go_wp2_with fail;go_ret;exact ⟨ret_bool (by first | exact HR.out.symm | (rw [HR.out]<;>first | (simp;omega) | (simp [*];done))),HB1.out⟩
       | true=>
         by_cases t1:0<=o.data
         . have HR:Hid (codeB o=decide (o.data<=512)):=by show _=_;rw [HD.out,hp,Bool.true_and];exact decide_eq_decide.2 ⟨fun h=>h.2,fun h=>⟨t1,h⟩⟩
           go_wp2_with fail;go_ret;exact ⟨ret_bool (by first | exact HR.out.symm | (rw [HR.out]<;>first | (simp;omega) | (simp [*];done))),HB1.out⟩
         . have HR:Hid (codeB o=false):=by show _=_;rw [HD.out,hp,Bool.true_and];exact decide_eq_false (fun h=>t1 h.1)
           have t1':o.data<0:=by omega
           clear t1;go_wp2_with fail;go_ret;exact ⟨ret_bool (by first | exact HR.out.symm | (rw [HR.out]<;>first | (simp;omega) | (simp [*];done))),HB1.out⟩
end Go.Proofs.YtndkhgakfodldaaGreatDoor
