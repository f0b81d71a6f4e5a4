import Derived.Deep.RegionHeld
import Derived.Test.YtndkhgakfodldaaGreatDoorCe
namespace Go.Proofs.YtndkhgakfodldaaGreatDoor
set_option maxRecDepth 100000
set_option maxHeartbeats 800000
open Go.RowKit Go.Maps
theorem sx {α:Type}:(∀ (l:List α) (i:Nat) (x:α),l.toArray.setIfInBounds i x=(l.set i x).toArray)/\(∀ (l:List α) (x y:α),(x :: l).set 0 y=y :: l)/\(∀ (l:List α) (x y:α) (n:Nat),(x :: l).set (n+1) y=x :: l.set n y):=
 ⟨fun _ _ _=>vab ..,fun _ _ _=>rfl,fun _ _ _ _=>rfl⟩
theorem tk {P:Program} {ops:Array Oper} {Q:Exit->Act->World->Prop} {md:Region.Mode} {S:World->Prop} {i:Nat} {oi:Oper} {v:Value} {fuel:Nat} {listed:Array Bool} {a:Act} {w:World} (hi:ops[i]? = some oi)
 (hb:(Region.noSelect ops&&(Region.free md ops listed i&&(Region.ready md ops listed).contains i))=true)
 (hQ:∀ c a w,Q (.panic c) (a.put oi.dst v) w->Q (.panic c) a w) (hy:YieldsIf P ops S oi v a) (hS:S w)
 (h:wpAnyH P md ops Q S fuel (listed.setIfInBounds i true) (a.put oi.dst v) w):wpAnyH P md ops Q S (fuel+1) listed a w:=by
 simp only [van] at hb;exact wpAnyH_take hi hb.1 hb.2.1 hb.2.2 hQ hy hS h
theorem tqr {P:Program} {ops:Array Oper} {Q:Exit->Act->World->Prop} {md:Region.Mode} {S:World->Prop} {o1:Op} {o2:TypeId} {o3:String} {o4:Array Edge} {o5:Option (Nat × Bool)} {v:Value} {fuel:Nat} {listed:Array Bool} {a:Act} {w:World} (i d:Nat) (hS:S w) (h:wpAnyH P md ops Q S fuel (listed.setIfInBounds i true) (a.put (some d) v) w) (hi:ops[i]? = some (Oper.mk (some d) o1 o2 o3 o4 o5):=by exact rfl)
 (hg:Region.wanted (Oper.mk (some d) o1 o2 o3 o4 o5) (yielded ops a.tmps)=true:=by rfl) (hy:∀ w,S w->(execOp a.eval (Oper.mk (some d) o1 o2 o3 o4 o5)).run P w = .ok (.value v) w:=by (intro w hSw;(try dsimp only at hSw);go_simp;(try with_reducible rfl)))
 (hb:(Region.noSelect ops&&(Region.free md ops listed i&&(Region.ready md ops listed).contains i))=true:=by kernel_rfl)
 (hQ:∀ c a w,Q (.panic c) (a.put (some d) v) w->Q (.panic c) a w:=by exact fun _ _ _ h=>h):wpAnyH P md ops Q S (fuel+1) listed a w:=by
 simp only [Bool.and_eq_true] at hb
 exact wpAnyH_take hi hb.1 hb.2.1 hb.2.2 hQ (Or.inl ⟨hg,hy⟩) hS h
theorem zp0 (w:World) (t:TypeId) (n:Nat) (hn:n=w.heap.size):∀ j (h:j<kept.length),(w.alloc (.cells (kept.map (fun s=>Value.string (strOf s))).toArray t)).cell? ⟨n,j,none⟩=some (.string (strOf kept[j])):=by
 subst hn;intro j hj;exact (Blk.new w _ t).cell j _ (by simp [hj])
theorem zvr (w:World) :
 Calls Tryz.prog 190 #[] w fun e w'=>∃ b,e = .returned (.slice (some ⟨b,0,none⟩) 15 15)/\b<w'.heap.size/\(∀ j (h:j<kept.length),w'.cell? ⟨b,j,none⟩=some (.string (strOf kept[j])))/\Below w.heap.size w w':=by
 have HW:=hid (zp0 w 9 w.heap.size rfl);go_enter Tryz.func190,Tryz.ntmps190;go_wp2_with fail;go_ret;exact ⟨_,rfl,by simp,HW.out,al1 _ _⟩
theorem zz9 (s t:ByteArray):(s.toList == t.toList)=(t.data.toList == s.data.toList):=by
 rw [vas,vas,vbt];simp only [beq_iff_eq];exact ⟨Eq.symm,Eq.symm⟩
theorem zci (s:ByteArray) (w:World) (hs:s.size<=maxLen) :
 Calls Tryz.prog 155 #[.string s] w fun e w'=>e = .returned (.bool (nameOk s))/\Below w.heap.size w w':=by
 have hkl:kept.length=15:=rfl;go_enter Tryz.func155,Tryz.ntmps155;go_wp2_with fail;refine (zvr _).mono ?_;rintro e w1 ⟨b,rfl,hbl,hc,hb1⟩;have HC:=hid hc;clear hc;go_wp2_with fail
 go_loopw [4] (fun i wr=>∃ k:Nat,k<=15/\i = .int .i64 k/\(kept.take k).contains s.data.toList=false/\wr=w1) (fun i _=>15 - (intOf i).toNat)
 case atStart=>exact ⟨0,by omega,rfl,rfl,rfl⟩
 case round=>
  obtain ⟨k,hk,rfl,hn,hwr⟩:=hrel;obtain rfl:=hwr.symm;have HN:=hid hn;clear hn
  by_cases hlt:k<15
  . have hc:=HC.out k (by omega)
    have HS:Hid ((kept.take (k+1)).contains s.data.toList=((kept.take k).contains s.data.toList||(s.data.toList == kept[k]'(by omega)))):=by
     show _=_
     rw [vag (by omega),List.contains_append];simp only [List.contains_cons,List.contains_nil,Bool.or_false]
    have HE:Hid (((strOf (kept[k]'(by omega))).toList == s.toList)=(s.data.toList == kept[k]'(by omega))):=by
     show _=_;rw [zz9,zsd]
    cases he:((strOf (kept[k]'(by omega))).toList == s.toList) with
    | true=>
      have HT:Hid (nameOk s=false):=by
       have h1:=HE.out;rw [he] at h1
       have h2:s.data.toList=kept[k]'(by omega):=by simpa using h1.symm
       show _=_
       have h3:zj5 s=true:=by
        unfold zj5
        rw [h2];simp
       simp [nameOk,h3]
      generalize strOf (kept[k]'(by omega))=sk at *;go_wp2_with fail;go_ret;exact ⟨zab HT.out.symm,hb1⟩
    | false=>
      have HT:Hid ((kept.take (k+1)).contains s.data.toList=false):=by
       show _=_
       rw [HS.out,HN.out,← HE.out,he];rfl
      clear HS HE;generalize strOf (kept[k]'(by omega))=sk at *;go_wp2_with fail;go_roundw
      case rel=>exact ⟨k+1,by omega,by go_num,HT.out,by first | rfl | trivial⟩
      case measure=>simp [intOf];omega
  . have HT:Hid (nameOk s=Lx.zcq s.data.toList):=by
     have h1:=HN.out;rw [vaq (by omega)] at h1;show _=_;have h3:zj5 s=false:=h1;simp [nameOk,h3]
    go_wp2_with fail;refine (zh4 s _ hs).mono ?_;rintro e w2 ⟨rfl,rfl⟩;go_wp2_with fail;go_ret;exact ⟨zab HT.out.symm,hb1⟩
def zc7 (mod name:ByteArray):Bool:=(mod.toList.isEmpty||nameOk mod)&&nameOk name
theorem zp1 (mod name:ByteArray) (w:World) (h1:mod.size<=maxLen) (h2:name.size<=maxLen) :
 Calls Tryz.prog 245 #[.string mod,.string name] w fun e w'=>e = .returned (.bool (zc7 mod name))/\Below w.heap.size w w':=by
 cases hm:mod.toList.isEmpty with
 | true=>
   have HR:Hid (zc7 mod name=nameOk name):=by show _=_;simp [zc7,hm]
   go_enter Tryz.func245,Tryz.ntmps245;go_wp2_with fail;refine (zci name _ h2).mono ?_;rintro e w1 ⟨rfl,hb1⟩;go_wp2_with fail;go_ret;exact ⟨zab HR.out.symm,hb1⟩
 | false=>
   cases hn:nameOk mod with
   | false=>
     have HR:Hid (zc7 mod name=false):=by show _=_;simp [zc7,hm,hn]
     go_enter Tryz.func245,Tryz.ntmps245;go_wp2_with fail;refine (zci mod _ h1).mono ?_;rw [hn];rintro e w1 ⟨rfl,hb1⟩;go_wp2_with fail;go_ret;exact ⟨zab HR.out.symm,hb1⟩
   | true=>
     have HR:Hid (zc7 mod name=nameOk name):=by show _=_;simp [zc7,hn]
     go_enter Tryz.func245,Tryz.ntmps245;go_wp2_with fail;refine (zci mod _ h1).mono ?_;rw [hn];rintro e w1 ⟨rfl,hb1⟩;go_wp2_with fail;refine (zci name _ h2).mono ?_;rintro e w2 ⟨rfl,hb2⟩;go_wp2_with fail;go_ret;exact ⟨zab HR.out.symm,thenB hb1 hb2⟩
def inB (n lo hi:Int):Bool:=decide (lo<=n)&&decide (n<=hi)
theorem zp2 (op:Int) (w:World):Calls Tryz.prog 259 #[.int .i64 op] w fun e w'=>e = .returned (.bool (inB op 3 5))/\w'=w:=by
 go_enter Tryz.func259,Tryz.ntmps259
 go_wp2_with (go_at_call 63;refine (zaw op 3 5 _).mono ?_;rintro e w' ⟨rfl,rfl⟩)
 go_ret;exact ⟨rfl,rfl⟩
theorem zp3 (op:Int) (w:World):Calls Tryz.prog 163 #[.int .i64 op] w fun e w'=>e = .returned (.bool (inB op 1 3))/\w'=w:=by
 go_enter Tryz.func163,Tryz.ntmps163
 go_wp2_with (go_at_call 63;refine (zaw op 1 3 _).mono ?_;rintro e w' ⟨rfl,rfl⟩)
 go_ret;exact ⟨rfl,rfl⟩
def exN (op:Int):Int:=if op=1\/op=2\/op=3 then 0 else if op=4\/op=6 then 1 else if op=5 then -1 else 2
def stN (op:Int):Int:=if op=2 then 2 else if op=3 then -1 else 1
theorem zoc (op:Int) (w:World):Calls Tryz.prog 246 #[.int .i64 op] w fun e w'=>e = .returned (.int .i64 (stN op))/\w'=w:=by
 by_cases h2:op=2
 . subst h2
   go_enter Tryz.func246,Tryz.ntmps246;go_wp2_with fail;go_ret;exact ⟨rfl,rfl⟩
 . have b2:(op == 2)=false:=beq_eq_false_iff_ne.2 h2
   by_cases h3:op=3
   . subst h3
     go_enter Tryz.func246,Tryz.ntmps246;go_wp2_with fail;go_ret;exact ⟨rfl,rfl⟩
   . have b3:(op == 3)=false:=beq_eq_false_iff_ne.2 h3
     have HR:Hid (stN op=1):=by show _=_;simp [stN,h2,h3]
     go_enter Tryz.func246,Tryz.ntmps246;go_wp2_with fail;go_ret;exact ⟨zaq HR.out.symm,rfl⟩
theorem zod (op:Int) (w:World):Calls Tryz.prog 281 #[.int .i64 op] w fun e w'=>e = .returned (.int .i64 (exN op))/\w'=w:=by
 by_cases h:op=1\/op=2\/op=3\/op=4\/op=5\/op=6
 . rcases h with rfl | rfl | rfl | rfl | rfl | rfl
   all_goals go_enter Tryz.func281,Tryz.ntmps281
   all_goals go_wp2_with fail
   all_goals go_ret
   all_goals exact ⟨rfl,rfl⟩
 . have b1:(op == 1)=false:=beq_eq_false_iff_ne.2 (by omega)
   have b2:(op == 2)=false:=beq_eq_false_iff_ne.2 (by omega);have b3:(op == 3)=false:=beq_eq_false_iff_ne.2 (by omega);have b4:(op == 4)=false:=beq_eq_false_iff_ne.2 (by omega);have b5:(op == 5)=false:=beq_eq_false_iff_ne.2 (by omega);have b6:(op == 6)=false:=beq_eq_false_iff_ne.2 (by omega)
   have HR:Hid (exN op=2):=by
    show _=_;unfold exN;rw [if_neg (by omega),if_neg (by omega),if_neg (by omega)]
   clear h;go_enter Tryz.func281,Tryz.ntmps281;go_wp2_with fail;go_ret;exact ⟨zaq HR.out.symm,rfl⟩
end Go.Proofs.YtndkhgakfodldaaGreatDoor
