/-
  The program's look at a face: the items' names, whether two are one, Check.
-/
import Derived.Test.YtndkhgakfodldaaGreatDoorXa
import Derived.Maps.OwnSet
import Derived.Maps.AppendAt
import Derived.Deep.AppendLies
import Derived.Lib.AppendStr
import Derived.Laws.IdiomStrings
import Derived.Laws.BitsAllLaws
namespace Go.Proofs.YtndkhgakfodldaaGreatDoor
set_option maxRecDepth 100000
set_option maxHeartbeats 800000
namespace Fx
open Go.RowKit Go.Shelf Go.Maps
theorem info9:(Tryz.prog.info? 9).map (fun i=>(i.zero,i.size,i.bytes))=some (some (.string ⟨#[]⟩),1,16):=by kernel_rfl
def strs (l:List It):List Value:=l.map (fun i=>.string i.name)
theorem strs_snoc (l:List It) (i:It):strs l++[.string i.name]=strs (l++[i]):=by simp [strs]
theorem len_snoc {α:Type} (l:List α) (n:α):(l++[n]).length=l.length+1:=by simp
theorem take_succ {α:Type} (l:List α) (k:Nat) (h:k<l.length):l.take (k+1)=l.take k++[l[k]]:=List.take_succ_eq_append_getElem h
theorem take_all {α:Type} (l:List α):l.take l.length=l:=List.take_of_length_le (Nat.le_refl _)
theorem ownsRow_later {W W':World} {B:Nat} {e:TypeId} {size:Nat} {v:Value} {n:Nat} {xs:List Value} (h:W.ownsRow B e size v n xs) (hb:Below W.heap.size W W'):W'.ownsRow B e size v n xs:=by
 refine ⟨h.1,?_⟩
 rcases h.2 with h1 | ⟨g,cap,cur,hv,hB,hg,hr⟩
 . exact Or.inl h1
 . have hlt:g<W.heap.size:=by
    rcases Nat.lt_or_ge g W.heap.size with h' | h'
    . exact h'
    . simp [Array.getElem?_eq_none h'] at hg
   exact Or.inr ⟨g,cap,cur,hv,hB,(hb.block g hlt).trans hg,hr⟩
theorem cell_one_at {w:World} {x:Value} {t:TypeId} {n:Nat} (hn:n=w.heap.size):∀ j u,[x][j]? = some u->(w.alloc (.cells #[x] t)).cell? ((⟨n,0,none⟩:Addr).add j)=some u:=by
 subst hn;exact cell_one_new _ _ _
theorem itemNames_any (a:Option Addr) (cap:Nat) (l:List It) (w:World) (hT:ItemsAt w a l) (hl:l.length<=1000000) :
 Calls Tryz.prog 60 #[.slice a l.length cap] w fun e w'=>∃ v,e = .returned v/\w'.ownsRow w.heap.size 9 1 v l.length (strs l)/\Below w.heap.size w w':=by
 obtain ⟨i0,hi,hz0,hz1,hz2⟩:=info_parts info9;have HT:=hid hT;clear hT;go_enter Tryz.func60,Tryz.ntmps60;go_wp2_with fail
 go_loopw [3,5,8] (fun v _ i wr=>∃ k:Nat,k<=l.length/\i = .int .i64 k/\wr.ownsRow w.heap.size 9 1 v k (strs (l.take k))/\Below w.heap.size w wr) (fun _ _ i _=>l.length - (intOf i).toNat)
 case atStart=>exact ⟨0,Nat.zero_le _,rfl,World.ownsRow_nil _ _ _ _,Below.refl _ _⟩
 case round=>
  obtain ⟨k,hk,rfl,hown,hb⟩:=hrel;have HO:=hid hown;have HB:=hid hb
  by_cases hlt:k<l.length
  . obtain ⟨b,off,rfl,hbl,c0,c1,c2,c3⟩:=(HT.out.later hb).place hlt
    have HS:Hid (strs (l.take k)++[.string l[k].name]=strs (l.take (k+1))):=by rw [take_succ l k hlt];exact strs_snoc _ _
    clear hown hb
    go_wp2_with (at_builtin;refine wpList_append_lies _ rfl _ _ _ rfl w.heap.size 9 i0 _ 1 16 Tryz.underlying22 hi hz0 hz1 hz2 rfl (by omega) _ k (strs (l.take k)) rfl (ownsRow_later HO.out (((Below.refl _ _).alloc (Nat.le_refl _) _).alloc (by simp) _)) ⟨_,0,none⟩ 1 1 [.string l[k].name] rfl rfl (cell_one_at (by simp)) (by simp;rfl) (by omega) (by unfold maxLen;omega) (by omega) (by have:=HB.out.size;simp;omega) _ rfl ?_;intro q2 cap2 w1 hown1 hg hat hlt2;have HO1:=hid hown1;have HG:=hid hg;clear hown1 hg hat)
    go_roundw
    case rel=>exact ⟨k+1,by omega,by go_num,by rw [← HS.out];exact HO1.out,((HB.out.alloc HB.out.size _).alloc (by have:=HB.out.size;simp;omega) _).grown HG.out (by have:=HB.out.size;simp;omega) (fun j hj=>(HO.out.lt j hj).1)⟩
    case measure=>simp [intOf];omega
  . obtain rfl:k=l.length:=by omega
    clear hown hb;go_wp2_with fail;go_ret;exact ⟨_,rfl,by have:=HO.out;rw [take_all] at this;exact this,HB.out⟩
end Fx
end Go.Proofs.YtndkhgakfodldaaGreatDoor

namespace Go.Proofs.YtndkhgakfodldaaGreatDoor
set_option maxRecDepth 100000
set_option maxHeartbeats 1600000
namespace Fx
open Go.RowKit Go.Shelf Go.WideMaps Go.Maps
theorem law:Keyed Tryz.prog 9:=string_keyed Tryz.underlying9
theorem zero3 (w:World):(zeroValue 3).run Tryz.prog w = .ok (.int .i64 0) w:=by kernel_rfl
structure MapInv (D:DataW Unit) (l:List (List UInt8)):Prop where
 has:∀ s,Maps.has D (.string s)=decide (s ∈ l)
 size:Maps.size D=(uniqs l).length
theorem mapInv_nil:MapInv (.map []) []:=⟨fun s=>by simp [Maps.has],rfl⟩
theorem MapInv.put {D:DataW Unit} {l:List (List UInt8)} (h:MapInv D l) (ht:Tidy D) (hm:IsMap D) (s:List UInt8) (d:DataW Unit):MapInv (D.put (.string s) d) (l++[s]):=by
 constructor
 . intro x
   by_cases e:x=s
   . subst e
     rw [has_put_same hm (by simp [WideAt.IsKeyLit])];simp
   . rw [has_put_other (by simpa using e),h.has]
     exact decide_eq_decide.2 (by simp [e])
 . rw [size_put ht,h.has,uniqs_snoc,h.size]
   by_cases e:s ∈ l
   . rw [decide_eq_true e,if_pos rfl,if_pos ((mem_uniqs s l).2 e)]
   . rw [decide_eq_false e,if_neg (by simp),if_neg (fun k=>e ((mem_uniqs s l).1 k))]
     simp
def StrsAt (w:World) (a:Option Addr) (l:List ByteArray):Prop:=l=[]\/∃ b off,a=some ⟨b,off,none⟩/\b<w.heap.size/\∀ i (h:i<l.length),w.cell? ⟨b,off+i,none⟩=some (.string l[i])
theorem StrsAt.later {w w':World} {a:Option Addr} {l:List ByteArray} (h:StrsAt w a l) (hb:Below w.heap.size w w'):StrsAt w' a l:=by
 rcases h with h | ⟨b,off,e,hl,h⟩
 . exact Or.inl h
 . exact Or.inr ⟨b,off,e,Nat.lt_of_lt_of_le hl hb.size,fun i hi=>(hb.cell (p:=⟨b,off+i,none⟩) hl).trans (h i hi)⟩
theorem StrsAt.place {w:World} {a:Option Addr} {l:List ByteArray} (h:StrsAt w a l) {k:Nat} (hk:k<l.length):∃ b off,a=some ⟨b,off,none⟩/\b<w.heap.size/\w.cell? ⟨b,off+k,none⟩=some (.string l[k]):=by
 rcases h with h | ⟨b,off,e,hl,h⟩
 . subst h;simp at hk
 . exact ⟨b,off,e,hl,h k hk⟩
def lists (l:List ByteArray):List (List UInt8):=l.map (·.data.toList)
theorem lists_snoc (l:List ByteArray) (s:ByteArray):lists (l++[s])=lists l++[s.data.toList]:=List.map_append ..
theorem isTwice_any (a:Option Addr) (cap:Nat) (l:List ByteArray) (w:World) (hT:StrsAt w a l) (hl:l.length<=1000000) (hs:∀ s ∈ l,s.size<=maxLen) :
 Calls Tryz.prog 59 #[.slice a l.length cap] w fun e w'=>e = .returned (.bool (dupB (lists l)))/\Below w.heap.size w w':=by
 have hmm:=@run_makeMap Tryz.prog;have HT:=hid hT;have HL:=hid hs;clear hT hs;go_enter Tryz.func59,Tryz.ntmps59;go_wp2_with fail
 go_loopw [5,9] (fun _ i wr=>∃ (k:Nat) (D:DataW Unit),k<=l.length/\i = .int .i64 k/\wr.ownsMap Tryz.prog 9 (plainElem Tryz.prog 3) w.heap.size k D/\MapInv D (lists (l.take k))/\Below w.heap.size w wr) (fun _ i _=>l.length - (intOf i).toNat)
 case atStart=>exact ⟨0,.map [],Nat.zero_le _,rfl,World.ownsMap_made _ _ _ _,mapInv_nil,(Below.refl _ _).alloc (Nat.le_refl _) _⟩
 case round=>
  obtain ⟨k,D,hk,rfl,hown,hinv,hb⟩:=hrel;have HI:=hid hinv
  by_cases hlt:k<l.length
  . obtain ⟨b,off,e,hbl,c0⟩:=HT.out.place hlt
    subst e;have hc:=(hb.cell (p:=⟨b,off+k,none⟩) hbl).trans c0;have hbr:b<wr.heap.size:=Nat.lt_of_lt_of_le hbl hb.size
    have HK:Hid (lists (l.take k)++[l[k].data.toList]=lists (l.take (k+1))):=by
     show lists (l.take k)++[l[k].data.toList]=lists (l.take (k+1));rw [take_succ l k hlt,lists_snoc]
    have hkey:keyOf Tryz.prog 9 (.string l[k])=some (.string l[k].data.toList):=keyOf_string_mk Tryz.underlying9 (HL.out _ (List.getElem_mem _));have HKey:=hid hkey;have HO:=hid hown;have HB:=hid hb;clear hkey hown hb hinv c0;generalize l[k]=s at *
    go_wp2_with (first
     | (at_lookup;refine wpList_lookup_own_int _ rfl _ _ 185 rfl 9 3 .i64 law Tryz.underlying185 Tryz.underlying3 (zero3 _) w.heap.size k D rfl HO.out _ _ rfl HKey.out ?_;intro c hat hwc;clear hat hwc)
     | (at_mapUpdate;refine wpList_mapUpdate_own _ rfl _ _ _ 185 rfl 9 3 law Tryz.underlying185 _ w.heap.size k D rfl HO.out (by unfold maxLen;omega) _ _ _ rfl rfl HKey.out _ [] (plainElem_int Tryz.underlying3 (wrap64_wf _)) ?_;intro w1 hown1 hgrow1;have HO1:=hid hown1;have HG:=hid hgrow1;clear hown1 hgrow1))
    go_roundw
    case rel=>exact ⟨k+1,_,by omega,by go_num,HO1.out,by rw [← HK.out];exact HI.out.put (HO.out.tidy law) HO.out.isMap _ _,HB.out.grown HG.out HB.out.size (fun j hj=>by cases hj;exact Nat.le_refl _)⟩
    case measure=>simp [intOf];omega
  . have HE:Hid (Maps.size D=(uniqs (lists l)).length):=by
     have:=HI.out.size;rw [List.take_of_length_le (by omega)] at this;exact this
    have HLn:Hid ((lists l).length=l.length):=by show (lists l).length=_;simp [lists]
    have HO:=hid hown;have HB:=hid hb;clear hinv hown hb HI
    go_wp2_with (at_len;refine wpList_len_own _ rfl _ _ rfl 9 3 Tryz.underlying185 _ w.heap.size k D rfl HO.out ?_)
    go_ret;exact ⟨ret_bool (by unfold dupB;rw [← HE.out,HLn.out]),HB.out⟩
theorem strs_own {w:World} {B:Nat} {v:Value} {l:List It} (h:w.ownsRow B 9 1 v l.length (strs l)):∃ a cap,v = .slice a (l.map (·.name)).length cap/\StrsAt w a (l.map (·.name)):=by
 rcases h.2 with ⟨hv,h0⟩ | ⟨g,cap,cur,hv,hB,hg,_⟩
 . have hl:l=[]:=List.eq_nil_of_length_eq_zero h0
   exact ⟨none,0,by rw [hv,hl];rfl,Or.inl (by rw [hl];rfl)⟩
 . refine ⟨_,cap,by rw [hv,List.length_map],Or.inr ⟨g,0,rfl,?_,fun i hi=>?_⟩⟩
   . rcases Nat.lt_or_ge g w.heap.size with h' | h'
     . exact h'
     . simp [Array.getElem?_eq_none h'] at hg
   . have hi':i<l.length:=by simpa using hi
     have:=h.cells (g:=g) (by rw [hv];rfl) i (.string l[i].name) (by simp [strs,hi']);rw [show (⟨g,0,none⟩:Addr).add i=⟨g,i,none⟩ from by unfold Addr.add;split<;>simp_all] at this;rw [Nat.zero_add,List.getElem_map];exact this
theorem lists_names (l:List It):lists (l.map (·.name))=namesOf l:=by simp [lists,namesOf]
theorem all_snoc {α:Type} (ts:List α) (p:α->Bool) (k:Nat) (h:k<ts.length):(ts.take (k+1)).all p=((ts.take k).all p&&p ts[k]):=by
 rw [List.take_succ_eq_append_getElem h,List.all_append];simp
theorem all_not {α:Type} (ts:List α) (p:α->Bool) (k:Nat) (h:k<ts.length) (hp:p ts[k]=false):ts.all p=false:=by
 rw [List.all_eq_false];exact ⟨ts[k],List.getElem_mem _,by simp [hp]⟩
theorem scopeCheck_any (f:Fc) (a:Option Addr) (cap:Nat) (w:World) (hT:ItemsAt w a f.items) (hl:f.items.length<=1000000000000000) (hs:f.name.size<=maxLen) (hf:AllFit f.items) :
 Calls Tryz.prog 19 #[.agg #[.string f.name,.slice a f.items.length cap]] w fun e w'=>e = .returned (.int .i64 (chkF f))/\Below w.heap.size w w':=by
 obtain ⟨nm,l⟩:=f;simp only at *;have HB0:Hid (Below w.heap.size w (w.alloc (.cells #[.string nm,.slice a l.length cap] 30))):=(Below.refl _ _).alloc (Nat.le_refl _) _
 by_cases h16:16<l.length
 . have HR:Hid (chkF ⟨nm,l⟩=2):=chk_many h16
   go_enter Tryz.func19,Tryz.ntmps19;go_wp2_with fail;go_ret;exact ⟨ret_int HR.out.symm,HB0.out⟩
 have HN:Hid (∀ W,Calls Tryz.prog 58 #[.string nm] W fun e w'=>e = .returned (.bool (nameOk nm))/\Below W.heap.size W w'):=fun W=>scopeName_any nm W hs
 have HI:Hid (∀ W,Below w.heap.size w W->Calls Tryz.prog 60 #[.slice a l.length cap] W fun e w'=>∃ v,e = .returned v/\w'.ownsRow W.heap.size 9 1 v l.length (strs l)/\Below W.heap.size W w'):=fun W hb=>itemNames_any a cap l W (hT.later hb) (by omega)
 have HD:Hid (∀ (W:World) (v:Value) (B:Nat),W.ownsRow B 9 1 v l.length (strs l)->Calls Tryz.prog 59 #[v] W fun e w'=>e = .returned (.bool (dupB (namesOf l)))/\Below W.heap.size W w'):=fun W v B ho=>by
  obtain ⟨a2,c2,rfl,hS⟩:=strs_own ho;rw [← lists_names]
  exact isTwice_any a2 c2 _ W hS (by rw [List.length_map];omega) (fun s h=>by
   obtain ⟨i,hi,rfl⟩:=List.mem_map.1 h
   exact hf i hi)
 have HH:Hid (∀ (W:World) (k:Nat) (h:k<l.length),Calls Tryz.prog 61 #[.agg #[.int .i64 l[k].kind,.int .i64 l[k].n,.int .i64 l[k].at_,.string l[k].name]] W fun e w'=>e = .returned (.bool (itemOk l[k]))/\Below W.heap.size W w'):=fun W k h=>itemHolds_any l[k] W (hf _ (List.getElem_mem _))
 have HT:=hid hT;have H16:=hid h16;clear hT hf hs
 cases hn:nameOk nm with
 | false=>
   have HR:Hid (chkF ⟨nm,l⟩=1):=chk_name h16 hn;rw [hn] at HN;clear hn;go_enter Tryz.func19,Tryz.ntmps19;go_wp2_with fail;refine (HN.out _).mono ?_;rintro e w' ⟨rfl,hb⟩;have HB:=hid (bel hb);clear hb;go_wp2_with fail;go_ret;exact ⟨ret_int HR.out.symm,HB.out⟩
 | true =>
   rw [hn] at HN;have HNm:=hid hn;clear hn
   cases hd:dupB (namesOf l) with
   | true=>
     have HR:Hid (chkF ⟨nm,l⟩=1):=chk_dup h16 hd;rw [hd] at HD;clear hd;go_enter Tryz.func19,Tryz.ntmps19;go_wp2_with fail;refine (HN.out _).mono ?_;rintro e w1 ⟨rfl,hb⟩;have HB:=hid (bel hb);have e1:w1.cell? ⟨w.heap.size,1,none⟩=some (.slice a l.length cap):=(hb.cell (p:=⟨w.heap.size,1,none⟩) (by simp)).trans (by simp);clear hb;go_wp2_with fail;refine (HI.out _ HB.out).mono ?_;rintro e w2 ⟨v,rfl,ho,hb⟩;have HO:=hid ho;have HB2:=hid (HB.out.trans (hb.mono HB.out.size));clear hb ho;go_wp2_with fail;refine (HD.out _ _ _ HO.out).mono ?_;rintro e w3 ⟨rfl,hb⟩;have HB3:=hid (HB2.out.trans (hb.mono HB2.out.size));clear hb;go_wp2_with fail;go_ret;exact ⟨ret_int HR.out.symm,HB3.out⟩
   | false=>
     have HDp:=hid hd;rw [hd] at HD;clear hd;go_enter Tryz.func19,Tryz.ntmps19;go_wp2_with fail;refine (HN.out _).mono ?_;rintro e w1 ⟨rfl,hb⟩;have HB:=hid (bel hb)
     have hz1:w.heap.size<w1.heap.size:=by have:=hb.size;simp at this;omega
     have e1:w1.cell? ⟨w.heap.size,1,none⟩=some (.slice a l.length cap):=(hb.cell (p:=⟨w.heap.size,1,none⟩) (by simp)).trans (by simp);clear hb;go_wp2_with fail;refine (HI.out _ HB.out).mono ?_;rintro e w2 ⟨v,rfl,ho,hb⟩;have HO:=hid ho;have HB2:=hid (HB.out.trans (hb.mono HB.out.size))
     have hz2:w.heap.size<w2.heap.size:=by have:=hb.size;omega
     have e2:w2.cell? ⟨w.heap.size,1,none⟩=some (.slice a l.length cap):=(hb.cell (p:=⟨w.heap.size,1,none⟩) hz1).trans e1;clear hb ho;go_wp2_with fail;refine (HD.out _ _ _ HO.out).mono ?_;rintro e w3 ⟨rfl,hb⟩;have HB3:=hid (HB2.out.trans (hb.mono HB2.out.size));have e3:w3.cell? ⟨w.heap.size,1,none⟩=some (.slice a l.length cap):=(hb.cell (p:=⟨w.heap.size,1,none⟩) hz2).trans e2;clear hb e1 e2;go_wp2_with fail
     go_loopw [4,22] (fun _ i wr=>∃ k:Nat,k<=l.length/\i = .int .i64 k/\(l.take k).all itemOk=true/\Below w.heap.size w wr) (fun _ i _=>l.length - (intOf i).toNat)
     case atStart=>exact ⟨0,Nat.zero_le _,rfl,rfl,HB3.out⟩
     case round=>
      obtain ⟨k,hk,rfl,hall,hb⟩:=hrel;have HA:=hid hall;have HBr:=hid hb;clear hall
      by_cases hlt:k<l.length
      . obtain ⟨b,off,rfl,hbl,c0,c1,c2,c3⟩:=(HT.out.later hb).place hlt
        have HS:=hid (all_snoc l itemOk k hlt);have HHk:=hid (fun W=>HH.out W k hlt);clear hb
        cases hok:itemOk l[k] with
        | true=>
          have HS':Hid ((l.take (k+1)).all itemOk=true):=by show (l.take (k+1)).all itemOk=true;rw [HS.out,HA.out,hok];rfl
          rw [hok] at HHk;clear hok HS;generalize l[k]=it at *
          go_wp2_with (go_at_call 61;refine (HHk.out _).mono ?_;rintro e w4 ⟨rfl,hb4⟩)
          go_roundw
          case rel=>exact ⟨k+1,by omega,by go_num,HS'.out,(HBr.out.alloc HBr.out.size _).trans (hb4.mono (by have:=HBr.out.size;simp;omega))⟩
          case measure=>simp [intOf];omega
        | false=>
          have HR:Hid (chkF ⟨nm,l⟩=1):=chk_item H16.out (all_not l itemOk k hlt hok);rw [hok] at HHk;clear hok HS;generalize l[k]=it at *
          go_wp2_with (go_at_call 61;refine (HHk.out _).mono ?_;rintro e w4 ⟨rfl,hb4⟩)
          go_ret;exact ⟨ret_int HR.out.symm,(HBr.out.alloc HBr.out.size _).trans (hb4.mono (by have:=HBr.out.size;simp;omega))⟩
      . have HR:Hid (chkF ⟨nm,l⟩=0):=chk_ok H16.out HNm.out HDp.out (by have:=HA.out;rw [List.take_of_length_le (by omega)] at this;exact this)
        go_wp2_with fail;go_ret;exact ⟨ret_int HR.out.symm,HBr.out⟩
end Fx
end Go.Proofs.YtndkhgakfodldaaGreatDoor

namespace Go.Proofs.YtndkhgakfodldaaGreatDoor
set_option maxRecDepth 100000
set_option maxHeartbeats 400000
namespace Fx
open Go.RowKit Go.Shelf
def strOf (l:List UInt8):ByteArray:=⟨l.toArray⟩
theorem strOf_list (l:List UInt8):(strOf l).data.toList=l:=by simp [strOf]
theorem strOf_back (s:ByteArray):strOf s.data.toList=s:=by simp [strOf]
theorem strOf_size (l:List UInt8):(strOf l).size=l.length:=by simp [strOf,ByteArray.size]
theorem strOf_append (a b:List UInt8):strOf a++strOf b=strOf (a++b):=by
 have h:(strOf a++strOf b).data.toList=a++b:=by simp [strOf]
 rw [← strOf_back (strOf a++strOf b),h]
def byteOf (n:Int):UInt8:=UInt8.ofNat (n % 256).toNat
theorem byteOf_nat (n:Int):((byteOf n).toNat:Int)=n % 256:=by
 have h0:0<=n % 256:=Int.emod_nonneg _ (by omega);have h1:n % 256<256:=Int.emod_lt_of_pos _ (by omega);unfold byteOf;rw [UInt8.toNat_ofNat'];omega
def byteV (c:UInt8):Value:=.int .u8 c.toNat
def bytesV (l:List UInt8):List Value:=l.map byteV
theorem bytesV_app (a b:List UInt8):bytesV (a++b)=bytesV a++bytesV b:=by simp [bytesV]
theorem bytesV_str (s:ByteArray):Lib.strCells s=bytesV s.data.toList:=rfl
theorem byteV_of (n:Int):byteV (byteOf n) = .int .u8 (n % 256):=by unfold byteV;rw [byteOf_nat]
def numB (n:Int):List UInt8:=[byteOf (n / 72057594037927936),byteOf (n / 281474976710656),byteOf (n / 1099511627776),byteOf (n / 4294967296),byteOf (n / 16777216),byteOf (n / 65536),byteOf (n / 256),byteOf n]
def textB (s:ByteArray):List UInt8:=byteOf s.size :: s.data.toList
theorem under5:Tryz.prog.underlying 5=some (.int .u8):=Tryz.underlying5
theorem conv_at (W:World) (b c:Nat) (l:List UInt8) (h:∀ j (hj:j<l.length),W.cell? ⟨b,j,none⟩=some (.int .u8 (l[j].toNat:Int))):(convert 140 9 (.slice (some ⟨b,0,none⟩) l.length c)).run Tryz.prog W = .ok (.string (strOf l)) W:=
 run_convert_bytes_back W 140 9 5 ⟨b,0,none⟩ c l Tryz.underlying140 under5 Tryz.underlying9 (fun j hj=>by
  rw [show (⟨b,0,none⟩:Addr).add j=⟨b,j,none⟩ from by unfold Addr.add;split<;>simp_all]
  exact h j hj)
end Fx
end Go.Proofs.YtndkhgakfodldaaGreatDoor

namespace Go.Proofs.YtndkhgakfodldaaGreatDoor
set_option maxRecDepth 100000
set_option maxHeartbeats 3200000
namespace Fx
open Go.RowKit Go.Shelf
theorem info5:(Tryz.prog.info? 5).map (fun i=>(i.zero,i.size,i.bytes))=some (some (.int .u8 0),1,1):=by kernel_rfl
def Row (B:Nat) (w:World) (v:Value) (l:List UInt8):Prop:=w.ownsRow B 5 1 v l.length (bytesV l)
theorem Row.later {B:Nat} {w w':World} {v:Value} {l:List UInt8} (h:Row B w v l) (hb:Below w.heap.size w w'):Row B w' v l:=ownsRow_later h hb
theorem Row.nil (B:Nat) (w:World):Row B w (.slice none 0 0) []:=World.ownsRow_nil _ _ _ _
theorem Row.lies {B:Nat} {w:World} {v:Value} {l:List UInt8} (h:Row B w v l):∀ k,v.ownBlock=some k->B<=k/\k<w.heap.size:=fun k e=>h.lt k e
theorem Row.keep {B:Nat} {w w':World} {v:Value} {l:List UInt8} (h:Row B w v l) (hg:w.grownBy w' v.ownBlock) {c:Nat} {cs:Array Value} {t:TypeId} {f:Nat × Nat} (ht:t≠5) (hc:w.heap[c]? = some (.cells cs t f)):w'.heap[c]? = some (.cells cs t f):=by
 have hlt:c<w.heap.size:=by
  rcases Nat.lt_or_ge c w.heap.size with h' | h'
  . exact h'
  . simp [Array.getElem?_eq_none h'] at hc
 refine (hg.block c hlt (fun e=>?_)).trans hc
 rcases h.2 with ⟨hv,_⟩ | ⟨g,cap,cur,hv,_,hgg,_⟩
 . rw [hv] at e;cases e
 . rw [hv] at e
   have e':c=g:=by simpa [Value.ownBlock] using e
   subst e';rw [hgg] at hc;cases hc;exact ht rfl
theorem snocB (l:List UInt8) (c:UInt8):bytesV l++[byteV c]=bytesV (l++[c]):=by simp [bytesV]
theorem grown_two {w w1 w2:World} {r r1:Option Nat} (h1:w.grownBy w1 r) (h2:w1.grownBy w2 r1) (hl:∀ k,r1=some k->k<w.heap.size->r=some k):w.grownBy w2 r:=
 ⟨h2.os.trans h1.os,h2.tape.trans h1.tape,h2.output.trans h1.output,Nat.le_trans h1.size h2.size,fun k hk hne=>(h2.block k (Nat.lt_of_lt_of_le hk h1.size) (fun e=>hne (hl k e.symm hk).symm)).trans (h1.block k hk hne)⟩
theorem step_byte {B:Nat} {w w1:World} {a:Value} {l:List UInt8} {c:UInt8} {o:Obj} {q cap:Nat} (hown:w1.ownsRow B 5 1 (.slice (some ⟨q,0,none⟩) (l.length+1) cap) (l.length+1) (bytesV l++[byteV c])) (hg:(w.alloc o).grownBy w1 a.ownBlock) (hat:a.ownBlock=some q\/q=w.heap.size+1) :
 Row B w1 (.slice (some ⟨q,0,none⟩) (l.length+1) cap) (l++[c])/\w.grownBy w1 a.ownBlock/\(∀ k,Value.ownBlock (.slice (some ⟨q,0,none⟩) (l.length+1) cap)=some k->k<w.heap.size->a.ownBlock=some k):=by
 refine ⟨?_,⟨hg.os,hg.tape,hg.output,Nat.le_trans (by simp) hg.size,fun k hk hne=>(hg.block k (by simp;omega) hne).trans (((Below.refl _ _).alloc (Nat.le_refl _) o).block k hk)⟩,fun k e hk=>?_⟩
 . unfold Row
   rw [← snocB,len_snoc];exact hown
 . have e':q=k:=by simpa [Value.ownBlock] using e
   subst e'
   rcases hat with h | h
   . exact h
   . omega
theorem AppendText_any (B:Nat) (v:Value) (l:List UInt8) (s:ByteArray) (w:World) (h:Row B w v l) (hB:B<=w.heap.size) (hl:l.length<=1000000) (hs:s.size<=1000000) :
 Calls Tryz.prog 86 #[v,.string s] w fun e w'=>∃ v',e = .returned v'/\Row B w' v' (l++textB s)/\w.grownBy w' v.ownBlock:=by
 obtain ⟨i0,hi,hz0,hz1,hz2⟩:=info_parts info5;have HR:=hid h;have HBV:Hid (byteV (byteOf s.size) = .int .u8 ((s.size:Int) % 256)):=byteV_of _;clear h;go_enter Tryz.func86,Tryz.ntmps86
 go_wp2_with (first
  | (at_builtin;refine wpList_append_lies _ rfl _ _ _ rfl B 5 i0 _ 1 1 Tryz.underlying140 hi hz0 hz1 hz2 rfl (by omega) v l.length (bytesV l) rfl (HR.out.later ((Below.refl _ _).alloc (Nat.le_refl _) _)) ⟨_,0,none⟩ 1 1 [byteV (byteOf s.size)] rfl rfl (by rw [HBV.out];exact cell_one_at (by simp)) (by simp;rfl) (by omega) (by unfold maxLen;omega) (by omega) (by simp;omega) _ rfl ?_;intro q2 cap2 w1 hown1 hg hat hlt2;obtain ⟨k1,k2,k3⟩:=step_byte (c:=byteOf s.size) hown1 hg (by simpa using hat);have K1:=hid k1;have K2:=hid k2;have K3:=hid k3;clear hown1 hg hat k1 k2 k3)
  | (at_builtin;refine Lib.wpList_append_own_string _ rfl _ _ _ _ rfl B 5 i0 Tryz.underlying140 Tryz.underlying9 hi hz0 hz1 hz2 _ (l++[byteOf s.size]).length (bytesV (l++[byteOf s.size])) rfl K1.out s rfl (by rw [len_snoc];unfold maxLen;omega) (by rw [len_snoc];omega) (by have:=K2.out.size;omega) ?_;intro v2 w2 hown2 hg2 _;have HO2:=hid hown2;have HG2:=hid hg2;clear hown2 hg2))
 go_returns
 refine ⟨_,rfl,?_,grown_two K2.out HG2.out K3.out⟩
 have e:l++textB s=(l++[byteOf s.size])++s.data.toList:=by simp [textB]
 unfold Row;rw [e,bytesV_app,← bytesV_str,List.length_append,Lx.len_toList];exact HO2.out
theorem AppendNumber_any (B:Nat) (v:Value) (l:List UInt8) (n:Int) (w:World) (h:Row B w v l) (hB:B<=w.heap.size) (hl:l.length<=1000000) :
 Calls Tryz.prog 88 #[v,.int .i64 n] w fun e w'=>∃ v',e = .returned v'/\Row B w' v' (l++numB n)/\w.grownBy w' v.ownBlock:=by
 obtain ⟨i0,hi,hz0,hz1,hz2⟩:=info_parts info5;have HR:=hid h;clear h;go_enter Tryz.func88,Tryz.ntmps88;go_wp2_with fail
 go_loopw [0,5] (fun u i wr=>∃ k:Nat,k<=8/\i = .int .i64 (56 - 8*k)/\Row B wr u (l++(numB n).take k)/\w.grownBy wr v.ownBlock/\(∀ j,u.ownBlock=some j->j<w.heap.size->v.ownBlock=some j)) (fun _ i _=>(intOf i+8).toNat)
 case atStart=>exact ⟨0,Nat.zero_le _,rfl,by rw [List.take_zero,List.append_nil];exact HR.out,⟨rfl,rfl,rfl,Nat.le_refl _,fun _ _ _=>rfl⟩,fun j e _=>e⟩
 case round=>
  obtain ⟨k,hk,rfl,hrow,hgr,hli⟩:=hrel;have HRw:=hid hrow;have HGr:=hid hgr;have HLi:=hid hli;have hwr:w.heap.size<=wr.heap.size:=hgr.size;clear hrow hgr hli
  have hc:k=0\/k=1\/k=2\/k=3\/k=4\/k=5\/k=6\/k=7\/k=8:=by omega
  clear hk
  rcases hc with rfl | rfl | rfl | rfl | rfl | rfl | rfl | rfl | rfl
  . have HBV:Hid (byteV (byteOf (n / 72057594037927936)) = .int .u8 (n / 72057594037927936 % 256)):=byteV_of _
    have HE:Hid (l++(numB n).take (0+1)=(l++(numB n).take 0)++[byteOf (n / 72057594037927936)]):=by
     show l++(numB n).take (0+1)=_;rw [show (numB n).take (0+1)=(numB n).take 0++[byteOf (n / 72057594037927936)] from rfl,List.append_assoc]
    have hlk:(l++(numB n).take 0).length=l.length:=by simp [numB]
    rw [show ((56:Int) - 8*((0:Nat):Int))=56 from by omega]
    go_wp2_with (at_builtin;refine wpList_append_lies _ rfl _ _ _ rfl B 5 i0 _ 1 1 Tryz.underlying140 hi hz0 hz1 hz2 rfl (by omega) _ (l++(numB n).take 0).length (bytesV (l++(numB n).take 0)) rfl (HRw.out.later ((Below.refl _ _).alloc (Nat.le_refl _) _)) ⟨_,0,none⟩ 1 1 [byteV (byteOf (n / 72057594037927936))] rfl rfl (by rw [HBV.out];exact cell_one_at (by simp)) (by simp;rfl) (by omega) (by rw [hlk];unfold maxLen;omega) (by rw [hlk];omega) (by simp;omega) _ rfl ?_;intro q2 cap2 w1 hown1 hg hat hlt2;obtain ⟨k1,k2,k3⟩:=step_byte (c:=byteOf (n / 72057594037927936)) hown1 hg (by simpa using hat);have K1:=hid k1;have K2:=hid k2;have K3:=hid k3;clear hown1 hg hat k1 k2 k3)
    go_roundw
    case rel=>exact ⟨0+1,by omega,by first | rfl | (congr 1),by rw [HE.out];have:=K1.out;unfold Row at this ⊢;simp only [len_snoc,hlk] at this ⊢;exact this,grown_two HGr.out K2.out HLi.out,fun j e hj=>HLi.out j (K3.out j e (by omega)) hj⟩
    case measure=>simp [intOf]
  . have HBV:Hid (byteV (byteOf (n / 281474976710656)) = .int .u8 (n / 281474976710656 % 256)):=byteV_of _
    have HE:Hid (l++(numB n).take (1+1)=(l++(numB n).take 1)++[byteOf (n / 281474976710656)]):=by
     show l++(numB n).take (1+1)=_;rw [show (numB n).take (1+1)=(numB n).take 1++[byteOf (n / 281474976710656)] from rfl,List.append_assoc]
    have hlk:(l++(numB n).take 1).length=l.length+1:=by simp [numB]
    rw [show ((56:Int) - 8*((1:Nat):Int))=48 from by omega]
    go_wp2_with (at_builtin;refine wpList_append_lies _ rfl _ _ _ rfl B 5 i0 _ 1 1 Tryz.underlying140 hi hz0 hz1 hz2 rfl (by omega) _ (l++(numB n).take 1).length (bytesV (l++(numB n).take 1)) rfl (HRw.out.later ((Below.refl _ _).alloc (Nat.le_refl _) _)) ⟨_,0,none⟩ 1 1 [byteV (byteOf (n / 281474976710656))] rfl rfl (by rw [HBV.out];exact cell_one_at (by simp)) (by simp;rfl) (by omega) (by rw [hlk];unfold maxLen;omega) (by rw [hlk];omega) (by simp;omega) _ rfl ?_;intro q2 cap2 w1 hown1 hg hat hlt2;obtain ⟨k1,k2,k3⟩:=step_byte (c:=byteOf (n / 281474976710656)) hown1 hg (by simpa using hat);have K1:=hid k1;have K2:=hid k2;have K3:=hid k3;clear hown1 hg hat k1 k2 k3)
    go_roundw
    case rel=>exact ⟨1+1,by omega,by first | rfl | (congr 1),by rw [HE.out];have:=K1.out;unfold Row at this ⊢;simp only [len_snoc,hlk] at this ⊢;exact this,grown_two HGr.out K2.out HLi.out,fun j e hj=>HLi.out j (K3.out j e (by omega)) hj⟩
    case measure=>simp [intOf]
  . have HBV:Hid (byteV (byteOf (n / 1099511627776)) = .int .u8 (n / 1099511627776 % 256)):=byteV_of _
    have HE:Hid (l++(numB n).take (2+1)=(l++(numB n).take 2)++[byteOf (n / 1099511627776)]):=by
     show l++(numB n).take (2+1)=_;rw [show (numB n).take (2+1)=(numB n).take 2++[byteOf (n / 1099511627776)] from rfl,List.append_assoc]
    have hlk:(l++(numB n).take 2).length=l.length+2:=by simp [numB]
    rw [show ((56:Int) - 8*((2:Nat):Int))=40 from by omega]
    go_wp2_with (at_builtin;refine wpList_append_lies _ rfl _ _ _ rfl B 5 i0 _ 1 1 Tryz.underlying140 hi hz0 hz1 hz2 rfl (by omega) _ (l++(numB n).take 2).length (bytesV (l++(numB n).take 2)) rfl (HRw.out.later ((Below.refl _ _).alloc (Nat.le_refl _) _)) ⟨_,0,none⟩ 1 1 [byteV (byteOf (n / 1099511627776))] rfl rfl (by rw [HBV.out];exact cell_one_at (by simp)) (by simp;rfl) (by omega) (by rw [hlk];unfold maxLen;omega) (by rw [hlk];omega) (by simp;omega) _ rfl ?_;intro q2 cap2 w1 hown1 hg hat hlt2;obtain ⟨k1,k2,k3⟩:=step_byte (c:=byteOf (n / 1099511627776)) hown1 hg (by simpa using hat);have K1:=hid k1;have K2:=hid k2;have K3:=hid k3;clear hown1 hg hat k1 k2 k3)
    go_roundw
    case rel=>exact ⟨2+1,by omega,by first | rfl | (congr 1),by rw [HE.out];have:=K1.out;unfold Row at this ⊢;simp only [len_snoc,hlk] at this ⊢;exact this,grown_two HGr.out K2.out HLi.out,fun j e hj=>HLi.out j (K3.out j e (by omega)) hj⟩
    case measure=>simp [intOf]
  . have HBV:Hid (byteV (byteOf (n / 4294967296)) = .int .u8 (n / 4294967296 % 256)):=byteV_of _
    have HE:Hid (l++(numB n).take (3+1)=(l++(numB n).take 3)++[byteOf (n / 4294967296)]):=by
     show l++(numB n).take (3+1)=_;rw [show (numB n).take (3+1)=(numB n).take 3++[byteOf (n / 4294967296)] from rfl,List.append_assoc]
    have hlk:(l++(numB n).take 3).length=l.length+3:=by simp [numB]
    rw [show ((56:Int) - 8*((3:Nat):Int))=32 from by omega]
    go_wp2_with (at_builtin;refine wpList_append_lies _ rfl _ _ _ rfl B 5 i0 _ 1 1 Tryz.underlying140 hi hz0 hz1 hz2 rfl (by omega) _ (l++(numB n).take 3).length (bytesV (l++(numB n).take 3)) rfl (HRw.out.later ((Below.refl _ _).alloc (Nat.le_refl _) _)) ⟨_,0,none⟩ 1 1 [byteV (byteOf (n / 4294967296))] rfl rfl (by rw [HBV.out];exact cell_one_at (by simp)) (by simp;rfl) (by omega) (by rw [hlk];unfold maxLen;omega) (by rw [hlk];omega) (by simp;omega) _ rfl ?_;intro q2 cap2 w1 hown1 hg hat hlt2;obtain ⟨k1,k2,k3⟩:=step_byte (c:=byteOf (n / 4294967296)) hown1 hg (by simpa using hat);have K1:=hid k1;have K2:=hid k2;have K3:=hid k3;clear hown1 hg hat k1 k2 k3)
    go_roundw
    case rel=>exact ⟨3+1,by omega,by first | rfl | (congr 1),by rw [HE.out];have:=K1.out;unfold Row at this ⊢;simp only [len_snoc,hlk] at this ⊢;exact this,grown_two HGr.out K2.out HLi.out,fun j e hj=>HLi.out j (K3.out j e (by omega)) hj⟩
    case measure=>simp [intOf]
  . have HBV:Hid (byteV (byteOf (n / 16777216)) = .int .u8 (n / 16777216 % 256)):=byteV_of _
    have HE:Hid (l++(numB n).take (4+1)=(l++(numB n).take 4)++[byteOf (n / 16777216)]):=by
     show l++(numB n).take (4+1)=_;rw [show (numB n).take (4+1)=(numB n).take 4++[byteOf (n / 16777216)] from rfl,List.append_assoc]
    have hlk:(l++(numB n).take 4).length=l.length+4:=by simp [numB]
    rw [show ((56:Int) - 8*((4:Nat):Int))=24 from by omega]
    go_wp2_with (at_builtin;refine wpList_append_lies _ rfl _ _ _ rfl B 5 i0 _ 1 1 Tryz.underlying140 hi hz0 hz1 hz2 rfl (by omega) _ (l++(numB n).take 4).length (bytesV (l++(numB n).take 4)) rfl (HRw.out.later ((Below.refl _ _).alloc (Nat.le_refl _) _)) ⟨_,0,none⟩ 1 1 [byteV (byteOf (n / 16777216))] rfl rfl (by rw [HBV.out];exact cell_one_at (by simp)) (by simp;rfl) (by omega) (by rw [hlk];unfold maxLen;omega) (by rw [hlk];omega) (by simp;omega) _ rfl ?_;intro q2 cap2 w1 hown1 hg hat hlt2;obtain ⟨k1,k2,k3⟩:=step_byte (c:=byteOf (n / 16777216)) hown1 hg (by simpa using hat);have K1:=hid k1;have K2:=hid k2;have K3:=hid k3;clear hown1 hg hat k1 k2 k3)
    go_roundw
    case rel=>exact ⟨4+1,by omega,by first | rfl | (congr 1),by rw [HE.out];have:=K1.out;unfold Row at this ⊢;simp only [len_snoc,hlk] at this ⊢;exact this,grown_two HGr.out K2.out HLi.out,fun j e hj=>HLi.out j (K3.out j e (by omega)) hj⟩
    case measure=>simp [intOf]
  . have HBV:Hid (byteV (byteOf (n / 65536)) = .int .u8 (n / 65536 % 256)):=byteV_of _
    have HE:Hid (l++(numB n).take (5+1)=(l++(numB n).take 5)++[byteOf (n / 65536)]):=by
     show l++(numB n).take (5+1)=_;rw [show (numB n).take (5+1)=(numB n).take 5++[byteOf (n / 65536)] from rfl,List.append_assoc]
    have hlk:(l++(numB n).take 5).length=l.length+5:=by simp [numB]
    rw [show ((56:Int) - 8*((5:Nat):Int))=16 from by omega]
    go_wp2_with (at_builtin;refine wpList_append_lies _ rfl _ _ _ rfl B 5 i0 _ 1 1 Tryz.underlying140 hi hz0 hz1 hz2 rfl (by omega) _ (l++(numB n).take 5).length (bytesV (l++(numB n).take 5)) rfl (HRw.out.later ((Below.refl _ _).alloc (Nat.le_refl _) _)) ⟨_,0,none⟩ 1 1 [byteV (byteOf (n / 65536))] rfl rfl (by rw [HBV.out];exact cell_one_at (by simp)) (by simp;rfl) (by omega) (by rw [hlk];unfold maxLen;omega) (by rw [hlk];omega) (by simp;omega) _ rfl ?_;intro q2 cap2 w1 hown1 hg hat hlt2;obtain ⟨k1,k2,k3⟩:=step_byte (c:=byteOf (n / 65536)) hown1 hg (by simpa using hat);have K1:=hid k1;have K2:=hid k2;have K3:=hid k3;clear hown1 hg hat k1 k2 k3)
    go_roundw
    case rel=>exact ⟨5+1,by omega,by first | rfl | (congr 1),by rw [HE.out];have:=K1.out;unfold Row at this ⊢;simp only [len_snoc,hlk] at this ⊢;exact this,grown_two HGr.out K2.out HLi.out,fun j e hj=>HLi.out j (K3.out j e (by omega)) hj⟩
    case measure=>simp [intOf]
  . have HBV:Hid (byteV (byteOf (n / 256)) = .int .u8 (n / 256 % 256)):=byteV_of _
    have HE:Hid (l++(numB n).take (6+1)=(l++(numB n).take 6)++[byteOf (n / 256)]):=by
     show l++(numB n).take (6+1)=_;rw [show (numB n).take (6+1)=(numB n).take 6++[byteOf (n / 256)] from rfl,List.append_assoc]
    have hlk:(l++(numB n).take 6).length=l.length+6:=by simp [numB]
    rw [show ((56:Int) - 8*((6:Nat):Int))=8 from by omega]
    go_wp2_with (at_builtin;refine wpList_append_lies _ rfl _ _ _ rfl B 5 i0 _ 1 1 Tryz.underlying140 hi hz0 hz1 hz2 rfl (by omega) _ (l++(numB n).take 6).length (bytesV (l++(numB n).take 6)) rfl (HRw.out.later ((Below.refl _ _).alloc (Nat.le_refl _) _)) ⟨_,0,none⟩ 1 1 [byteV (byteOf (n / 256))] rfl rfl (by rw [HBV.out];exact cell_one_at (by simp)) (by simp;rfl) (by omega) (by rw [hlk];unfold maxLen;omega) (by rw [hlk];omega) (by simp;omega) _ rfl ?_;intro q2 cap2 w1 hown1 hg hat hlt2;obtain ⟨k1,k2,k3⟩:=step_byte (c:=byteOf (n / 256)) hown1 hg (by simpa using hat);have K1:=hid k1;have K2:=hid k2;have K3:=hid k3;clear hown1 hg hat k1 k2 k3)
    go_roundw
    case rel=>exact ⟨6+1,by omega,by first | rfl | (congr 1),by rw [HE.out];have:=K1.out;unfold Row at this ⊢;simp only [len_snoc,hlk] at this ⊢;exact this,grown_two HGr.out K2.out HLi.out,fun j e hj=>HLi.out j (K3.out j e (by omega)) hj⟩
    case measure=>simp [intOf]
  . have HBV:Hid (byteV (byteOf n) = .int .u8 (n % 256)):=byteV_of _
    have HE:Hid (l++(numB n).take (7+1)=(l++(numB n).take 7)++[byteOf n]):=by
     show l++(numB n).take (7+1)=_;rw [show (numB n).take (7+1)=(numB n).take 7++[byteOf n] from rfl,List.append_assoc]
    have hlk:(l++(numB n).take 7).length=l.length+7:=by simp [numB]
    rw [show ((56:Int) - 8*((7:Nat):Int))=0 from by omega]
    go_wp2_with (at_builtin;refine wpList_append_lies _ rfl _ _ _ rfl B 5 i0 _ 1 1 Tryz.underlying140 hi hz0 hz1 hz2 rfl (by omega) _ (l++(numB n).take 7).length (bytesV (l++(numB n).take 7)) rfl (HRw.out.later ((Below.refl _ _).alloc (Nat.le_refl _) _)) ⟨_,0,none⟩ 1 1 [byteV (byteOf n)] rfl rfl (by rw [HBV.out];exact cell_one_at (by simp)) (by simp;rfl) (by omega) (by rw [hlk];unfold maxLen;omega) (by rw [hlk];omega) (by simp;omega) _ rfl ?_;intro q2 cap2 w1 hown1 hg hat hlt2;obtain ⟨k1,k2,k3⟩:=step_byte (c:=byteOf n) hown1 hg (by simpa using hat);have K1:=hid k1;have K2:=hid k2;have K3:=hid k3;clear hown1 hg hat k1 k2 k3)
    go_roundw
    case rel=>exact ⟨7+1,by omega,by first | rfl | (congr 1),by rw [HE.out];have:=K1.out;unfold Row at this ⊢;simp only [len_snoc,hlk] at this ⊢;exact this,grown_two HGr.out K2.out HLi.out,fun j e hj=>HLi.out j (K3.out j e (by omega)) hj⟩
    case measure=>simp [intOf]
  . rw [show ((56:Int) - 8*((8:Nat):Int)) = -8 from by omega]
    go_wp2_with fail
    go_returns
    exact ⟨_,rfl,HRw.out,HGr.out⟩
end Fx
end Go.Proofs.YtndkhgakfodldaaGreatDoor

namespace Go.Proofs.YtndkhgakfodldaaGreatDoor
set_option maxRecDepth 100000
set_option maxHeartbeats 800000
namespace Fx
open Go.RowKit Go.Shelf
structure Nose (w:World) (nb:Nat) (st:List UInt8 × Bool):Prop where
 lt:nb<w.heap.size
 c0:w.cell? ⟨nb,0,none⟩=some (.string (strOf st.1))
 c1:w.cell? ⟨nb,1,none⟩=some (.bool st.2)
 f0:w.frozen? ⟨nb,0,none⟩=false
 f1:w.frozen? ⟨nb,1,none⟩=false
def nByte:List UInt8 × Bool->Int × (List UInt8 × Bool)
 | ([],_)=>(0,([],true))
 | (c :: r,bad)=>((c.toNat:Int),(r,bad))
theorem Nose.kept {w w':World} {nb:Nat} {st:List UInt8 × Bool} {r:Option Nat} (h:Nose w nb st) (hg:w.grownBy w' r) (hr:some nb≠r):Nose w' nb st:=
 have hb:=hg.block nb h.lt hr
 ⟨Nat.lt_of_lt_of_le h.lt hg.size,(World.cell?_of_block (a:=⟨nb,0,none⟩) hb).trans h.c0,(World.cell?_of_block (a:=⟨nb,1,none⟩) hb).trans h.c1,(World.frozen?_of_block (a:=⟨nb,0,none⟩) hb).trans h.f0,(World.frozen?_of_block (a:=⟨nb,1,none⟩) hb).trans h.f1⟩
theorem grown_refl (w:World) (r:Option Nat):w.grownBy w r:=⟨rfl,rfl,rfl,Nat.le_refl _,fun _ _ _=>rfl⟩
theorem grown_set {w w':World} {b o:Nat} {u:Value} (h:w.grownBy w' (some b)):w.grownBy (w'.setCell ⟨b,o,none⟩ u) (some b):=
 ⟨h.os,h.tape,h.output,by simpa using h.size,fun k hk hne=>(Below.heap_setCell w' ⟨b,o,none⟩ u k (fun e=>hne (by rw [e]))).trans (h.block k hk hne)⟩
theorem extract_list (s:ByteArray) (a n:Nat):(s.extract a (a+n)).data.toList=(s.data.toList.drop a).take n:=by
 rw [ByteArray.data_extract,Array.toList_extract,List.extract_eq_take_drop,show a+n - a=n from by omega]
theorem strOf_tail (l:List UInt8) (a:Nat) (h:a<=l.length):(strOf l).extract a (strOf l).size=strOf (l.drop a):=by
 rw [strOf_size,show l.length=a+(l.length - a) by omega,← strOf_back ((strOf l).extract a _),extract_list,strOf_list,List.take_of_length_le (by simp)]
theorem strOf_front (l:List UInt8) (n:Nat):(strOf l).extract 0 n=strOf (l.take n):=by
 have h:=extract_list (strOf l) 0 n;rw [Nat.zero_add] at h;rw [← strOf_back ((strOf l).extract 0 n),h,strOf_list,List.drop_zero]
theorem strOf_head (c:UInt8) (r:List UInt8) (h:0<(strOf (c :: r)).size):(strOf (c :: r))[0]=c:=by simp [strOf,ByteArray.getElem_eq_getElem_data]
theorem u8_wrap (c:UInt8):wrap64 (c.toNat:Int)=c.toNat:=by have:=c.toNat_lt;unfold wrap64;omega
theorem nByte_lo (st:List UInt8 × Bool):0<=(nByte st).1/\(nByte st).1<=255:=by
 obtain ⟨l,bad⟩:=st
 cases l with
 | nil=>exact ⟨Int.le_refl _,by show (0:Int)<=255;decide⟩
 | cons c r=>have:=c.toNat_lt;exact ⟨by show 0<=(c.toNat:Int);omega,by show (c.toNat:Int)<=255;omega⟩
theorem grown_trans {a b c:World} {r:Option Nat} (h1:a.grownBy b r) (h2:b.grownBy c r):a.grownBy c r:=grown_two h1 h2 (fun _ e _=>e)
end Fx
end Go.Proofs.YtndkhgakfodldaaGreatDoor

namespace Go.Proofs.YtndkhgakfodldaaGreatDoor
set_option maxRecDepth 100000
set_option maxHeartbeats 800000
namespace Fx
open Go.RowKit Go.Shelf
theorem or_byte (n b:Int) (h0:0<=b) (h1:b<=255):bits .or .i64 (wrap64 (n*256)) b=wrap64 (n*256+b):=by
 show IntKind.i64.wrap ((BitVec.ofInt 64 (wrap64 (n*256)) ||| BitVec.ofInt 64 b).toNat:Int)=_;rw [BitVec.toNat_or,BitVec.toNat_ofInt,BitVec.toNat_ofInt];rw [nat_join8 _ _ (by unfold wrap64;omega) (by omega)];show IntKind.wrap .i64 _=_;unfold IntKind.wrap wrap64;simp [IntKind.bits,IntKind.signed];omega
end Fx
end Go.Proofs.YtndkhgakfodldaaGreatDoor

namespace Go.Proofs.YtndkhgakfodldaaGreatDoor
set_option maxRecDepth 100000
set_option maxHeartbeats 800000
namespace Fx
open Go.RowKit Go.Shelf
def shortP:List PanicEntry:=[{ v:=.iface 9 (.string ⟨#[116,111,111,32,102,101,119,32,98,121,116,101,115]⟩),recovered:=false }]
structure Rdr (w:World) (rb:Nat) (l:List UInt8):Prop where
 lt:rb<w.heap.size
 c0:w.cell? ⟨rb,0,none⟩=some (.string (strOf l))
 f0:w.frozen? ⟨rb,0,none⟩=false
theorem Rdr.kept {w w':World} {rb:Nat} {l:List UInt8} {r:Option Nat} (h:Rdr w rb l) (hg:w.grownBy w' r) (hr:some rb≠r):Rdr w' rb l:=
 have hb:=hg.block rb h.lt hr
 ⟨Nat.lt_of_lt_of_le h.lt hg.size,(World.cell?_of_block (a:=⟨rb,0,none⟩) hb).trans h.c0,(World.frozen?_of_block (a:=⟨rb,0,none⟩) hb).trans h.f0⟩
theorem Rdr.set {w:World} {rb:Nat} {l l':List UInt8} {x:ByteArray} (h:Rdr w rb l) (hx:x=strOf l'):Rdr (w.setCell ⟨rb,0,none⟩ (.string x)) rb l':=
 ⟨by simpa using h.lt,by rw [hx];exact World.cell?_setCell_same _ _ _ h.c0,by simpa using h.f0⟩
def REnd {α:Type} (rb:Nat) (w:World) (r:Option (α × List UInt8)) (rep:α->Value) (e:Ending) (w':World):Prop:=
 w.grownBy w' (some rb)/\((r=none/\e = .panicked shortP)\/∃ x l,r=some (x,l)/\e = .returned (rep x)/\Rdr w' rb l)
def pTake (n:Nat) (l:List UInt8):Option (List UInt8 × List UInt8):=if l.length<n then none else some (l.take n,l.drop n)
def strV (l:List UInt8):Value:=.string (strOf l)
def intV (n:Int):Value:=.int .i64 n
theorem take_any (rb n:Nat) (l:List UInt8) (w:World) (h:Rdr w rb l) (_hl:l.length<=1000000000000000) (hn:n<=255) :
 Calls Tryz.prog 174 #[.pointer (some ⟨rb,0,none⟩),.int .i64 n] w fun e w'=>REnd rb w (pTake n l) strV e w':=by
 have HN:=hid h;obtain ⟨hlt,c0,f0⟩:=h;have hz:=strOf_size l
 by_cases hc:l.length<n
 . have HR:Hid (pTake n l=none):=if_pos hc
   go_enter Tryz.func174,Tryz.ntmps174;go_wp2_with fail;exact ⟨rfl,grown_refl _ _,Or.inl ⟨HR.out,rfl⟩⟩
 . have HR:Hid (pTake n l=some (l.take n,l.drop n)):=if_neg hc
   go_enter Tryz.func174,Tryz.ntmps174;go_wp2_with fail
   go_returns
   refine ⟨grown_set (grown_refl _ _),.inr ⟨_,_,HR.out,?_,HN.out.set ?_⟩⟩
   . rw [strOf_front];rfl
   . have:=strOf_tail l n (by omega)
     rwa [strOf_size] at this
def pByte (l:List UInt8):Option (Int × List UInt8):=(pTake 1 l).map (fun q=>((nByte (q.1,false)).1,q.2))
theorem Byte_any (rb:Nat) (l:List UInt8) (w:World) (h:Rdr w rb l) (hl:l.length<=1000000000000000) :
 Calls Tryz.prog 142 #[.pointer (some ⟨rb,0,none⟩)] w fun e w'=>REnd rb w (pByte l) intV e w':=by
 have HC:=hid (take_any rb 1 l w h hl (by omega))
 cases l with
 | nil=>
   have HR:Hid (pTake 1 ([]:List UInt8)=none):=rfl
   have HC:Hid (Calls Tryz.prog 174 #[.pointer (some ⟨rb,0,none⟩),.int .i64 1] w fun e w'=>e = .panicked shortP/\w.grownBy w' (some rb)):=HC.out.mono fun e w' h=>by
    obtain ⟨hg,⟨_,he⟩ | ⟨x,l',hr,_⟩⟩:=h
    . exact ⟨he,hg⟩
    . rw [HR.out] at hr;cases hr
   clear h;go_enter Tryz.func142,Tryz.ntmps142
   go_wp2_with (go_at_call 174;refine HC.out.mono ?_;rintro e w' ⟨rfl,hg⟩;have HG:=hid hg;clear hg)
   exact ⟨rfl,HG.out,Or.inl ⟨rfl,rfl⟩⟩
 | cons c r=>
   have HR:Hid (pTake 1 (c :: r)=some ([c],r)):=rfl
   have HC:Hid (Calls Tryz.prog 174 #[.pointer (some ⟨rb,0,none⟩),.int .i64 1] w fun e w'=>e = .returned (.string (strOf [c]))/\w.grownBy w' (some rb)/\Rdr w' rb r):=HC.out.mono fun e w' h=>by
    obtain ⟨hg,⟨hr,_⟩ | ⟨x,l',hr,he,h'⟩⟩:=h
    . rw [HR.out] at hr;cases hr
    . rw [HR.out] at hr;cases hr;exact ⟨he,hg,h'⟩
   have Hi:=hid (strOf_head c [])
   have hz:(strOf [c]).size=1:=by rw [strOf_size];rfl
   obtain ⟨s,hs⟩:∃ s,s=strOf [c]:=⟨_,rfl⟩
   rw [← hs] at HC hz
   have Hi:Hid (∀ h:0<s.size,s[0]=c):=by subst hs;exact Hi
   clear h hs;go_enter Tryz.func142,Tryz.ntmps142
   go_wp2_with (go_at_call 174;refine HC.out.mono ?_;rintro e w' ⟨rfl,hg,hr⟩;have HG:=hid hg;have HD:=hid hr;clear hg hr)
   go_returns
   refine ⟨HG.out,.inr ⟨(c.toNat:Int),r,rfl,?_,HD.out⟩⟩;rw [Hi.out,u8_wrap]
   rfl
end Fx
end Go.Proofs.YtndkhgakfodldaaGreatDoor

namespace Go.Proofs.YtndkhgakfodldaaGreatDoor
set_option maxRecDepth 100000
set_option maxHeartbeats 800000
namespace Fx
open Go.RowKit Go.Shelf
def CloneOk:Prop:=∀ (s:ByteArray) (W:World),s.size<=255->Calls Tryz.prog 173 #[.string s] W fun e w'=>e = .returned (.string s)/\Below W.heap.size W w'
theorem REnd.of_none {α:Type} {rb:Nat} {w w':World} {r:Option (α × List UInt8)} {rep:α->Value} {e:Ending} (h:REnd rb w r rep e w') (hr:r=none):e = .panicked shortP/\w.grownBy w' (some rb):=by
 obtain ⟨hg,⟨_,he⟩ | ⟨x,l',hr',_⟩⟩:=h
 . exact ⟨he,hg⟩
 . rw [hr] at hr';cases hr'
theorem REnd.of_some {α:Type} {rb:Nat} {w w':World} {r:Option (α × List UInt8)} {rep:α->Value} {e:Ending} {x:α} {l:List UInt8} (h:REnd rb w r rep e w') (hr:r=some (x,l)):e = .returned (rep x)/\w.grownBy w' (some rb)/\Rdr w' rb l:=by
 obtain ⟨hg,⟨hr',_⟩ | ⟨x',l',hr',he,h'⟩⟩:=h
 . rw [hr] at hr';cases hr'
 . rw [hr] at hr';cases hr';exact ⟨he,hg,h'⟩
theorem grown_below {w w':World} (r:Option Nat) (h:Below w.heap.size w w'):w.grownBy w' r:=⟨h.os,h.tape,h.output,h.size,fun k hk _=>h.block k hk⟩
theorem Rdr.below {w w':World} {rb:Nat} {l:List UInt8} (h:Rdr w rb l) (hb:Below w.heap.size w w'):Rdr w' rb l:=h.kept (grown_below none hb) (by simp)
theorem pTake_len {n:Nat} {l x r:List UInt8} (h:pTake n l=some (x,r)):x.length=n/\l=x++r:=by
 unfold pTake at h
 split at h
 . cases h
 . cases h
   exact ⟨by rw [List.length_take];omega,(List.take_append_drop n l).symm⟩
theorem pByte_lo {l r:List UInt8} {n:Int} (h:pByte l=some (n,r)):0<=n/\n<=255/\r.length<=l.length:=by
 unfold pByte at h
 cases ht:pTake 1 l with
 | none=>rw [ht] at h;cases h
 | some q=>
   obtain ⟨x,y⟩:=q;rw [ht] at h;cases h;have h1:=nByte_lo (x,false);have h2:=(pTake_len ht).2;refine ⟨h1.1,h1.2,?_⟩;show y.length<=l.length
   rw [h2,List.length_append];omega
def pText (l:List UInt8):Option (List UInt8 × List UInt8):=(pByte l).bind (fun q=>pTake q.1.toNat q.2)
theorem Text_any (hcl:CloneOk) (rb:Nat) (l:List UInt8) (w:World) (h:Rdr w rb l) (hl:l.length<=1000000000000000) :
 Calls Tryz.prog 137 #[.pointer (some ⟨rb,0,none⟩)] w fun e w'=>REnd rb w (pText l) strV e w':=by
 have HB:=hid (Byte_any rb l w h hl)
 cases hB:pByte l with
 | none=>
   have HC:=hid (HB.out.mono fun e w' h=>h.of_none hB)
   have HR:Hid (pText l=none):=by show pText l=none;unfold pText;rw [hB];rfl
   clear h HB;go_enter Tryz.func137,Tryz.ntmps137
   go_wp2_with (go_at_call 142;refine HC.out.mono ?_;rintro e w' ⟨rfl,hg⟩;have HG:=hid hg;clear hg)
   exact ⟨rfl,HG.out,Or.inl ⟨HR.out,rfl⟩⟩
 | some q=>
   obtain ⟨n,r⟩:=q;obtain ⟨h0,h1,h2⟩:=pByte_lo hB
   obtain ⟨k,rfl⟩:∃ k:Nat,n=k:=⟨n.toNat,by omega⟩
   have HC:Hid (Calls Tryz.prog 142 #[.pointer (some ⟨rb,0,none⟩)] w fun e w'=>e = .returned (.int .i64 k)/\w.grownBy w' (some rb)/\Rdr w' rb r):=HB.out.mono fun e w' h=>h.of_some hB
   have HE:Hid (pText l=pTake k r):=by show pText l=_;unfold pText;rw [hB];rfl
   have HT:Hid (∀ W,Rdr W rb r->Calls Tryz.prog 174 #[.pointer (some ⟨rb,0,none⟩),.int .i64 k] W fun e w'=>REnd rb W (pTake k r) strV e w'):=fun W hW=>take_any rb k r W hW (by omega) (by omega)
   clear h HB hB
   cases hT:pTake k r with
   | none=>
     have HT:Hid (∀ W,Rdr W rb r->Calls Tryz.prog 174 #[.pointer (some ⟨rb,0,none⟩),.int .i64 k] W fun e w'=>e = .panicked shortP/\W.grownBy w' (some rb)):=fun W hW=>(HT.out W hW).mono fun e w' h=>h.of_none hT
     have HR:Hid (pText l=none):=HE.out.trans hT;clear hT;go_enter Tryz.func137,Tryz.ntmps137
     go_wp2_with (first
      | (go_at_call 142;refine HC.out.mono ?_;rintro e w1 ⟨rfl,hg,hr⟩;have HG:=hid hg;have HD:=hid hr;clear hg hr)
      | (go_at_call 174;refine (HT.out _ HD.out).mono ?_;rintro e w2 ⟨rfl,hg⟩;have HG2:=hid hg;clear hg))
     exact ⟨rfl,grown_trans HG.out HG2.out,Or.inl ⟨HR.out,rfl⟩⟩
   | some q=>
     obtain ⟨x,y⟩:=q
     have HT:Hid (∀ W,Rdr W rb r->Calls Tryz.prog 174 #[.pointer (some ⟨rb,0,none⟩),.int .i64 k] W fun e w'=>e = .returned (.string (strOf x))/\W.grownBy w' (some rb)/\Rdr w' rb y):=fun W hW=>(HT.out W hW).mono fun e w' h=>h.of_some hT
     have HR:Hid (pText l=some (x,y)):=HE.out.trans hT;have hx:=(pTake_len hT).1
     have HL:Hid (∀ W,Calls Tryz.prog 173 #[.string (strOf x)] W fun e w'=>e = .returned (.string (strOf x))/\Below W.heap.size W w'):=fun W=>hcl _ W (by rw [strOf_size];omega)
     clear hT hx;go_enter Tryz.func137,Tryz.ntmps137
     go_wp2_with (first
      | (go_at_call 142;refine HC.out.mono ?_;rintro e w1 ⟨rfl,hg,hr⟩;have HG:=hid hg;have HD:=hid hr;clear hg hr)
      | (go_at_call 174;refine (HT.out _ HD.out).mono ?_;rintro e w2 ⟨rfl,hg,hr⟩;have HG2:=hid hg;have HD2:=hid hr;clear hg hr)
      | (go_at_call 173;refine (HL.out _).mono ?_;rintro e w3 ⟨rfl,hb⟩;have HB3:=hid hb;clear hb))
     go_returns
     exact ⟨grown_trans (grown_trans HG.out HG2.out) (grown_below _ HB3.out),Or.inr ⟨x,y,HR.out,rfl,HD2.out.below HB3.out⟩⟩
end Fx
end Go.Proofs.YtndkhgakfodldaaGreatDoor

namespace Go.Proofs.YtndkhgakfodldaaGreatDoor
set_option maxRecDepth 100000
set_option maxHeartbeats 800000
namespace Fx
open Go.RowKit Go.Shelf
def valStep (n:Int) (c:UInt8):Int:=wrap64 (n*256+c.toNat)
def valL (l:List UInt8):Int:=l.foldl valStep 0
theorem valL_succ (l:List UInt8) (k:Nat) (h:k<l.length):valL (l.take (k+1))=valStep (valL (l.take k)) l[k]:=by
 unfold valL;rw [take_succ l k h,List.foldl_append]
 rfl
def pNum (l:List UInt8):Option (Int × List UInt8):=(pTake 8 l).map (fun q=>(valL q.1,q.2))
theorem conv_bytes (x:List UInt8) (W:World):∃ (cap:Nat) (W':World),(convert 9 140 (.string (strOf x))).run Tryz.prog W = .ok (.slice (some ⟨W.heap.size,0,none⟩) x.length cap) W'/\Below W.heap.size W W'/\
 ∀ j (hj:j<x.length),W'.cell? ⟨W.heap.size,j,none⟩=some (.int .u8 (x[j].toNat:Int)):=by
 have h:=run_bytes_of_string (P:=Tryz.prog) W 9 140 5 (strOf x) Tryz.underlying9 Tryz.underlying140 under5;rw [strOf_size] at h;refine ⟨_,_,h,((Below.refl _ _).drew).alloc (Nat.le_refl _) _,fun j hj=>?_⟩
 have hd:(strOf x).data.size=x.length:=by simp [strOf]
 have hr:=bytesRow_at (strOf x) (grownCap W x.length 0 5) j (by rw [hd];exact hj)
 have hn:∀ o:Obj,(W.drew.alloc o).heap[W.heap.size]? = some o:=fun o=>by
  show (W.heap.push o)[W.heap.size]? = some o;simp
 simp only [World.cell?,hn];rw [hr];simp [strOf]
theorem Number_any (rb:Nat) (l:List UInt8) (w:World) (h:Rdr w rb l) (hl:l.length<=1000000000000000) :
 Calls Tryz.prog 139 #[.pointer (some ⟨rb,0,none⟩)] w fun e w'=>REnd rb w (pNum l) intV e w':=by
 have HT:=hid (take_any rb 8 l w h hl (by omega))
 cases hT:pTake 8 l with
 | none=>
   have HC:Hid (Calls Tryz.prog 174 #[.pointer (some ⟨rb,0,none⟩),.int .i64 8] w fun e w'=>e = .panicked shortP/\w.grownBy w' (some rb)):=HT.out.mono fun e w' h=>h.of_none hT
   have HR:Hid (pNum l=none):=by show pNum l=none;unfold pNum;rw [hT];rfl
   clear h HT;go_enter Tryz.func139,Tryz.ntmps139
   go_wp2_with (go_at_call 174;refine HC.out.mono ?_;rintro e w' ⟨rfl,hg⟩;have HG:=hid hg;clear hg)
   exact ⟨rfl,HG.out,Or.inl ⟨HR.out,rfl⟩⟩
 | some q=>
   obtain ⟨x,y⟩:=q
   have HC:Hid (Calls Tryz.prog 174 #[.pointer (some ⟨rb,0,none⟩),.int .i64 8] w fun e w'=>e = .returned (.string (strOf x))/\w.grownBy w' (some rb)/\Rdr w' rb y):=HT.out.mono fun e w' h=>h.of_some hT
   have HR:Hid (pNum l=some (valL x,y)):=by show pNum l=_;unfold pNum;rw [hT];rfl
   have hx:=(pTake_len hT).1;have CV:=hid (conv_bytes x);have HV:=hid (fun k h=>valL_succ x k h);clear h HT hT;go_enter Tryz.func139,Tryz.ntmps139
   go_wp2_with (go_at_call 174;refine HC.out.mono ?_;rintro e w1 ⟨rfl,hg,hr⟩;have HG:=hid hg;have HD:=hid hr;clear hg hr;obtain ⟨cp,w2,hcv,hb2,hcells⟩:=CV.out w1;have HB2:=hid hb2;have HCells:=hid hcells;have hz1:=hb2.size;clear hb2 hcells)
   have HG2:Hid (w.grownBy w2 (some rb)):=grown_trans HG.out (grown_below _ HB2.out);have HD2:Hid (Rdr w2 rb y):=HD.out.below HB2.out;have HX:=hid hx;clear HG HD HC CV
   go_loopw [3,5,10] (fun u _ i wr=>∃ k:Nat,k<=8/\i = .int .i64 k/\u = .int .i64 (valL (x.take k))/\wr=w2) (fun _ _ i _=>8 - (intOf i).toNat)
   case atStart=>exact ⟨0,Nat.zero_le _,rfl,rfl,rfl⟩
   case round=>
    obtain ⟨k,hk,rfl,rfl,rfl⟩:=hrel
    by_cases hlt:k<8
    . have hk8:k<x.length:=by omega
      have hc:=HCells.out k hk8;have HS:=hid (HV.out k hk8);have hq:=x[k].toNat_lt;have hu:=u8_wrap x[k];generalize valL (x.take k)=n at *;generalize x[k]=c at *;go_wp2_with fail;go_roundw
      case rel=>exact ⟨k+1,by omega,by go_num,by rw [or_byte _ _ (by omega) (by omega),HS.out];rfl,trivial⟩
      case measure=>simp [intOf];omega
    . obtain rfl:k=8:=by omega
      go_wp2_with fail
      go_returns
      refine ⟨HG2.out,Or.inr ⟨_,y,HR.out,?_,HD2.out⟩⟩;rw [List.take_of_length_le (by omega)]
      rfl
end Fx
end Go.Proofs.YtndkhgakfodldaaGreatDoor

namespace Go.Proofs.YtndkhgakfodldaaGreatDoor
set_option maxRecDepth 100000
namespace Fx
open Go.RowKit
theorem byteOf_of (c:UInt8) (n:Int) (h:n % 256=c.toNat):byteOf n=c:=by
 have h1:=byteOf_nat n;rw [h] at h1;exact UInt8.toNat_inj.1 (by omega)
theorem wrap_step (x y:Int):wrap64 (wrap64 x*256+y)=wrap64 (x*256+y):=by unfold wrap64;omega
def horn (a b c d e f g h:Int):Int:=((((((a*256+b)*256+c)*256+d)*256+e)*256+f)*256+g)*256+h
theorem fold8 (st:Int->UInt8->Int) (a b c d e f g h:UInt8):[a,b,c,d,e,f,g,h].foldl st 0=st (st (st (st (st (st (st (st 0 a) b) c) d) e) f) g) h:=rfl
theorem valStep_eq (n:Int) (c:UInt8):valStep n c=wrap64 (n*256+c.toNat):=by unfold valStep;exact Eq.refl _
theorem step_of {n x:Int} (h:n=wrap64 x) (c:UInt8):valStep n c=wrap64 (x*256+c.toNat):=by rw [valStep_eq,h,wrap_step]
theorem horn_eq (a b c d e f g h:Int):horn a b c d e f g h=((((((a*256+b)*256+c)*256+d)*256+e)*256+f)*256+g)*256+h:=by unfold horn;exact Eq.refl _
theorem valL_eight (a b c d e f g h:UInt8):valL [a,b,c,d,e,f,g,h]=wrap64 (horn a.toNat b.toNat c.toNat d.toNat e.toNat f.toNat g.toNat h.toNat):=by
 have h0:valL [a,b,c,d,e,f,g,h]=_:=fold8 valStep a b c d e f g h
 have s1:valStep 0 a=wrap64 a.toNat:=by rw [valStep_eq,Int.zero_mul,Int.zero_add]
 rw [h0,horn_eq];exact step_of (step_of (step_of (step_of (step_of (step_of (step_of s1 b) c) d) e) f) g) h
theorem h_div (x c:Int) (h0:0<=c) (h1:c<256):(x*256+c) / 256=x:=by omega
theorem h_mod (x c:Int) (h0:0<=c) (h1:c<256):(x*256+c) % 256=c:=by omega
theorem w0 (v:Int):wrap64 v % 256=v % 256:=by unfold wrap64;omega
theorem w1 (v:Int):wrap64 v / 256 % 256=v / 256 % 256:=by unfold wrap64;omega
theorem p2 (v:Int):v / 65536=v / 256 / 256:=(Int.ediv_ediv_of_nonneg (x:=v) (y:=256) (z:=256) (by decide)).symm
theorem p3 (v:Int):v / 16777216=v / 65536 / 256:=(Int.ediv_ediv_of_nonneg (x:=v) (y:=65536) (z:=256) (by decide)).symm
theorem p4 (v:Int):v / 4294967296=v / 16777216 / 256:=(Int.ediv_ediv_of_nonneg (x:=v) (y:=16777216) (z:=256) (by decide)).symm
theorem p5 (v:Int):v / 1099511627776=v / 4294967296 / 256:=(Int.ediv_ediv_of_nonneg (x:=v) (y:=4294967296) (z:=256) (by decide)).symm
theorem p6 (v:Int):v / 281474976710656=v / 1099511627776 / 256:=(Int.ediv_ediv_of_nonneg (x:=v) (y:=1099511627776) (z:=256) (by decide)).symm
theorem p7 (v:Int):v / 72057594037927936=v / 281474976710656 / 256:=(Int.ediv_ediv_of_nonneg (x:=v) (y:=281474976710656) (z:=256) (by decide)).symm
theorem w2 (v:Int):wrap64 v / 65536 % 256=v / 256 / 256 % 256:=by
 have h:wrap64 v / 65536 % 256=v / 65536 % 256:=by unfold wrap64;omega
 rw [h,p2]
theorem w3 (v:Int):wrap64 v / 16777216 % 256=v / 256 / 256 / 256 % 256:=by
 have h:wrap64 v / 16777216 % 256=v / 16777216 % 256:=by unfold wrap64;omega
 rw [h,p3,p2]
theorem w4 (v:Int):wrap64 v / 4294967296 % 256=v / 256 / 256 / 256 / 256 % 256:=by
 have h:wrap64 v / 4294967296 % 256=v / 4294967296 % 256:=by unfold wrap64;omega
 rw [h,p4,p3,p2]
theorem w5 (v:Int):wrap64 v / 1099511627776 % 256=v / 256 / 256 / 256 / 256 / 256 % 256:=by
 have h:wrap64 v / 1099511627776 % 256=v / 1099511627776 % 256:=by unfold wrap64;omega
 rw [h,p5,p4,p3,p2]
theorem w6 (v:Int):wrap64 v / 281474976710656 % 256=v / 256 / 256 / 256 / 256 / 256 / 256 % 256:=by
 have h:wrap64 v / 281474976710656 % 256=v / 281474976710656 % 256:=by unfold wrap64;omega
 rw [h,p6,p5,p4,p3,p2]
theorem w7 (v:Int):wrap64 v / 72057594037927936 % 256=v / 256 / 256 / 256 / 256 / 256 / 256 / 256 % 256:=by
 have h:wrap64 v / 72057594037927936 % 256=v / 72057594037927936 % 256:=by unfold wrap64;omega
 rw [h,p7,p6,p5,p4,p3,p2]
theorem eight {x:List UInt8} (h:x.length=8):∃ a b c d e f g i,x=[a,b,c,d,e,f,g,i]:=by
 match x,h with
 | [a,b,c,d,e,f,g,i],_=>exact ⟨a,b,c,d,e,f,g,i,rfl⟩
theorem u8_in (c:UInt8):0<=(c.toNat:Int)/\(c.toNat:Int)<256:=by have:=c.toNat_lt;omega
theorem numB_valL {x:List UInt8} (hx:x.length=8):numB (valL x)=x:=by
 obtain ⟨a,b,c,d,e,f,g,h,rfl⟩:=eight hx;rw [valL_eight]
 have da:=u8_in a;have db:=u8_in b;have dc:=u8_in c;have dd:=u8_in d
 have de:=u8_in e;have df:=u8_in f;have dg:=u8_in g;have dh:=u8_in h
 unfold numB
 rw [byteOf_of a _ (by rw [w7];rw [horn_eq,h_div _ _ dh.1 dh.2,h_div _ _ dg.1 dg.2,h_div _ _ df.1 df.2,h_div _ _ de.1 de.2,h_div _ _ dd.1 dd.2,h_div _ _ dc.1 dc.2,h_div _ _ db.1 db.2];omega),
  byteOf_of b _ (by rw [w6];rw [horn_eq,h_div _ _ dh.1 dh.2,h_div _ _ dg.1 dg.2,h_div _ _ df.1 df.2,h_div _ _ de.1 de.2,h_div _ _ dd.1 dd.2,h_div _ _ dc.1 dc.2,h_mod _ _ db.1 db.2]),
  byteOf_of c _ (by rw [w5];rw [horn_eq,h_div _ _ dh.1 dh.2,h_div _ _ dg.1 dg.2,h_div _ _ df.1 df.2,h_div _ _ de.1 de.2,h_div _ _ dd.1 dd.2,h_mod _ _ dc.1 dc.2]),
  byteOf_of d _ (by rw [w4];rw [horn_eq,h_div _ _ dh.1 dh.2,h_div _ _ dg.1 dg.2,h_div _ _ df.1 df.2,h_div _ _ de.1 de.2,h_mod _ _ dd.1 dd.2]),
  byteOf_of e _ (by rw [w3];rw [horn_eq,h_div _ _ dh.1 dh.2,h_div _ _ dg.1 dg.2,h_div _ _ df.1 df.2,h_mod _ _ de.1 de.2]),
  byteOf_of f _ (by rw [w2];rw [horn_eq,h_div _ _ dh.1 dh.2,h_div _ _ dg.1 dg.2,h_mod _ _ df.1 df.2]),
  byteOf_of g _ (by rw [w1];rw [horn_eq,h_div _ _ dh.1 dh.2,h_mod _ _ dg.1 dg.2]),
  byteOf_of h _ (by rw [w0];rw [horn_eq,h_mod _ _ dh.1 dh.2])]
end Fx
end Go.Proofs.YtndkhgakfodldaaGreatDoor

namespace Go.Proofs.YtndkhgakfodldaaGreatDoor
set_option maxRecDepth 100000
namespace Fx
open Go.RowKit
end Fx
end Go.Proofs.YtndkhgakfodldaaGreatDoor

namespace Go.Proofs.YtndkhgakfodldaaGreatDoor
set_option maxRecDepth 100000
namespace Fx
open Go.RowKit
theorem pByte_cons (c:UInt8) (r:List UInt8):pByte (c :: r)=some ((c.toNat:Int),r):=by
 unfold pByte pTake;rw [if_neg (by simp)]
 rfl
theorem byteOf_nat8 (c:UInt8):byteOf (c.toNat:Int)=c:=byteOf_of c _ (by have:=c.toNat_lt;omega)
theorem pByte_back {l r:List UInt8} {n:Int} (h:pByte l=some (n,r)):l=byteOf n :: r:=by
 cases l with
 | nil=>cases h
 | cons c l=>rw [pByte_cons] at h;cases h;rw [byteOf_nat8]
theorem pText_back {l x r:List UInt8} (h:pText l=some (x,r)):l=textB (strOf x)++r:=by
 unfold pText at h
 cases hb:pByte l with
 | none=>rw [hb] at h;cases h
 | some q=>
   obtain ⟨n,l1⟩:=q;rw [hb] at h;obtain ⟨h0,h1,_⟩:=pByte_lo hb;obtain ⟨h2,h3⟩:=pTake_len (show pTake n.toNat l1=some (x,r) from h);rw [pByte_back hb,h3];unfold textB;rw [strOf_size,strOf_list,h2,Int.toNat_of_nonneg h0]
   rfl
theorem pNum_back {l r:List UInt8} {n:Int} (h:pNum l=some (n,r)):l=numB n++r:=by
 unfold pNum at h
 cases hb:pTake 8 l with
 | none=>rw [hb] at h;cases h
 | some q=>
   obtain ⟨x,y⟩:=q;rw [hb] at h;cases h;obtain ⟨h2,h3⟩:=pTake_len hb;show l=numB (valL x)++y;rw [numB_valL h2];exact h3
end Fx
end Go.Proofs.YtndkhgakfodldaaGreatDoor
