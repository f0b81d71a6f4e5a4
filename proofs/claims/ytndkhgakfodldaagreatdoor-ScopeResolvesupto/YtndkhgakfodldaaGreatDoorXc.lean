import Derived.Test.YtndkhgakfodldaaGreatDoorXa
import Derived.Deep.AppendLies
namespace Go.Proofs.YtndkhgakfodldaaGreatDoor
set_option maxRecDepth 100000
set_option maxHeartbeats 800000
namespace Fx
open Go.RowKit Go.Shelf Go.Maps
theorem z1y:(Tryz.prog.info? 9).map (fun i=>(i.zero,i.size,i.bytes))=some (some (.string ⟨#[]⟩),1,16):=by kernel_rfl
def strs (l:List It):List Value:=l.map (fun i=>.string i.name)
theorem zki (l:List It) (i:It):strs l++[.string i.name]=strs (l++[i]):=by simp [strs]
theorem zhu {α:Type} (l:List α) (k:Nat) (h:k<l.length):l.take (k+1)=l.take k++[l[k]]:=vag h
theorem zrz {α:Type} (l:List α):l.take l.length=l:=vaq (vaa _)
theorem ownsRow_later {W W':World} {B:Nat} {e:TypeId} {size:Nat} {v:Value} {n:Nat} {xs:List Value} (h:W.ownsRow B e size v n xs) (hb:Below W.heap.size W W'):W'.ownsRow B e size v n xs:=by
 refine ⟨h.1,?_⟩
 rcases h.2 with h1 | ⟨g,cap,cur,hv,hB,hg,hr⟩
 . exact Or.inl h1
 . have hlt:g<W.heap.size:=by
    rcases vbk g W.heap.size with h' | h'
    . exact h'
    . simp [vco h'] at hg
   exact Or.inr ⟨g,cap,cur,hv,hB,(hb.block g hlt).trans hg,hr⟩
theorem zkj {w:World} {x:Value} {t:TypeId} {n:Nat} (hn:n=w.heap.size):∀ j u,[x][j]? = some u->(w.alloc (.cells #[x] t)).cell? ((⟨n,0,none⟩:Addr).add j)=some u:=by
 subst hn;exact cell_one_new _ _ _
theorem zhv (a:OA) (cap:Nat) (l:List It) (w:World) (hT:zbp w a l) (hl:l.length<=1000000) :
 Calls Tryz.prog 60 #[.slice a l.length cap] w fun e w'=>∃ v,e = .returned v/\w'.ownsRow w.heap.size 9 1 v l.length (strs l)/\Below w.heap.size w w':=by
 obtain ⟨i0,hi,hz0,hz1,hz2⟩:=info_parts z1y;have HT:=hid hT;clear hT;go_enter Tryz.func60,Tryz.ntmps60;go_wp2_with fail
 go_loopw [3,5,8] (fun v _ i wr=>∃ k:Nat,k<=l.length/\i = .int .i64 k/\wr.ownsRow w.heap.size 9 1 v k (strs (l.take k))/\Below w.heap.size w wr) (fun _ _ i _=>l.length - (intOf i).toNat)
 case atStart=>exact ⟨0,vad _,rfl,veg _ _ _ _,Below.refl _ _⟩
 case round=>
  obtain ⟨k,hk,rfl,hown,hb⟩:=hrel;have HO:=hid hown;have HB:=hid hb
  by_cases hlt:k<l.length
  . obtain ⟨b,off,rfl,hbl,c0,c1,c2,c3⟩:=(HT.out.later hb).place hlt
    have HS:Hid (strs (l.take k)++[.string l[k].name]=strs (l.take (k+1))):=by rw [zhu l k hlt];exact zki _ _
    clear hown hb
    go_wp2_with (at_builtin;refine wpList_append_lies _ rfl _ _ _ rfl w.heap.size 9 i0 _ 1 16 Tryz.underlying22 hi hz0 hz1 hz2 rfl (by omega) _ k (strs (l.take k)) rfl (ownsRow_later HO.out (((Below.refl _ _).alloc (vaa _) _).alloc (by simp) _)) ⟨_,0,none⟩ 1 1 [.string l[k].name] rfl rfl (zkj (by simp)) (by simp;rfl) (by omega) (by unfold maxLen;omega) (by omega) (by have:=HB.out.size;simp;omega) _ rfl ?_;intro q2 cap2 w1 hown1 hg hat hlt2;have HO1:=hid hown1;have HG:=hid hg;clear hown1 hg hat)
    go_roundw
    case rel=>exact ⟨k+1,by omega,by go_num,by rw [← HS.out];exact HO1.out,((HB.out.alloc HB.out.size _).alloc (by have:=HB.out.size;simp;omega) _).grown HG.out (by have:=HB.out.size;simp;omega) (fun j hj=>(HO.out.lt j hj).1)⟩
    case measure=>simp [intOf];omega
  . obtain rfl:k=l.length:=by omega
    clear hown hb;go_wp2_with fail;go_ret;exact ⟨_,rfl,by have:=HO.out;rw [zrz] at this;exact this,HB.out⟩
end Fx
set_option maxHeartbeats 1600000
namespace Fx
open Go.RowKit Go.Shelf Go.WideMaps Go.Maps
theorem law:Keyed Tryz.prog 9:=string_keyed Tryz.underlying9
theorem z2m (w:World):(zeroValue 3).run Tryz.prog w = .ok (.int .i64 0) w:=by kernel_rfl
structure MapInv (D:DataW Unit) (l:List (L8)):Prop where
 has:∀ s,Maps.has D (.string s)=decide (s ∈ l)
 size:Maps.size D=(zhd l).length
theorem ztj:MapInv (.map []) []:=⟨fun s=>by simp [Maps.has],rfl⟩
theorem MapInv.put {D:DataW Unit} {l:List (L8)} (h:MapInv D l) (ht:Tidy D) (hm:IsMap D) (s:L8) (d:DataW Unit):MapInv (D.put (.string s) d) (l++[s]):=by
 constructor
 . intro x
   by_cases e:x=s
   . subst e
     rw [has_put_same hm (by simp [WideAt.IsKeyLit])];simp
   . rw [has_put_other (by simpa using e),h.has]
     exact decide_eq_decide.2 (by simp [e])
 . rw [size_put ht,h.has,zfw,h.size]
   by_cases e:s ∈ l
   . rw [decide_eq_true e,if_pos rfl,if_pos ((zhe s l).2 e)]
   . rw [decide_eq_false e,if_neg (by simp),if_neg (fun k=>e ((zhe s l).1 k))]
     simp
def zd2 (w:World) (a:OA) (l:List ByteArray):Prop:=l=[]\/∃ b off,a=some ⟨b,off,none⟩/\b<w.heap.size/\∀ i (h:i<l.length),w.cell? ⟨b,off+i,none⟩=some (.string l[i])
theorem zd2.later {w w':World} {a:OA} {l:List ByteArray} (h:zd2 w a l) (hb:Below w.heap.size w w'):zd2 w' a l:=by
 rcases h with h | ⟨b,off,e,hl,h⟩
 . exact Or.inl h
 . exact Or.inr ⟨b,off,e,vai hl hb.size,fun i hi=>(hb.cell (p:=⟨b,off+i,none⟩) hl).trans (h i hi)⟩
theorem zd2.place {w:World} {a:OA} {l:List ByteArray} (h:zd2 w a l) {k:Nat} (hk:k<l.length):∃ b off,a=some ⟨b,off,none⟩/\b<w.heap.size/\w.cell? ⟨b,off+k,none⟩=some (.string l[k]):=by
 rcases h with h | ⟨b,off,e,hl,h⟩
 . subst h;simp at hk
 . exact ⟨b,off,e,hl,h k hk⟩
def zbk (l:List ByteArray):List (L8):=l.map (·.data.toList)
theorem ztk (l:List ByteArray) (s:ByteArray):zbk (l++[s])=zbk l++[s.data.toList]:=vbr ..
theorem zfb (a:OA) (cap:Nat) (l:List ByteArray) (w:World) (hT:zd2 w a l) (hl:l.length<=1000000) (hs:∀ s ∈ l,s.size<=maxLen) :
 Calls Tryz.prog 59 #[.slice a l.length cap] w fun e w'=>e = .returned (.bool (zd9 (zbk l)))/\Below w.heap.size w w':=by
 have hmm:=@run_makeMap Tryz.prog;have HT:=hid hT;have HL:=hid hs;clear hT hs;go_enter Tryz.func59,Tryz.ntmps59;go_wp2_with fail
 go_loopw [5,9] (fun _ i wr=>∃ (k:Nat) (D:DataW Unit),k<=l.length/\i = .int .i64 k/\wr.ownsMap Tryz.prog 9 (plainElem Tryz.prog 3) w.heap.size k D/\MapInv D (zbk (l.take k))/\Below w.heap.size w wr) (fun _ i _=>l.length - (intOf i).toNat)
 case atStart=>exact ⟨0,.map [],vad _,rfl,veh _ _ _ _,ztj,(Below.refl _ _).alloc (vaa _) _⟩
 case round=>
  obtain ⟨k,D,hk,rfl,hown,hinv,hb⟩:=hrel;have HI:=hid hinv
  by_cases hlt:k<l.length
  . obtain ⟨b,off,e,hbl,c0⟩:=HT.out.place hlt
    subst e;have hc:=(hb.cell (p:=⟨b,off+k,none⟩) hbl).trans c0;have hbr:b<wr.heap.size:=vai hbl hb.size
    have HK:Hid (zbk (l.take k)++[l[k].data.toList]=zbk (l.take (k+1))):=by
     show zbk (l.take k)++[l[k].data.toList]=zbk (l.take (k+1));rw [zhu l k hlt,ztk]
    have hkey:keyOf Tryz.prog 9 (.string l[k])=some (.string l[k].data.toList):=keyOf_string_mk Tryz.underlying9 (HL.out _ (vah _));have HKey:=hid hkey;have HO:=hid hown;have HB:=hid hb;clear hkey hown hb hinv c0;generalize l[k]=s at *
    go_wp2_with (first
     | (at_lookup;refine wpList_lookup_own_int _ rfl _ _ 185 rfl 9 3 .i64 law Tryz.underlying185 Tryz.underlying3 (z2m _) w.heap.size k D rfl HO.out _ _ rfl HKey.out ?_;intro c hat hwc;clear hat hwc)
     | (at_mapUpdate;refine wpList_mapUpdate_own _ rfl _ _ _ 185 rfl 9 3 law Tryz.underlying185 _ w.heap.size k D rfl HO.out (by unfold maxLen;omega) _ _ _ rfl rfl HKey.out _ [] (plainElem_int Tryz.underlying3 (wrap64_wf _)) ?_;intro w1 hown1 hgrow1;have HO1:=hid hown1;have HG:=hid hgrow1;clear hown1 hgrow1))
    go_roundw
    case rel=>exact ⟨k+1,_,by omega,by go_num,HO1.out,by rw [← HK.out];exact HI.out.put (HO.out.tidy law) HO.out.isMap _ _,HB.out.grown HG.out HB.out.size (fun j hj=>by cases hj;exact vaa _)⟩
    case measure=>simp [intOf];omega
  . have HE:Hid (Maps.size D=(zhd (zbk l)).length):=by
     have:=HI.out.size;rw [vaq (by omega)] at this;exact this
    have HLn:Hid ((zbk l).length=l.length):=by show (zbk l).length=_;simp [zbk]
    have HO:=hid hown;have HB:=hid hb;clear hinv hown hb HI
    go_wp2_with (at_len;refine wpList_len_own _ rfl _ _ rfl 9 3 Tryz.underlying185 _ w.heap.size k D rfl HO.out ?_)
    go_ret;exact ⟨zab (by unfold zd9;rw [← HE.out,HLn.out]),HB.out⟩
theorem zi7 {w:World} {B:Nat} {v:Value} {l:List It} (h:w.ownsRow B 9 1 v l.length (strs l)):∃ a cap,v = .slice a (l.map (·.name)).length cap/\zd2 w a (l.map (·.name)):=by
 rcases h.2 with ⟨hv,h0⟩ | ⟨g,cap,cur,hv,hB,hg,_⟩
 . have hl:l=[]:=vaj h0
   exact ⟨none,0,by rw [hv,hl];rfl,Or.inl (by rw [hl];rfl)⟩
 . refine ⟨_,cap,by rw [hv,vbm],Or.inr ⟨g,0,rfl,?_,fun i hi=>?_⟩⟩
   . rcases vbk g w.heap.size with h' | h'
     . exact h'
     . simp [vco h'] at hg
   . have hi':i<l.length:=by simpa using hi
     have:=h.cells (g:=g) (by rw [hv];rfl) i (.string l[i].name) (by simp [strs,hi']);rw [show (⟨g,0,none⟩:Addr).add i=⟨g,i,none⟩ from by unfold Addr.add;split<;>simp_all] at this;rw [vbc,List.getElem_map];exact this
theorem zfc (l:List It):zbk (l.map (·.name))=zbs l:=by simp [zbk,zbs]
theorem all_snoc {α:Type} (ts:List α) (p:α->Bool) (k:Nat) (h:k<ts.length):(ts.take (k+1)).all p=((ts.take k).all p&&p ts[k]):=by
 rw [vag h,vaw];simp
theorem all_not {α:Type} (ts:List α) (p:α->Bool) (k:Nat) (h:k<ts.length) (hp:p ts[k]=false):ts.all p=false:=by
 rw [vde];exact ⟨ts[k],vah _,by simp [hp]⟩
theorem zgd (f:Fc) (a:OA) (cap:Nat) (w:World) (hT:zbp w a f.items) (hl:f.items.length<=1000000000000000) (hs:f.name.size<=maxLen) (hf:AllFit f.items) :
 Calls Tryz.prog 19 #[.agg #[.string f.name,.slice a f.items.length cap]] w fun e w'=>e = .returned (.int .i64 (zey f))/\Below w.heap.size w w':=by
 obtain ⟨nm,l⟩:=f;simp only at *;have HB0:Hid (Below w.heap.size w (w.alloc (.cells #[.string nm,.slice a l.length cap] 30))):=(Below.refl _ _).alloc (vaa _) _
 by_cases h16:16<l.length
 . have HR:Hid (zey ⟨nm,l⟩=2):=zrc h16
   go_enter Tryz.func19,Tryz.ntmps19;go_wp2_with fail;go_ret;exact ⟨zaq HR.out.symm,HB0.out⟩
 have HN:Hid (∀ W,Calls Tryz.prog 58 #[.string nm] W fun e w'=>e = .returned (.bool (nameOk nm))/\Below W.heap.size W w'):=fun W=>zdg nm W hs
 have HI:Hid (∀ W,Below w.heap.size w W->Calls Tryz.prog 60 #[.slice a l.length cap] W fun e w'=>∃ v,e = .returned v/\w'.ownsRow W.heap.size 9 1 v l.length (strs l)/\Below W.heap.size W w'):=fun W hb=>zhv a cap l W (hT.later hb) (by omega)
 have HD:Hid (∀ (W:World) (v:Value) (B:Nat),W.ownsRow B 9 1 v l.length (strs l)->Calls Tryz.prog 59 #[v] W fun e w'=>e = .returned (.bool (zd9 (zbs l)))/\Below W.heap.size W w'):=fun W v B ho=>by
  obtain ⟨a2,c2,rfl,hS⟩:=zi7 ho;rw [← zfc]
  exact zfb a2 c2 _ W hS (by rw [vbm];omega) (fun s h=>by
   obtain ⟨i,hi,rfl⟩:=vcg.1 h
   exact hf i hi)
 have HH:Hid (∀ (W:World) (k:Nat) (h:k<l.length),Calls Tryz.prog 61 #[.agg #[.int .i64 l[k].kind,.int .i64 l[k].n,.int .i64 l[k].at_,.string l[k].name]] W fun e w'=>e = .returned (.bool (za8 l[k]))/\Below W.heap.size W w'):=fun W k h=>zne l[k] W (hf _ (vah _))
 have HT:=hid hT;have H16:=hid h16;clear hT hf hs
 cases hn:nameOk nm with
 | false=>
   have HR:Hid (zey ⟨nm,l⟩=1):=zrd h16 hn;rw [hn] at HN;clear hn;go_enter Tryz.func19,Tryz.ntmps19;go_wp2_with fail;refine (HN.out _).mono ?_;rintro e w' ⟨rfl,hb⟩;have HB:=hid (bel hb);clear hb;go_wp2_with fail;go_ret;exact ⟨zaq HR.out.symm,HB.out⟩
 | true =>
   rw [hn] at HN;have HNm:=hid hn;clear hn
   cases hd:zd9 (zbs l) with
   | true=>
     have HR:Hid (zey ⟨nm,l⟩=1):=zvq h16 hd;rw [hd] at HD;clear hd;go_enter Tryz.func19,Tryz.ntmps19;go_wp2_with fail;refine (HN.out _).mono ?_;rintro e w1 ⟨rfl,hb⟩;have HB:=hid (bel hb);have e1:w1.cell? ⟨w.heap.size,1,none⟩=some (.slice a l.length cap):=(hb.cell (p:=⟨w.heap.size,1,none⟩) (by simp)).trans (by simp);clear hb;go_wp2_with fail;refine (HI.out _ HB.out).mono ?_;rintro e w2 ⟨v,rfl,ho,hb⟩;have HO:=hid ho;have HB2:=hid (HB.out.trans (hb.mono HB.out.size));clear hb ho;go_wp2_with fail;refine (HD.out _ _ _ HO.out).mono ?_;rintro e w3 ⟨rfl,hb⟩;have HB3:=hid (HB2.out.trans (hb.mono HB2.out.size));clear hb;go_wp2_with fail;go_ret;exact ⟨zaq HR.out.symm,HB3.out⟩
   | false=>
     have HDp:=hid hd;rw [hd] at HD;clear hd;go_enter Tryz.func19,Tryz.ntmps19;go_wp2_with fail;refine (HN.out _).mono ?_;rintro e w1 ⟨rfl,hb⟩;have HB:=hid (bel hb)
     have hz1:w.heap.size<w1.heap.size:=by have:=hb.size;simp at this;omega
     have e1:w1.cell? ⟨w.heap.size,1,none⟩=some (.slice a l.length cap):=(hb.cell (p:=⟨w.heap.size,1,none⟩) (by simp)).trans (by simp);clear hb;go_wp2_with fail;refine (HI.out _ HB.out).mono ?_;rintro e w2 ⟨v,rfl,ho,hb⟩;have HO:=hid ho;have HB2:=hid (HB.out.trans (hb.mono HB.out.size))
     have hz2:w.heap.size<w2.heap.size:=by have:=hb.size;omega
     have e2:w2.cell? ⟨w.heap.size,1,none⟩=some (.slice a l.length cap):=(hb.cell (p:=⟨w.heap.size,1,none⟩) hz1).trans e1;clear hb ho;go_wp2_with fail;refine (HD.out _ _ _ HO.out).mono ?_;rintro e w3 ⟨rfl,hb⟩;have HB3:=hid (HB2.out.trans (hb.mono HB2.out.size));have e3:w3.cell? ⟨w.heap.size,1,none⟩=some (.slice a l.length cap):=(hb.cell (p:=⟨w.heap.size,1,none⟩) hz2).trans e2;clear hb e1 e2;go_wp2_with fail
     go_loopw [4,22] (fun _ i wr=>∃ k:Nat,k<=l.length/\i = .int .i64 k/\(l.take k).all za8=true/\Below w.heap.size w wr) (fun _ i _=>l.length - (intOf i).toNat)
     case atStart=>exact ⟨0,vad _,rfl,rfl,HB3.out⟩
     case round=>
      obtain ⟨k,hk,rfl,hall,hb⟩:=hrel;have HA:=hid hall;have HBr:=hid hb;clear hall
      by_cases hlt:k<l.length
      . obtain ⟨b,off,rfl,hbl,c0,c1,c2,c3⟩:=(HT.out.later hb).place hlt
        have HS:=hid (all_snoc l za8 k hlt);have HHk:=hid (fun W=>HH.out W k hlt);clear hb
        cases hok:za8 l[k] with
        | true=>
          have HS':Hid ((l.take (k+1)).all za8=true):=by show (l.take (k+1)).all za8=true;rw [HS.out,HA.out,hok];rfl
          rw [hok] at HHk;clear hok HS;generalize l[k]=it at *
          go_wp2_with (go_at_call 61;refine (HHk.out _).mono ?_;rintro e w4 ⟨rfl,hb4⟩)
          go_roundw
          case rel=>exact ⟨k+1,by omega,by go_num,HS'.out,(HBr.out.alloc HBr.out.size _).trans (hb4.mono (by have:=HBr.out.size;simp;omega))⟩
          case measure=>simp [intOf];omega
        | false=>
          have HR:Hid (zey ⟨nm,l⟩=1):=zd6 H16.out (all_not l za8 k hlt hok);rw [hok] at HHk;clear hok HS;generalize l[k]=it at *
          go_wp2_with (go_at_call 61;refine (HHk.out _).mono ?_;rintro e w4 ⟨rfl,hb4⟩)
          go_ret;exact ⟨zaq HR.out.symm,(HBr.out.alloc HBr.out.size _).trans (hb4.mono (by have:=HBr.out.size;simp;omega))⟩
      . have HR:Hid (zey ⟨nm,l⟩=0):=zy4 H16.out HNm.out HDp.out (by have:=HA.out;rw [vaq (by omega)] at this;exact this)
        go_wp2_with fail;go_ret;exact ⟨zaq HR.out.symm,HBr.out⟩
end Fx
end Go.Proofs.YtndkhgakfodldaaGreatDoor
