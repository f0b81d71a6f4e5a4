import Derived.Test.YtndkhgakfodldaaGreatDoorXa
import Derived.Deep.AppendLies
namespace Go.Proofs.YtndkhgakfodldaaGreatDoor
set_option maxRecDepth 100000
set_option maxHeartbeats 800000
namespace Fx
open Go.RowKit Go.Shelf Go.Maps
theorem yat:(Tryz.prog.info? 9).map (fun i=>(i.zero,i.size,i.bytes))=some (some (.string ⟨#[]⟩),1,16):=by kernel_rfl
def zyc (l:List It):List Value:=l.map (fun i=>.string i.name)
theorem z1x (l:List It) (i:It):zyc l++[.string i.name]=zyc (l++[i]):=by simp [zyc]
theorem zc6 {α:Type} (l:List α) (n:α):(l++[n]).length=l.length+1:=by simp
theorem zm6 {α:Type} (l:List α) (k:Nat) (h:k<l.length):l.take (k+1)=l.take k++[l[k]]:=vag h
theorem z4w {α:Type} (l:List α):l.take l.length=l:=vav (vaa _)
theorem ownsRow_later {W W':World} {B:Nat} {e:TypeId} {size:Nat} {v:Value} {n:Nat} {xs:List Value} (h:W.ownsRow B e size v n xs) (hb:Below W.heap.size W W'):W'.ownsRow B e size v n xs:=by
 refine ⟨h.1,?_⟩
 rcases h.2 with h1 | ⟨g,cap,cur,hv,hB,hg,hr⟩
 . exact Or.inl h1
 . have hlt:g<W.heap.size:=by
    rcases vbj g W.heap.size with h' | h'
    . exact h'
    . simp [vbf h'] at hg
   exact Or.inr ⟨g,cap,cur,hv,hB,(hb.block g hlt).trans hg,hr⟩
theorem zby {w:World} {x:Value} {t:TypeId} {n:Nat} (hn:n=w.heap.size):∀ j u,[x][j]? = some u->(w.alloc (.cells #[x] t)).cell? ((⟨n,0,none⟩:Addr).add j)=some u:=by
 subst hn;exact cell_one_new _ _ _
theorem zjr (a:OA) (cap:Nat) (l:List It) (w:World) (hT:zdf w a l) (hl:l.length<=1000000) :
 Calls Tryz.prog 60 #[.slice a l.length cap] w fun e w'=>∃ v,e = .returned v/\w'.ownsRow w.heap.size 9 1 v l.length (zyc l)/\Below w.heap.size w w':=by
 obtain ⟨i0,hi,hz0,hz1,hz2⟩:=info_parts yat;have HT:=hid hT;clear hT;go_enter Tryz.func60,Tryz.ntmps60;go_wp2_with fail
 go_loopw [3,5,8] (fun v _ i wr=>∃ k:Nat,k<=l.length/\i = .int .i64 k/\wr.ownsRow w.heap.size 9 1 v k (zyc (l.take k))/\Below w.heap.size w wr) (fun _ _ i _=>l.length - (intOf i).toNat)
 case atStart=>exact ⟨0,vae _,rfl,ves _ _ _ _,Below.refl _ _⟩
 case round=>
  obtain ⟨k,hk,rfl,hown,hb⟩:=hrel;have HO:=hid hown;have HB:=hid hb
  by_cases hlt:k<l.length
  . obtain ⟨b,off,rfl,hbl,c0,c1,c2,c3⟩:=(HT.out.later hb).place hlt
    have HS:Hid (zyc (l.take k)++[.string l[k].name]=zyc (l.take (k+1))):=by rw [zm6 l k hlt];exact z1x _ _
    clear hown hb
    go_wp2_with (at_builtin;refine wpList_append_lies _ rfl _ _ _ rfl w.heap.size 9 i0 _ 1 16 Tryz.underlying22 hi hz0 hz1 hz2 rfl (by omega) _ k (zyc (l.take k)) rfl (ownsRow_later HO.out (((Below.refl _ _).alloc (vaa _) _).alloc (by simp) _)) ⟨_,0,none⟩ 1 1 [.string l[k].name] rfl rfl (zby (by simp)) (by simp;rfl) (by omega) (by unfold maxLen;omega) (by omega) (by have:=HB.out.size;simp;omega) _ rfl ?_;intro q2 cap2 w1 hown1 hg hat hlt2;have HO1:=hid hown1;have HG:=hid hg;clear hown1 hg hat)
    go_roundw
    case rel=>exact ⟨k+1,by omega,by go_num,by rw [← HS.out];exact HO1.out,((HB.out.alloc HB.out.size _).alloc (by have:=HB.out.size;simp;omega) _).grown HG.out (by have:=HB.out.size;simp;omega) (fun j hj=>(HO.out.lt j hj).1)⟩
    case measure=>simp [intOf];omega
  . obtain rfl:k=l.length:=by omega
    clear hown hb;go_wp2_with fail;go_ret;exact ⟨_,rfl,by have:=HO.out;rw [z4w] at this;exact this,HB.out⟩
end Fx
set_option maxHeartbeats 1600000
namespace Fx
open Go.RowKit Go.Shelf Go.WideMaps Go.Maps
theorem law:Keyed Tryz.prog 9:=string_keyed Tryz.underlying9
theorem yau (w:World):(zeroValue 3).run Tryz.prog w = .ok (.int .i64 0) w:=by kernel_rfl
structure MapInv (D:DataW Unit) (l:List (L8)):Prop where
 has:∀ s,Maps.has D (.string s)=decide (s ∈ l)
 size:Maps.size D=(zja l).length
theorem zyd:MapInv (.map []) []:=⟨fun s=>by simp [Maps.has],rfl⟩
theorem MapInv.put {D:DataW Unit} {l:List (L8)} (h:MapInv D l) (ht:Tidy D) (hm:IsMap D) (s:L8) (d:DataW Unit):MapInv (D.put (.string s) d) (l++[s]):=by
 constructor
 . intro x
   by_cases e:x=s
   . subst e
     rw [has_put_same hm (by simp [WideAt.IsKeyLit])];simp
   . rw [has_put_other (by simpa using e),h.has]
     exact decide_eq_decide.2 (by simp [e])
 . rw [size_put ht,h.has,zhl,h.size]
   by_cases e:s ∈ l
   . rw [decide_eq_true e,if_pos rfl,if_pos ((zjb s l).2 e)]
   . rw [decide_eq_false e,if_neg (by simp),if_neg (fun k=>e ((zjb s l).1 k))]
     simp
def zft (w:World) (a:OA) (l:List ByteArray):Prop:=l=[]\/∃ b off,a=some ⟨b,off,none⟩/\b<w.heap.size/\∀ i (h:i<l.length),w.cell? ⟨b,off+i,none⟩=some (.string l[i])
theorem zft.later {w w':World} {a:OA} {l:List ByteArray} (h:zft w a l) (hb:Below w.heap.size w w'):zft w' a l:=by
 rcases h with h | ⟨b,off,e,hl,h⟩
 . exact Or.inl h
 . exact Or.inr ⟨b,off,e,vah hl hb.size,fun i hi=>(hb.cell (p:=⟨b,off+i,none⟩) hl).trans (h i hi)⟩
theorem zft.place {w:World} {a:OA} {l:List ByteArray} (h:zft w a l) {k:Nat} (hk:k<l.length):∃ b off,a=some ⟨b,off,none⟩/\b<w.heap.size/\w.cell? ⟨b,off+k,none⟩=some (.string l[k]):=by
 rcases h with h | ⟨b,off,e,hl,h⟩
 . subst h;simp at hk
 . exact ⟨b,off,e,hl,h k hk⟩
def zbs (l:List ByteArray):List (L8):=l.map (·.data.toList)
theorem zye (l:List ByteArray) (s:ByteArray):zbs (l++[s])=zbs l++[s.data.toList]:=vdf ..
theorem zgr (a:OA) (cap:Nat) (l:List ByteArray) (w:World) (hT:zft w a l) (hl:l.length<=1000000) (hs:∀ s ∈ l,s.size<=maxLen) :
 Calls Tryz.prog 59 #[.slice a l.length cap] w fun e w'=>e = .returned (.bool (zgu (zbs l)))/\Below w.heap.size w w':=by
 have hmm:=@run_makeMap Tryz.prog;have HT:=hid hT;have HL:=hid hs;clear hT hs;go_enter Tryz.func59,Tryz.ntmps59;go_wp2_with fail
 go_loopw [5,9] (fun _ i wr=>∃ (k:Nat) (D:DataW Unit),k<=l.length/\i = .int .i64 k/\wr.ownsMap Tryz.prog 9 (plainElem Tryz.prog 3) w.heap.size k D/\MapInv D (zbs (l.take k))/\Below w.heap.size w wr) (fun _ i _=>l.length - (intOf i).toNat)
 case atStart=>exact ⟨0,.map [],vae _,rfl,vew _ _ _ _,zyd,(Below.refl _ _).alloc (vaa _) _⟩
 case round=>
  obtain ⟨k,D,hk,rfl,hown,hinv,hb⟩:=hrel;have HI:=hid hinv
  by_cases hlt:k<l.length
  . obtain ⟨b,off,e,hbl,c0⟩:=HT.out.place hlt
    subst e;have hc:=(hb.cell (p:=⟨b,off+k,none⟩) hbl).trans c0;have hbr:b<wr.heap.size:=vah hbl hb.size
    have HK:Hid (zbs (l.take k)++[l[k].data.toList]=zbs (l.take (k+1))):=by
     show zbs (l.take k)++[l[k].data.toList]=zbs (l.take (k+1));rw [zm6 l k hlt,zye]
    have hkey:keyOf Tryz.prog 9 (.string l[k])=some (.string l[k].data.toList):=keyOf_string_mk Tryz.underlying9 (HL.out _ (vap _));have HKey:=hid hkey;have HO:=hid hown;have HB:=hid hb;clear hkey hown hb hinv c0;generalize l[k]=s at *
    go_wp2_with (first
     | (at_lookup;refine wpList_lookup_own_int _ rfl _ _ 185 rfl 9 3 .i64 law Tryz.underlying185 Tryz.underlying3 (yau _) w.heap.size k D rfl HO.out _ _ rfl HKey.out ?_;intro c hat hwc;clear hat hwc)
     | (at_mapUpdate;refine wpList_mapUpdate_own _ rfl _ _ _ 185 rfl 9 3 law Tryz.underlying185 _ w.heap.size k D rfl HO.out (by unfold maxLen;omega) _ _ _ rfl rfl HKey.out _ [] (plainElem_int Tryz.underlying3 (wrap64_wf _)) ?_;intro w1 hown1 hgrow1;have HO1:=hid hown1;have HG:=hid hgrow1;clear hown1 hgrow1))
    go_roundw
    case rel=>exact ⟨k+1,_,by omega,by go_num,HO1.out,by rw [← HK.out];exact HI.out.put (HO.out.tidy law) HO.out.isMap _ _,HB.out.grown HG.out HB.out.size (fun j hj=>by cases hj;exact vaa _)⟩
    case measure=>simp [intOf];omega
  . have HE:Hid (Maps.size D=(zja (zbs l)).length):=by
     have:=HI.out.size;rw [vav (by omega)] at this;exact this
    have HLn:Hid ((zbs l).length=l.length):=by show (zbs l).length=_;simp [zbs]
    have HO:=hid hown;have HB:=hid hb;clear hinv hown hb HI
    go_wp2_with (at_len;refine wpList_len_own _ rfl _ _ rfl 9 3 Tryz.underlying185 _ w.heap.size k D rfl HO.out ?_)
    go_ret;exact ⟨zaa (by unfold zgu;rw [← HE.out,HLn.out]),HB.out⟩
theorem zw1 {w:World} {B:Nat} {v:Value} {l:List It} (h:w.ownsRow B 9 1 v l.length (zyc l)):∃ a cap,v = .slice a (l.map (·.name)).length cap/\zft w a (l.map (·.name)):=by
 rcases h.2 with ⟨hv,h0⟩ | ⟨g,cap,cur,hv,hB,hg,_⟩
 . have hl:l=[]:=vao h0
   exact ⟨none,0,by rw [hv,hl];rfl,Or.inl (by rw [hl];rfl)⟩
 . refine ⟨_,cap,by rw [hv,vdg],Or.inr ⟨g,0,rfl,?_,fun i hi=>?_⟩⟩
   . rcases vbj g w.heap.size with h' | h'
     . exact h'
     . simp [vbf h'] at hg
   . have hi':i<l.length:=by simpa using hi
     have:=h.cells (g:=g) (by rw [hv];rfl) i (.string l[i].name) (by simp [zyc,hi']);rw [show (⟨g,0,none⟩:Addr).add i=⟨g,i,none⟩ from by unfold Addr.add;split<;>simp_all] at this;rw [vbq,List.getElem_map];exact this
theorem zm7 (l:List It):zbs (l.map (·.name))=zfj l:=by simp [zbs,zfj]
theorem all_snoc {α:Type} (ts:List α) (p:α->Bool) (k:Nat) (h:k<ts.length):(ts.take (k+1)).all p=((ts.take k).all p&&p ts[k]):=by
 rw [vag h,vch];simp
theorem all_not {α:Type} (ts:List α) (p:α->Bool) (k:Nat) (h:k<ts.length) (hp:p ts[k]=false):ts.all p=false:=by
 rw [vdo];exact ⟨ts[k],vap _,by simp [hp]⟩
theorem zn5 (f:Fc) (a:OA) (cap:Nat) (w:World) (hT:zdf w a f.items) (hl:f.items.length<=1000000000000000) (hs:f.name.size<=maxLen) (hf:AllFit f.items) :
 Calls Tryz.prog 19 #[.agg #[.string f.name,.slice a f.items.length cap]] w fun e w'=>e = .returned (.int .i64 (zng f))/\Below w.heap.size w w':=by
 obtain ⟨nm,l⟩:=f;simp only at *;have HB0:Hid (Below w.heap.size w (w.alloc (.cells #[.string nm,.slice a l.length cap] 30))):=(Below.refl _ _).alloc (vaa _) _
 by_cases h16:16<l.length
 . have HR:Hid (zng ⟨nm,l⟩=2):=z3t h16
   go_enter Tryz.func19,Tryz.ntmps19;go_wp2_with fail;go_ret;exact ⟨zbi HR.out.symm,HB0.out⟩
 have HN:Hid (∀ W,Calls Tryz.prog 58 #[.string nm] W fun e w'=>e = .returned (.bool (nameOk nm))/\Below W.heap.size W w'):=fun W=>zdx nm W hs
 have HI:Hid (∀ W,Below w.heap.size w W->Calls Tryz.prog 60 #[.slice a l.length cap] W fun e w'=>∃ v,e = .returned v/\w'.ownsRow W.heap.size 9 1 v l.length (zyc l)/\Below W.heap.size W w'):=fun W hb=>zjr a cap l W (hT.later hb) (by omega)
 have HD:Hid (∀ (W:World) (v:Value) (B:Nat),W.ownsRow B 9 1 v l.length (zyc l)->Calls Tryz.prog 59 #[v] W fun e w'=>e = .returned (.bool (zgu (zfj l)))/\Below W.heap.size W w'):=fun W v B ho=>by
  obtain ⟨a2,c2,rfl,hS⟩:=zw1 ho;rw [← zm7]
  exact zgr a2 c2 _ W hS (by rw [vdg];omega) (fun s h=>by
   obtain ⟨i,hi,rfl⟩:=vdp.1 h
   exact hf i hi)
 have HH:Hid (∀ (W:World) (k:Nat) (h:k<l.length),Calls Tryz.prog 61 #[.agg #[.int .i64 l[k].kind,.int .i64 l[k].n,.int .i64 l[k].at_,.string l[k].name]] W fun e w'=>e = .returned (.bool (zgt l[k]))/\Below W.heap.size W w'):=fun W k h=>zrf l[k] W (hf _ (vap _))
 have HT:=hid hT;have H16:=hid h16;clear hT hf hs
 cases hn:nameOk nm with
 | false=>
   have HR:Hid (zng ⟨nm,l⟩=1):=z3u h16 hn;rw [hn] at HN;clear hn;go_enter Tryz.func19,Tryz.ntmps19;go_wp2_with fail;refine (HN.out _).mono ?_;rintro e w' ⟨rfl,hb⟩;have HB:=hid (bel hb);clear hb;go_wp2_with fail;go_ret;exact ⟨zbi HR.out.symm,HB.out⟩
 | true =>
   rw [hn] at HN;have HNm:=hid hn;clear hn
   cases hd:zgu (zfj l) with
   | true=>
     have HR:Hid (zng ⟨nm,l⟩=1):=z6v h16 hd;rw [hd] at HD;clear hd;go_enter Tryz.func19,Tryz.ntmps19;go_wp2_with fail;refine (HN.out _).mono ?_;rintro e w1 ⟨rfl,hb⟩;have HB:=hid (bel hb);have e1:w1.cell? ⟨w.heap.size,1,none⟩=some (.slice a l.length cap):=(hb.cell (p:=⟨w.heap.size,1,none⟩) (by simp)).trans (by simp);clear hb;go_wp2_with fail;refine (HI.out _ HB.out).mono ?_;rintro e w2 ⟨v,rfl,ho,hb⟩;have HO:=hid ho;have HB2:=hid (HB.out.trans (hb.mono HB.out.size));clear hb ho;go_wp2_with fail;refine (HD.out _ _ _ HO.out).mono ?_;rintro e w3 ⟨rfl,hb⟩;have HB3:=hid (HB2.out.trans (hb.mono HB2.out.size));clear hb;go_wp2_with fail;go_ret;exact ⟨zbi HR.out.symm,HB3.out⟩
   | false=>
     have HDp:=hid hd;rw [hd] at HD;clear hd;go_enter Tryz.func19,Tryz.ntmps19;go_wp2_with fail;refine (HN.out _).mono ?_;rintro e w1 ⟨rfl,hb⟩;have HB:=hid (bel hb)
     have hz1:w.heap.size<w1.heap.size:=by have:=hb.size;simp at this;omega
     have e1:w1.cell? ⟨w.heap.size,1,none⟩=some (.slice a l.length cap):=(hb.cell (p:=⟨w.heap.size,1,none⟩) (by simp)).trans (by simp);clear hb;go_wp2_with fail;refine (HI.out _ HB.out).mono ?_;rintro e w2 ⟨v,rfl,ho,hb⟩;have HO:=hid ho;have HB2:=hid (HB.out.trans (hb.mono HB.out.size))
     have hz2:w.heap.size<w2.heap.size:=by have:=hb.size;omega
     have e2:w2.cell? ⟨w.heap.size,1,none⟩=some (.slice a l.length cap):=(hb.cell (p:=⟨w.heap.size,1,none⟩) hz1).trans e1;clear hb ho;go_wp2_with fail;refine (HD.out _ _ _ HO.out).mono ?_;rintro e w3 ⟨rfl,hb⟩;have HB3:=hid (HB2.out.trans (hb.mono HB2.out.size));have e3:w3.cell? ⟨w.heap.size,1,none⟩=some (.slice a l.length cap):=(hb.cell (p:=⟨w.heap.size,1,none⟩) hz2).trans e2;clear hb e1 e2;go_wp2_with fail
     go_loopw [4,22] (fun _ i wr=>∃ k:Nat,k<=l.length/\i = .int .i64 k/\(l.take k).all zgt=true/\Below w.heap.size w wr) (fun _ i _=>l.length - (intOf i).toNat)
     case atStart=>exact ⟨0,vae _,rfl,rfl,HB3.out⟩
     case round=>
      obtain ⟨k,hk,rfl,hall,hb⟩:=hrel;have HA:=hid hall;have HBr:=hid hb;clear hall
      by_cases hlt:k<l.length
      . obtain ⟨b,off,rfl,hbl,c0,c1,c2,c3⟩:=(HT.out.later hb).place hlt
        have HS:=hid (all_snoc l zgt k hlt);have HHk:=hid (fun W=>HH.out W k hlt);clear hb
        cases hok:zgt l[k] with
        | true=>
          have HS':Hid ((l.take (k+1)).all zgt=true):=by show (l.take (k+1)).all zgt=true;rw [HS.out,HA.out,hok];rfl
          rw [hok] at HHk;clear hok HS;generalize l[k]=it at *
          go_wp2_with (go_at_call 61;refine (HHk.out _).mono ?_;rintro e w4 ⟨rfl,hb4⟩)
          go_roundw
          case rel=>exact ⟨k+1,by omega,by go_num,HS'.out,(HBr.out.alloc HBr.out.size _).trans (hb4.mono (by have:=HBr.out.size;simp;omega))⟩
          case measure=>simp [intOf];omega
        | false=>
          have HR:Hid (zng ⟨nm,l⟩=1):=z3v H16.out (all_not l zgt k hlt hok);rw [hok] at HHk;clear hok HS;generalize l[k]=it at *
          go_wp2_with (go_at_call 61;refine (HHk.out _).mono ?_;rintro e w4 ⟨rfl,hb4⟩)
          go_ret;exact ⟨zbi HR.out.symm,(HBr.out.alloc HBr.out.size _).trans (hb4.mono (by have:=HBr.out.size;simp;omega))⟩
      . have HR:Hid (zng ⟨nm,l⟩=0):=z8r H16.out HNm.out HDp.out (by have:=HA.out;rw [vav (by omega)] at this;exact this)
        go_wp2_with fail;go_ret;exact ⟨zbi HR.out.symm,HBr.out⟩
end Fx
set_option maxHeartbeats 400000
namespace Fx
open Go.RowKit Go.Shelf
def strOf (l:L8):ByteArray:=⟨l.toArray⟩
theorem strOf_list (l:L8):(strOf l).data.toList=l:=by simp [strOf]
theorem strOf_back (s:ByteArray):strOf s.data.toList=s:=by simp [strOf]
theorem strOf_size (l:L8):(strOf l).size=l.length:=by simp [strOf,ByteArray.size]
theorem strOf_append (a b:L8):strOf a++strOf b=strOf (a++b):=by
 have h:(strOf a++strOf b).data.toList=a++b:=by simp [strOf]
 rw [← strOf_back (strOf a++strOf b),h]
theorem ret_str {a b:ByteArray} (h:a=b):Ending.returned (.string a) = .returned (.string b):=by rw [h]
def zal (n:Int):UInt8:=UInt8.ofNat (n % 256).toNat
theorem zgd (n:Int):((zal n).toNat:Int)=n % 256:=by
 have h0:0<=n % 256:=Int.emod_nonneg _ (by omega);have h1:n % 256<256:=Int.emod_lt_of_pos _ (by omega);unfold zal;rw [UInt8.toNat_ofNat'];omega
def zd7 (c:UInt8):Value:=.int .u8 c.toNat
def bytesV (l:L8):List Value:=l.map zd7
theorem zcq (l:L8):(bytesV l).length=l.length:=by simp [bytesV]
theorem zkh (a b:L8):bytesV (a++b)=bytesV a++bytesV b:=by simp [bytesV]
theorem zpj (s:ByteArray):Lib.strCells s=bytesV s.data.toList:=rfl
theorem zcr (n:Int):zd7 (zal n) = .int .u8 (n % 256):=by unfold zd7;rw [zgd]
def numB (n:Int):L8:=[zal (n / 72057594037927936),zal (n / 281474976710656),zal (n / 1099511627776),zal (n / 4294967296),zal (n / 16777216),zal (n / 65536),zal (n / 256),zal n]
def textB (s:ByteArray):L8:=zal s.size :: s.data.toList
theorem z1y:Tryz.prog.underlying 5=some (.int .u8):=Tryz.underlying5
theorem zrg (W:World) (b c:Nat) (l:L8) (h:∀ j (hj:j<l.length),W.cell? ⟨b,j,none⟩=some (.int .u8 (l[j].toNat:Int))):(convert 140 9 (.slice (some ⟨b,0,none⟩) l.length c)).run Tryz.prog W = .ok (.string (strOf l)) W:=
 run_convert_bytes_back W 140 9 5 ⟨b,0,none⟩ c l Tryz.underlying140 z1y Tryz.underlying9 (fun j hj=>by
  rw [show (⟨b,0,none⟩:Addr).add j=⟨b,j,none⟩ from by unfold Addr.add;split<;>simp_all]
  exact h j hj)
theorem z4x (W:World) (b c:Nat) (x:Int) (h:W.cell? ⟨b,0,none⟩=some (.int .u8 (x % 256))):(convert 140 9 (.slice (some ⟨b,0,none⟩) 1 c)).run Tryz.prog W = .ok (.string (strOf [zal x])) W:=by
 refine zrg W b c [zal x] (fun j hj=>?_)
 have:j=0:=by simpa using hj
 subst this;rw [h];exact congrArg some (zcr x).symm
theorem zjs (s:ByteArray) (w:World) (hs:s.size<=1000000000000000) :
 Calls Tryz.prog 134 #[.string s] w fun e w'=>e = .returned (.string (strOf (textB s)))/\Below w.heap.size w w':=by
 have hcv:=z4x (w.alloc (.cells #[.int .u8 ((s.size:Int) % 256)] 5)) w.heap.size 1 s.size (by simp)
 have HS:Hid (strOf [zal s.size]++s=strOf (textB s)):=by
  show strOf [zal s.size]++s=strOf (textB s)
  conv=>lhs;rw [← strOf_back s]
  rw [strOf_append]
  rfl
 have hln:¬ 9223372036854775807<(strOf [zal s.size]).size+s.size:=by rw [strOf_size];simp;omega
 go_enter Tryz.func134,Tryz.ntmps134;go_wp2_with fail;go_ret;exact ⟨ret_str HS.out,(Below.refl _ _).alloc (vaa _) _⟩
theorem zbj (n:Int) (w:World) :
 Calls Tryz.prog 135 #[.int .i64 n] w fun e w'=>e = .returned (.string (strOf (numB n)))/\Below w.heap.size w w':=by
 have hcv:(convert 140 9 (.slice (some ⟨w.heap.size,0,none⟩) 8 8)).run Tryz.prog (w.alloc (.cells #[.int .u8 (n / 72057594037927936 % 256),.int .u8 (n / 281474976710656 % 256),.int .u8 (n / 1099511627776 % 256),.int .u8 (n / 4294967296 % 256),.int .u8 (n / 16777216 % 256),.int .u8 (n / 65536 % 256),.int .u8 (n / 256 % 256),.int .u8 (n % 256)] 5)) = .ok (.string (strOf (numB n))) (w.alloc (.cells #[.int .u8 (n / 72057594037927936 % 256),.int .u8 (n / 281474976710656 % 256),.int .u8 (n / 1099511627776 % 256),.int .u8 (n / 4294967296 % 256),.int .u8 (n / 16777216 % 256),.int .u8 (n / 65536 % 256),.int .u8 (n / 256 % 256),.int .u8 (n % 256)] 5)):=by
  have e:(#[.int .u8 (n / 72057594037927936 % 256),.int .u8 (n / 281474976710656 % 256),.int .u8 (n / 1099511627776 % 256),.int .u8 (n / 4294967296 % 256),.int .u8 (n / 16777216 % 256),.int .u8 (n / 65536 % 256),.int .u8 (n / 256 % 256),.int .u8 (n % 256)]:Array Value)=(bytesV (numB n)).toArray:=by simp [bytesV,numB,zcr]
  rw [e];refine zrg _ w.heap.size 8 (numB n) (fun j hj=>?_);rw [veq (_root_.Go.heap_alloc_new w _)];simp [bytesV,zd7,hj]
 generalize hX:w.alloc (.cells #[.int .u8 (n / 72057594037927936 % 256),.int .u8 (n / 281474976710656 % 256),.int .u8 (n / 1099511627776 % 256),.int .u8 (n / 4294967296 % 256),.int .u8 (n / 16777216 % 256),.int .u8 (n / 65536 % 256),.int .u8 (n / 256 % 256),.int .u8 (n % 256)] 5)=X at hcv
 have HB:Hid (Below w.heap.size w X):=by rw [← hX];exact (Below.refl _ _).alloc (vaa _) _
 generalize numB n=nb at *;go_enter Tryz.func135,Tryz.ntmps135;go_wp2_with fail;go_ret;exact ⟨rfl,HB.out⟩
end Fx
set_option maxHeartbeats 3200000
namespace Fx
open Go.RowKit Go.Shelf
theorem z1z:(Tryz.prog.info? 5).map (fun i=>(i.zero,i.size,i.bytes))=some (some (.int .u8 0),1,1):=by kernel_rfl
def Row (B:Nat) (w:World) (v:Value) (l:L8):Prop:=w.ownsRow B 5 1 v l.length (bytesV l)
theorem Row.later {B:Nat} {w w':World} {v:Value} {l:L8} (h:Row B w v l) (hb:Below w.heap.size w w'):Row B w' v l:=ownsRow_later h hb
theorem Row.nil (B:Nat) (w:World):Row B w (.slice none 0 0) []:=ves _ _ _ _
theorem Row.lies {B:Nat} {w:World} {v:Value} {l:L8} (h:Row B w v l):∀ k,v.ownBlock=some k->B<=k/\k<w.heap.size:=fun k e=>h.lt k e
theorem Row.keep {B:Nat} {w w':World} {v:Value} {l:L8} (h:Row B w v l) (hg:w.grownBy w' v.ownBlock) {c:Nat} {cs:Array Value} {t:TypeId} {f:Nat × Nat} (ht:t≠5) (hc:w.heap[c]? = some (.cells cs t f)):w'.heap[c]? = some (.cells cs t f):=by
 have hlt:c<w.heap.size:=by
  rcases vbj c w.heap.size with h' | h'
  . exact h'
  . simp [vbf h'] at hc
 refine (hg.block c hlt (fun e=>?_)).trans hc
 rcases h.2 with ⟨hv,_⟩ | ⟨g,cap,cur,hv,_,hgg,_⟩
 . rw [hv] at e;cases e
 . rw [hv] at e
   have e':c=g:=by simpa [Value.ownBlock] using e
   subst e';rw [hgg] at hc;cases hc;exact ht rfl
theorem z85 (l:L8) (c:UInt8):bytesV l++[zd7 c]=bytesV (l++[c]):=by simp [bytesV]
theorem zcy {w w1 w2:World} {r r1:Option Nat} (h1:w.grownBy w1 r) (h2:w1.grownBy w2 r1) (hl:∀ k,r1=some k->k<w.heap.size->r=some k):w.grownBy w2 r:=
 ⟨h2.os.trans h1.os,h2.tape.trans h1.tape,h2.output.trans h1.output,vai h1.size h2.size,fun k hk hne=>(h2.block k (vah hk h1.size) (fun e=>hne (hl k e.symm hk).symm)).trans (h1.block k hk hne)⟩
theorem zdy {B:Nat} {w w1:World} {a:Value} {l:L8} {c:UInt8} {o:Obj} {q cap:Nat} (hown:w1.ownsRow B 5 1 (.slice (some ⟨q,0,none⟩) (l.length+1) cap) (l.length+1) (bytesV l++[zd7 c])) (hg:(w.alloc o).grownBy w1 a.ownBlock) (hat:a.ownBlock=some q\/q=w.heap.size+1) :
 Row B w1 (.slice (some ⟨q,0,none⟩) (l.length+1) cap) (l++[c])/\w.grownBy w1 a.ownBlock/\(∀ k,Value.ownBlock (.slice (some ⟨q,0,none⟩) (l.length+1) cap)=some k->k<w.heap.size->a.ownBlock=some k):=by
 refine ⟨?_,⟨hg.os,hg.tape,hg.output,vai (by simp) hg.size,fun k hk hne=>(hg.block k (by simp;omega) hne).trans (((Below.refl _ _).alloc (vaa _) o).block k hk)⟩,fun k e hk=>?_⟩
 . unfold Row
   rw [← z85,zc6];exact hown
 . have e':q=k:=by simpa [Value.ownBlock] using e
   subst e'
   rcases hat with h | h
   . exact h
   . omega
theorem zn6 (B:Nat) (v:Value) (l:L8) (s:ByteArray) (w:World) (h:Row B w v l) (hB:B<=w.heap.size) (hl:l.length<=1000000) (hs:s.size<=1000000) :
 Calls Tryz.prog 86 #[v,.string s] w fun e w'=>∃ v',e = .returned v'/\Row B w' v' (l++textB s)/\w.grownBy w' v.ownBlock:=by
 obtain ⟨i0,hi,hz0,hz1,hz2⟩:=info_parts z1z;have HR:=hid h;have HBV:Hid (zd7 (zal s.size) = .int .u8 ((s.size:Int) % 256)):=zcr _;clear h;go_enter Tryz.func86,Tryz.ntmps86
 go_wp2_with (first
  | (at_builtin;refine wpList_append_lies _ rfl _ _ _ rfl B 5 i0 _ 1 1 Tryz.underlying140 hi hz0 hz1 hz2 rfl (by omega) v l.length (bytesV l) rfl (HR.out.later ((Below.refl _ _).alloc (vaa _) _)) ⟨_,0,none⟩ 1 1 [zd7 (zal s.size)] rfl rfl (by rw [HBV.out];exact zby (by simp)) (by simp;rfl) (by omega) (by unfold maxLen;omega) (by omega) (by simp;omega) _ rfl ?_;intro q2 cap2 w1 hown1 hg hat hlt2;obtain ⟨k1,k2,k3⟩:=zdy (c:=zal s.size) hown1 hg (by simpa using hat);have K1:=hid k1;have K2:=hid k2;have K3:=hid k3;clear hown1 hg hat k1 k2 k3)
  | (at_builtin;refine Lib.wpList_append_own_string _ rfl _ _ _ _ rfl B 5 i0 Tryz.underlying140 Tryz.underlying9 hi hz0 hz1 hz2 _ (l++[zal s.size]).length (bytesV (l++[zal s.size])) rfl K1.out s rfl (by rw [zc6];unfold maxLen;omega) (by rw [zc6];omega) (by have:=K2.out.size;omega) ?_;intro v2 w2 hown2 hg2 _;have HO2:=hid hown2;have HG2:=hid hg2;clear hown2 hg2))
 go_returns
 refine ⟨_,rfl,?_,zcy K2.out HG2.out K3.out⟩
 have e:l++textB s=(l++[zal s.size])++s.data.toList:=by simp [textB]
 unfold Row;rw [e,zkh,← zpj,vab,Lx.zat];exact HO2.out
theorem zk4 (B:Nat) (v:Value) (l:L8) (n:Int) (w:World) (h:Row B w v l) (hB:B<=w.heap.size) (hl:l.length<=1000000) :
 Calls Tryz.prog 88 #[v,.int .i64 n] w fun e w'=>∃ v',e = .returned v'/\Row B w' v' (l++numB n)/\w.grownBy w' v.ownBlock:=by
 obtain ⟨i0,hi,hz0,hz1,hz2⟩:=info_parts z1z;have HR:=hid h;clear h;go_enter Tryz.func88,Tryz.ntmps88;go_wp2_with fail
 go_loopw [0,5] (fun u i wr=>∃ k:Nat,k<=8/\i = .int .i64 (56 - 8*k)/\Row B wr u (l++(numB n).take k)/\w.grownBy wr v.ownBlock/\(∀ j,u.ownBlock=some j->j<w.heap.size->v.ownBlock=some j)) (fun _ i _=>(intOf i+8).toNat)
 case atStart=>exact ⟨0,vae _,rfl,by rw [vcg,vbe];exact HR.out,⟨rfl,rfl,rfl,vaa _,fun _ _ _=>rfl⟩,fun j e _=>e⟩
 case round=>
  obtain ⟨k,hk,rfl,hrow,hgr,hli⟩:=hrel;have HRw:=hid hrow;have HGr:=hid hgr;have HLi:=hid hli;have hwr:w.heap.size<=wr.heap.size:=hgr.size;clear hrow hgr hli
  have hc:k=0\/k=1\/k=2\/k=3\/k=4\/k=5\/k=6\/k=7\/k=8:=by omega
  clear hk
  rcases hc with rfl | rfl | rfl | rfl | rfl | rfl | rfl | rfl | rfl
  . have HBV:Hid (zd7 (zal (n / 72057594037927936)) = .int .u8 (n / 72057594037927936 % 256)):=zcr _
    have HE:Hid (l++(numB n).take (0+1)=(l++(numB n).take 0)++[zal (n / 72057594037927936)]):=by
     show l++(numB n).take (0+1)=_;rw [show (numB n).take (0+1)=(numB n).take 0++[zal (n / 72057594037927936)] from rfl,vaq]
    have hlk:(l++(numB n).take 0).length=l.length:=by simp [numB]
    rw [show ((56:Int) - 8*((0:Nat):Int))=56 from by omega]
    go_wp2_with (at_builtin;refine wpList_append_lies _ rfl _ _ _ rfl B 5 i0 _ 1 1 Tryz.underlying140 hi hz0 hz1 hz2 rfl (by omega) _ (l++(numB n).take 0).length (bytesV (l++(numB n).take 0)) rfl (HRw.out.later ((Below.refl _ _).alloc (vaa _) _)) ⟨_,0,none⟩ 1 1 [zd7 (zal (n / 72057594037927936))] rfl rfl (by rw [HBV.out];exact zby (by simp)) (by simp;rfl) (by omega) (by rw [hlk];unfold maxLen;omega) (by rw [hlk];omega) (by simp;omega) _ rfl ?_;intro q2 cap2 w1 hown1 hg hat hlt2;obtain ⟨k1,k2,k3⟩:=zdy (c:=zal (n / 72057594037927936)) hown1 hg (by simpa using hat);have K1:=hid k1;have K2:=hid k2;have K3:=hid k3;clear hown1 hg hat k1 k2 k3)
    go_roundw
    case rel=>exact ⟨0+1,by omega,by first | rfl | (congr 1),by rw [HE.out];have:=K1.out;unfold Row at this ⊢;simp only [zc6,hlk] at this ⊢;exact this,zcy HGr.out K2.out HLi.out,fun j e hj=>HLi.out j (K3.out j e (by omega)) hj⟩
    case measure=>simp [intOf]
  . have HBV:Hid (zd7 (zal (n / 281474976710656)) = .int .u8 (n / 281474976710656 % 256)):=zcr _
    have HE:Hid (l++(numB n).take (1+1)=(l++(numB n).take 1)++[zal (n / 281474976710656)]):=by
     show l++(numB n).take (1+1)=_;rw [show (numB n).take (1+1)=(numB n).take 1++[zal (n / 281474976710656)] from rfl,vaq]
    have hlk:(l++(numB n).take 1).length=l.length+1:=by simp [numB]
    rw [show ((56:Int) - 8*((1:Nat):Int))=48 from by omega]
    go_wp2_with (at_builtin;refine wpList_append_lies _ rfl _ _ _ rfl B 5 i0 _ 1 1 Tryz.underlying140 hi hz0 hz1 hz2 rfl (by omega) _ (l++(numB n).take 1).length (bytesV (l++(numB n).take 1)) rfl (HRw.out.later ((Below.refl _ _).alloc (vaa _) _)) ⟨_,0,none⟩ 1 1 [zd7 (zal (n / 281474976710656))] rfl rfl (by rw [HBV.out];exact zby (by simp)) (by simp;rfl) (by omega) (by rw [hlk];unfold maxLen;omega) (by rw [hlk];omega) (by simp;omega) _ rfl ?_;intro q2 cap2 w1 hown1 hg hat hlt2;obtain ⟨k1,k2,k3⟩:=zdy (c:=zal (n / 281474976710656)) hown1 hg (by simpa using hat);have K1:=hid k1;have K2:=hid k2;have K3:=hid k3;clear hown1 hg hat k1 k2 k3)
    go_roundw
    case rel=>exact ⟨1+1,by omega,by first | rfl | (congr 1),by rw [HE.out];have:=K1.out;unfold Row at this ⊢;simp only [zc6,hlk] at this ⊢;exact this,zcy HGr.out K2.out HLi.out,fun j e hj=>HLi.out j (K3.out j e (by omega)) hj⟩
    case measure=>simp [intOf]
  . have HBV:Hid (zd7 (zal (n / 1099511627776)) = .int .u8 (n / 1099511627776 % 256)):=zcr _
    have HE:Hid (l++(numB n).take (2+1)=(l++(numB n).take 2)++[zal (n / 1099511627776)]):=by
     show l++(numB n).take (2+1)=_;rw [show (numB n).take (2+1)=(numB n).take 2++[zal (n / 1099511627776)] from rfl,vaq]
    have hlk:(l++(numB n).take 2).length=l.length+2:=by simp [numB]
    rw [show ((56:Int) - 8*((2:Nat):Int))=40 from by omega]
    go_wp2_with (at_builtin;refine wpList_append_lies _ rfl _ _ _ rfl B 5 i0 _ 1 1 Tryz.underlying140 hi hz0 hz1 hz2 rfl (by omega) _ (l++(numB n).take 2).length (bytesV (l++(numB n).take 2)) rfl (HRw.out.later ((Below.refl _ _).alloc (vaa _) _)) ⟨_,0,none⟩ 1 1 [zd7 (zal (n / 1099511627776))] rfl rfl (by rw [HBV.out];exact zby (by simp)) (by simp;rfl) (by omega) (by rw [hlk];unfold maxLen;omega) (by rw [hlk];omega) (by simp;omega) _ rfl ?_;intro q2 cap2 w1 hown1 hg hat hlt2;obtain ⟨k1,k2,k3⟩:=zdy (c:=zal (n / 1099511627776)) hown1 hg (by simpa using hat);have K1:=hid k1;have K2:=hid k2;have K3:=hid k3;clear hown1 hg hat k1 k2 k3)
    go_roundw
    case rel=>exact ⟨2+1,by omega,by first | rfl | (congr 1),by rw [HE.out];have:=K1.out;unfold Row at this ⊢;simp only [zc6,hlk] at this ⊢;exact this,zcy HGr.out K2.out HLi.out,fun j e hj=>HLi.out j (K3.out j e (by omega)) hj⟩
    case measure=>simp [intOf]
  . have HBV:Hid (zd7 (zal (n / 4294967296)) = .int .u8 (n / 4294967296 % 256)):=zcr _
    have HE:Hid (l++(numB n).take (3+1)=(l++(numB n).take 3)++[zal (n / 4294967296)]):=by
     show l++(numB n).take (3+1)=_;rw [show (numB n).take (3+1)=(numB n).take 3++[zal (n / 4294967296)] from rfl,vaq]
    have hlk:(l++(numB n).take 3).length=l.length+3:=by simp [numB]
    rw [show ((56:Int) - 8*((3:Nat):Int))=32 from by omega]
    go_wp2_with (at_builtin;refine wpList_append_lies _ rfl _ _ _ rfl B 5 i0 _ 1 1 Tryz.underlying140 hi hz0 hz1 hz2 rfl (by omega) _ (l++(numB n).take 3).length (bytesV (l++(numB n).take 3)) rfl (HRw.out.later ((Below.refl _ _).alloc (vaa _) _)) ⟨_,0,none⟩ 1 1 [zd7 (zal (n / 4294967296))] rfl rfl (by rw [HBV.out];exact zby (by simp)) (by simp;rfl) (by omega) (by rw [hlk];unfold maxLen;omega) (by rw [hlk];omega) (by simp;omega) _ rfl ?_;intro q2 cap2 w1 hown1 hg hat hlt2;obtain ⟨k1,k2,k3⟩:=zdy (c:=zal (n / 4294967296)) hown1 hg (by simpa using hat);have K1:=hid k1;have K2:=hid k2;have K3:=hid k3;clear hown1 hg hat k1 k2 k3)
    go_roundw
    case rel=>exact ⟨3+1,by omega,by first | rfl | (congr 1),by rw [HE.out];have:=K1.out;unfold Row at this ⊢;simp only [zc6,hlk] at this ⊢;exact this,zcy HGr.out K2.out HLi.out,fun j e hj=>HLi.out j (K3.out j e (by omega)) hj⟩
    case measure=>simp [intOf]
  . have HBV:Hid (zd7 (zal (n / 16777216)) = .int .u8 (n / 16777216 % 256)):=zcr _
    have HE:Hid (l++(numB n).take (4+1)=(l++(numB n).take 4)++[zal (n / 16777216)]):=by
     show l++(numB n).take (4+1)=_;rw [show (numB n).take (4+1)=(numB n).take 4++[zal (n / 16777216)] from rfl,vaq]
    have hlk:(l++(numB n).take 4).length=l.length+4:=by simp [numB]
    rw [show ((56:Int) - 8*((4:Nat):Int))=24 from by omega]
    go_wp2_with (at_builtin;refine wpList_append_lies _ rfl _ _ _ rfl B 5 i0 _ 1 1 Tryz.underlying140 hi hz0 hz1 hz2 rfl (by omega) _ (l++(numB n).take 4).length (bytesV (l++(numB n).take 4)) rfl (HRw.out.later ((Below.refl _ _).alloc (vaa _) _)) ⟨_,0,none⟩ 1 1 [zd7 (zal (n / 16777216))] rfl rfl (by rw [HBV.out];exact zby (by simp)) (by simp;rfl) (by omega) (by rw [hlk];unfold maxLen;omega) (by rw [hlk];omega) (by simp;omega) _ rfl ?_;intro q2 cap2 w1 hown1 hg hat hlt2;obtain ⟨k1,k2,k3⟩:=zdy (c:=zal (n / 16777216)) hown1 hg (by simpa using hat);have K1:=hid k1;have K2:=hid k2;have K3:=hid k3;clear hown1 hg hat k1 k2 k3)
    go_roundw
    case rel=>exact ⟨4+1,by omega,by first | rfl | (congr 1),by rw [HE.out];have:=K1.out;unfold Row at this ⊢;simp only [zc6,hlk] at this ⊢;exact this,zcy HGr.out K2.out HLi.out,fun j e hj=>HLi.out j (K3.out j e (by omega)) hj⟩
    case measure=>simp [intOf]
  . have HBV:Hid (zd7 (zal (n / 65536)) = .int .u8 (n / 65536 % 256)):=zcr _
    have HE:Hid (l++(numB n).take (5+1)=(l++(numB n).take 5)++[zal (n / 65536)]):=by
     show l++(numB n).take (5+1)=_;rw [show (numB n).take (5+1)=(numB n).take 5++[zal (n / 65536)] from rfl,vaq]
    have hlk:(l++(numB n).take 5).length=l.length+5:=by simp [numB]
    rw [show ((56:Int) - 8*((5:Nat):Int))=16 from by omega]
    go_wp2_with (at_builtin;refine wpList_append_lies _ rfl _ _ _ rfl B 5 i0 _ 1 1 Tryz.underlying140 hi hz0 hz1 hz2 rfl (by omega) _ (l++(numB n).take 5).length (bytesV (l++(numB n).take 5)) rfl (HRw.out.later ((Below.refl _ _).alloc (vaa _) _)) ⟨_,0,none⟩ 1 1 [zd7 (zal (n / 65536))] rfl rfl (by rw [HBV.out];exact zby (by simp)) (by simp;rfl) (by omega) (by rw [hlk];unfold maxLen;omega) (by rw [hlk];omega) (by simp;omega) _ rfl ?_;intro q2 cap2 w1 hown1 hg hat hlt2;obtain ⟨k1,k2,k3⟩:=zdy (c:=zal (n / 65536)) hown1 hg (by simpa using hat);have K1:=hid k1;have K2:=hid k2;have K3:=hid k3;clear hown1 hg hat k1 k2 k3)
    go_roundw
    case rel=>exact ⟨5+1,by omega,by first | rfl | (congr 1),by rw [HE.out];have:=K1.out;unfold Row at this ⊢;simp only [zc6,hlk] at this ⊢;exact this,zcy HGr.out K2.out HLi.out,fun j e hj=>HLi.out j (K3.out j e (by omega)) hj⟩
    case measure=>simp [intOf]
  . have HBV:Hid (zd7 (zal (n / 256)) = .int .u8 (n / 256 % 256)):=zcr _
    have HE:Hid (l++(numB n).take (6+1)=(l++(numB n).take 6)++[zal (n / 256)]):=by
     show l++(numB n).take (6+1)=_;rw [show (numB n).take (6+1)=(numB n).take 6++[zal (n / 256)] from rfl,vaq]
    have hlk:(l++(numB n).take 6).length=l.length+6:=by simp [numB]
    rw [show ((56:Int) - 8*((6:Nat):Int))=8 from by omega]
    go_wp2_with (at_builtin;refine wpList_append_lies _ rfl _ _ _ rfl B 5 i0 _ 1 1 Tryz.underlying140 hi hz0 hz1 hz2 rfl (by omega) _ (l++(numB n).take 6).length (bytesV (l++(numB n).take 6)) rfl (HRw.out.later ((Below.refl _ _).alloc (vaa _) _)) ⟨_,0,none⟩ 1 1 [zd7 (zal (n / 256))] rfl rfl (by rw [HBV.out];exact zby (by simp)) (by simp;rfl) (by omega) (by rw [hlk];unfold maxLen;omega) (by rw [hlk];omega) (by simp;omega) _ rfl ?_;intro q2 cap2 w1 hown1 hg hat hlt2;obtain ⟨k1,k2,k3⟩:=zdy (c:=zal (n / 256)) hown1 hg (by simpa using hat);have K1:=hid k1;have K2:=hid k2;have K3:=hid k3;clear hown1 hg hat k1 k2 k3)
    go_roundw
    case rel=>exact ⟨6+1,by omega,by first | rfl | (congr 1),by rw [HE.out];have:=K1.out;unfold Row at this ⊢;simp only [zc6,hlk] at this ⊢;exact this,zcy HGr.out K2.out HLi.out,fun j e hj=>HLi.out j (K3.out j e (by omega)) hj⟩
    case measure=>simp [intOf]
  . have HBV:Hid (zd7 (zal n) = .int .u8 (n % 256)):=zcr _
    have HE:Hid (l++(numB n).take (7+1)=(l++(numB n).take 7)++[zal n]):=by
     show l++(numB n).take (7+1)=_;rw [show (numB n).take (7+1)=(numB n).take 7++[zal n] from rfl,vaq]
    have hlk:(l++(numB n).take 7).length=l.length+7:=by simp [numB]
    rw [show ((56:Int) - 8*((7:Nat):Int))=0 from by omega]
    go_wp2_with (at_builtin;refine wpList_append_lies _ rfl _ _ _ rfl B 5 i0 _ 1 1 Tryz.underlying140 hi hz0 hz1 hz2 rfl (by omega) _ (l++(numB n).take 7).length (bytesV (l++(numB n).take 7)) rfl (HRw.out.later ((Below.refl _ _).alloc (vaa _) _)) ⟨_,0,none⟩ 1 1 [zd7 (zal n)] rfl rfl (by rw [HBV.out];exact zby (by simp)) (by simp;rfl) (by omega) (by rw [hlk];unfold maxLen;omega) (by rw [hlk];omega) (by simp;omega) _ rfl ?_;intro q2 cap2 w1 hown1 hg hat hlt2;obtain ⟨k1,k2,k3⟩:=zdy (c:=zal n) hown1 hg (by simpa using hat);have K1:=hid k1;have K2:=hid k2;have K3:=hid k3;clear hown1 hg hat k1 k2 k3)
    go_roundw
    case rel=>exact ⟨7+1,by omega,by first | rfl | (congr 1),by rw [HE.out];have:=K1.out;unfold Row at this ⊢;simp only [zc6,hlk] at this ⊢;exact this,zcy HGr.out K2.out HLi.out,fun j e hj=>HLi.out j (K3.out j e (by omega)) hj⟩
    case measure=>simp [intOf]
  . rw [show ((56:Int) - 8*((8:Nat):Int)) = -8 from by omega]
    go_wp2_with fail
    go_returns
    exact ⟨_,rfl,HRw.out,HGr.out⟩
end Fx
set_option maxHeartbeats 800000
namespace Fx
open Go.RowKit Go.Shelf
structure Nose (w:World) (nb:Nat) (st:L8 × Bool):Prop where
 lt:nb<w.heap.size
 c0:w.cell? ⟨nb,0,none⟩=some (.string (strOf st.1))
 c1:w.cell? ⟨nb,1,none⟩=some (.bool st.2)
 f0:w.frozen? ⟨nb,0,none⟩=false
 f1:w.frozen? ⟨nb,1,none⟩=false
def nByte:L8 × Bool->Int × (L8 × Bool)
 | ([],_)=>(0,([],true))
 | (c :: r,bad)=>((c.toNat:Int),(r,bad))
theorem Nose.kept {w w':World} {nb:Nat} {st:L8 × Bool} {r:Option Nat} (h:Nose w nb st) (hg:w.grownBy w' r) (hr:some nb≠r):Nose w' nb st:=
 have hb:=hg.block nb h.lt hr
 ⟨vah h.lt hg.size,(vet (a:=⟨nb,0,none⟩) hb).trans h.c0,(vet (a:=⟨nb,1,none⟩) hb).trans h.c1,(vev (a:=⟨nb,0,none⟩) hb).trans h.f0,(vev (a:=⟨nb,1,none⟩) hb).trans h.f1⟩
theorem zcf (w:World) (r:Option Nat):w.grownBy w r:=⟨rfl,rfl,rfl,vaa _,fun _ _ _=>rfl⟩
theorem zge {w w':World} {b o:Nat} {u:Value} (h:w.grownBy w' (some b)):w.grownBy (w'.setCell ⟨b,o,none⟩ u) (some b):=
 ⟨h.os,h.tape,h.output,by simpa using h.size,fun k hk hne=>(Below.heap_setCell w' ⟨b,o,none⟩ u k (fun e=>hne (by rw [e]))).trans (h.block k hk hne)⟩
theorem Nose.set0 {w:World} {nb:Nat} {st:L8 × Bool} {l:L8} {x:ByteArray} (h:Nose w nb st) (hx:x=strOf l):Nose (w.setCell ⟨nb,0,none⟩ (.string x)) nb (l,st.2):=
 ⟨by simpa using h.lt,by rw [hx];exact vbr _ _ _ h.c0,(vbp _ _ _ _ (by simp)).trans h.c1,by simpa using h.f0,by simpa using h.f1⟩
theorem Nose.set1 {w:World} {nb:Nat} {st:L8 × Bool} {b:Bool} (h:Nose w nb st):Nose (w.setCell ⟨nb,1,none⟩ (.bool b)) nb (st.1,b):=
 ⟨by simpa using h.lt,(vbp _ _ _ _ (by simp)).trans h.c0,vbr _ _ _ h.c1,by simpa using h.f0,by simpa using h.f1⟩
theorem zkt (s:ByteArray) (a n:Nat):(s.extract a (a+n)).data.toList=(s.data.toList.drop a).take n:=by
 rw [ByteArray.data_extract,Array.toList_extract,List.extract_eq_take_drop,show a+n - a=n from by omega]
theorem zki (l:L8) (a:Nat) (h:a<=l.length):(strOf l).extract a (strOf l).size=strOf (l.drop a):=by
 rw [strOf_size,show l.length=a+(l.length - a) by omega,← strOf_back ((strOf l).extract a _),zkt,strOf_list,vav (by simp)]
theorem zm8 (l:L8) (n:Nat):(strOf l).extract 0 n=strOf (l.take n):=by
 have h:=zkt (strOf l) 0 n;rw [vbq] at h;rw [← strOf_back ((strOf l).extract 0 n),h,strOf_list,List.drop_zero]
theorem zpk (c:UInt8) (r:L8) (h:0<(strOf (c :: r)).size):(strOf (c :: r))[0]=c:=by simp [strOf,ByteArray.getElem_eq_getElem_data]
theorem zve (c:UInt8):wrap64 (c.toNat:Int)=c.toNat:=by have:=c.toNat_lt;unfold wrap64;omega
theorem zfu (nb:Nat) (st:L8 × Bool) (w:World) (h:Nose w nb st) (hl:st.1.length<=1000000000000000) :
 Calls Tryz.prog 101 #[.pointer (some ⟨nb,0,none⟩)] w fun e w'=>e = .returned (.int .i64 (nByte st).1)/\Nose w' nb (nByte st).2/\w.grownBy w' (some nb):=by
 obtain ⟨l,bad⟩:=st;have HN:=hid h;obtain ⟨hlt,c0,c1,f0,f1⟩:=h
 cases l with
 | nil=>
   have e0:strOf ([]:L8)=⟨#[]⟩:=rfl;simp only [e0] at c0;go_enter Tryz.func101,Tryz.ntmps101;go_wp2_with fail
   go_returns
   exact ⟨rfl,HN.out.set1,zge (zcf _ _)⟩
 | cons c r=>
   have Hx:=hid (zki (c :: r) 1 (by simp));have Hi:=hid (zpk c r)
   have hz0:(strOf (c :: r)).size=r.length+1:=by rw [strOf_size];rfl
   simp only at c0
   obtain ⟨s,hs⟩:∃ s,s=strOf (c :: r):=⟨_,rfl⟩
   rw [← hs] at Hx c0 hz0
   have Hx:Hid (s.extract 1 (r.length+1)=strOf r):=by rw [← hz0];exact Hx
   have Hi:Hid (∀ h:0<s.size,s[0]=c):=by subst hs;exact Hi
   have hE:=Lx.zqp s (by omega);simp only [vas] at hl;clear hs;go_enter Tryz.func101,Tryz.ntmps101;go_wp2_with fail
   go_returns
   exact ⟨by rw [Hi.out,zve];rfl,HN.out.set0 Hx.out,zge (zcf _ _)⟩
def nText (st:L8 × Bool):L8 × (L8 × Bool):=
 if ((nByte st).2.1.length:Int)<(nByte st).1 then ([],((nByte st).2.1,true)) else ((nByte st).2.1.take (nByte st).1.toNat,((nByte st).2.1.drop (nByte st).1.toNat,(nByte st).2.2))
theorem zjt (st:L8 × Bool):0<=(nByte st).1/\(nByte st).1<=255:=by
 obtain ⟨l,bad⟩:=st
 cases l with
 | nil=>exact ⟨Int.le_refl _,by show (0:Int)<=255;decide⟩
 | cons c r=>have:=c.toNat_lt;exact ⟨by show 0<=(c.toNat:Int);omega,by show (c.toNat:Int)<=255;omega⟩
theorem zet (st:L8 × Bool):(nByte st).2.1.length<=st.1.length:=by
 obtain ⟨l,bad⟩:=st
 cases l with
 | nil=>exact vaa _
 | cons c r=>exact vdv _
theorem zaf {a b c:World} {r:Option Nat} (h1:a.grownBy b r) (h2:b.grownBy c r):a.grownBy c r:=zcy h1 h2 (fun _ e _=>e)
theorem zku (nb:Nat) (st:L8 × Bool) (w:World) (h:Nose w nb st) (hl:st.1.length<=1000000000000000) :
 Calls Tryz.prog 98 #[.pointer (some ⟨nb,0,none⟩)] w fun e w'=>e = .returned (.string (strOf (nText st).1))/\Nose w' nb (nText st).2/\w.grownBy w' (some nb):=by
 have HC:=hid (zfu nb st w h hl);have hlo:=zjt st;have hln:=zet st
 obtain ⟨R,hR⟩:∃ R,R=nText st:=⟨_,rfl⟩
 rw [← hR];unfold nText at hR;generalize nByte st=q at *;obtain ⟨n,l,bad⟩:=q;simp only at hlo hln hR
 obtain ⟨k,rfl⟩:∃ k:Nat,n=k:=⟨n.toNat,by omega⟩
 have HR:=hid hR;clear hR h;go_enter Tryz.func98,Tryz.ntmps98
 go_wp2_with (go_at_call 101;refine HC.out.mono ?_;rintro e w' ⟨rfl,hn,hg⟩;have HN:=hid hn;obtain ⟨hlt,c0,c1,f0,f1⟩:=hn;simp only at c0 c1;have hz:(strOf l).size=l.length:=strOf_size l;have HG:=hid hg;clear hg)
 all_goals go_returns
 . have hlt':(l.length:Int)<k:=by omega
   have e:=HR.out;rw [if_pos hlt'] at e;subst e;exact ⟨rfl,HN.out.set1,zge HG.out⟩
 . have hlt':¬ (l.length:Int)<k:=by omega
   have e:=HR.out;rw [if_neg hlt'] at e;subst e;refine ⟨by simp only [vbm];rw [zm8];rfl,HN.out.set0 ?_,zge HG.out⟩;simp only [vbm];have:=zki l k (by omega);rwa [strOf_size] at this
end Fx
namespace Fx
open Go.RowKit Go.Shelf
theorem z10 (n b:Int) (h0:0<=b) (h1:b<=255):bits .or .i64 (wrap64 (n*256)) b=wrap64 (n*256+b):=by
 show IntKind.i64.wrap ((BitVec.ofInt 64 (wrap64 (n*256)) ||| BitVec.ofInt 64 b).toNat:Int)=_;rw [BitVec.toNat_or,BitVec.toNat_ofInt,BitVec.toNat_ofInt];rw [nat_join8 _ _ (by unfold wrap64;omega) (by omega)];show IntKind.wrap .i64 _=_;unfold IntKind.wrap wrap64;simp [IntKind.bits,IntKind.signed];omega
def zm9:Nat->Int->L8 × Bool->Int × (L8 × Bool)
 | 0,n,st=>(n,st)
 | k+1,n,st=>zm9 k (wrap64 (n*256+(nByte st).1)) (nByte st).2
def nNum (st:L8 × Bool):Int × (L8 × Bool):=zm9 8 0 st
theorem zcn (nb:Nat) (st:L8 × Bool) (w:World) (h:Nose w nb st) (hl:st.1.length<=1000000000000000) :
 Calls Tryz.prog 100 #[.pointer (some ⟨nb,0,none⟩)] w fun e w'=>e = .returned (.int .i64 (nNum st).1)/\Nose w' nb (nNum st).2/\w.grownBy w' (some nb):=by
 have HN:=hid h
 obtain ⟨R,hR⟩:∃ R,zm9 8 0 st=R:=⟨_,rfl⟩
 rw [show nNum st=R from hR];have HR:=hid hR;clear h hR;go_enter Tryz.func100,Tryz.ntmps100;go_wp2_with fail
 go_loopw [3,4] (fun u i wr=>∃ k:Nat,∃ n:Int,∃ t:L8 × Bool,k<=8/\i = .int .i64 k/\u = .int .i64 n/\t.1.length<=st.1.length/\zm9 (8 - k) n t=R/\Nose wr nb t/\w.grownBy wr (some nb)) (fun _ i _=>8 - (intOf i).toNat)
 case atStart=>exact ⟨0,0,st,vae _,rfl,rfl,vaa _,HR.out,HN.out,zcf _ _⟩
 case round=>
  obtain ⟨k,n,t,hk,rfl,rfl,ht,hr,hn,hg⟩:=hrel;have HC:=hid (zfu nb t wr hn (vai ht hl));have HG:=hid hg;have HT:=hid ht;have HN1:=hid hn;have HR1:=hid hr;have HQ:=hid (zjt t);clear hn hg ht hr
  by_cases hlt:k<8
  . have HS:Hid (zm9 (8 - (k+1)) (wrap64 (n*256+(nByte t).1)) (nByte t).2=R):=by
     have:=HR1.out;rw [show 8 - k=(8 - (k+1))+1 by omega] at this;exact this
    have HL:=hid (zet t);generalize nByte t=q at *
    go_wp2_with (go_at_call 101;refine HC.out.mono ?_;rintro e w' ⟨rfl,hn,hg⟩;have HN2:=hid hn;have HG2:=hid hg;clear hn hg)
    go_roundw
    case rel=>exact ⟨k+1,_,q.2,by omega,by go_num,by rw [z10 _ _ HQ.out.1 HQ.out.2],vai HL.out HT.out,HS.out,HN2.out,zaf HG.out HG2.out⟩
    case measure=>simp [intOf];omega
  . obtain rfl:k=8:=by omega
    go_wp2_with fail
    go_returns
    have:=HR1.out;subst this;exact ⟨rfl,HN1.out,HG.out⟩
end Fx
namespace Fx
open Go.RowKit Go.Shelf
def zpl:List PanicEntry:=[{ v:=.iface 9 (.string ⟨#[116,111,111,32,102,101,119,32,98,121,116,101,115]⟩),recovered:=false }]
structure Rdr (w:World) (rb:Nat) (l:L8):Prop where
 lt:rb<w.heap.size
 c0:w.cell? ⟨rb,0,none⟩=some (.string (strOf l))
 f0:w.frozen? ⟨rb,0,none⟩=false
theorem Rdr.kept {w w':World} {rb:Nat} {l:L8} {r:Option Nat} (h:Rdr w rb l) (hg:w.grownBy w' r) (hr:some rb≠r):Rdr w' rb l:=
 have hb:=hg.block rb h.lt hr
 ⟨vah h.lt hg.size,(vet (a:=⟨rb,0,none⟩) hb).trans h.c0,(vev (a:=⟨rb,0,none⟩) hb).trans h.f0⟩
theorem Rdr.set {w:World} {rb:Nat} {l l':L8} {x:ByteArray} (h:Rdr w rb l) (hx:x=strOf l'):Rdr (w.setCell ⟨rb,0,none⟩ (.string x)) rb l':=
 ⟨by simpa using h.lt,by rw [hx];exact vbr _ _ _ h.c0,by simpa using h.f0⟩
def z2h {α:Type} (rb:Nat) (w:World) (r:Option (α × L8)) (rep:α->Value) (e:Ending) (w':World):Prop:=
 w.grownBy w' (some rb)/\((r=none/\e = .panicked zpl)\/∃ x l,r=some (x,l)/\e = .returned (rep x)/\Rdr w' rb l)
def zeh (n:Nat) (l:L8):Option (L8 × L8):=if l.length<n then none else some (l.take n,l.drop n)
def strV (l:L8):Value:=.string (strOf l)
def intV (n:Int):Value:=.int .i64 n
theorem take_any (rb n:Nat) (l:L8) (w:World) (h:Rdr w rb l) (_hl:l.length<=1000000000000000) (hn:n<=255) :
 Calls Tryz.prog 174 #[.pointer (some ⟨rb,0,none⟩),.int .i64 n] w fun e w'=>z2h rb w (zeh n l) strV e w':=by
 have HN:=hid h;obtain ⟨hlt,c0,f0⟩:=h;have hz:=strOf_size l
 by_cases hc:l.length<n
 . have HR:Hid (zeh n l=none):=if_pos hc
   go_enter Tryz.func174,Tryz.ntmps174;go_wp2_with fail;exact ⟨rfl,zcf _ _,Or.inl ⟨HR.out,rfl⟩⟩
 . have HR:Hid (zeh n l=some (l.take n,l.drop n)):=if_neg hc
   go_enter Tryz.func174,Tryz.ntmps174;go_wp2_with fail
   go_returns
   refine ⟨zge (zcf _ _),.inr ⟨_,_,HR.out,?_,HN.out.set ?_⟩⟩
   . rw [zm8];rfl
   . have:=zki l n (by omega)
     rwa [strOf_size] at this
def zdm (l:L8):Option (Int × L8):=(zeh 1 l).map (fun q=>((nByte (q.1,false)).1,q.2))
theorem zw2 (rb:Nat) (l:L8) (w:World) (h:Rdr w rb l) (hl:l.length<=1000000000000000) :
 Calls Tryz.prog 142 #[.pointer (some ⟨rb,0,none⟩)] w fun e w'=>z2h rb w (zdm l) intV e w':=by
 have HC:=hid (take_any rb 1 l w h hl (by omega))
 cases l with
 | nil=>
   have HR:Hid (zeh 1 ([]:L8)=none):=rfl
   have HC:Hid (Calls Tryz.prog 174 #[.pointer (some ⟨rb,0,none⟩),.int .i64 1] w fun e w'=>e = .panicked zpl/\w.grownBy w' (some rb)):=HC.out.mono fun e w' h=>by
    obtain ⟨hg,⟨_,he⟩ | ⟨x,l',hr,_⟩⟩:=h
    . exact ⟨he,hg⟩
    . rw [HR.out] at hr;cases hr
   clear h;go_enter Tryz.func142,Tryz.ntmps142
   go_wp2_with (go_at_call 174;refine HC.out.mono ?_;rintro e w' ⟨rfl,hg⟩;have HG:=hid hg;clear hg)
   exact ⟨rfl,HG.out,Or.inl ⟨rfl,rfl⟩⟩
 | cons c r=>
   have HR:Hid (zeh 1 (c :: r)=some ([c],r)):=rfl
   have HC:Hid (Calls Tryz.prog 174 #[.pointer (some ⟨rb,0,none⟩),.int .i64 1] w fun e w'=>e = .returned (.string (strOf [c]))/\w.grownBy w' (some rb)/\Rdr w' rb r):=HC.out.mono fun e w' h=>by
    obtain ⟨hg,⟨hr,_⟩ | ⟨x,l',hr,he,h'⟩⟩:=h
    . rw [HR.out] at hr;cases hr
    . rw [HR.out] at hr;cases hr;exact ⟨he,hg,h'⟩
   have Hi:=hid (zpk c [])
   have hz:(strOf [c]).size=1:=by rw [strOf_size];rfl
   obtain ⟨s,hs⟩:∃ s,s=strOf [c]:=⟨_,rfl⟩
   rw [← hs] at HC hz
   have Hi:Hid (∀ h:0<s.size,s[0]=c):=by subst hs;exact Hi
   clear h hs;go_enter Tryz.func142,Tryz.ntmps142
   go_wp2_with (go_at_call 174;refine HC.out.mono ?_;rintro e w' ⟨rfl,hg,hr⟩;have HG:=hid hg;have HD:=hid hr;clear hg hr)
   go_returns
   refine ⟨HG.out,.inr ⟨(c.toNat:Int),r,rfl,?_,HD.out⟩⟩;rw [Hi.out,zve]
   rfl
end Fx
namespace Fx
open Go.RowKit Go.Shelf
def z11:Prop:=∀ (s:ByteArray) (W:World),s.size<=255->Calls Tryz.prog 173 #[.string s] W fun e w'=>e = .returned (.string s)/\Below W.heap.size W w'
theorem z2h.of_none {α:Type} {rb:Nat} {w w':World} {r:Option (α × L8)} {rep:α->Value} {e:Ending} (h:z2h rb w r rep e w') (hr:r=none):e = .panicked zpl/\w.grownBy w' (some rb):=by
 obtain ⟨hg,⟨_,he⟩ | ⟨x,l',hr',_⟩⟩:=h
 . exact ⟨he,hg⟩
 . rw [hr] at hr';cases hr'
theorem z2h.of_some {α:Type} {rb:Nat} {w w':World} {r:Option (α × L8)} {rep:α->Value} {e:Ending} {x:α} {l:L8} (h:z2h rb w r rep e w') (hr:r=some (x,l)):e = .returned (rep x)/\w.grownBy w' (some rb)/\Rdr w' rb l:=by
 obtain ⟨hg,⟨hr',_⟩ | ⟨x',l',hr',he,h'⟩⟩:=h
 . rw [hr] at hr';cases hr'
 . rw [hr] at hr';cases hr';exact ⟨he,hg,h'⟩
theorem zei {w w':World} (r:Option Nat) (h:Below w.heap.size w w'):w.grownBy w' r:=⟨h.os,h.tape,h.output,h.size,fun k hk _=>h.block k hk⟩
theorem Rdr.below {w w':World} {rb:Nat} {l:L8} (h:Rdr w rb l) (hb:Below w.heap.size w w'):Rdr w' rb l:=h.kept (zei none hb) (by simp)
theorem zfk {n:Nat} {l x r:L8} (h:zeh n l=some (x,r)):x.length=n/\l=x++r:=by
 unfold zeh at h
 split at h
 . cases h
 . cases h
   exact ⟨by rw [vbb];omega,(vca n l).symm⟩
theorem zju {l r:L8} {n:Int} (h:zdm l=some (n,r)):0<=n/\n<=255/\r.length<=l.length:=by
 unfold zdm at h
 cases ht:zeh 1 l with
 | none=>rw [ht] at h;cases h
 | some q=>
   obtain ⟨x,y⟩:=q;rw [ht] at h;cases h;have h1:=zjt (x,false);have h2:=(zfk ht).2;refine ⟨h1.1,h1.2,?_⟩;show y.length<=l.length
   rw [h2,vab];omega
def zf2 (l:L8):Option (L8 × L8):=(zdm l).bind (fun q=>zeh q.1.toNat q.2)
theorem z4y (hcl:z11) (rb:Nat) (l:L8) (w:World) (h:Rdr w rb l) (hl:l.length<=1000000000000000) :
 Calls Tryz.prog 137 #[.pointer (some ⟨rb,0,none⟩)] w fun e w'=>z2h rb w (zf2 l) strV e w':=by
 have HB:=hid (zw2 rb l w h hl)
 cases hB:zdm l with
 | none=>
   have HC:=hid (HB.out.mono fun e w' h=>h.of_none hB)
   have HR:Hid (zf2 l=none):=by show zf2 l=none;unfold zf2;rw [hB];rfl
   clear h HB;go_enter Tryz.func137,Tryz.ntmps137
   go_wp2_with (go_at_call 142;refine HC.out.mono ?_;rintro e w' ⟨rfl,hg⟩;have HG:=hid hg;clear hg)
   exact ⟨rfl,HG.out,Or.inl ⟨HR.out,rfl⟩⟩
 | some q=>
   obtain ⟨n,r⟩:=q;obtain ⟨h0,h1,h2⟩:=zju hB
   obtain ⟨k,rfl⟩:∃ k:Nat,n=k:=⟨n.toNat,by omega⟩
   have HC:Hid (Calls Tryz.prog 142 #[.pointer (some ⟨rb,0,none⟩)] w fun e w'=>e = .returned (.int .i64 k)/\w.grownBy w' (some rb)/\Rdr w' rb r):=HB.out.mono fun e w' h=>h.of_some hB
   have HE:Hid (zf2 l=zeh k r):=by show zf2 l=_;unfold zf2;rw [hB];rfl
   have HT:Hid (∀ W,Rdr W rb r->Calls Tryz.prog 174 #[.pointer (some ⟨rb,0,none⟩),.int .i64 k] W fun e w'=>z2h rb W (zeh k r) strV e w'):=fun W hW=>take_any rb k r W hW (by omega) (by omega)
   clear h HB hB
   cases hT:zeh k r with
   | none=>
     have HT:Hid (∀ W,Rdr W rb r->Calls Tryz.prog 174 #[.pointer (some ⟨rb,0,none⟩),.int .i64 k] W fun e w'=>e = .panicked zpl/\W.grownBy w' (some rb)):=fun W hW=>(HT.out W hW).mono fun e w' h=>h.of_none hT
     have HR:Hid (zf2 l=none):=HE.out.trans hT;clear hT;go_enter Tryz.func137,Tryz.ntmps137
     go_wp2_with (first
      | (go_at_call 142;refine HC.out.mono ?_;rintro e w1 ⟨rfl,hg,hr⟩;have HG:=hid hg;have HD:=hid hr;clear hg hr)
      | (go_at_call 174;refine (HT.out _ HD.out).mono ?_;rintro e w2 ⟨rfl,hg⟩;have HG2:=hid hg;clear hg))
     exact ⟨rfl,zaf HG.out HG2.out,Or.inl ⟨HR.out,rfl⟩⟩
   | some q=>
     obtain ⟨x,y⟩:=q
     have HT:Hid (∀ W,Rdr W rb r->Calls Tryz.prog 174 #[.pointer (some ⟨rb,0,none⟩),.int .i64 k] W fun e w'=>e = .returned (.string (strOf x))/\W.grownBy w' (some rb)/\Rdr w' rb y):=fun W hW=>(HT.out W hW).mono fun e w' h=>h.of_some hT
     have HR:Hid (zf2 l=some (x,y)):=HE.out.trans hT;have hx:=(zfk hT).1
     have HL:Hid (∀ W,Calls Tryz.prog 173 #[.string (strOf x)] W fun e w'=>e = .returned (.string (strOf x))/\Below W.heap.size W w'):=fun W=>hcl _ W (by rw [strOf_size];omega)
     clear hT hx;go_enter Tryz.func137,Tryz.ntmps137
     go_wp2_with (first
      | (go_at_call 142;refine HC.out.mono ?_;rintro e w1 ⟨rfl,hg,hr⟩;have HG:=hid hg;have HD:=hid hr;clear hg hr)
      | (go_at_call 174;refine (HT.out _ HD.out).mono ?_;rintro e w2 ⟨rfl,hg,hr⟩;have HG2:=hid hg;have HD2:=hid hr;clear hg hr)
      | (go_at_call 173;refine (HL.out _).mono ?_;rintro e w3 ⟨rfl,hb⟩;have HB3:=hid hb;clear hb))
     go_returns
     exact ⟨zaf (zaf HG.out HG2.out) (zei _ HB3.out),Or.inr ⟨x,y,HR.out,rfl,HD2.out.below HB3.out⟩⟩
end Fx
namespace Fx
open Go.RowKit Go.Shelf
def zhf (n:Int) (c:UInt8):Int:=wrap64 (n*256+c.toNat)
def valL (l:L8):Int:=l.foldl zhf 0
theorem z12 (l:L8) (k:Nat) (h:k<l.length):valL (l.take (k+1))=zhf (valL (l.take k)) l[k]:=by
 unfold valL;rw [zm6 l k h,vbn]
 rfl
def pNum (l:L8):Option (Int × L8):=(zeh 8 l).map (fun q=>(valL q.1,q.2))
theorem zyf (x:L8) (W:World):∃ (cap:Nat) (W':World),(convert 9 140 (.string (strOf x))).run Tryz.prog W = .ok (.slice (some ⟨W.heap.size,0,none⟩) x.length cap) W'/\Below W.heap.size W W'/\
 ∀ j (hj:j<x.length),W'.cell? ⟨W.heap.size,j,none⟩=some (.int .u8 (x[j].toNat:Int)):=by
 have h:=run_bytes_of_string (P:=Tryz.prog) W 9 140 5 (strOf x) Tryz.underlying9 Tryz.underlying140 z1y;rw [strOf_size] at h;refine ⟨_,_,h,((Below.refl _ _).drew).alloc (vaa _) _,fun j hj=>?_⟩
 have hd:(strOf x).data.size=x.length:=by simp [strOf]
 have hr:=bytesRow_at (strOf x) (grownCap W x.length 0 5) j (by rw [hd];exact hj)
 have hn:∀ o:Obj,(W.drew.alloc o).heap[W.heap.size]? = some o:=fun o=>by
  show (W.heap.push o)[W.heap.size]? = some o;simp
 simp only [World.cell?,hn];rw [hr];simp [strOf]
theorem zyg (rb:Nat) (l:L8) (w:World) (h:Rdr w rb l) (hl:l.length<=1000000000000000) :
 Calls Tryz.prog 139 #[.pointer (some ⟨rb,0,none⟩)] w fun e w'=>z2h rb w (pNum l) intV e w':=by
 have HT:=hid (take_any rb 8 l w h hl (by omega))
 cases hT:zeh 8 l with
 | none=>
   have HC:Hid (Calls Tryz.prog 174 #[.pointer (some ⟨rb,0,none⟩),.int .i64 8] w fun e w'=>e = .panicked zpl/\w.grownBy w' (some rb)):=HT.out.mono fun e w' h=>h.of_none hT
   have HR:Hid (pNum l=none):=by show pNum l=none;unfold pNum;rw [hT];rfl
   clear h HT;go_enter Tryz.func139,Tryz.ntmps139
   go_wp2_with (go_at_call 174;refine HC.out.mono ?_;rintro e w' ⟨rfl,hg⟩;have HG:=hid hg;clear hg)
   exact ⟨rfl,HG.out,Or.inl ⟨HR.out,rfl⟩⟩
 | some q=>
   obtain ⟨x,y⟩:=q
   have HC:Hid (Calls Tryz.prog 174 #[.pointer (some ⟨rb,0,none⟩),.int .i64 8] w fun e w'=>e = .returned (.string (strOf x))/\w.grownBy w' (some rb)/\Rdr w' rb y):=HT.out.mono fun e w' h=>h.of_some hT
   have HR:Hid (pNum l=some (valL x,y)):=by show pNum l=_;unfold pNum;rw [hT];rfl
   have hx:=(zfk hT).1;have CV:=hid (zyf x);have HV:=hid (fun k h=>z12 x k h);clear h HT hT;go_enter Tryz.func139,Tryz.ntmps139
   go_wp2_with (go_at_call 174;refine HC.out.mono ?_;rintro e w1 ⟨rfl,hg,hr⟩;have HG:=hid hg;have HD:=hid hr;clear hg hr;obtain ⟨cp,w2,hcv,hb2,hcells⟩:=CV.out w1;have HB2:=hid hb2;have HCells:=hid hcells;have hz1:=hb2.size;clear hb2 hcells)
   have HG2:Hid (w.grownBy w2 (some rb)):=zaf HG.out (zei _ HB2.out);have HD2:Hid (Rdr w2 rb y):=HD.out.below HB2.out;have HX:=hid hx;clear HG HD HC CV
   go_loopw [3,5,10] (fun u _ i wr=>∃ k:Nat,k<=8/\i = .int .i64 k/\u = .int .i64 (valL (x.take k))/\wr=w2) (fun _ _ i _=>8 - (intOf i).toNat)
   case atStart=>exact ⟨0,vae _,rfl,rfl,rfl⟩
   case round=>
    obtain ⟨k,hk,rfl,rfl,rfl⟩:=hrel
    by_cases hlt:k<8
    . have hk8:k<x.length:=by omega
      have hc:=HCells.out k hk8;have HS:=hid (HV.out k hk8);have hq:=x[k].toNat_lt;have hu:=zve x[k];generalize valL (x.take k)=n at *;generalize x[k]=c at *;go_wp2_with fail;go_roundw
      case rel=>exact ⟨k+1,by omega,by go_num,by rw [z10 _ _ (by omega) (by omega),HS.out];rfl,trivial⟩
      case measure=>simp [intOf];omega
    . obtain rfl:k=8:=by omega
      go_wp2_with fail
      go_returns
      refine ⟨HG2.out,Or.inr ⟨_,y,HR.out,?_,HD2.out⟩⟩;rw [vav (by omega)]
      rfl
end Fx
end Go.Proofs.YtndkhgakfodldaaGreatDoor
