import Derived.Test.YtndkhgakfodldaaGreatDoorXa
import Derived.Deep.AppendLies
namespace Go.Proofs.YtndkhgakfodldaaGreatDoor
set_option maxRecDepth 100000
set_option maxHeartbeats 800000
theorem fK{P:Prop}(h:P:=by
 go_wp2_with (at_builtin;refine zbv rfl (.tmp 41) (.tmp 43) 28 rfl (w.heap.size+1) 98 _ 4 40 Tryz.underlying28 Tryz.infoItem rfl aq ((wr.alloc (kzH d.kind d.name d.pub d.n)).alloc (kzI d.kind d.n dt d.name)) u4 A5.length (zg8 A5) (itD ⟨d.kind,d.n,dt,d.name⟩) rfl Bi.out #[qi d.kind,qi d.n,qi dt,.string d.name] _ aA rfl rfl (fun _=>False) C0.out (fun b _ h=>h.elim) ae aq aF ?_)
 intro g5 c5 w5 Bw At Cf;have Ba:=hid Bw;have AX:=hid At;clear Bw At Bi C0;go_wp2_with fail;go_roundw
 case rel=>exact ⟨j+1,A5++[_],_,ae,aR,rfl,fi,C3.out.trans (by rw [HX.out,HN.out]),eN,(AX.out.block _ ae).trans AF.out,Ce.out.trans (AX.out.mono ae)⟩
 case measure=>simp [intOf];omega):P:=h
namespace Fx
open Go.RowKit Go.Shelf Go.Maps
theorem yal:(Tryz.prog.info? 9).map (fun i=>(i.zero,i.size,i.bytes))=some (some (.string ⟨#[]⟩),1,16):=by kernel_rfl
def zxr (l:List It):List Value:=l.map (fun i=>.string i.name)
theorem z1b (l:List It) (i:It):zxr l++[.string i.name]=zxr (l++[i]):=by simp [zxr]
theorem len_snoc {α:Type} (l:List α) (n:α):(l++[n]).length=l.length+1:=aA
theorem zr0 {α:Type} (l:List α) (k:Nat) (h:k<l.length):l.take (k+1)=l.take k++[l[k]]:=vag h
theorem z4h {α:Type} (l:List α):l.take l.length=l:=vav (vaa _)
theorem ownsRow_later {W W':World} {B:Nat} {e:TypeId} {size:Nat} {v:Value} {n:Nat} {xs:List Value} (h:W.ownsRow B e size v n xs) (hb:qb W W'):W'.ownsRow B e size v n xs:=by
 refine ⟨h.1,?_⟩
 rcases h.2 with h1 | ⟨g,cap,AD,hv,hB,hg,hr⟩
 . exact Or.inl h1
 . have A0:g<W.heap.size:=by
    rcases vbi g W.heap.size with h' | h'
    . exact h'
    . simp [vbb h'] at hg
   exact Or.inr ⟨g,cap,AD,hv,hB,(hb.block g A0).trans hg,hr⟩
theorem zme {w:World} {x:Value} {t:TypeId} {n:Nat} (hn:n=w.heap.size):∀ j u,[x][j]? = some u->(w.alloc (.cells #[x] t)).cell? (((qa n 0):Addr).add j)=some u:=by
 subst hn;exact cell_one_new _ _ _
theorem zi2 (a:OA) (cap:Nat) (l:List It) (w:World) (hT:zcy w a l) (hl:l.length<=1000000) :
 qc 60 #[.slice a l.length cap] w fun e w'=>∃ v,e = .returned v/\w'.ownsRow w.heap.size 9 1 v l.length (zxr l)/\qb w w':=by
 obtain ⟨i0,hi,Bx,Ao,Ay⟩:=info_parts yal;have HT:=hid hT;clear hT;go_enter Tryz.func60,Tryz.ntmps60;go_wp2_with fail
 go_loopw [3,5,8] (fun v _ i wr=>∃ k:Nat,k<=l.length/\i=qi k/\wr.ownsRow w.heap.size 9 1 v k (zxr (l.take k))/\qb w wr) (fun _ _ i _=>l.length - (intOf i).toNat)
 case atStart=>exact ⟨0,vaf _,rfl,ves _ _ _ _,Below.refl _ _⟩
 case round=>
  obtain ⟨k,hk,rfl,Ag,hb⟩:=hrel;have HO:=hid Ag;have HB:=hid hb
  by_cases A0:k<l.length
  . obtain ⟨b,off,rfl,Av,c0,c1,c2,c3⟩:=(HT.out.later hb).place A0
    have HS:Hid (zxr (l.take k)++[.string l[k].name]=zxr (l.take (k+1))):=by rw [zr0 l k A0];exact z1b _ _
    clear Ag hb
    go_wp2_with (at_builtin;refine wpList_append_lies _ rfl _ _ _ rfl w.heap.size 9 i0 _ 1 16 Tryz.underlying22 hi Bx Ao Ay rfl ae _ k (zxr (l.take k)) rfl (ownsRow_later HO.out (((Below.refl _ _).alloc (vaa _) _).alloc aA _)) (qa _ 0) 1 1 [.string l[k].name] rfl rfl (zme aA) (by simp;rfl) ae aP ae eO _ rfl ?_;intro q2 Bg w1 hown1 hg AH CA;have Bi:=hid hown1;have HG:=hid hg;clear hown1 hg AH)
    go_roundw
    case rel=>exact ⟨k+1,ae,aR,by rw [← HS.out];exact Bi.out,((HB.out.alloc HB.out.size _).alloc eO _).grown HG.out eO (fun j hj=>(HO.out.lt j hj).1)⟩
    case measure=>simp [intOf];omega
  . obtain rfl:k=l.length:=by omega
    clear Ag hb;go_wp2_with fail;go_ret;exact ⟨_,rfl,by have:=HO.out;rw [z4h] at this;exact this,HB.out⟩
end Fx
set_option maxHeartbeats 1600000
namespace Fx
open Go.RowKit Go.Shelf Go.WideMaps Go.Maps
theorem law:Keyed Tryz.prog 9:=string_keyed Tryz.underlying9
theorem yam (w:World):(zeroValue 3).run Tryz.prog w = .ok (qi 0) w:=by kernel_rfl
structure MapInv (D:DataW Unit) (l:List (L8)):Prop where
 has:∀ s,Maps.has D (.string s)=decide (s ∈ l)
 size:Maps.size D=(zil l).length
theorem zxs:MapInv (.map []) []:=⟨fun s=>by simp [Maps.has],rfl⟩
theorem MapInv.put {D:DataW Unit} {l:List (L8)} (h:MapInv D l) (ht:Tidy D) (hm:IsMap D) (s:L8) (d:DataW Unit):MapInv (D.put (.string s) d) (l++[s]):=by
 constructor
 . intro x
   by_cases e:x=s
   . subst e
     rw [has_put_same hm (by simp [WideAt.IsKeyLit])];simp
   . rw [has_put_other (by simpa using e),h.has]
     exact decide_eq_decide.2 (by simp [e])
 . rw [size_put ht,h.has,zg5,h.size]
   by_cases e:s ∈ l
   . rw [decide_eq_true e,if_pos rfl,if_pos ((zim s l).2 e)]
   . rw [decide_eq_false e,if_neg aA,if_neg (fun k=>e ((zim s l).1 k))]
     simp
def zez (w:World) (a:OA) (l:List ByteArray):Prop:=l=[]\/∃ b off,a=some (qa b off)/\b<w.heap.size/\∀ i (h:i<l.length),w.cell? ⟨b,off+i,none⟩=some (.string l[i])
theorem zez.later {w w':World} {a:OA} {l:List ByteArray} (h:zez w a l) (hb:qb w w'):zez w' a l:=by
 exact ii
theorem zez.place {w:World} {a:OA} {l:List ByteArray} (h:zez w a l) {k:Nat} (hk:k<l.length):∃ b off,a=some (qa b off)/\b<w.heap.size/\w.cell? ⟨b,off+k,none⟩=some (.string l[k]):=by
 exact ji
def zbi (l:List ByteArray):List (L8):=l.map (·.data.toList)
theorem zxt (l:List ByteArray) (s:ByteArray):zbi (l++[s])=zbi l++[s.data.toList]:=vbw ..
theorem zf6 (a:OA) (cap:Nat) (l:List ByteArray) (w:World) (hT:zez w a l) (hl:l.length<=1000000) (hs:∀ s ∈ l,s.size<=maxLen) :
 qc 59 #[.slice a l.length cap] w fun e w'=>e = .returned (.bool (zgd (zbi l)))/\qb w w':=by
 have I6:=@run_makeMap Tryz.prog;have HT:=hid hT;have HL:=hid hs;clear hT hs;go_enter Tryz.func59,Tryz.ntmps59;go_wp2_with fail
 go_loopw [5,9] (fun _ i wr=>∃ (k:Nat) (D:DataW Unit),k<=l.length/\i=qi k/\wr.ownsMap Tryz.prog 9 (plainElem Tryz.prog 3) w.heap.size k D/\MapInv D (zbi (l.take k))/\qb w wr) (fun _ i _=>l.length - (intOf i).toNat)
 case atStart=>exact ⟨0,.map [],vaf _,rfl,vev _ _ _ _,zxs,(Below.refl _ _).alloc (vaa _) _⟩
 case round=>
  obtain ⟨k,D,hk,rfl,Ag,hinv,hb⟩:=hrel;have HI:=hid hinv
  by_cases A0:k<l.length
  . obtain ⟨b,off,e,Av,c0⟩:=HT.out.place A0
    subst e;have hc:=(hb.cell (p:=⟨b,off+k,none⟩) Av).trans c0;have EA:b<wr.heap.size:=vai Av hb.size
    have HK:Hid (zbi (l.take k)++[l[k].data.toList]=zbi (l.take (k+1))):=by
     show zbi (l.take k)++[l[k].data.toList]=zbi (l.take (k+1));rw [zr0 l k A0,zxt]
    have Ki:keyOf Tryz.prog 9 (.string l[k])=some (.string l[k].data.toList):=keyOf_string_mk Tryz.underlying9 (HL.out _ (vah _));have Le:=hid Ki;have HO:=hid Ag;have HB:=hid hb;clear Ki Ag hb hinv c0;generalize l[k]=s at *
    go_wp2_with (first
     | (at_lookup;refine wpList_lookup_own_int _ rfl _ _ 185 rfl 9 3 .i64 law Tryz.underlying185 Tryz.underlying3 (yam _) w.heap.size k D rfl HO.out _ _ rfl Le.out ?_;intro c AH hwc;clear AH hwc)
     | (at_mapUpdate;refine wpList_mapUpdate_own _ rfl _ _ _ 185 rfl 9 3 law Tryz.underlying185 _ w.heap.size k D rfl HO.out aP _ _ _ rfl rfl Le.out _ [] (plainElem_int Tryz.underlying3 (wrap64_wf _)) ?_;intro w1 hown1 hgrow1;have Bi:=hid hown1;have HG:=hid hgrow1;clear hown1 hgrow1))
    go_roundw
    case rel=>exact ⟨k+1,_,ae,aR,Bi.out,by rw [← HK.out];exact HI.out.put (HO.out.tidy law) HO.out.isMap _ _,HB.out.grown HG.out HB.out.size (fun j hj=>eX)⟩
    case measure=>simp [intOf];omega
  . have HE:Hid (Maps.size D=(zil (zbi l)).length):=by
     have:=HI.out.size;rw [vav ae] at this;exact this
    have Em:Hid ((zbi l).length=l.length):=by show (zbi l).length=_;simp [zbi]
    have HO:=hid Ag;have HB:=hid hb;clear hinv Ag hb HI
    go_wp2_with (at_len;refine wpList_len_own _ rfl _ _ rfl 9 3 Tryz.underlying185 _ w.heap.size k D rfl HO.out ?_)
    go_ret;exact ⟨ret_bool (by unfold zgd;rw [← HE.out,Em.out]),HB.out⟩
theorem zv7 {w:World} {B:Nat} {v:Value} {l:List It} (h:w.ownsRow B 9 1 v l.length (zxr l)):∃ a cap,v = .slice a (l.map (·.name)).length cap/\zez w a (l.map (·.name)):=by
 rcases h.2 with ⟨hv,h0⟩ | ⟨g,cap,AD,hv,hB,hg,_⟩
 . have hl:l=[]:=vam h0
   exact ⟨none,0,by rw [hv,hl];rfl,Or.inl (by rw [hl];rfl)⟩
 . refine ⟨_,cap,by rw [hv,vct],Or.inr ⟨g,0,rfl,?_,fun i hi=>?_⟩⟩
   . rcases vbi g w.heap.size with h' | h'
     . exact h'
     . simp [vbb h'] at hg
   . have Dl:i<l.length:=by simpa using hi
     have:=h.cells (g:=g) (by rw [hv];rfl) i (.string l[i].name) (by simp [zxr,Dl]);rw [show ((qa g 0):Addr).add i=(qa g i) from aS] at this;rw [vaz,ved];exact this
theorem zmf (l:List It):zbi (l.map (·.name))=zew l:=by simp [zbi,zew]
theorem all_snoc {α:Type} (ts:List α) (p:α->Bool) (k:Nat) (h:k<ts.length):(ts.take (k+1)).all p=((ts.take k).all p&&p ts[k]):=by
 rw [vag h,vbp];simp
theorem all_not {α:Type} (ts:List α) (p:α->Bool) (k:Nat) (h:k<ts.length) (hp:p ts[k]=false):ts.all p=false:=by
 rw [vcs];exact ⟨ts[k],vah _,by simp [hp]⟩
theorem zm9 (f:Fc) (a:OA) (cap:Nat) (w:World) (hT:zcy w a f.items) (hl:f.items.length<=1000000000000000) (hs:f.name.size<=maxLen) (hf:AllFit f.items) :
 qc 19 #[.agg #[.string f.name,.slice a f.items.length cap]] w fun e w'=>e = .returned (qi (zmp f))/\qb w w':=by
 obtain ⟨nm,l⟩:=f;simp only at *;have Aw:Hid (qb w (w.alloc (.cells #[.string nm,.slice a l.length cap] 30))):=(Below.refl _ _).alloc (vaa _) _
 by_cases GA:16<l.length
 . have HR:Hid (zmp ⟨nm,l⟩=2):=z27 GA
   go_enter Tryz.func19,Tryz.ntmps19;go_wp2_with fail;go_ret;exact ⟨ret_int HR.out.symm,Aw.out⟩
 have HN:Hid (∀ W,qc 58 #[.string nm] W fun e w'=>e = .returned (.bool (nameOk nm))/\qb W w'):=fun W=>zdk nm W hs
 have HI:Hid (∀ W,qb w W->qc 60 #[.slice a l.length cap] W fun e w'=>∃ v,e = .returned v/\w'.ownsRow W.heap.size 9 1 v l.length (zxr l)/\qb W w'):=fun W hb=>zi2 a cap l W (hT.later hb) ae
 have HD:Hid (∀ (W:World) (v:Value) (B:Nat),W.ownsRow B 9 1 v l.length (zxr l)->qc 59 #[v] W fun e w'=>e = .returned (.bool (zgd (zew l)))/\qb W w'):=fun W v B ho=>by
  obtain ⟨a2,c2,rfl,hS⟩:=zv7 ho;rw [← zmf]
  exact zf6 a2 c2 _ W hS (by rw [vct];omega) (fun s h=>by
   obtain ⟨i,hi,rfl⟩:=vcy.1 h
   exact hf i hi)
 have HH:Hid (∀ (W:World) (k:Nat) (h:k<l.length),qc 61 #[.agg #[qi l[k].kind,qi l[k].n,qi l[k].at_,.string l[k].name]] W fun e w'=>e = .returned (.bool (zgc l[k]))/\qb W w'):=fun W k h=>zp4 l[k] W (hf _ (vah _))
 have HT:=hid hT;have Mv:=hid GA;clear hT hf hs
 cases hn:nameOk nm with
 | false=>
   have HR:Hid (zmp ⟨nm,l⟩=1):=z28 GA hn;rw [hn] at HN;clear hn;go_enter Tryz.func19,Tryz.ntmps19;go_wp2_with fail;refine (HN.out _).mono ?_;rintro e w' ⟨rfl,hb⟩;have HB:=hid (bel hb);clear hb;go_wp2_with fail;go_ret;exact ⟨ret_int HR.out.symm,HB.out⟩
 | true =>
   rw [hn] at HN;have Ho:=hid hn;clear hn
   cases hd:zgd (zew l) with
   | true=>
     have HR:Hid (zmp ⟨nm,l⟩=1):=z6n GA hd;rw [hd] at HD;clear hd;go_enter Tryz.func19,Tryz.ntmps19;go_wp2_with fail;refine (HN.out _).mono ?_;rintro e w1 ⟨rfl,hb⟩;have HB:=hid (bel hb);have e1:w1.cell? (qa w.heap.size 1)=some (.slice a l.length cap):=(hb.cell (p:=(qa w.heap.size 1)) aA).trans aA;clear hb;go_wp2_with fail;refine (HI.out _ HB.out).mono ?_;rintro e w2 ⟨v,rfl,ho,hb⟩;have HO:=hid ho;have Ad:=hid (HB.out.trans (hb.mono HB.out.size));clear hb ho;go_wp2_with fail;refine (HD.out _ _ _ HO.out).mono ?_;rintro e w3 ⟨rfl,hb⟩;have Af:=hid (Ad.out.trans (hb.mono Ad.out.size));clear hb;go_wp2_with fail;go_ret;exact ⟨ret_int HR.out.symm,Af.out⟩
   | false=>
     have Tq:=hid hd;rw [hd] at HD;clear hd;go_enter Tryz.func19,Tryz.ntmps19;go_wp2_with fail;refine (HN.out _).mono ?_;rintro e w1 ⟨rfl,hb⟩;have HB:=hid (bel hb)
     have Ao:w.heap.size<w1.heap.size:=by have:=hb.size;simp at this;omega
     have e1:w1.cell? (qa w.heap.size 1)=some (.slice a l.length cap):=(hb.cell (p:=(qa w.heap.size 1)) aA).trans aA;clear hb;go_wp2_with fail;refine (HI.out _ HB.out).mono ?_;rintro e w2 ⟨v,rfl,ho,hb⟩;have HO:=hid ho;have Ad:=hid (HB.out.trans (hb.mono HB.out.size))
     have Ay:w.heap.size<w2.heap.size:=by have:=hb.size;omega
     have e2:w2.cell? (qa w.heap.size 1)=some (.slice a l.length cap):=(hb.cell (p:=(qa w.heap.size 1)) Ao).trans e1;clear hb ho;go_wp2_with fail;refine (HD.out _ _ _ HO.out).mono ?_;rintro e w3 ⟨rfl,hb⟩;have Af:=hid (Ad.out.trans (hb.mono Ad.out.size));have e3:w3.cell? (qa w.heap.size 1)=some (.slice a l.length cap):=(hb.cell (p:=(qa w.heap.size 1)) Ay).trans e2;clear hb e1 e2;go_wp2_with fail
     go_loopw [4,22] (fun _ i wr=>∃ k:Nat,k<=l.length/\i=qi k/\(l.take k).all zgc=true/\qb w wr) (fun _ i _=>l.length - (intOf i).toNat)
     case atStart=>exact ⟨0,vaf _,rfl,rfl,Af.out⟩
     case round=>
      obtain ⟨k,hk,rfl,A7,hb⟩:=hrel;have HA:=hid A7;have Cm:=hid hb;clear A7
      by_cases A0:k<l.length
      . obtain ⟨b,off,rfl,Av,c0,c1,c2,c3⟩:=(HT.out.later hb).place A0
        have HS:=hid (all_snoc l zgc k A0);have Dy:=hid (fun W=>HH.out W k A0);clear hb
        cases C6:zgc l[k] with
        | true=>
          have IK:Hid ((l.take (k+1)).all zgc=true):=by show (l.take (k+1)).all zgc=true;rw [HS.out,HA.out,C6];rfl
          rw [C6] at Dy;clear C6 HS;generalize l[k]=it at *
          go_wp2_with (go_at_call 61;refine (Dy.out _).mono ?_;rintro e w4 ⟨rfl,Aj⟩)
          go_roundw
          case rel=>exact ⟨k+1,ae,aR,IK.out,(Cm.out.alloc Cm.out.size _).trans (Aj.mono (by have:=Cm.out.size;simp;omega))⟩
          case measure=>simp [intOf];omega
        | false=>
          have HR:Hid (zmp ⟨nm,l⟩=1):=z29 Mv.out (all_not l zgc k A0 C6);rw [C6] at Dy;clear C6 HS;generalize l[k]=it at *
          go_wp2_with (go_at_call 61;refine (Dy.out _).mono ?_;rintro e w4 ⟨rfl,Aj⟩)
          go_ret;exact ⟨ret_int HR.out.symm,(Cm.out.alloc Cm.out.size _).trans (Aj.mono (by have:=Cm.out.size;simp;omega))⟩
      . have HR:Hid (zmp ⟨nm,l⟩=0):=z8p Mv.out Ho.out Tq.out (by have:=HA.out;rw [vav ae] at this;exact this)
        go_wp2_with fail;go_ret;exact ⟨ret_int HR.out.symm,Cm.out⟩
end Fx
set_option maxHeartbeats 400000
namespace Fx
open Go.RowKit Go.Shelf
def strOf (l:L8):ByteArray:=⟨l.toArray⟩
theorem strOf_list (l:L8):(strOf l).data.toList=l:=by simp [strOf]
theorem strOf_back (s:ByteArray):strOf s.data.toList=s:=by simp [strOf]
theorem strOf_size (l:L8):(strOf l).size=l.length:=by simp [strOf,ByteArray.size]
def zj3 (n:Int):UInt8:=UInt8.ofNat (n % 256).toNat
def yan (c:UInt8):Value:=.int .u8 c.toNat
def z89 (l:L8):List Value:=l.map yan
def numB (n:Int):L8:=[zj3 (n / 72057594037927936),zj3 (n / 281474976710656),zj3 (n / 1099511627776),zj3 (n / 4294967296),zj3 (n / 16777216),zj3 (n / 65536),zj3 (n / 256),zj3 n]
end Fx
set_option maxHeartbeats 3200000
namespace Fx
open Go.RowKit Go.Shelf
def Row (B:Nat) (w:World) (v:Value) (l:L8):Prop:=w.ownsRow B 5 1 v l.length (z89 l)
theorem Row.later {B:Nat} {w w':World} {v:Value} {l:L8} (h:Row B w v l) (hb:qb w w'):Row B w' v l:=ownsRow_later h hb
theorem Row.nil (B:Nat) (w:World):Row B w (qs) []:=ves _ _ _ _
theorem Row.lies {B:Nat} {w:World} {v:Value} {l:L8} (h:Row B w v l):∀ k,v.ownBlock=some k->B<=k/\k<w.heap.size:=fun k e=>h.lt k e
theorem Row.keep {B:Nat} {w w':World} {v:Value} {l:L8} (h:Row B w v l) (hg:w.grownBy w' v.ownBlock) {c:Nat} {cs:Array Value} {t:TypeId} {f:Nat × Nat} (ht:t≠5) (hc:w.heap[c]? = some (.cells cs t f)):w'.heap[c]? = some (.cells cs t f):=by
 have A0:c<w.heap.size:=by
  rcases vbi c w.heap.size with h' | h'
  . exact h'
  . simp [vbb h'] at hc
 refine (hg.block c A0 (fun e=>?_)).trans hc
 rcases h.2 with ⟨hv,_⟩ | ⟨g,cap,AD,hv,_,hgg,_⟩
 . rw [hv] at e;cases e
 . rw [hv] at e
   have e':c=g:=cE
   subst e';rw [hgg] at hc;cases hc;exact ht rfl
end Fx
set_option maxHeartbeats 800000
namespace Fx
open Go.RowKit Go.Shelf
structure Nose (w:World) (nb:Nat) (st:L8 × Bool):Prop where
 lt:nb<w.heap.size
 c0:w.cell? (qa nb 0)=some (.string (strOf st.1))
 c1:w.cell? (qa nb 1)=some (.bool st.2)
 f0:w.frozen? (qa nb 0)=false
 f1:w.frozen? (qa nb 1)=false
theorem Nose.kept {w w':World} {nb:Nat} {st:L8 × Bool} {r:Option Nat} (h:Nose w nb st) (hg:w.grownBy w' r) (hr:some nb≠r):Nose w' nb st:=
 have hb:=hg.block nb h.lt hr
 ⟨vai h.lt hg.size,(vet (a:=(qa nb 0)) hb).trans h.c0,(vet (a:=(qa nb 1)) hb).trans h.c1,(vew (a:=(qa nb 0)) hb).trans h.f0,(vew (a:=(qa nb 1)) hb).trans h.f1⟩
theorem grown_refl (w:World) (r:Option Nat):w.grownBy w r:=⟨rfl,rfl,rfl,vaa _,fun _ _ _=>rfl⟩
theorem z1c {w w':World} {b o:Nat} {u:Value} (h:w.grownBy w' (some b)):w.grownBy (w'.setCell (qa b o) u) (some b):=
 ⟨h.os,h.tape,h.output,by simpa using h.size,fun k hk Ai=>(Below.heap_setCell w' (qa b o) u k (fun e=>Ai (by rw [e]))).trans (h.block k hk Ai)⟩
theorem zj4 (s:ByteArray) (a n:Nat):(s.extract a (a+n)).data.toList=(s.data.toList.drop a).take n:=by
 rw [ByteArray.data_extract,Array.toList_extract,List.extract_eq_take_drop,show a+n - a=n from ae]
theorem zxu (l:L8) (a:Nat) (h:a<=l.length):(strOf l).extract a (strOf l).size=strOf (l.drop a):=by
 rw [strOf_size,show l.length=a+(l.length - a) by omega,← strOf_back ((strOf l).extract a _),zj4,strOf_list,vav aA]
theorem zug (l:L8) (n:Nat):(strOf l).extract 0 n=strOf (l.take n):=by
 have h:=zj4 (strOf l) 0 n;rw [vaz] at h;rw [← strOf_back ((strOf l).extract 0 n),h,strOf_list,List.drop_zero]
end Fx
namespace Fx
open Go.RowKit Go.Shelf
end Fx
namespace Fx
open Go.RowKit Go.Shelf
def z9a:List PanicEntry:=[{ v:=.iface 9 (.string ⟨#[116,111,111,32,102,101,119,32,98,121,116,101,115]⟩),recovered:=false }]
structure Rdr (w:World) (rb:Nat) (l:L8):Prop where
 lt:rb<w.heap.size
 c0:w.cell? (qa rb 0)=some (.string (strOf l))
 f0:w.frozen? (qa rb 0)=false
theorem Rdr.kept {w w':World} {rb:Nat} {l:L8} {r:Option Nat} (h:Rdr w rb l) (hg:w.grownBy w' r) (hr:some rb≠r):Rdr w' rb l:=
 have hb:=hg.block rb h.lt hr
 ⟨vai h.lt hg.size,(vet (a:=(qa rb 0)) hb).trans h.c0,(vew (a:=(qa rb 0)) hb).trans h.f0⟩
theorem Rdr.set {w:World} {rb:Nat} {l l':L8} {x:ByteArray} (h:Rdr w rb l) (hx:x=strOf l'):Rdr (w.setCell (qa rb 0) (.string x)) rb l':=
 ⟨by simpa using h.lt,by rw [hx];exact vcb _ _ _ h.c0,by simpa using h.f0⟩
def yb3 {α:Type} (rb:Nat) (w:World) (r:Option (α × L8)) (AE:α->Value) (e:Ending) (w':World):Prop:=
 w.grownBy w' (some rb)/\((r=none/\e = .panicked z9a)\/∃ x l,r=some (x,l)/\e = .returned (AE x)/\Rdr w' rb l)
def z4i (n:Nat) (l:L8):Option (L8 × L8):=if l.length<n then none else some (l.take n,l.drop n)
def strV (l:L8):Value:=.string (strOf l)
def intV (n:Int):Value:=qi n
theorem take_any (rb n:Nat) (l:L8) (w:World) (h:Rdr w rb l) (_hl:l.length<=1000000000000000) (hn:n<=255) :
 qc 174 #[pq rb 0,qi n] w fun e w'=>yb3 rb w (z4i n l) strV e w':=by
 have HN:=hid h;obtain ⟨A0,c0,f0⟩:=h;have hz:=strOf_size l
 by_cases hc:l.length<n
 . have HR:Hid (z4i n l=none):=if_pos hc
   go_enter Tryz.func174,Tryz.ntmps174;go_wp2_with fail;exact ⟨rfl,grown_refl _ _,Or.inl ⟨HR.out,rfl⟩⟩
 . have HR:Hid (z4i n l=some (l.take n,l.drop n)):=if_neg hc
   go_enter Tryz.func174,Tryz.ntmps174;go_wp2_with fail
   go_returns
   refine ⟨z1c (grown_refl _ _),.inr ⟨_,_,HR.out,?_,HN.out.set ?_⟩⟩
   . rw [zug];rfl
   . have:=zxu l n ae
     rwa [strOf_size] at this
end Fx
namespace Fx
open Go.RowKit Go.Shelf
theorem zuh {w w':World} (r:Option Nat) (h:qb w w'):w.grownBy w' r:=⟨h.os,h.tape,h.output,h.size,fun k hk _=>h.block k hk⟩
theorem Rdr.below {w w':World} {rb:Nat} {l:L8} (h:Rdr w rb l) (hb:qb w w'):Rdr w' rb l:=h.kept (zuh none hb) aA
end Fx
namespace Fx
open Go.RowKit Go.Shelf
def z7i (n:Int) (c:UInt8):Int:=wrap64 (n*256+c.toNat)
def valL (l:L8):Int:=l.foldl z7i 0
def pNum (l:L8):Option (Int × L8):=(z4i 8 l).map (fun q=>(valL q.1,q.2))
end Fx
namespace Fx
open Go.RowKit
theorem w0 (v:Int):wrap64 v % 256=v % 256:=bZ
theorem w1 (v:Int):wrap64 v / 256 % 256=v / 256 % 256:=bZ
theorem p2 (v:Int):v / 65536=v / 256 / 256:=(vcf (x:=v) (y:=256) (z:=256) aq).symm
theorem p3 (v:Int):v / 16777216=v / 65536 / 256:=(vcf (x:=v) (y:=65536) (z:=256) aq).symm
theorem p4 (v:Int):v / 4294967296=v / 16777216 / 256:=(vcf (x:=v) (y:=16777216) (z:=256) aq).symm
theorem p5 (v:Int):v / 1099511627776=v / 4294967296 / 256:=(vcf (x:=v) (y:=4294967296) (z:=256) aq).symm
theorem p6 (v:Int):v / 281474976710656=v / 1099511627776 / 256:=(vcf (x:=v) (y:=1099511627776) (z:=256) aq).symm
theorem p7 (v:Int):v / 72057594037927936=v / 281474976710656 / 256:=(vcf (x:=v) (y:=281474976710656) (z:=256) aq).symm
theorem w2 (v:Int):wrap64 v / 65536 % 256=v / 256 / 256 % 256:=by
 have h:wrap64 v / 65536 % 256=v / 65536 % 256:=bZ
 rw [h,p2]
theorem w3 (v:Int):wrap64 v / 16777216 % 256=v / 256 / 256 / 256 % 256:=by
 have h:wrap64 v / 16777216 % 256=v / 16777216 % 256:=bZ
 rw [h,p3,p2]
theorem w4 (v:Int):wrap64 v / 4294967296 % 256=v / 256 / 256 / 256 / 256 % 256:=by
 have h:wrap64 v / 4294967296 % 256=v / 4294967296 % 256:=bZ
 rw [h,p4,p3,p2]
theorem w5 (v:Int):wrap64 v / 1099511627776 % 256=v / 256 / 256 / 256 / 256 / 256 % 256:=by
 have h:wrap64 v / 1099511627776 % 256=v / 1099511627776 % 256:=bZ
 rw [h,p5,p4,p3,p2]
theorem w6 (v:Int):wrap64 v / 281474976710656 % 256=v / 256 / 256 / 256 / 256 / 256 / 256 % 256:=by
 have h:wrap64 v / 281474976710656 % 256=v / 281474976710656 % 256:=bZ
 rw [h,p6,p5,p4,p3,p2]
theorem w7 (v:Int):wrap64 v / 72057594037927936 % 256=v / 256 / 256 / 256 / 256 / 256 / 256 / 256 % 256:=by
 have h:wrap64 v / 72057594037927936 % 256=v / 72057594037927936 % 256:=bZ
 rw [h,p7,p6,p5,p4,p3,p2]
end Fx
namespace Fx
open Go.RowKit
end Fx
namespace Fx
open Go.RowKit
end Fx
end Go.Proofs.YtndkhgakfodldaaGreatDoor
