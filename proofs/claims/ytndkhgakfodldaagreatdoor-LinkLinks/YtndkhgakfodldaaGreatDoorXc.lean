import Derived.Test.YtndkhgakfodldaaGreatDoorXa
import Derived.Deep.AppendLies
namespace Go.Proofs.YtndkhgakfodldaaGreatDoor
set_option maxRecDepth 100000
set_option maxHeartbeats 800000
namespace Fx
open Go.RowKit Go.Shelf Go.Maps
theorem z8b:(Tryz.prog.info? 9).map (fun i=>(i.zero,i.size,i.bytes))=some (some (.string ⟨#[]⟩),1,16):=by kernel_rfl
def zvo (l:List It):List Value:=l.map (fun i=>.string i.name)
theorem zy0 (l:List It) (i:It):zvo l++[.string i.name]=zvo (l++[i]):=by simp [zvo]
theorem len_snoc {α:Type} (l:List α) (n:α):(l++[n]).length=l.length+1:=by simp
theorem zqb {α:Type} (l:List α) (k:Nat) (h:k<l.length):l.take (k+1)=l.take k++[l[k]]:=vaf h
theorem z1z {α:Type} (l:List α):l.take l.length=l:=vau (vaa _)
theorem ownsRow_later {W W':World} {B:Nat} {e:TypeId} {size:Nat} {v:Value} {n:Nat} {xs:List Value} (h:W.ownsRow B e size v n xs) (hb:qb W W'):W'.ownsRow B e size v n xs:=by
 refine ⟨h.1,?_⟩
 rcases h.2 with h1 | ⟨g,cap,AC,hv,hB,hg,hr⟩
 . exact Or.inl h1
 . have A0:g<W.heap.size:=by
    rcases vbi g W.heap.size with h' | h'
    . exact h'
    . simp [vaz h'] at hg
   exact Or.inr ⟨g,cap,AC,hv,hB,(hb.block g A0).trans hg,hr⟩
theorem zky {w:World} {x:Value} {t:TypeId} {n:Nat} (hn:n=w.heap.size):∀ j u,[x][j]? = some u->(w.alloc (.cells #[x] t)).cell? (((qa n 0):Addr).add j)=some u:=by
 subst hn;exact cell_one_new _ _ _
theorem zhp (a:OA) (cap:Nat) (l:List It) (w:World) (hT:zcj w a l) (hl:l.length<=1000000) :
 qc 60 #[.slice a l.length cap] w fun e w'=>∃ v,e = .returned v/\w'.ownsRow w.heap.size 9 1 v l.length (zvo l)/\qb w w':=by
 obtain ⟨i0,hi,Bs,Ao,AA⟩:=info_parts z8b;have HT:=hid hT;clear hT;go_enter Tryz.func60,Tryz.ntmps60;go_wp2_with fail
 go_loopw [3,5,8] (fun v _ i wr=>∃ k:Nat,k<=l.length/\i=qi k/\wr.ownsRow w.heap.size 9 1 v k (zvo (l.take k))/\qb w wr) (fun _ _ i _=>l.length - (intOf i).toNat)
 case atStart=>exact ⟨0,vae _,rfl,ver _ _ _ _,Below.refl _ _⟩
 case round=>
  obtain ⟨k,hk,rfl,Ag,hb⟩:=hrel;have HO:=hid Ag;have HB:=hid hb
  by_cases A0:k<l.length
  . obtain ⟨b,off,rfl,Au,c0,c1,c2,c3⟩:=(HT.out.later hb).place A0
    have HS:Hid (zvo (l.take k)++[.string l[k].name]=zvo (l.take (k+1))):=by rw [zqb l k A0];exact zy0 _ _
    clear Ag hb
    go_wp2_with (at_builtin;refine wpList_append_lies _ rfl _ _ _ rfl w.heap.size 9 i0 _ 1 16 Tryz.underlying22 hi Bs Ao AA rfl (by omega) _ k (zvo (l.take k)) rfl (ownsRow_later HO.out (((Below.refl _ _).alloc (vaa _) _).alloc (by simp) _)) (qa _ 0) 1 1 [.string l[k].name] rfl rfl (zky (by simp)) (by simp;rfl) (by omega) (by unfold maxLen;omega) (by omega) (by have:=HB.out.size;simp;omega) _ rfl ?_;intro q2 Bb w1 hown1 hg AF CL;have Bd:=hid hown1;have HG:=hid hg;clear hown1 hg AF)
    go_roundw
    case rel=>exact ⟨k+1,by omega,by go_num,by rw [← HS.out];exact Bd.out,((HB.out.alloc HB.out.size _).alloc (by have:=HB.out.size;simp;omega) _).grown HG.out (by have:=HB.out.size;simp;omega) (fun j hj=>(HO.out.lt j hj).1)⟩
    case measure=>simp [intOf];omega
  . obtain rfl:k=l.length:=by omega
    clear Ag hb;go_wp2_with fail;go_ret;exact ⟨_,rfl,by have:=HO.out;rw [z1z] at this;exact this,HB.out⟩
end Fx
set_option maxHeartbeats 1600000
namespace Fx
open Go.RowKit Go.Shelf Go.WideMaps Go.Maps
theorem law:Keyed Tryz.prog 9:=string_keyed Tryz.underlying9
theorem z8c (w:World):(zeroValue 3).run Tryz.prog w = .ok (qi 0) w:=by kernel_rfl
structure MapInv (D:DataW Unit) (l:List (L8)):Prop where
 has:∀ s,Maps.has D (.string s)=decide (s ∈ l)
 size:Maps.size D=(zha l).length
theorem zvp:MapInv (.map []) []:=⟨fun s=>by simp [Maps.has],rfl⟩
theorem MapInv.put {D:DataW Unit} {l:List (L8)} (h:MapInv D l) (ht:Tidy D) (hm:IsMap D) (s:L8) (d:DataW Unit):MapInv (D.put (.string s) d) (l++[s]):=by
 constructor
 . intro x
   by_cases e:x=s
   . subst e
     rw [has_put_same hm (by simp [WideAt.IsKeyLit])];simp
   . rw [has_put_other (by simpa using e),h.has]
     exact decide_eq_decide.2 (by simp [e])
 . rw [size_put ht,h.has,zf8,h.size]
   by_cases e:s ∈ l
   . rw [decide_eq_true e,if_pos rfl,if_pos ((zhb s l).2 e)]
   . rw [decide_eq_false e,if_neg (by simp),if_neg (fun k=>e ((zhb s l).1 k))]
     simp
def zd4 (w:World) (a:OA) (l:List ByteArray):Prop:=l=[]\/∃ b off,a=some (qa b off)/\b<w.heap.size/\∀ i (h:i<l.length),w.cell? ⟨b,off+i,none⟩=some (.string l[i])
theorem zd4.later {w w':World} {a:OA} {l:List ByteArray} (h:zd4 w a l) (hb:qb w w'):zd4 w' a l:=by
 rcases h with h | ⟨b,off,e,hl,h⟩
 . exact Or.inl h
 . exact Or.inr ⟨b,off,e,vah hl hb.size,fun i hi=>(hb.cell (p:=⟨b,off+i,none⟩) hl).trans (h i hi)⟩
theorem zd4.place {w:World} {a:OA} {l:List ByteArray} (h:zd4 w a l) {k:Nat} (hk:k<l.length):∃ b off,a=some (qa b off)/\b<w.heap.size/\w.cell? ⟨b,off+k,none⟩=some (.string l[k]):=by
 rcases h with h | ⟨b,off,e,hl,h⟩
 . subst h;simp at hk
 . exact ⟨b,off,e,hl,h k hk⟩
def zbf (l:List ByteArray):List (L8):=l.map (·.data.toList)
theorem zvq (l:List ByteArray) (s:ByteArray):zbf (l++[s])=zbf l++[s.data.toList]:=vbw ..
theorem zfb (a:OA) (cap:Nat) (l:List ByteArray) (w:World) (hT:zd4 w a l) (hl:l.length<=1000000) (hs:∀ s ∈ l,s.size<=maxLen) :
 qc 59 #[.slice a l.length cap] w fun e w'=>e = .returned (.bool (zfk (zbf l)))/\qb w w':=by
 have GC:=@run_makeMap Tryz.prog;have HT:=hid hT;have HL:=hid hs;clear hT hs;go_enter Tryz.func59,Tryz.ntmps59;go_wp2_with fail
 go_loopw [5,9] (fun _ i wr=>∃ (k:Nat) (D:DataW Unit),k<=l.length/\i=qi k/\wr.ownsMap Tryz.prog 9 (plainElem Tryz.prog 3) w.heap.size k D/\MapInv D (zbf (l.take k))/\qb w wr) (fun _ i _=>l.length - (intOf i).toNat)
 case atStart=>exact ⟨0,.map [],vae _,rfl,veu _ _ _ _,zvp,(Below.refl _ _).alloc (vaa _) _⟩
 case round=>
  obtain ⟨k,D,hk,rfl,Ag,hinv,hb⟩:=hrel;have HI:=hid hinv
  by_cases A0:k<l.length
  . obtain ⟨b,off,e,Au,c0⟩:=HT.out.place A0
    subst e;have hc:=(hb.cell (p:=⟨b,off+k,none⟩) Au).trans c0;have E1:b<wr.heap.size:=vah Au hb.size
    have HK:Hid (zbf (l.take k)++[l[k].data.toList]=zbf (l.take (k+1))):=by
     show zbf (l.take k)++[l[k].data.toList]=zbf (l.take (k+1));rw [zqb l k A0,zvq]
    have Jm:keyOf Tryz.prog 9 (.string l[k])=some (.string l[k].data.toList):=keyOf_string_mk Tryz.underlying9 (HL.out _ (vag _));have Kd:=hid Jm;have HO:=hid Ag;have HB:=hid hb;clear Jm Ag hb hinv c0;generalize l[k]=s at *
    go_wp2_with (first
     | (at_lookup;refine wpList_lookup_own_int _ rfl _ _ 185 rfl 9 3 .i64 law Tryz.underlying185 Tryz.underlying3 (z8c _) w.heap.size k D rfl HO.out _ _ rfl Kd.out ?_;intro c AF hwc;clear AF hwc)
     | (at_mapUpdate;refine wpList_mapUpdate_own _ rfl _ _ _ 185 rfl 9 3 law Tryz.underlying185 _ w.heap.size k D rfl HO.out (by unfold maxLen;omega) _ _ _ rfl rfl Kd.out _ [] (plainElem_int Tryz.underlying3 (wrap64_wf _)) ?_;intro w1 hown1 hgrow1;have Bd:=hid hown1;have HG:=hid hgrow1;clear hown1 hgrow1))
    go_roundw
    case rel=>exact ⟨k+1,_,by omega,by go_num,Bd.out,by rw [← HK.out];exact HI.out.put (HO.out.tidy law) HO.out.isMap _ _,HB.out.grown HG.out HB.out.size (fun j hj=>by cases hj;exact vaa _)⟩
    case measure=>simp [intOf];omega
  . have HE:Hid (Maps.size D=(zha (zbf l)).length):=by
     have:=HI.out.size;rw [vau (by omega)] at this;exact this
    have DN:Hid ((zbf l).length=l.length):=by show (zbf l).length=_;simp [zbf]
    have HO:=hid Ag;have HB:=hid hb;clear hinv Ag hb HI
    go_wp2_with (at_len;refine wpList_len_own _ rfl _ _ rfl 9 3 Tryz.underlying185 _ w.heap.size k D rfl HO.out ?_)
    go_ret;exact ⟨ret_bool (by unfold zfk;rw [← HE.out,DN.out]),HB.out⟩
theorem zt6 {w:World} {B:Nat} {v:Value} {l:List It} (h:w.ownsRow B 9 1 v l.length (zvo l)):∃ a cap,v = .slice a (l.map (·.name)).length cap/\zd4 w a (l.map (·.name)):=by
 rcases h.2 with ⟨hv,h0⟩ | ⟨g,cap,AC,hv,hB,hg,_⟩
 . have hl:l=[]:=vam h0
   exact ⟨none,0,by rw [hv,hl];rfl,Or.inl (by rw [hl];rfl)⟩
 . refine ⟨_,cap,by rw [hv,vcq],Or.inr ⟨g,0,rfl,?_,fun i hi=>?_⟩⟩
   . rcases vbi g w.heap.size with h' | h'
     . exact h'
     . simp [vaz h'] at hg
   . have CZ:i<l.length:=by simpa using hi
     have:=h.cells (g:=g) (by rw [hv];rfl) i (.string l[i].name) (by simp [zvo,CZ]);rw [show ((qa g 0):Addr).add i=(qa g i) from by unfold Addr.add;split<;>simp_all] at this;rw [vax,ved];exact this
theorem zkz (l:List It):zbf (l.map (·.name))=zd2 l:=by simp [zbf,zd2]
theorem all_snoc {α:Type} (ts:List α) (p:α->Bool) (k:Nat) (h:k<ts.length):(ts.take (k+1)).all p=((ts.take k).all p&&p ts[k]):=by
 rw [vaf h,vbo];simp
theorem all_not {α:Type} (ts:List α) (p:α->Bool) (k:Nat) (h:k<ts.length) (hp:p ts[k]=false):ts.all p=false:=by
 rw [vcp];exact ⟨ts[k],vag _,by simp [hp]⟩
theorem zlw (f:Fc) (a:OA) (cap:Nat) (w:World) (hT:zcj w a f.items) (hl:f.items.length<=1000000000000000) (hs:f.name.size<=maxLen) (hf:AllFit f.items) :
 qc 19 #[.agg #[.string f.name,.slice a f.items.length cap]] w fun e w'=>e = .returned (qi (zk9 f))/\qb w w':=by
 obtain ⟨nm,l⟩:=f;simp only at *;have Aw:Hid (qb w (w.alloc (.cells #[.string nm,.slice a l.length cap] 30))):=(Below.refl _ _).alloc (vaa _) _
 by_cases FH:16<l.length
 . have HR:Hid (zk9 ⟨nm,l⟩=2):=z0p FH
   go_enter Tryz.func19,Tryz.ntmps19;go_wp2_with fail;go_ret;exact ⟨ret_int HR.out.symm,Aw.out⟩
 have HN:Hid (∀ W,qc 58 #[.string nm] W fun e w'=>e = .returned (.bool (nameOk nm))/\qb W w'):=fun W=>zc0 nm W hs
 have HI:Hid (∀ W,qb w W->qc 60 #[.slice a l.length cap] W fun e w'=>∃ v,e = .returned v/\w'.ownsRow W.heap.size 9 1 v l.length (zvo l)/\qb W w'):=fun W hb=>zhp a cap l W (hT.later hb) (by omega)
 have HD:Hid (∀ (W:World) (v:Value) (B:Nat),W.ownsRow B 9 1 v l.length (zvo l)->qc 59 #[v] W fun e w'=>e = .returned (.bool (zfk (zd2 l)))/\qb W w'):=fun W v B ho=>by
  obtain ⟨a2,c2,rfl,hS⟩:=zt6 ho;rw [← zkz]
  exact zfb a2 c2 _ W hS (by rw [vcq];omega) (fun s h=>by
   obtain ⟨i,hi,rfl⟩:=vcw.1 h
   exact hf i hi)
 have HH:Hid (∀ (W:World) (k:Nat) (h:k<l.length),qc 61 #[.agg #[qi l[k].kind,qi l[k].n,qi l[k].at_,.string l[k].name]] W fun e w'=>e = .returned (.bool (zfi l[k]))/\qb W w'):=fun W k h=>zoj l[k] W (hf _ (vag _))
 have HT:=hid hT;have Lu:=hid FH;clear hT hf hs
 cases hn:nameOk nm with
 | false=>
   have HR:Hid (zk9 ⟨nm,l⟩=1):=z0q FH hn;rw [hn] at HN;clear hn;go_enter Tryz.func19,Tryz.ntmps19;go_wp2_with fail;refine (HN.out _).mono ?_;rintro e w' ⟨rfl,hb⟩;have HB:=hid (bel hb);clear hb;go_wp2_with fail;go_ret;exact ⟨ret_int HR.out.symm,HB.out⟩
 | true =>
   rw [hn] at HN;have Gg:=hid hn;clear hn
   cases hd:zfk (zd2 l) with
   | true=>
     have HR:Hid (zk9 ⟨nm,l⟩=1):=z35 FH hd;rw [hd] at HD;clear hd;go_enter Tryz.func19,Tryz.ntmps19;go_wp2_with fail;refine (HN.out _).mono ?_;rintro e w1 ⟨rfl,hb⟩;have HB:=hid (bel hb);have e1:w1.cell? (qa w.heap.size 1)=some (.slice a l.length cap):=(hb.cell (p:=(qa w.heap.size 1)) (by simp)).trans (by simp);clear hb;go_wp2_with fail;refine (HI.out _ HB.out).mono ?_;rintro e w2 ⟨v,rfl,ho,hb⟩;have HO:=hid ho;have Ad:=hid (HB.out.trans (hb.mono HB.out.size));clear hb ho;go_wp2_with fail;refine (HD.out _ _ _ HO.out).mono ?_;rintro e w3 ⟨rfl,hb⟩;have Af:=hid (Ad.out.trans (hb.mono Ad.out.size));clear hb;go_wp2_with fail;go_ret;exact ⟨ret_int HR.out.symm,Af.out⟩
   | false=>
     have S8:=hid hd;rw [hd] at HD;clear hd;go_enter Tryz.func19,Tryz.ntmps19;go_wp2_with fail;refine (HN.out _).mono ?_;rintro e w1 ⟨rfl,hb⟩;have HB:=hid (bel hb)
     have Ao:w.heap.size<w1.heap.size:=by have:=hb.size;simp at this;omega
     have e1:w1.cell? (qa w.heap.size 1)=some (.slice a l.length cap):=(hb.cell (p:=(qa w.heap.size 1)) (by simp)).trans (by simp);clear hb;go_wp2_with fail;refine (HI.out _ HB.out).mono ?_;rintro e w2 ⟨v,rfl,ho,hb⟩;have HO:=hid ho;have Ad:=hid (HB.out.trans (hb.mono HB.out.size))
     have AA:w.heap.size<w2.heap.size:=by have:=hb.size;omega
     have e2:w2.cell? (qa w.heap.size 1)=some (.slice a l.length cap):=(hb.cell (p:=(qa w.heap.size 1)) Ao).trans e1;clear hb ho;go_wp2_with fail;refine (HD.out _ _ _ HO.out).mono ?_;rintro e w3 ⟨rfl,hb⟩;have Af:=hid (Ad.out.trans (hb.mono Ad.out.size));have e3:w3.cell? (qa w.heap.size 1)=some (.slice a l.length cap):=(hb.cell (p:=(qa w.heap.size 1)) AA).trans e2;clear hb e1 e2;go_wp2_with fail
     go_loopw [4,22] (fun _ i wr=>∃ k:Nat,k<=l.length/\i=qi k/\(l.take k).all zfi=true/\qb w wr) (fun _ i _=>l.length - (intOf i).toNat)
     case atStart=>exact ⟨0,vae _,rfl,rfl,Af.out⟩
     case round=>
      obtain ⟨k,hk,rfl,A6,hb⟩:=hrel;have HA:=hid A6;have C9:=hid hb;clear A6
      by_cases A0:k<l.length
      . obtain ⟨b,off,rfl,Au,c0,c1,c2,c3⟩:=(HT.out.later hb).place A0
        have HS:=hid (all_snoc l zfi k A0);have D9:=hid (fun W=>HH.out W k A0);clear hb
        cases C0:zfi l[k] with
        | true=>
          have Hi:Hid ((l.take (k+1)).all zfi=true):=by show (l.take (k+1)).all zfi=true;rw [HS.out,HA.out,C0];rfl
          rw [C0] at D9;clear C0 HS;generalize l[k]=it at *
          go_wp2_with (go_at_call 61;refine (D9.out _).mono ?_;rintro e w4 ⟨rfl,Ah⟩)
          go_roundw
          case rel=>exact ⟨k+1,by omega,by go_num,Hi.out,(C9.out.alloc C9.out.size _).trans (Ah.mono (by have:=C9.out.size;simp;omega))⟩
          case measure=>simp [intOf];omega
        | false=>
          have HR:Hid (zk9 ⟨nm,l⟩=1):=z0r Lu.out (all_not l zfi k A0 C0);rw [C0] at D9;clear C0 HS;generalize l[k]=it at *
          go_wp2_with (go_at_call 61;refine (D9.out _).mono ?_;rintro e w4 ⟨rfl,Ah⟩)
          go_ret;exact ⟨ret_int HR.out.symm,(C9.out.alloc C9.out.size _).trans (Ah.mono (by have:=C9.out.size;simp;omega))⟩
      . have HR:Hid (zk9 ⟨nm,l⟩=0):=z59 Lu.out Gg.out S8.out (by have:=HA.out;rw [vau (by omega)] at this;exact this)
        go_wp2_with fail;go_ret;exact ⟨ret_int HR.out.symm,C9.out⟩
end Fx
set_option maxHeartbeats 400000
namespace Fx
open Go.RowKit Go.Shelf
def strOf (l:L8):ByteArray:=⟨l.toArray⟩
theorem strOf_list (l:L8):(strOf l).data.toList=l:=by simp [strOf]
theorem strOf_back (s:ByteArray):strOf s.data.toList=s:=by simp [strOf]
theorem strOf_size (l:L8):(strOf l).size=l.length:=by simp [strOf,ByteArray.size]
def ziq (n:Int):UInt8:=UInt8.ofNat (n % 256).toNat
def z8d (c:UInt8):Value:=.int .u8 c.toNat
def z6t (l:L8):List Value:=l.map z8d
def numB (n:Int):L8:=[ziq (n / 72057594037927936),ziq (n / 281474976710656),ziq (n / 1099511627776),ziq (n / 4294967296),ziq (n / 16777216),ziq (n / 65536),ziq (n / 256),ziq n]
end Fx
set_option maxHeartbeats 3200000
namespace Fx
open Go.RowKit Go.Shelf
def Row (B:Nat) (w:World) (v:Value) (l:L8):Prop:=w.ownsRow B 5 1 v l.length (z6t l)
theorem Row.later {B:Nat} {w w':World} {v:Value} {l:L8} (h:Row B w v l) (hb:qb w w'):Row B w' v l:=ownsRow_later h hb
theorem Row.nil (B:Nat) (w:World):Row B w (qs) []:=ver _ _ _ _
theorem Row.lies {B:Nat} {w:World} {v:Value} {l:L8} (h:Row B w v l):∀ k,v.ownBlock=some k->B<=k/\k<w.heap.size:=fun k e=>h.lt k e
theorem Row.keep {B:Nat} {w w':World} {v:Value} {l:L8} (h:Row B w v l) (hg:w.grownBy w' v.ownBlock) {c:Nat} {cs:Array Value} {t:TypeId} {f:Nat × Nat} (ht:t≠5) (hc:w.heap[c]? = some (.cells cs t f)):w'.heap[c]? = some (.cells cs t f):=by
 have A0:c<w.heap.size:=by
  rcases vbi c w.heap.size with h' | h'
  . exact h'
  . simp [vaz h'] at hc
 refine (hg.block c A0 (fun e=>?_)).trans hc
 rcases h.2 with ⟨hv,_⟩ | ⟨g,cap,AC,hv,_,hgg,_⟩
 . rw [hv] at e;cases e
 . rw [hv] at e
   have e':c=g:=by simpa [Value.ownBlock] using e
   subst e';rw [hgg] at hc;cases hc;exact ht rfl
end Fx
set_option maxHeartbeats 800000
namespace Fx
open Go.RowKit Go.Shelf
structure Nose (w:World) (nb:Nat) (st:L8 × Bool):Prop where
 lt:nb<w.heap.size
 c0:w.cell? (qa nb 0)=some (.string (strOf st.1))
 c1:w.cell? (qa nb 1)=some (.bool st.2)
 f0:w.frozen? (qa nb 0)=false
 f1:w.frozen? (qa nb 1)=false
theorem Nose.kept {w w':World} {nb:Nat} {st:L8 × Bool} {r:Option Nat} (h:Nose w nb st) (hg:w.grownBy w' r) (hr:some nb≠r):Nose w' nb st:=
 have hb:=hg.block nb h.lt hr
 ⟨vah h.lt hg.size,(ves (a:=(qa nb 0)) hb).trans h.c0,(ves (a:=(qa nb 1)) hb).trans h.c1,(vew (a:=(qa nb 0)) hb).trans h.f0,(vew (a:=(qa nb 1)) hb).trans h.f1⟩
theorem grown_refl (w:World) (r:Option Nat):w.grownBy w r:=⟨rfl,rfl,rfl,vaa _,fun _ _ _=>rfl⟩
theorem zy1 {w w':World} {b o:Nat} {u:Value} (h:w.grownBy w' (some b)):w.grownBy (w'.setCell (qa b o) u) (some b):=
 ⟨h.os,h.tape,h.output,by simpa using h.size,fun k hk Aj=>(Below.heap_setCell w' (qa b o) u k (fun e=>Aj (by rw [e]))).trans (h.block k hk Aj)⟩
theorem zir (s:ByteArray) (a n:Nat):(s.extract a (a+n)).data.toList=(s.data.toList.drop a).take n:=by
 rw [ByteArray.data_extract,Array.toList_extract,List.extract_eq_take_drop,show a+n - a=n from by omega]
theorem zvr (l:L8) (a:Nat) (h:a<=l.length):(strOf l).extract a (strOf l).size=strOf (l.drop a):=by
 rw [strOf_size,show l.length=a+(l.length - a) by omega,← strOf_back ((strOf l).extract a _),zir,strOf_list,vau (by simp)]
theorem zsi (l:L8) (n:Nat):(strOf l).extract 0 n=strOf (l.take n):=by
 have h:=zir (strOf l) 0 n;rw [vax] at h;rw [← strOf_back ((strOf l).extract 0 n),h,strOf_list,List.drop_zero]
end Fx
namespace Fx
open Go.RowKit Go.Shelf
end Fx
namespace Fx
open Go.RowKit Go.Shelf
def z6u:List PanicEntry:=[{ v:=.iface 9 (.string ⟨#[116,111,111,32,102,101,119,32,98,121,116,101,115]⟩),recovered:=false }]
structure Rdr (w:World) (rb:Nat) (l:L8):Prop where
 lt:rb<w.heap.size
 c0:w.cell? (qa rb 0)=some (.string (strOf l))
 f0:w.frozen? (qa rb 0)=false
theorem Rdr.kept {w w':World} {rb:Nat} {l:L8} {r:Option Nat} (h:Rdr w rb l) (hg:w.grownBy w' r) (hr:some rb≠r):Rdr w' rb l:=
 have hb:=hg.block rb h.lt hr
 ⟨vah h.lt hg.size,(ves (a:=(qa rb 0)) hb).trans h.c0,(vew (a:=(qa rb 0)) hb).trans h.f0⟩
theorem Rdr.set {w:World} {rb:Nat} {l l':L8} {x:ByteArray} (h:Rdr w rb l) (hx:x=strOf l'):Rdr (w.setCell (qa rb 0) (.string x)) rb l':=
 ⟨by simpa using h.lt,by rw [hx];exact vca _ _ _ h.c0,by simpa using h.f0⟩
def z9w {α:Type} (rb:Nat) (w:World) (r:Option (α × L8)) (AD:α->Value) (e:Ending) (w':World):Prop:=
 w.grownBy w' (some rb)/\((r=none/\e = .panicked z6u)\/∃ x l,r=some (x,l)/\e = .returned (AD x)/\Rdr w' rb l)
def z10 (n:Nat) (l:L8):Option (L8 × L8):=if l.length<n then none else some (l.take n,l.drop n)
def strV (l:L8):Value:=.string (strOf l)
def intV (n:Int):Value:=qi n
theorem take_any (rb n:Nat) (l:L8) (w:World) (h:Rdr w rb l) (_hl:l.length<=1000000000000000) (hn:n<=255) :
 qc 174 #[pq rb 0,qi n] w fun e w'=>z9w rb w (z10 n l) strV e w':=by
 have HN:=hid h;obtain ⟨A0,c0,f0⟩:=h;have hz:=strOf_size l
 by_cases hc:l.length<n
 . have HR:Hid (z10 n l=none):=if_pos hc
   go_enter Tryz.func174,Tryz.ntmps174;go_wp2_with fail;exact ⟨rfl,grown_refl _ _,Or.inl ⟨HR.out,rfl⟩⟩
 . have HR:Hid (z10 n l=some (l.take n,l.drop n)):=if_neg hc
   go_enter Tryz.func174,Tryz.ntmps174;go_wp2_with fail
   go_returns
   refine ⟨zy1 (grown_refl _ _),.inr ⟨_,_,HR.out,?_,HN.out.set ?_⟩⟩
   . rw [zsi];rfl
   . have:=zvr l n (by omega)
     rwa [strOf_size] at this
end Fx
namespace Fx
open Go.RowKit Go.Shelf
theorem zsj {w w':World} (r:Option Nat) (h:qb w w'):w.grownBy w' r:=⟨h.os,h.tape,h.output,h.size,fun k hk _=>h.block k hk⟩
theorem Rdr.below {w w':World} {rb:Nat} {l:L8} (h:Rdr w rb l) (hb:qb w w'):Rdr w' rb l:=h.kept (zsj none hb) (by simp)
end Fx
namespace Fx
open Go.RowKit Go.Shelf
def z4y (n:Int) (c:UInt8):Int:=wrap64 (n*256+c.toNat)
def valL (l:L8):Int:=l.foldl z4y 0
def pNum (l:L8):Option (Int × L8):=(z10 8 l).map (fun q=>(valL q.1,q.2))
end Fx
namespace Fx
open Go.RowKit
theorem w0 (v:Int):wrap64 v % 256=v % 256:=by unfold wrap64;omega
theorem w1 (v:Int):wrap64 v / 256 % 256=v / 256 % 256:=by unfold wrap64;omega
theorem p2 (v:Int):v / 65536=v / 256 / 256:=(vce (x:=v) (y:=256) (z:=256) (by decide)).symm
theorem p3 (v:Int):v / 16777216=v / 65536 / 256:=(vce (x:=v) (y:=65536) (z:=256) (by decide)).symm
theorem p4 (v:Int):v / 4294967296=v / 16777216 / 256:=(vce (x:=v) (y:=16777216) (z:=256) (by decide)).symm
theorem p5 (v:Int):v / 1099511627776=v / 4294967296 / 256:=(vce (x:=v) (y:=4294967296) (z:=256) (by decide)).symm
theorem p6 (v:Int):v / 281474976710656=v / 1099511627776 / 256:=(vce (x:=v) (y:=1099511627776) (z:=256) (by decide)).symm
theorem p7 (v:Int):v / 72057594037927936=v / 281474976710656 / 256:=(vce (x:=v) (y:=281474976710656) (z:=256) (by decide)).symm
theorem w2 (v:Int):wrap64 v / 65536 % 256=v / 256 / 256 % 256:=by
 have h:wrap64 v / 65536 % 256=v / 65536 % 256:=by unfold wrap64;omega
 rw [h,p2]
theorem w3 (v:Int):wrap64 v / 16777216 % 256=v / 256 / 256 / 256 % 256:=by
 have h:wrap64 v / 16777216 % 256=v / 16777216 % 256:=by unfold wrap64;omega
 rw [h,p3,p2]
theorem w4 (v:Int):wrap64 v / 4294967296 % 256=v / 256 / 256 / 256 / 256 % 256:=by
 have h:wrap64 v / 4294967296 % 256=v / 4294967296 % 256:=by unfold wrap64;omega
 rw [h,p4,p3,p2]
theorem w5 (v:Int):wrap64 v / 1099511627776 % 256=v / 256 / 256 / 256 / 256 / 256 % 256:=by
 have h:wrap64 v / 1099511627776 % 256=v / 1099511627776 % 256:=by unfold wrap64;omega
 rw [h,p5,p4,p3,p2]
theorem w6 (v:Int):wrap64 v / 281474976710656 % 256=v / 256 / 256 / 256 / 256 / 256 / 256 % 256:=by
 have h:wrap64 v / 281474976710656 % 256=v / 281474976710656 % 256:=by unfold wrap64;omega
 rw [h,p6,p5,p4,p3,p2]
theorem w7 (v:Int):wrap64 v / 72057594037927936 % 256=v / 256 / 256 / 256 / 256 / 256 / 256 / 256 % 256:=by
 have h:wrap64 v / 72057594037927936 % 256=v / 72057594037927936 % 256:=by unfold wrap64;omega
 rw [h,p7,p6,p5,p4,p3,p2]
end Fx
namespace Fx
open Go.RowKit
end Fx
namespace Fx
open Go.RowKit
end Fx
end Go.Proofs.YtndkhgakfodldaaGreatDoor
