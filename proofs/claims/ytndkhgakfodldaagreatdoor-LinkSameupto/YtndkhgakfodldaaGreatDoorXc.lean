import Derived.Test.YtndkhgakfodldaaGreatDoorXa
import Derived.Deep.AppendLies
set_option maxRecDepth 100000
set_option maxHeartbeats 3200000
open Go.Proofs.Tryz
namespace Go.Proofs.YtndkhgakfodldaaGreatDoor
theorem Qy{P:Prop}(h:P:=by
 go_wp2_with (at_builtin;refine nx rfl (.tmp 41) (.tmp 43) 28 rfl (w.heap.size+1) 98 _ 4 40 Tryz.underlying28 Tryz.infoItem rfl N9 ((wr.alloc (ip d.kind d.name d.pub d.n)).alloc (kd d.kind d.n f d.name)) u4 H.length (gp H) (js ⟨d.kind,d.n,f,d.name⟩) rfl u #[di d.kind,di d.n,di f,.string d.name] _ Ob rfl rfl (fun _=>False) aa (fun b _ h=>h.elim) N7 N9 Of ?_)
 intro bL av dJ bP bu bV;have T:=hid bP;have s:=hid bu;clear bP bu u aa;go_wp2_with fail;go_roundw
 case rel=>exact ⟨j+1,H++[_],_,N7,Ou,rfl,Qn,ak.trans (by rw [aZ.out,aV.out]),by rw [sl,eM,hacc];exact T,(s.block _ N7).trans bl,r.trans (s.mono N7)⟩
 case measure=>simp [intOf];omega):P:=h
theorem QJ{P:Prop}(h:P:=by
 go_enter func208,ntmps208;go_wp2_with fail;refine bh.mono ?_;rintro e dk ⟨bq,ak,⟨bn,s',Q,rfl,aj⟩ | ⟨⟨a8,dl,dr⟩,s',Q,rfl,aj⟩⟩
 . exact ⟨rfl,Sa.no ((dR.below (dn w _)).gm.trans ak) (z.trans Q) aj⟩
 . obtain rfl:a8=false:=br _ _ Q
   have aP:=hid (Sa.ok (rep:=gN) ((dR.below (dn w _)).gm.trans ak) (z.trans Q) aj);clear ak Q aj;unfold tW;go_wp2_with fail
   go_returns
   exact aP):P:=h
theorem QQ{P:Prop}(h:P:=by
 go_wp2_with fail
 go_returns
 exact aP):P:=h
theorem Q1{P:Prop}(h:P:=by
 unfold n8
 go_wp2_with (go_at_call 227;refine (qg _ _).mono ?_;rintro e G ⟨rfl,rfl⟩)
 go_returns
 exact aP):P:=h
namespace Fx
open Go.RowKit Go.Shelf Go.Maps
variable {B n b:Nat} {a:OA} {l:L8} {r:Option Nat} {t:TypeId} {v:Value} {w G:World} {α:Type}
theorem Mj:(prog.info? 9).map (fun i=>(i.zero,i.size,i.bytes))=some (some (.string ⟨#[]⟩),1,16):=by kernel_rfl
def zze (l:List It):List Value:=l.map (fun i=>.string i.name)
theorem Mk (l:List It) (i:It):zze l++[.string i.name]=zze (l++[i]):=by simp [zze]
theorem len_snoc (l:List α) (n:α):(l++[n]).length=l.length+1:=Ob
theorem Dt (l:List α) (k:Nat) (h:k<l.length):l.take (k+1)=l.take k++[l[k]]:=gn h
theorem Ml (l:List α):l.take l.length=l:=iq (dA _)
theorem ownsRow_later {M c:World} {e:TypeId} {size:Nat} {ao:List Value} (h:M.ownsRow B e size v n ao) (I:dm M c):c.ownsRow B e size v n ao:=by
 refine ⟨h.1,?_⟩
 rcases h.2 with F | ⟨al,q,o,af,aF,ak,Q⟩
 . exact Or.inl F
 . have ac:al<M.heap.size:=by
    rcases gZ al M.heap.size with a5 | a5
    . exact a5
    . simp [lF a5] at ak
   exact Or.inr ⟨al,q,o,af,aF,(I.block al ac).trans ak,Q⟩
theorem zmf {x:Value} (Z:n=w.heap.size):∀ j u,[x][j]? = some u->(w.alloc (.cells #[x] t)).cell? (((dj n 0):Addr).add j)=some u:=by
 subst Z;exact cell_one_new _ _ _
theorem zi0 (a:OA) (q:Nat) (l:List It) (w:World) (H:zct w a l) (X:l.length<=1000000) :
 dw 60 #[.slice a l.length q] w fun e G=>∃ v,e = .returned v/\G.ownsRow w.heap.size 9 1 v l.length (zze l)/\dm w G:=by
 obtain ⟨aY,V,a9,ba,bA⟩:=info_parts Mj;have aM:=hid H;clear H;go_enter func60,ntmps60;go_wp2_with fail
 go_loopw [3,5,8] (fun v _ i wr=>∃ k:Nat,k<=l.length/\i=di k/\wr.ownsRow w.heap.size 9 1 v k (zze (l.take k))/\dm w wr) (fun _ _ i _=>l.length - (intOf i).toNat)
 case atStart=>exact ⟨0,dY _,rfl,jU _ _ _ _,Below.refl _ _⟩
 case round=>
  obtain ⟨k,N,rfl,T,I⟩:=hrel;have P:=hid T;have ag:=hid I
  by_cases ac:k<l.length
  . obtain ⟨p,C,rfl,bb,bt,ah,ae,c3⟩:=(aM.later I).place ac
    have aQ:Hid (zze (l.take k)++[.string l[k].name]=zze (l.take (k+1))):=by rw [Dt l k ac];exact Mk _ _
    clear T I
    go_wp2_with (at_builtin;refine wpList_append_lies _ rfl _ _ _ rfl w.heap.size 9 aY _ 1 16 Tryz.underlying22 V a9 ba bA rfl N7 _ k (zze (l.take k)) rfl (ownsRow_later P (((Below.refl _ _).alloc (dA _) _).alloc Ob _)) (dj _ 0) 1 1 [.string l[k].name] rfl rfl (zmf Ob) (by simp;rfl) N7 Oh N7 (by have:=ag.size;simp;omega) _ rfl ?_;intro aK b dk hown1 ak a3 be;have u:=hid hown1;have bz:=hid ak;clear hown1 ak a3)
    go_roundw
    case rel=>exact ⟨k+1,N7,Ou,by rw [← aQ.out];exact u,((ag.alloc ag.size _).alloc (by have:=ag.size;simp;omega) _).grown bz (by have:=ag.size;simp;omega) (fun j a2=>(P.lt j a2).1)⟩
    case measure=>simp [intOf];omega
  . obtain rfl:k=l.length:=by omega
    clear T I;go_wp2_with fail;go_ret;exact ⟨_,rfl,by have:=P.out;rw [Ml] at this;exact this,ag⟩
open Go.RowKit Go.Shelf Go.WideMaps Go.Maps
theorem law:Keyed prog 9:=string_keyed Tryz.underlying9
theorem ycq (w:World):(zeroValue 3).run prog w = .ok (di 0) w:=by kernel_rfl
structure MapInv (D:DataW Unit) (l:List (L8)):Prop where
 has:∀ s,Maps.has D (.string s)=decide (s ∈ l)
 size:Maps.size D=(zhv l).length
theorem zos:MapInv (.map []) []:=⟨fun o=>by simp [Maps.has],rfl⟩
theorem MapInv.put {D:DataW Unit} {l:List (L8)} (h:MapInv D l) (ax:Tidy D) (a1:IsMap D) (s:L8) (d:DataW Unit):MapInv (D.put (.string s) d) (l++[s]):=by
 constructor
 . intro x
   by_cases e:x=s
   . subst e
     rw [has_put_same a1 (by simp [WideAt.IsKeyLit])];simp
   . rw [has_put_other (by simpa using e),h.has]
     exact decide_eq_decide.2 (by simp [e])
 . rw [size_put ax,h.has,va,h.size]
   by_cases e:s ∈ l
   . rw [decide_eq_true e,if_pos rfl,if_pos ((vc s l).2 e)]
   . rw [decide_eq_false e,if_neg Ob,if_neg (fun k=>e ((vc s l).1 k))]
     simp
def zfd (w:World) (a:OA) (l:List ByteArray):Prop:=l=[]\/∃ p C,a=some (dj p C)/\p<w.heap.size/\∀ i (h:i<l.length),w.cell? ⟨p,C+i,none⟩=some (.string l[i])
theorem zfd.later {l:List ByteArray} (h:zfd w a l) (I:dm w G):zfd G a l:=by
 exact RL
theorem zfd.place {l:List ByteArray} (h:zfd w a l) {k:Nat} (N:k<l.length):∃ p C,a=some (dj p C)/\p<w.heap.size/\w.cell? ⟨p,C+k,none⟩=some (.string l[k]):=by
 exact SE
def lists (l:List ByteArray):List (L8):=l.map (·.data.toList)
theorem zot (l:List ByteArray) (s:ByteArray):lists (l++[s])=lists l++[s.data.toList]:=j2 ..
theorem zfu (a:OA) (q:Nat) (l:List ByteArray) (w:World) (H:zfd w a l) (X:l.length<=1000000) (a8:∀ o ∈ l,o.size<=maxLen) :
 dw 59 #[.slice a l.length q] w fun e G=>e = .returned (.bool (zhf (lists l)))/\dm w G:=by
 have c8:=@run_makeMap prog;have aM:=hid H;have b2:=hid a8;clear H a8;go_enter func59,ntmps59;go_wp2_with fail
 go_loopw [5,9] (fun _ i wr=>∃ (k:Nat) (D:DataW Unit),k<=l.length/\i=di k/\wr.ownsMap prog 9 (plainElem prog 3) w.heap.size k D/\MapInv D (lists (l.take k))/\dm w wr) (fun _ i _=>l.length - (intOf i).toNat)
 case atStart=>exact ⟨0,.map [],dY _,rfl,rt _ _ _ _,zos,(Below.refl _ _).alloc (dA _) _⟩
 case round=>
  obtain ⟨k,D,N,rfl,T,hinv,I⟩:=hrel;have y:=hid hinv
  by_cases ac:k<l.length
  . obtain ⟨p,C,e,bb,bt⟩:=aM.place ac
    subst e;have W:=(I.cell (p:=⟨p,C+k,none⟩) bb).trans bt;have A:p<wr.heap.size:=e4 bb I.size
    have bJ:Hid (lists (l.take k)++[l[k].data.toList]=lists (l.take (k+1))):=by
     show lists (l.take k)++[l[k].data.toList]=lists (l.take (k+1));rw [Dt l k ac,zot]
    have b:keyOf prog 9 (.string l[k])=some (.string l[k].data.toList):=keyOf_string_mk Tryz.underlying9 (b2 _ (eb _));have d:=hid b;have P:=hid T;have ag:=hid I;clear b T I hinv bt;generalize l[k]=o at *
    go_wp2_with (first
     | (at_lookup;refine wpList_lookup_own_int _ rfl _ _ 185 rfl 9 3 .i64 law Tryz.underlying185 Tryz.underlying3 (ycq _) w.heap.size k D rfl P _ _ rfl d ?_;intro an a3 hwc;clear a3 hwc)
     | (at_mapUpdate;refine wpList_mapUpdate_own _ rfl _ _ _ 185 rfl 9 3 law Tryz.underlying185 _ w.heap.size k D rfl P Oh _ _ _ rfl rfl d _ [] (plainElem_int Tryz.underlying3 (wrap64_wf _)) ?_;intro dk hown1 hgrow1;have u:=hid hown1;have bz:=hid hgrow1;clear hown1 hgrow1))
    go_roundw
    case rel=>exact ⟨k+1,_,N7,Ou,u,by rw [← bJ.out];exact y.put (P.tidy law) P.isMap _ _,ag.grown bz ag.size (fun j a2=>PT)⟩
    case measure=>simp [intOf];omega
  . have aP:Hid (Maps.size D=(zhv (lists l)).length):=by
     have:=y.size;exact SS
    have n:Hid ((lists l).length=l.length):=by show (lists l).length=_;simp [lists]
    have P:=hid T;have ag:=hid I;clear hinv T I y
    go_wp2_with (at_len;refine wpList_len_own _ rfl _ _ rfl 9 3 Tryz.underlying185 _ w.heap.size k D rfl P ?_)
    go_ret;exact ⟨ret_bool (by unfold zhf;rw [← aP.out,n.out]),ag⟩
theorem zxi {l:List It} (h:w.ownsRow B 9 1 v l.length (zze l)):∃ a q,v = .slice a (l.map (·.name)).length q/\zfd w a (l.map (·.name)):=by
 rcases h.2 with ⟨af,ab⟩ | ⟨al,q,o,af,aF,ak,_⟩
 . have X:l=[]:=hF ab
   exact ⟨none,0,by rw [af,X];rfl,Or.inl (by rw [X];rfl)⟩
 . refine ⟨_,q,by rw [af,fM],Or.inr ⟨al,0,rfl,?_,fun i V=>?_⟩⟩
   . rcases gZ al w.heap.size with a5 | a5
     . exact a5
     . simp [lF a5] at ak
   . have d:i<l.length:=by simpa using V
     have:=h.cells (g:=al) (by rw [af];rfl) i (.string l[i].name) (by simp [zze,d]);rw [show ((dj al 0):Addr).add i=(dj al i) from On] at this;rw [fY,mM];exact this
theorem zmg (l:List It):lists (l.map (·.name))=zec l:=by simp [lists,zec]
theorem all_snoc (d:List α) (p:α->Bool) (k:Nat) (h:k<d.length):(d.take (k+1)).all p=((d.take k).all p&&p d[k]):=by
 rw [gn h,k8];simp
theorem all_not (d:List α) (p:α->Bool) (k:Nat) (h:k<d.length) (aA:p d[k]=false):d.all p=false:=by
 rw [sY];exact ⟨d[k],eb _,by simp [aA]⟩
theorem znn (f:Fc) (a:OA) (q:Nat) (w:World) (H:zct w a f.items) (X:f.items.length<=1000000000000000) (a8:f.name.size<=maxLen) (Y:AllFit f.items) :
 dw 19 #[.agg #[.string f.name,.slice a f.items.length q]] w fun e G=>e = .returned (di (zq9 f))/\dm w G:=by
 obtain ⟨s,l⟩:=f;simp only at *;have D:Hid (dm w (w.alloc (.cells #[.string s,.slice a l.length q] 30))):=(Below.refl _ _).alloc (dA _) _
 by_cases aN:16<l.length
 . have z:Hid (zq9 ⟨s,l⟩=2):=I8 aN
   go_enter func19,ntmps19;go_wp2_with fail;go_ret;exact ⟨ret_int z.symm,D⟩
 have aV:Hid (∀ M,dw 58 #[.string s] M fun e G=>e = .returned (.bool (nameOk s))/\dm M G):=fun M=>tx s M a8
 have y:Hid (∀ M,dm w M->dw 60 #[.slice a l.length q] M fun e G=>∃ v,e = .returned v/\G.ownsRow M.heap.size 9 1 v l.length (zze l)/\dm M G):=fun M I=>zi0 a q l M (H.later I) N7
 have b0:Hid (∀ (M:World) (v:Value) (B:Nat),M.ownsRow B 9 1 v l.length (zze l)->dw 59 #[v] M fun e G=>e = .returned (.bool (zhf (zec l)))/\dm M G):=fun M v B ap=>by
  obtain ⟨a0,ae,rfl,aE⟩:=zxi ap;rw [← zmg]
  exact zfu a0 ae _ M aE P0 (fun o h=>by
   obtain ⟨i,V,rfl⟩:=ig.1 h
   exact Y i V)
 have aL:Hid (∀ (M:World) (k:Nat) (h:k<l.length),dw 61 #[.agg #[di l[k].kind,di l[k].n,di l[k].at_,.string l[k].name]] M fun e G=>e = .returned (.bool (me l[k]))/\dm M G):=fun M k h=>Mi l[k] M (Y _ (eb _))
 have aM:=hid H;have cq:=hid aN;clear H Y a8
 cases Z:nameOk s with
 | false=>
   have z:Hid (zq9 ⟨s,l⟩=1):=I9 aN Z;rw [Z] at aV;clear Z;go_enter func19,ntmps19;go_wp2_with fail;refine (aV _).mono ?_;rintro e G ⟨rfl,I⟩;have ag:=hid (mY I);clear I;go_wp2_with fail;go_ret;exact ⟨ret_int z.symm,ag⟩
 | true =>
   rw [Z] at aV;have bl:=hid Z;clear Z
   cases hd:zhf (zec l) with
   | true=>
     have z:Hid (zq9 ⟨s,l⟩=1):=Ja aN hd;rw [hd] at b0;clear hd;go_enter func19,ntmps19;go_wp2_with fail;refine (aV _).mono ?_;rintro e dk ⟨rfl,I⟩;have ag:=hid (mY I);have aJ:dk.cell? (dj w.heap.size 1)=some (.slice a l.length q):=(I.cell (p:=(dj w.heap.size 1)) Ob).trans Ob;clear I;go_wp2_with fail;refine (y _ ag).mono ?_;rintro e w2 ⟨v,rfl,ap,I⟩;have P:=hid ap;have O:=hid (ag.trans (I.mono ag.size));clear I ap;go_wp2_with fail;refine (b0 _ _ _ P).mono ?_;rintro e dC ⟨rfl,I⟩;have t:=hid (O.trans (I.mono O.size));clear I;go_wp2_with fail;go_ret;exact ⟨ret_int z.symm,t⟩
   | false=>
     have d:=hid hd;rw [hd] at b0;clear hd;go_enter func19,ntmps19;go_wp2_with fail;refine (aV _).mono ?_;rintro e dk ⟨rfl,I⟩;have ag:=hid (mY I)
     have ba:w.heap.size<dk.heap.size:=by have:=I.size;simp at this;omega
     have aJ:dk.cell? (dj w.heap.size 1)=some (.slice a l.length q):=(I.cell (p:=(dj w.heap.size 1)) Ob).trans Ob;clear I;go_wp2_with fail;refine (y _ ag).mono ?_;rintro e w2 ⟨v,rfl,ap,I⟩;have P:=hid ap;have O:=hid (ag.trans (I.mono ag.size))
     have bA:w.heap.size<w2.heap.size:=by have:=I.size;omega
     have aI:w2.cell? (dj w.heap.size 1)=some (.slice a l.length q):=(I.cell (p:=(dj w.heap.size 1)) ba).trans aJ;clear I ap;go_wp2_with fail;refine (b0 _ _ _ P).mono ?_;rintro e dC ⟨rfl,I⟩;have t:=hid (O.trans (I.mono O.size));have bq:dC.cell? (dj w.heap.size 1)=some (.slice a l.length q):=(I.cell (p:=(dj w.heap.size 1)) bA).trans aI;clear I aJ aI;go_wp2_with fail
     go_loopw [4,22] (fun _ i wr=>∃ k:Nat,k<=l.length/\i=di k/\(l.take k).all me=true/\dm w wr) (fun _ i _=>l.length - (intOf i).toNat)
     case atStart=>exact ⟨0,dY _,rfl,rfl,t⟩
     case round=>
      obtain ⟨k,N,rfl,aS,I⟩:=hrel;have aR:=hid aS;have W:=hid I;clear aS
      by_cases ac:k<l.length
      . obtain ⟨p,C,rfl,bb,bt,ah,ae,c3⟩:=(aM.later I).place ac
        have aQ:=hid (all_snoc l me k ac);have aa:=hid (fun M=>aL M k ac);clear I
        cases aP:me l[k] with
        | true=>
          have c:Hid ((l.take (k+1)).all me=true):=by show (l.take (k+1)).all me=true;rw [aQ.out,aR.out,aP];rfl
          rw [aP] at aa;clear aP aQ;generalize l[k]=b at *
          go_wp2_with (go_at_call 61;refine (aa _).mono ?_;rintro e dD ⟨rfl,bc⟩)
          go_roundw
          case rel=>exact ⟨k+1,N7,Ou,c,(W.alloc W.size _).trans (bc.mono (by have:=W.size;simp;omega))⟩
          case measure=>simp [intOf];omega
        | false=>
          have z:Hid (zq9 ⟨s,l⟩=1):=Jb cq (all_not l me k ac aP);rw [aP] at aa;clear aP aQ;generalize l[k]=b at *
          go_wp2_with (go_at_call 61;refine (aa _).mono ?_;rintro e dD ⟨rfl,bc⟩)
          go_ret;exact ⟨ret_int z.symm,(W.alloc W.size _).trans (bc.mono (by have:=W.size;simp;omega))⟩
      . have z:Hid (zq9 ⟨s,l⟩=0):=Jc cq bl d (by have:=aR.out;rw [iq N7] at this;exact this)
        go_wp2_with fail;go_ret;exact ⟨ret_int z.symm,W⟩
open Go.RowKit Go.Shelf
def strOf (l:L8):ByteArray:=⟨l.toArray⟩
theorem strOf_list (l:L8):(strOf l).data.toList=l:=by simp [strOf]
theorem strOf_back (s:ByteArray):strOf s.data.toList=s:=by simp [strOf]
theorem strOf_size (l:L8):(strOf l).size=l.length:=by simp [strOf,ByteArray.size]
def pV (n:Int):UInt8:=UInt8.ofNat (n % 256).toNat
def Mm (c:UInt8):Value:=.int .u8 c.toNat
def Mn (l:L8):List Value:=l.map Mm
def numB (n:Int):L8:=[pV (n / 72057594037927936),pV (n / 281474976710656),pV (n / 1099511627776),pV (n / 4294967296),pV (n / 16777216),pV (n / 65536),pV (n / 256),pV n]
open Go.RowKit Go.Shelf
def Row (B:Nat) (w:World) (v:Value) (l:L8):Prop:=w.ownsRow B 5 1 v l.length (Mn l)
theorem Row.later (h:Row B w v l) (I:dm w G):Row B G v l:=ownsRow_later h I
theorem Row.nil (B:Nat) (w:World):Row B w (dt) []:=jU _ _ _ _
theorem Row.lies (h:Row B w v l):∀ k,v.ownBlock=some k->B<=k/\k<w.heap.size:=fun k e=>h.lt k e
theorem Row.keep (h:Row B w v l) (ak:w.grownBy G v.ownBlock) {c:Nat} {cs:Array Value} {f:Nat × Nat} (ax:t≠5) (W:w.heap[c]? = some (.cells cs t f)):G.heap[c]? = some (.cells cs t f):=by
 have ac:c<w.heap.size:=by
  rcases gZ c w.heap.size with a5 | a5
  . exact a5
  . simp [lF a5] at W
 refine (ak.block c ac (fun e=>?_)).trans W
 rcases h.2 with ⟨af,_⟩ | ⟨al,q,o,af,_,hgg,_⟩
 . rw [af] at e;cases e
 . rw [af] at e
   have a0:c=al:=O8
   subst a0;rw [hgg] at W;cases W;exact ax rfl
open Go.RowKit Go.Shelf
structure yE (w:World) (nb:Nat) (st:L8 × Bool):Prop where
 lt:nb<w.heap.size
 c0:w.cell? (dj nb 0)=some (.string (strOf st.1))
 c1:w.cell? (dj nb 1)=some (.bool st.2)
 f0:w.frozen? (dj nb 0)=false
 f1:w.frozen? (dj nb 1)=false
theorem yE.kept {d:Nat} {ad:L8 × Bool} (h:yE w d ad) (ak:w.grownBy G r) (Q:some d≠r):yE G d ad:=
 have I:=ak.block d h.lt Q
 ⟨e4 h.lt ak.size,(lY (a:=(dj d 0)) I).trans h.c0,(lY (a:=(dj d 1)) I).trans h.c1,(wG (a:=(dj d 0)) I).trans h.f0,(wG (a:=(dj d 1)) I).trans h.f1⟩
theorem grown_refl (w:World) (r:Option Nat):w.grownBy w r:=⟨rfl,rfl,rfl,dA _,fun _ _ _=>rfl⟩
theorem Mo {b o:Nat} {u:Value} (h:w.grownBy G (some b)):w.grownBy (G.setCell (dj b o) u) (some b):=
 ⟨h.os,h.tape,h.output,by simpa using h.size,fun k N aX=>(Below.heap_setCell G (dj b o) u k (fun e=>aX (by rw [e]))).trans (h.block k N aX)⟩
theorem Du (s:ByteArray) (a n:Nat):(s.extract a (a+n)).data.toList=(s.data.toList.drop a).take n:=by
 rw [ByteArray.data_extract,Array.toList_extract,List.extract_eq_take_drop,show a+n - a=n from N7]
theorem Mp (l:L8) (a:Nat) (h:a<=l.length):(strOf l).extract a (strOf l).size=strOf (l.drop a):=by
 rw [strOf_size,show l.length=a+(l.length - a) by omega,← strOf_back ((strOf l).extract a _),Du,strOf_list,iq Ob]
theorem Mq (l:L8) (n:Nat):(strOf l).extract 0 n=strOf (l.take n):=by
 have h:=Du (strOf l) 0 n;rw [fY] at h;rw [← strOf_back ((strOf l).extract 0 n),h,strOf_list,List.drop_zero]
open Go.RowKit Go.Shelf
open Go.RowKit Go.Shelf
def Mr:List PanicEntry:=[{ v:=.iface 9 (.string ⟨#[116,111,111,32,102,101,119,32,98,121,116,101,115]⟩),recovered:=false }]
structure mZ (w:World) (rb:Nat) (l:L8):Prop where
 lt:rb<w.heap.size
 c0:w.cell? (dj rb 0)=some (.string (strOf l))
 f0:w.frozen? (dj rb 0)=false
theorem mZ.kept (h:mZ w b l) (ak:w.grownBy G r) (Q:some b≠r):mZ G b l:=
 have I:=ak.block b h.lt Q
 ⟨e4 h.lt ak.size,(lY (a:=(dj b 0)) I).trans h.c0,(wG (a:=(dj b 0)) I).trans h.f0⟩
theorem mZ.set {L:L8} {x:ByteArray} (h:mZ w b l) (S:x=strOf L):mZ (w.setCell (dj b 0) (.string x)) b L:=
 ⟨by simpa using h.lt,by rw [S];exact rK _ _ _ h.c0,by simpa using h.f0⟩
def Ms (b:Nat) (w:World) (r:Option (α × L8)) (rep:α->Value) (e:Ending) (G:World):Prop:=
 w.grownBy G (some b)/\((r=none/\e = .panicked Mr)\/∃ x l,r=some (x,l)/\e = .returned (rep x)/\mZ G b l)
def vJ (n:Nat) (l:L8):Option (L8 × L8):=if l.length<n then none else some (l.take n,l.drop n)
def strV (l:L8):Value:=.string (strOf l)
def intV (n:Int):Value:=di n
theorem take_any (b n:Nat) (l:L8) (w:World) (h:mZ w b l) (_hl:l.length<=1000000000000000) (Z:n<=255) :
 dw 174 #[dF b 0,di n] w fun e G=>Ms b w (vJ n l) strV e G:=by
 have aV:=hid h;obtain ⟨ac,bt,bk⟩:=h;have b2:=strOf_size l
 by_cases W:l.length<n
 . have z:Hid (vJ n l=none):=if_pos W
   go_enter func174,ntmps174;go_wp2_with fail;exact ⟨rfl,grown_refl _ _,Or.inl ⟨z,rfl⟩⟩
 . have z:Hid (vJ n l=some (l.take n,l.drop n)):=if_neg W
   go_enter func174,ntmps174;go_wp2_with fail
   go_returns
   refine ⟨Mo (grown_refl _ _),.inr ⟨_,_,z,?_,aV.set ?_⟩⟩
   . rw [Mq];rfl
   . have:=Mp l n N7
     rwa [strOf_size] at this
open Go.RowKit Go.Shelf
theorem Mt (r:Option Nat) (h:dm w G):w.grownBy G r:=⟨h.os,h.tape,h.output,h.size,fun k N _=>h.block k N⟩
theorem mZ.below (h:mZ w b l) (I:dm w G):mZ G b l:=h.kept (Mt none I) Ob
open Go.RowKit Go.Shelf
def Mu (n:Int) (c:UInt8):Int:=wrap64 (n*256+c.toNat)
def valL (l:L8):Int:=l.foldl Mu 0
def pNum (l:L8):Option (Int × L8):=(vJ 8 l).map (fun R=>(valL R.1,R.2))
open Go.RowKit
theorem w0 (v:Int):wrap64 v % 256=v % 256:=OO
theorem dk (v:Int):wrap64 v / 256 % 256=v / 256 % 256:=OO
theorem ei (v:Int):v / 65536=v / 256 / 256:=(rL (x:=v) (y:=256) (z:=256) N9).symm
theorem e2 (v:Int):v / 16777216=v / 65536 / 256:=(rL (x:=v) (y:=65536) (z:=256) N9).symm
theorem ty (v:Int):v / 4294967296=v / 16777216 / 256:=(rL (x:=v) (y:=16777216) (z:=256) N9).symm
theorem vK (v:Int):v / 1099511627776=v / 4294967296 / 256:=(rL (x:=v) (y:=4294967296) (z:=256) N9).symm
theorem yF (v:Int):v / 281474976710656=v / 1099511627776 / 256:=(rL (x:=v) (y:=1099511627776) (z:=256) N9).symm
theorem Dv (v:Int):v / 72057594037927936=v / 281474976710656 / 256:=(rL (x:=v) (y:=281474976710656) (z:=256) N9).symm
theorem w2 (v:Int):wrap64 v / 65536 % 256=v / 256 / 256 % 256:=by
 have h:wrap64 v / 65536 % 256=v / 65536 % 256:=OO
 rw [h,ei]
theorem dC (v:Int):wrap64 v / 16777216 % 256=v / 256 / 256 / 256 % 256:=by
 have h:wrap64 v / 16777216 % 256=v / 16777216 % 256:=OO
 rw [h,e2,ei]
theorem dD (v:Int):wrap64 v / 4294967296 % 256=v / 256 / 256 / 256 / 256 % 256:=by
 have h:wrap64 v / 4294967296 % 256=v / 4294967296 % 256:=OO
 rw [h,ty,e2,ei]
theorem dJ (v:Int):wrap64 v / 1099511627776 % 256=v / 256 / 256 / 256 / 256 / 256 % 256:=by
 have h:wrap64 v / 1099511627776 % 256=v / 1099511627776 % 256:=OO
 rw [h,vK,ty,e2,ei]
theorem eD (v:Int):wrap64 v / 281474976710656 % 256=v / 256 / 256 / 256 / 256 / 256 / 256 % 256:=by
 have h:wrap64 v / 281474976710656 % 256=v / 281474976710656 % 256:=OO
 rw [h,yF,vK,ty,e2,ei]
theorem eP (v:Int):wrap64 v / 72057594037927936 % 256=v / 256 / 256 / 256 / 256 / 256 / 256 / 256 % 256:=by
 have h:wrap64 v / 72057594037927936 % 256=v / 72057594037927936 % 256:=OO
 rw [h,Dv,yF,vK,ty,e2,ei]
open Go.RowKit
open Go.RowKit
end Fx
end Go.Proofs.YtndkhgakfodldaaGreatDoor
