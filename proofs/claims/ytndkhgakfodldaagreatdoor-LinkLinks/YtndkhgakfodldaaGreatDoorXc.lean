import Derived.Test.YtndkhgakfodldaaGreatDoorXa
import Derived.Deep.AppendLies
set_option maxRecDepth 100000
set_option maxHeartbeats 3200000
open Go.Proofs.Tryz
open List renaming length → ln
namespace Go.Proofs.YtndkhgakfodldaaGreatDoor
namespace Fx
open Go.RowKit Go.Shelf Go.Maps
variable {B n b:Nat} {a:OA} {l:L8} {O:Option Nat} {t:TypeId} {v:Value} {w r:World} {α:Type}
theorem JA:(prog.info? 9).map (fun i=>(i.zero,i.size,i.bytes))=some (some (.string ⟨#[]⟩),1,16):=by kernel_rfl
def zxr (l:List It):List Value:=l.map (fun i=>.string i.name)
theorem JB (l:List It) (i:It):zxr l++[.string i.name]=zxr (l++[i]):=by simp [zxr]
theorem len_snoc (l:List α) (n:α):(l++[n]).length=ln l+1:=by simp
theorem Cb (l:List α) (k:Nat) (h:k<ln l):l.take (k+1)=l.take k++[l[k]]:=hI h
theorem JC (l:List α):l.take (ln l)=l:=kw (eD _)
theorem ownsRow_later {M x:World} {e:TypeId} {size:Nat} {ae:List Value} (h:M.ownsRow B e size v n ae) (F:et M x):x.ownsRow B e size v n ae:=by
 refine ⟨h.1,?_⟩
 rcases h.2 with G | ⟨g,I,o,a7,ab,af,W⟩
 . exact Or.inl G
 . have a0:g<M.heap.size:=by
    rcases iS g M.heap.size with q | q
    . exact q
    . simp [lK q] at af
   exact Or.inr ⟨g,I,o,a7,ab,(F.block g a0).trans af,W⟩
theorem zme {x:Value} (U:n=w.heap.size):∀ j u,[x][j]? = some u->(w.alloc (.cells #[x] t)).cell? (((ep n 0):Addr).add j)=some u:=by
 subst U;exact cell_one_new _ _ _
theorem zi2 (a:OA) (I:Nat) (l:List It) (w:World) (u:zcy w a l) (a2:ln l<=1000000) :
 ew 60 #[.slice a (ln l) I] w fun e r=>∃ v,e = .returned v/\r.ownsRow w.heap.size 9 1 v (ln l) (zxr l)/\et w r:=by
 obtain ⟨bx,X,al,b0,bl⟩:=info_parts JA;have P:=hid u;clear u;go_enter func60,ntmps60;go_wp2_with fail
 go_loopw [3,5,8] (fun v _ i wr=>∃ k:Nat,k<=ln l/\i=em k/\wr.ownsRow w.heap.size 9 1 v k (zxr (l.take k))/\et w wr) (fun _ _ i _=>ln l - (intOf i).toNat)
 case atStart=>exact ⟨0,eY _,rfl,ko _ _ _ _,Below.refl _ _⟩
 case round=>
  obtain ⟨k,N,rfl,aW,F⟩:=hrel;have aG:=hid aW;have ad:=hid F
  by_cases a0:k<ln l
  . obtain ⟨V,C,rfl,ap,bh,a9,a4,c3⟩:=(P.later F).place a0
    have aJ:Hid (zxr (l.take k)++[.string l[k].name]=zxr (l.take (k+1))):=by rw [Cb l k a0];exact JB _ _
    clear aW F
    go_wp2_with (at_builtin;refine wpList_append_lies _ rfl _ _ _ rfl w.heap.size 9 bx _ 1 16 Tryz.underlying22 X al b0 bl rfl (by omega) _ k (zxr (l.take k)) rfl (ownsRow_later aG (((Below.refl _ _).alloc (eD _) _).alloc (by simp) _)) (ep _ 0) 1 1 [.string l[k].name] rfl rfl (zme (by simp)) (by simp;rfl) (by omega) (by unfold maxLen;omega) (by omega) (by have:=ad.size;simp;omega) _ rfl ?_;intro aD H eq hown1 af a5 a1;have aq:=hid hown1;have aE:=hid af;clear hown1 af a5)
    go_roundw
    case rel=>exact ⟨k+1,by omega,by go_num,by rw [← aJ.out];exact aq,((ad.alloc ad.size _).alloc (by have:=ad.size;simp;omega) _).grown aE (by have:=ad.size;simp;omega) (fun j ac=>(aG.lt j ac).1)⟩
    case measure=>simp [intOf];omega
  . obtain rfl:k=ln l:=by omega
    clear aW F;go_wp2_with fail;go_ret;exact ⟨_,rfl,by have:=aG.out;rw [JC] at this;exact this,ad⟩
open Go.RowKit Go.Shelf Go.WideMaps Go.Maps
theorem law:Keyed prog 9:=string_keyed Tryz.underlying9
theorem JD (w:World):(zeroValue 3).run prog w = .ok (em 0) w:=by kernel_rfl
structure sQ (D:DataW Unit) (l:List (L8)):Prop where
 has:∀ s,Maps.has D (.string s)=decide (s ∈ l)
 size:Maps.size D=(li l).length
theorem JE:sQ (.map []) []:=⟨fun s=>by simp [Maps.has],rfl⟩
theorem sQ.put {D:DataW Unit} {l:List (L8)} (h:sQ D l) (aj:Tidy D) (a8:IsMap D) (s:L8) (d:DataW Unit):sQ (D.put (.string s) d) (l++[s]):=by
 constructor
 . intro q
   by_cases e:q=s
   . subst e
     rw [has_put_same a8 (by simp [WideAt.IsKeyLit])];simp
   . rw [has_put_other (by simpa using e),h.has]
     exact decide_eq_decide.2 (by simp [e])
 . rw [size_put aj,h.has,ug,h.size]
   by_cases e:s ∈ l
   . rw [decide_eq_true e,if_pos rfl,if_pos ((uh s l).2 e)]
   . rw [decide_eq_false e,if_neg (by simp),if_neg (fun k=>e ((uh s l).1 k))]
     simp
def zez (w:World) (a:OA) (l:List ByteArray):Prop:=l=[]\/∃ V C,a=some (ep V C)/\V<w.heap.size/\∀ i (h:i<ln l),w.cell? ⟨V,C+i,none⟩=some (.string l[i])
theorem zez.later {l:List ByteArray} (h:zez w a l) (F:et w r):zez r a l:=by
 rcases h with h | ⟨V,C,e,a2,h⟩
 . exact Or.inl h
 . exact Or.inr ⟨V,C,e,gl a2 F.size,fun i X=>(F.cell (p:=⟨V,C+i,none⟩) a2).trans (h i X)⟩
theorem zez.place {l:List ByteArray} (h:zez w a l) {k:Nat} (N:k<ln l):∃ V C,a=some (ep V C)/\V<w.heap.size/\w.cell? ⟨V,C+k,none⟩=some (.string l[k]):=by
 rcases h with h | ⟨V,C,e,a2,h⟩
 . subst h;simp at N
 . exact ⟨V,C,e,a2,h k N⟩
def zbi (l:List ByteArray):List (L8):=l.map (·.data.toList)
theorem JF (l:List ByteArray) (s:ByteArray):zbi (l++[s])=zbi l++[s.data.toList]:=mq ..
theorem zf6 (a:OA) (I:Nat) (l:List ByteArray) (w:World) (u:zez w a l) (a2:ln l<=1000000) (Z:∀ s ∈ l,s.size<=maxLen) :
 ew 59 #[.slice a (ln l) I] w fun e r=>e = .returned (.bool (zgd (zbi l)))/\et w r:=by
 have aP:=@run_makeMap prog;have P:=hid u;have b8:=hid Z;clear u Z;go_enter func59,ntmps59;go_wp2_with fail
 go_loopw [5,9] (fun _ i wr=>∃ (k:Nat) (D:DataW Unit),k<=ln l/\i=em k/\wr.ownsMap prog 9 (plainElem prog 3) w.heap.size k D/\sQ D (zbi (l.take k))/\et w wr) (fun _ i _=>ln l - (intOf i).toNat)
 case atStart=>exact ⟨0,.map [],eY _,rfl,r1 _ _ _ _,JE,(Below.refl _ _).alloc (eD _) _⟩
 case round=>
  obtain ⟨k,D,N,rfl,aW,hinv,F⟩:=hrel;have az:=hid hinv
  by_cases a0:k<ln l
  . obtain ⟨V,C,e,ap,bh⟩:=P.place a0
    subst e;have a1:=(F.cell (p:=⟨V,C+k,none⟩) ap).trans bh;have o:V<wr.heap.size:=gl ap F.size
    have a6:Hid (zbi (l.take k)++[l[k].data.toList]=zbi (l.take (k+1))):=by
     show zbi (l.take k)++[l[k].data.toList]=zbi (l.take (k+1));rw [Cb l k a0,JF]
    have b:keyOf prog 9 (.string l[k])=some (.string l[k].data.toList):=keyOf_string_mk Tryz.underlying9 (b8 _ (fO _));have d:=hid b;have aG:=hid aW;have ad:=hid F;clear b aW F hinv bh;generalize l[k]=s at *
    go_wp2_with (first
     | (at_lookup;refine wpList_lookup_own_int _ rfl _ _ 185 rfl 9 3 .i64 law Tryz.underlying185 Tryz.underlying3 (JD _) w.heap.size k D rfl aG _ _ rfl d ?_;intro c a5 hwc;clear a5 hwc)
     | (at_mapUpdate;refine wpList_mapUpdate_own _ rfl _ _ _ 185 rfl 9 3 law Tryz.underlying185 _ w.heap.size k D rfl aG (by unfold maxLen;omega) _ _ _ rfl rfl d _ [] (plainElem_int Tryz.underlying3 (wrap64_wf _)) ?_;intro eq hown1 hgrow1;have aq:=hid hown1;have aE:=hid hgrow1;clear hown1 hgrow1))
    go_roundw
    case rel=>exact ⟨k+1,_,by omega,by go_num,aq,by rw [← a6.out];exact az.put (aG.tidy law) aG.isMap _ _,ad.grown aE ad.size (fun j ac=>by cases ac;exact eD _)⟩
    case measure=>simp [intOf];omega
  . have aH:Hid (Maps.size D=(li (zbi l)).length):=by
     have:=az.size;rw [kw (by omega)] at this;exact this
    have x:Hid ((zbi l).length=ln l):=by show (zbi l).length=_;simp [zbi]
    have aG:=hid aW;have ad:=hid F;clear hinv aW F az
    go_wp2_with (at_len;refine wpList_len_own _ rfl _ _ rfl 9 3 Tryz.underlying185 _ w.heap.size k D rfl aG ?_)
    go_ret;exact ⟨ret_bool (by unfold zgd;rw [← aH.out,x.out]),ad⟩
theorem zv7 {l:List It} (h:w.ownsRow B 9 1 v (ln l) (zxr l)):∃ a I,v = .slice a (l.map (·.name)).length I/\zez w a (l.map (·.name)):=by
 rcases h.2 with ⟨a7,a3⟩ | ⟨g,I,o,a7,ab,af,_⟩
 . have a2:l=[]:=ii a3
   exact ⟨none,0,by rw [a7,a2];rfl,Or.inl (by rw [a2];rfl)⟩
 . refine ⟨_,I,by rw [a7,qu],Or.inr ⟨g,0,rfl,?_,fun i X=>?_⟩⟩
   . rcases iS g w.heap.size with q | q
     . exact q
     . simp [lK q] at af
   . have j:i<ln l:=by simpa using X
     have:=h.cells (g:=g) (by rw [a7];rfl) i (.string l[i].name) (by simp [zxr,j]);rw [show ((ep g 0):Addr).add i=(ep g i) from by unfold Addr.add;split<;>simp_all] at this;rw [hv,wZ];exact this
theorem zmf (l:List It):zbi (l.map (·.name))=zew l:=by simp [zbi,zew]
theorem all_snoc (d:List α) (p:α->Bool) (k:Nat) (h:k<ln d):(d.take (k+1)).all p=((d.take k).all p&&p d[k]):=by
 rw [hI h,lL];simp
theorem all_not (d:List α) (p:α->Bool) (k:Nat) (h:k<ln d) (az:p d[k]=false):d.all p=false:=by
 rw [rl];exact ⟨d[k],fO _,by simp [az]⟩
theorem zm9 (f:Fc) (a:OA) (I:Nat) (w:World) (u:zcy w a f.items) (a2:ln f.items<=1000000000000000) (Z:f.name.size<=maxLen) (ag:AllFit f.items) :
 ew 19 #[.agg #[.string f.name,.slice a (ln f.items) I]] w fun e r=>e = .returned (em (zmp f))/\et w r:=by
 obtain ⟨x,l⟩:=f;simp only at *;have c:Hid (et w (w.alloc (.cells #[.string x,.slice a (ln l) I] 30))):=(Below.refl _ _).alloc (eD _) _
 by_cases aZ:16<ln l
 . have z:Hid (zmp ⟨x,l⟩=2):=GB aZ
   go_enter func19,ntmps19;go_wp2_with fail;go_ret;exact ⟨ret_int z.symm,c⟩
 have aF:Hid (∀ M,ew 58 #[.string x] M fun e r=>e = .returned (.bool (nameOk x))/\et M r):=fun M=>sP x M Z
 have az:Hid (∀ M,et w M->ew 60 #[.slice a (ln l) I] M fun e r=>∃ v,e = .returned v/\r.ownsRow M.heap.size 9 1 v (ln l) (zxr l)/\et M r):=fun M F=>zi2 a I l M (u.later F) (by omega)
 have aK:Hid (∀ (M:World) (v:Value) (B:Nat),M.ownsRow B 9 1 v (ln l) (zxr l)->ew 59 #[v] M fun e r=>e = .returned (.bool (zgd (zew l)))/\et M r):=fun M v B aa=>by
  obtain ⟨a5,a4,rfl,g⟩:=zv7 aa;rw [← zmf]
  exact zf6 a5 a4 _ M g (by rw [qu];omega) (fun s h=>by
   obtain ⟨i,X,rfl⟩:=po.1 h
   exact ag i X)
 have S:Hid (∀ (M:World) (k:Nat) (h:k<ln l),ew 61 #[.agg #[em l[k].kind,em l[k].n,em l[k].at_,.string l[k].name]] M fun e r=>e = .returned (.bool (mu l[k]))/\et M r):=fun M k h=>Jz l[k] M (ag _ (fO _))
 have P:=hid u;have cd:=hid aZ;clear u ag Z
 cases U:nameOk x with
 | false=>
   have z:Hid (zmp ⟨x,l⟩=1):=GC aZ U;rw [U] at aF;clear U;go_enter func19,ntmps19;go_wp2_with fail;refine (aF _).mono ?_;rintro e r ⟨rfl,F⟩;have ad:=hid (ni F);clear F;go_wp2_with fail;go_ret;exact ⟨ret_int z.symm,ad⟩
 | true =>
   rw [U] at aF;have aI:=hid U;clear U
   cases ez:zgd (zew l) with
   | true=>
     have z:Hid (zmp ⟨x,l⟩=1):=GD aZ ez;rw [ez] at aK;clear ez;go_enter func19,ntmps19;go_wp2_with fail;refine (aF _).mono ?_;rintro e eq ⟨rfl,F⟩;have ad:=hid (ni F);have aw:eq.cell? (ep w.heap.size 1)=some (.slice a (ln l) I):=(F.cell (p:=(ep w.heap.size 1)) (by simp)).trans (by simp);clear F;go_wp2_with fail;refine (az _ ad).mono ?_;rintro e w2 ⟨v,rfl,aa,F⟩;have aG:=hid aa;have aM:=hid (ad.trans (F.mono ad.size));clear F aa;go_wp2_with fail;refine (aK _ _ _ aG).mono ?_;rintro e eC ⟨rfl,F⟩;have aP:=hid (aM.trans (F.mono aM.size));clear F;go_wp2_with fail;go_ret;exact ⟨ret_int z.symm,aP⟩
   | false=>
     have b:=hid ez;rw [ez] at aK;clear ez;go_enter func19,ntmps19;go_wp2_with fail;refine (aF _).mono ?_;rintro e eq ⟨rfl,F⟩;have ad:=hid (ni F)
     have b0:w.heap.size<eq.heap.size:=by have:=F.size;simp at this;omega
     have aw:eq.cell? (ep w.heap.size 1)=some (.slice a (ln l) I):=(F.cell (p:=(ep w.heap.size 1)) (by simp)).trans (by simp);clear F;go_wp2_with fail;refine (az _ ad).mono ?_;rintro e w2 ⟨v,rfl,aa,F⟩;have aG:=hid aa;have aM:=hid (ad.trans (F.mono ad.size))
     have bl:w.heap.size<w2.heap.size:=by have:=F.size;omega
     have aE:w2.cell? (ep w.heap.size 1)=some (.slice a (ln l) I):=(F.cell (p:=(ep w.heap.size 1)) b0).trans aw;clear F aa;go_wp2_with fail;refine (aK _ _ _ aG).mono ?_;rintro e eC ⟨rfl,F⟩;have aP:=hid (aM.trans (F.mono aM.size));have b4:eC.cell? (ep w.heap.size 1)=some (.slice a (ln l) I):=(F.cell (p:=(ep w.heap.size 1)) bl).trans aE;clear F aw aE;go_wp2_with fail
     go_loopw [4,22] (fun _ i wr=>∃ k:Nat,k<=ln l/\i=em k/\(l.take k).all mu=true/\et w wr) (fun _ i _=>ln l - (intOf i).toNat)
     case atStart=>exact ⟨0,eY _,rfl,rfl,aP⟩
     case round=>
      obtain ⟨k,N,rfl,aO,F⟩:=hrel;have ar:=hid aO;have au:=hid F;clear aO
      by_cases a0:k<ln l
      . obtain ⟨V,C,rfl,ap,bh,a9,a4,c3⟩:=(P.later F).place a0
        have aJ:=hid (all_snoc l mu k a0);have a6:=hid (fun M=>S M k a0);clear F
        cases be:mu l[k] with
        | true=>
          have m:Hid ((l.take (k+1)).all mu=true):=by show (l.take (k+1)).all mu=true;rw [aJ.out,ar.out,be];rfl
          rw [be] at a6;clear be aJ;generalize l[k]=d at *
          go_wp2_with (go_at_call 61;refine (a6 _).mono ?_;rintro e eA ⟨rfl,aW⟩)
          go_roundw
          case rel=>exact ⟨k+1,by omega,by go_num,m,(au.alloc au.size _).trans (aW.mono (by have:=au.size;simp;omega))⟩
          case measure=>simp [intOf];omega
        | false=>
          have z:Hid (zmp ⟨x,l⟩=1):=GE cd (all_not l mu k a0 be);rw [be] at a6;clear be aJ;generalize l[k]=d at *
          go_wp2_with (go_at_call 61;refine (a6 _).mono ?_;rintro e eA ⟨rfl,aW⟩)
          go_ret;exact ⟨ret_int z.symm,(au.alloc au.size _).trans (aW.mono (by have:=au.size;simp;omega))⟩
      . have z:Hid (zmp ⟨x,l⟩=0):=GF cd aI b (by have:=ar.out;rw [kw (by omega)] at this;exact this)
        go_wp2_with fail;go_ret;exact ⟨ret_int z.symm,au⟩
open Go.RowKit Go.Shelf
def strOf (l:L8):ByteArray:=⟨l.toArray⟩
theorem strOf_list (l:L8):(strOf l).data.toList=l:=by simp [strOf]
theorem strOf_back (s:ByteArray):strOf s.data.toList=s:=by simp [strOf]
theorem strOf_size (l:L8):(strOf l).size=ln l:=by simp [strOf,ByteArray.size]
def pI (n:Int):UInt8:=UInt8.ofNat (n % 256).toNat
def JG (c:UInt8):Value:=.int .u8 c.toNat
def JH (l:L8):List Value:=l.map JG
def numB (n:Int):L8:=[pI (n / 72057594037927936),pI (n / 281474976710656),pI (n / 1099511627776),pI (n / 4294967296),pI (n / 16777216),pI (n / 65536),pI (n / 256),pI n]
open Go.RowKit Go.Shelf
def Row (B:Nat) (w:World) (v:Value) (l:L8):Prop:=w.ownsRow B 5 1 v (ln l) (JH l)
theorem Row.later (h:Row B w v l) (F:et w r):Row B r v l:=ownsRow_later h F
theorem Row.nil (B:Nat) (w:World):Row B w (eu) []:=ko _ _ _ _
theorem Row.lies (h:Row B w v l):∀ k,v.ownBlock=some k->B<=k/\k<w.heap.size:=fun k e=>h.lt k e
theorem Row.keep (h:Row B w v l) (af:w.grownBy r v.ownBlock) {c:Nat} {cs:Array Value} {f:Nat × Nat} (aj:t≠5) (a1:w.heap[c]? = some (.cells cs t f)):r.heap[c]? = some (.cells cs t f):=by
 have a0:c<w.heap.size:=by
  rcases iS c w.heap.size with q | q
  . exact q
  . simp [lK q] at a1
 refine (af.block c a0 (fun e=>?_)).trans a1
 rcases h.2 with ⟨a7,_⟩ | ⟨g,I,o,a7,_,hgg,_⟩
 . rw [a7] at e;cases e
 . rw [a7] at e
   have A:c=g:=by simpa [Value.ownBlock] using e
   subst A;rw [hgg] at a1;cases a1;exact aj rfl
open Go.RowKit Go.Shelf
structure xV (w:World) (nb:Nat) (st:L8 × Bool):Prop where
 lt:nb<w.heap.size
 c0:w.cell? (ep nb 0)=some (.string (strOf st.1))
 c1:w.cell? (ep nb 1)=some (.bool st.2)
 f0:w.frozen? (ep nb 0)=false
 f1:w.frozen? (ep nb 1)=false
theorem xV.kept {x:Nat} {E:L8 × Bool} (h:xV w x E) (af:w.grownBy r O) (W:some x≠O):xV r x E:=
 have F:=af.block x h.lt W
 ⟨gl h.lt af.size,(md (a:=(ep x 0)) F).trans h.c0,(md (a:=(ep x 1)) F).trans h.c1,(vN (a:=(ep x 0)) F).trans h.f0,(vN (a:=(ep x 1)) F).trans h.f1⟩
theorem grown_refl (w:World) (O:Option Nat):w.grownBy w O:=⟨rfl,rfl,rfl,eD _,fun _ _ _=>rfl⟩
theorem JI {b o:Nat} {u:Value} (h:w.grownBy r (some b)):w.grownBy (r.setCell (ep b o) u) (some b):=
 ⟨h.os,h.tape,h.output,by simpa using h.size,fun k N aV=>(Below.heap_setCell r (ep b o) u k (fun e=>aV (by rw [e]))).trans (h.block k N aV)⟩
theorem Cc (s:ByteArray) (a n:Nat):(s.extract a (a+n)).data.toList=(s.data.toList.drop a).take n:=by
 rw [ByteArray.data_extract,Array.toList_extract,List.extract_eq_take_drop,show a+n - a=n from by omega]
theorem JJ (l:L8) (a:Nat) (h:a<=ln l):(strOf l).extract a (strOf l).size=strOf (l.drop a):=by
 rw [strOf_size,show (ln l)=a+(ln l - a) by omega,← strOf_back ((strOf l).extract a _),Cc,strOf_list,kw (by simp)]
theorem JK (l:L8) (n:Nat):(strOf l).extract 0 n=strOf (l.take n):=by
 have h:=Cc (strOf l) 0 n;rw [hv] at h;rw [← strOf_back ((strOf l).extract 0 n),h,strOf_list,List.drop_zero]
open Go.RowKit Go.Shelf
open Go.RowKit Go.Shelf
def JL:List PanicEntry:=[{ v:=.iface 9 (.string ⟨#[116,111,111,32,102,101,119,32,98,121,116,101,115]⟩),recovered:=false }]
structure nj (w:World) (rb:Nat) (l:L8):Prop where
 lt:rb<w.heap.size
 c0:w.cell? (ep rb 0)=some (.string (strOf l))
 f0:w.frozen? (ep rb 0)=false
theorem nj.kept (h:nj w b l) (af:w.grownBy r O) (W:some b≠O):nj r b l:=
 have F:=af.block b h.lt W
 ⟨gl h.lt af.size,(md (a:=(ep b 0)) F).trans h.c0,(vN (a:=(ep b 0)) F).trans h.f0⟩
theorem nj.set {c:L8} {x:ByteArray} (h:nj w b l) (Q:x=strOf c):nj (w.setCell (ep b 0) (.string x)) b c:=
 ⟨by simpa using h.lt,by rw [Q];exact rh _ _ _ h.c0,by simpa using h.f0⟩
def JM (b:Nat) (w:World) (O:Option (α × L8)) (g:α->Value) (e:Ending) (r:World):Prop:=
 w.grownBy r (some b)/\((O=none/\e = .panicked JL)\/∃ q l,O=some (q,l)/\e = .returned (g q)/\nj r b l)
def uO (n:Nat) (l:L8):Option (L8 × L8):=if (ln l)<n then none else some (l.take n,l.drop n)
def strV (l:L8):Value:=.string (strOf l)
def intV (n:Int):Value:=em n
theorem take_any (b n:Nat) (l:L8) (w:World) (h:nj w b l) (_hl:ln l<=1000000000000000) (U:n<=255) :
 ew 174 #[eL b 0,em n] w fun e r=>JM b w (uO n l) strV e r:=by
 have aF:=hid h;obtain ⟨a0,bh,bJ⟩:=h;have aS:=strOf_size l
 by_cases a1:ln l<n
 . have z:Hid (uO n l=none):=if_pos a1
   go_enter func174,ntmps174;go_wp2_with fail;exact ⟨rfl,grown_refl _ _,Or.inl ⟨z,rfl⟩⟩
 . have z:Hid (uO n l=some (l.take n,l.drop n)):=if_neg a1
   go_enter func174,ntmps174;go_wp2_with fail
   go_returns
   refine ⟨JI (grown_refl _ _),.inr ⟨_,_,z,?_,aF.set ?_⟩⟩
   . rw [JK];rfl
   . have:=JJ l n (by omega)
     rwa [strOf_size] at this
open Go.RowKit Go.Shelf
theorem JN (O:Option Nat) (h:et w r):w.grownBy r O:=⟨h.os,h.tape,h.output,h.size,fun k N _=>h.block k N⟩
theorem nj.below (h:nj w b l) (F:et w r):nj r b l:=h.kept (JN none F) (by simp)
open Go.RowKit Go.Shelf
def JO (n:Int) (c:UInt8):Int:=wrap64 (n*256+c.toNat)
def valL (l:L8):Int:=l.foldl JO 0
def pNum (l:L8):Option (Int × L8):=(uO 8 l).map (fun R=>(valL R.1,R.2))
open Go.RowKit
theorem w0 (v:Int):wrap64 v % 256=v % 256:=by unfold wrap64;omega
theorem eq (v:Int):wrap64 v / 256 % 256=v / 256 % 256:=by unfold wrap64;omega
theorem fE (v:Int):v / 65536=v / 256 / 256:=(ri (x:=v) (y:=256) (z:=256) (by decide)).symm
theorem gq (v:Int):v / 16777216=v / 65536 / 256:=(ri (x:=v) (y:=65536) (z:=256) (by decide)).symm
theorem sR (v:Int):v / 4294967296=v / 16777216 / 256:=(ri (x:=v) (y:=16777216) (z:=256) (by decide)).symm
theorem uP (v:Int):v / 1099511627776=v / 4294967296 / 256:=(ri (x:=v) (y:=4294967296) (z:=256) (by decide)).symm
theorem xW (v:Int):v / 281474976710656=v / 1099511627776 / 256:=(ri (x:=v) (y:=1099511627776) (z:=256) (by decide)).symm
theorem Cd (v:Int):v / 72057594037927936=v / 281474976710656 / 256:=(ri (x:=v) (y:=281474976710656) (z:=256) (by decide)).symm
theorem w2 (v:Int):wrap64 v / 65536 % 256=v / 256 / 256 % 256:=by
 have h:wrap64 v / 65536 % 256=v / 65536 % 256:=by unfold wrap64;omega
 rw [h,fE]
theorem eC (v:Int):wrap64 v / 16777216 % 256=v / 256 / 256 / 256 % 256:=by
 have h:wrap64 v / 16777216 % 256=v / 16777216 % 256:=by unfold wrap64;omega
 rw [h,gq,fE]
theorem eA (v:Int):wrap64 v / 4294967296 % 256=v / 256 / 256 / 256 / 256 % 256:=by
 have h:wrap64 v / 4294967296 % 256=v / 4294967296 % 256:=by unfold wrap64;omega
 rw [h,sR,gq,fE]
theorem eJ (v:Int):wrap64 v / 1099511627776 % 256=v / 256 / 256 / 256 / 256 / 256 % 256:=by
 have h:wrap64 v / 1099511627776 % 256=v / 1099511627776 % 256:=by unfold wrap64;omega
 rw [h,uP,sR,gq,fE]
theorem eZ (v:Int):wrap64 v / 281474976710656 % 256=v / 256 / 256 / 256 / 256 / 256 / 256 % 256:=by
 have h:wrap64 v / 281474976710656 % 256=v / 281474976710656 % 256:=by unfold wrap64;omega
 rw [h,xW,uP,sR,gq,fE]
theorem eW (v:Int):wrap64 v / 72057594037927936 % 256=v / 256 / 256 / 256 / 256 / 256 / 256 / 256 % 256:=by
 have h:wrap64 v / 72057594037927936 % 256=v / 72057594037927936 % 256:=by unfold wrap64;omega
 rw [h,Cd,xW,uP,sR,gq,fE]
open Go.RowKit
open Go.RowKit
end Fx
end Go.Proofs.YtndkhgakfodldaaGreatDoor
