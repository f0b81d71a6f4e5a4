import Derived.RowKit
import Derived.Lib.Strings
namespace Go.Proofs.YtndkhgakfodldaaGreatDoor
abbrev eD:=@Nat.le_refl
abbrev fe:=@Option.some.inj
abbrev fs:=@Bool.and_eq_true
abbrev gb:=@List.getElem?_eq_getElem
abbrev gD:=@List.setIfInBounds_toArray
abbrev eY:=@Nat.zero_le
abbrev hI:=@List.take_succ_eq_append_getElem
abbrev fO:=@List.getElem_mem
abbrev gl:=@Nat.lt_of_lt_of_le
abbrev gn:=@List.length_append
abbrev gC:=@List.mem_cons_of_mem
abbrev ii:=@List.eq_nil_of_length_eq_zero
abbrev gE:=@List.set_cons_zero
abbrev gH:=@List.set_cons_succ
abbrev fD:=@Prod.mk.inj
abbrev gU:=@Go.World.size_setCell
abbrev gV:=@List.mem_cons_self
abbrev hJ:=@List.all_eq_true
abbrev jf:=@Bool.or_eq_false_iff
abbrev iA:=@List.take_length
abbrev kw:=@List.take_of_length_le
abbrev iH:=@List.length_cons
abbrev lJ:=@List.getD_eq_getElem?_getD
abbrev iB:=@Go.Lib.toList_data
abbrev hv:=@Nat.zero_add
abbrev kx:=@List.getElem_of_mem
abbrev lK:=@Array.getElem?_eq_none
abbrev mR:=@List.getElem?_append_left
abbrev iC:=@Nat.le_trans
abbrev jU:=@Nat.not_lt_zero
abbrev kR:=@Option.some.injEq
abbrev ky:=@List.length_take
abbrev om:=@List.getElem?_append_right
abbrev iS:=@Nat.lt_or_ge
abbrev lh:=@List.flatMap_cons
abbrev jq:=@Nat.zero_mul
abbrev rc:=@List.findIdx?_eq_some_iff_getElem
abbrev oo:=@List.getElem_cons_zero
abbrev kd:=@Nat.add_assoc
abbrev mS:=@List.foldl_append
abbrev lL:=@List.all_append
abbrev mT:=@Int.toNat_natCast
abbrev qo:=@Array.getElem?_eq_getElem
abbrev mU:=@Bool.eq_false_iff
abbrev kf:=@Nat.add_zero
abbrev pl:=@List.getElem_cons_succ
abbrev pm:=@List.getElem?_eq_none
abbrev mq:=@List.map_append
abbrev rg:=@Go.World.cell?_setCell_other
abbrev lM:=@List.mem_cons
abbrev nM:=@List.length_drop
abbrev oq:=@List.any_eq_false
abbrev rh:=@Go.World.cell?_setCell_same
abbrev qq:=@List.mem_append_right
abbrev pn:=@List.mem_singleton
abbrev nN:=@List.mem_append
abbrev ri:=@Int.ediv_ediv_of_nonneg
abbrev ss:=@List.getElem?_eq_some_iff
abbrev ot:=@List.append_nil
abbrev ow:=@Bool.eq_iff_iff
abbrev rj:=@List.contains_iff_mem
abbrev rk:=@List.take_append_drop
abbrev su:=@List.getElem_append_left
abbrev ox:=@Go.DataW.trod_int
abbrev qs:=@Go.World.size_alloc
abbrev oy:=@List.map_cons
abbrev oz:=@List.all_cons
abbrev tQ:=@List.findIdx?_eq_none_iff
abbrev qt:=@List.length_nil
abbrev rl:=@List.all_eq_false
abbrev qu:=@List.length_map
abbrev qv:=@List.find?_cons
abbrev rp:=@Bool.not_eq_true
abbrev tT:=@List.drop_eq_nil_of_le
abbrev sv:=@Bool.false_eq_true
abbrev po:=@List.mem_map
abbrev tU:=@Bool.and_eq_false_iff
abbrev wP:=@List.nodup_iff_pairwise_ne
abbrev sw:=@Go.DataW.held.injEq
abbrev sx:=@List.range_succ
abbrev rq:=@Prod.mk.injEq
abbrev tV:=@Nat.eq_zero_or_pos
abbrev rr:=@Except.ok.inj
abbrev tW:=@List.append_assoc
abbrev tX:=@Bool.not_eq_true'
abbrev tY:=@List.getElem_take
abbrev tZ:=@List.nodup_append
abbrev wQ:=@List.length_singleton
abbrev wR:=@List.getElem?_toArray
abbrev t1:=@Go.DataW.trod_slice
abbrev wS:=@List.getElem?_modify
abbrev wT:=@List.mem_of_getElem?
abbrev wU:=@Nat.mul_le_mul_right
abbrev wV:=@List.mem_append_left
abbrev t2:=@List.nodup_cons
abbrev AA:=@List.flatMap_append
abbrev rt:=@Nat.one_mul
abbrev t6:=@Go.Oper.upon_enter
abbrev t7:=@Nat.min_eq_left
abbrev t8:=@List.length_zip
abbrev sy:=@List.map_nil
abbrev wW:=@List.getElem?_take
abbrev ua:=@Nat.mul_le_mul
abbrev wX:=@List.getElem_drop
abbrev wY:=@Go.DataW.trod_struct
abbrev ub:=@Bool.true_and
abbrev wZ:=@List.getElem_map
abbrev w1:=@List.getElem_zip
abbrev w3:=@Bool.or_eq_true
abbrev w4:=@List.nil_append
abbrev w5:=@UInt8.toNat_inj
abbrev uc:=@List.all_nil
abbrev w6:=@Bool.false_and
abbrev w7:=@List.take_zero
abbrev ud:=@Nat.le_succ
abbrev w8:=@ByteArray.ext
abbrev w9:=@Bool.false_or
abbrev ru:=@Ne.symm
abbrev OA:=Option Addr
abbrev L8:=List UInt8
namespace Lx
def zjd (c:UInt8):Bool:=decide (97<=(c.toNat:Int))&&decide ((c.toNat:Int)<=122)
def zi7 (c:UInt8):Bool:=decide (48<=(c.toNat:Int))&&decide ((c.toNat:Int)<=57)
def zea (c:UInt8):Bool:=zjd c||zi7 c
def zpd:L8->Bool
 | []=>false
 | c :: _=>zjd c
def zbw (l:L8):Bool:=zpd l&&decide (l.length<=8)&&l.all zea
def signs:L8:=[123,125,40,41,91,93,44,59,61,46,43,45,42,47,37,60,33,38,124]
def rv (c:UInt8):Bool:=signs.contains c
theorem ue (s:ByteArray) (k:Nat) (h:k<s.size):s.data.toList.take (k+1)=s.data.toList.take k++[s[k]]:=by
 rw [hI (by simpa using h)];rfl
theorem za0 (s:ByteArray):s.data.toList.length=s.size:=Array.length_toList
theorem z25 (s:ByteArray) (h:0<s.size):s.toList.isEmpty=false:=by
 rw [iB]
 cases a2:s.data.toList with
 | nil=>have:=za0 s;rw [a2] at this;simp at this;omega
 | cons=>rfl
theorem AB (s:ByteArray) (h:0<s.size):zpd s.data.toList=zjd s[0]:=by
 have:=ue s 0 h
 cases a2:s.data.toList with
 | nil=>rw [a2] at this;simp at this
 | cons c O=>rw [a2] at this;simp at this;simp [zpd,this]
theorem zf1 (s:ByteArray) (k:Nat) (h:k<s.size) (p:UInt8->Bool):(s.data.toList.take (k+1)).all p=((s.data.toList.take k).all p&&p s[k]):=by
 rw [ue s k h];simp
theorem zlp (s:ByteArray) (p:UInt8->Bool):(s.data.toList.take s.size).all p=s.data.toList.all p:=by
 rw [kw (by rw [za0];exact eD _)]
theorem ztj (s:ByteArray) (k:Nat) (h:k<s.size) (p:UInt8->Bool) (az:p s[k]=false):s.data.toList.all p=false:=by
 have Q:s.data.toList[k]'(by rw [za0];exact h)=s[k]:=rfl;rw [rl];refine ⟨s[k],?_,by simp [az]⟩
 rw [← Q];exact fO _
theorem zlq (s:ByteArray) (h:s.size=0):zbw s.data.toList=false:=by
 have:s.data.toList=[]:=ii (by rw [za0];exact h)
 rw [this];rfl
theorem zn0 (s:ByteArray) (h:8<s.size):zbw s.data.toList=false:=by
 unfold zbw;rw [za0,show decide (s.size<=8)=false from by simp;omega];simp
theorem zn1 (s:ByteArray) (h:0<s.size) (a2:zjd s[0]=false):zbw s.data.toList=false:=by
 unfold zbw;rw [AB s h,a2];simp
theorem zn2 (s:ByteArray) (h:0<s.size) (q:s.size<=8) (a2:zjd s[0]=true):zbw s.data.toList=s.data.toList.all zea:=by
 unfold zbw;rw [AB s h,a2,za0,show decide (s.size<=8)=true from by simp;omega];simp
def z7s (l:L8):Nat:=(l.takeWhile zea).length
def rx (s:ByteArray) (a:Nat):Nat:=z7s (s.data.toList.drop a)
theorem xa:∀ (K:L8) (k:Nat),(K.take k).all zea=true->k<=K.length->(∀ h:k<K.length,zea K[k]=false)->z7s K=k
 | [],k,_,N,_=>by simp at N;subst N;rfl
 | c :: K,0,_,_,Z=>by have:=Z (by simp);simp at this;simp [z7s,this]
 | c :: K,k+1,ab,N,Z=>by
   simp only [List.take_succ_cons,oz,fs] at ab;have aH:=xa K k ab.2 (by simp at N;omega) (fun h=>by have:=Z (by simp;omega);simpa using this);simp only [z7s] at aH ⊢;rw [List.takeWhile_cons,if_pos ab.1,iH,aH]
theorem ry (s:ByteArray) (a:Nat):(s.data.toList.drop a).length=s.size - a:=by rw [nM,za0]
theorem AC (s:ByteArray) (a k:Nat) (h:a+k<s.size):(s.data.toList.drop a)[k]'(by rw [ry];omega)=s[a+k]:=by
 rw [wX];rfl
theorem zvg (s:ByteArray) (a k:Nat) (h:a+k<s.size):((s.data.toList.drop a).take (k+1)).all zea=(((s.data.toList.drop a).take k).all zea&&zea s[a+k]):=by
 rw [hI (by rw [ry];omega),AC s a k h];simp
theorem z26 (s:ByteArray) (a k:Nat) (ab:((s.data.toList.drop a).take k).all zea=true) (h:a+k=s.size):rx s a=k:=
 xa _ k ab (by rw [ry];omega) (fun N=>by rw [ry] at N;omega)
theorem zrb (s:ByteArray) (a k:Nat) (ab:((s.data.toList.drop a).take k).all zea=true) (h:a+k<s.size) (a1:zea s[a+k]=false):rx s a=k:=
 xa _ k ab (by rw [ry];omega) (fun _=>by rw [AC s a k h];exact a1)
def pieceN (s:ByteArray) (a:Nat):Nat:=if rx s a=0 then 1 else rx s a
theorem z6l (s:ByteArray) (a:Nat) (h:a<s.size):((s.data.toList.drop a).take 1).all zea=zea s[a]:=by
 have:=zvg s a 0 (by omega);simpa using this
theorem zrc (s:ByteArray) (a:Nat) (h:a<s.size) (a1:zea s[a]=false):pieceN s a=1:=by
 have:=zrb s a 0 (by simp) (by omega) (by simpa using a1);simp [pieceN,this]
theorem zrd (s:ByteArray) (a k:Nat) (N:0<k) (h:rx s a=k):pieceN s a=k:=by
 unfold pieceN;rw [h,if_neg (by omega)]
theorem Gz (s:ByteArray) (a:Nat):rx s a<=s.size - a:=by
 have:=(List.takeWhile_prefix zea (l:=s.data.toList.drop a)).length_le
 rw [ry] at this;exact this
theorem zg4 (s:ByteArray) (a:Nat):0<pieceN s a:=by unfold pieceN;split<;>omega
theorem zz8 (s:ByteArray) (a:Nat) (h:a<s.size):a+pieceN s a<=s.size:=by
 have:=Gz s a;unfold pieceN;split<;>omega
end Lx
namespace Fx
def fit64 (n:Int):Prop:=-9223372036854775808<=n/\n<=9223372036854775807
structure It where
 kind:Int
 n:Int
 at_:Int
 name:ByteArray
structure Fc where
 name:ByteArray
 items:List It
def nameOk (s:ByteArray):Bool:=Lx.zbw s.data.toList
def numOkB (i:It):Bool:=
 if i.kind=1 then decide (0<=i.n)&&decide (i.n<=1099511627775)&&decide (i.at_=0)
 else if i.kind=2 then decide (i.n=0)&&decide (0<=i.at_)&&decide (i.at_<=320)
 else if i.kind=3 then decide (1<=i.n)&&decide (i.n<=32)&&decide (0<=i.at_)&&decide (i.at_<=320)
 else if i.kind=4 then decide (0<=i.n)&&decide (i.n<=3)&&decide (0<=i.at_)&&decide (i.at_<=320)
 else false
def mu (i:It):Bool:=nameOk i.name&&numOkB i
def li:List (L8)->List (L8):=List.foldl (fun P s=>if s ∈ P then P else P++[s]) []
def zgd (l:List (L8)):Bool:=decide ((li l).length<l.length)
theorem ug (l:List (L8)) (s:L8):li (l++[s])=if s ∈ li l then li l else li l++[s]:=by
 unfold li;rw [mS];rfl
theorem zeq {α:Type} {p:List α->Prop} (a3:p []) (G:∀ K a,p K->p (K++[a])):∀ K,p K:=by
 intro K
 have:∀ n (K:List α),K.length=n->p K:=by
  intro n
  induction n with
  | zero=>intro K a2;rw [ii a2];exact a3
  | succ n aH=>
    intro K a2
    have aV:K≠[]:=fun e=>by rw [e] at a2;simp at a2
    rw [← List.dropLast_concat_getLast aV];exact G _ _ (aH _ (by rw [List.length_dropLast];omega))
 exact this _ K rfl
theorem uh (x:L8):∀ K:List (L8),x ∈ li K↔x ∈ K:=by
 apply zeq
 . exact Iff.rfl
 . intro K a aH
   rw [ug]
   by_cases h:a ∈ li K
   . rw [if_pos h]
     simp only [nN,pn]
     constructor
     . intro Q;exact Or.inl (aH.1 Q)
     . rintro (Q | rfl)
       . exact aH.2 Q
       . exact h
   . rw [if_neg h]
     simp only [nN,pn,aH]
theorem GA:∀ K:List (L8),(li K).length<=K.length:=by
 apply zeq
 . exact eD _
 . intro K a aH
   rw [ug];split
   . rw [gn];simp;omega
   . rw [gn,gn];simp;omega
theorem zin (l:List (L8)) (s:L8):zgd (l++[s])=(zgd l||decide (s ∈ l)):=by
 have G:=GA l
 have J:(l++[s]).length=l.length+1:=by simp
 unfold zgd;rw [ug,J]
 by_cases h:s ∈ li l
 . rw [if_pos h,decide_eq_true ((uh s l).1 h),Bool.or_true]
   exact decide_eq_true (by omega)
 . rw [if_neg h,decide_eq_false (fun e=>h ((uh s l).2 e)),Bool.or_false,show (li l++[s]).length=(li l).length+1 from by simp]
   exact decide_eq_decide.2 (by omega)
def zew (l:List It):List (L8):=l.map (·.name.data.toList)
def zmp (f:Fc):Int:=
 if 16<f.items.length then 2 else if nameOk f.name && !zgd (zew f.items)&&f.items.all mu then 0 else 1
theorem GB {f:Fc} (h:16<f.items.length):zmp f=2:=if_pos h
theorem GC {f:Fc} (h:¬ 16<f.items.length) (G:nameOk f.name=false):zmp f=1:=by unfold zmp;rw [if_neg h,G];rfl
theorem GD {f:Fc} (h:¬ 16<f.items.length) (G:zgd (zew f.items)=true):zmp f=1:=by unfold zmp;rw [if_neg h,G];simp
theorem GE {f:Fc} (h:¬ 16<f.items.length) (G:f.items.all mu=false):zmp f=1:=by unfold zmp;rw [if_neg h,G];simp
theorem GF {f:Fc} (h:¬ 16<f.items.length) (a3:nameOk f.name=true) (G:zgd (zew f.items)=false) (J:f.items.all mu=true):zmp f=0:=by unfold zmp;rw [if_neg h,a3,G,J];rfl
end Fx
end Go.Proofs.YtndkhgakfodldaaGreatDoor
