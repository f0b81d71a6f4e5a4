import Derived.RowKit
import Derived.Lib.Strings
namespace Go.Proofs.YtndkhgakfodldaaGreatDoor
abbrev vaa:=@Nat.le_refl
abbrev vab:=@Bool.and_eq_true
abbrev vac:=@List.getElem?_eq_getElem
abbrev vad:=@List.setIfInBounds_toArray
abbrev vae:=@Nat.zero_le
abbrev vaf:=@List.take_succ_eq_append_getElem
abbrev vag:=@List.getElem_mem
abbrev vah:=@Nat.lt_of_lt_of_le
abbrev vai:=@Option.some.inj
abbrev vaj:=@List.mem_cons_of_mem
abbrev vak:=@List.length_append
abbrev vam:=@List.eq_nil_of_length_eq_zero
abbrev van:=@List.set_cons_zero
abbrev vao:=@List.set_cons_succ
abbrev vap:=@List.mem_cons_self
abbrev vaq:=@Go.World.size_setCell
abbrev var:=@List.all_eq_true
abbrev vas:=@Bool.or_eq_false_iff
abbrev vat:=@List.take_length
abbrev vau:=@List.take_of_length_le
abbrev vav:=@List.getD_eq_getElem?_getD
abbrev vaw:=@List.length_cons
abbrev vax:=@Nat.zero_add
abbrev vay:=@List.getElem_of_mem
abbrev vaz:=@Array.getElem?_eq_none
abbrev vba:=@List.getElem?_append_left
abbrev vbb:=@Go.Lib.toList_data
abbrev vbc:=@Prod.mk.inj
abbrev vbd:=@Nat.le_trans
abbrev vbe:=@Nat.not_lt_zero
abbrev vbf:=@Option.some.injEq
abbrev vbg:=@List.length_take
abbrev vbh:=@List.getElem?_append_right
abbrev vbi:=@Nat.lt_or_ge
abbrev vbj:=@List.flatMap_cons
abbrev vbk:=@Nat.zero_mul
abbrev vbl:=@List.getElem_cons_zero
abbrev vbm:=@Nat.add_assoc
abbrev vbn:=@List.foldl_append
abbrev vbo:=@List.all_append
abbrev vbp:=@Int.toNat_natCast
abbrev vbq:=@Array.getElem?_eq_getElem
abbrev vbr:=@Bool.eq_false_iff
abbrev vbs:=@Nat.add_zero
abbrev vbt:=@List.getElem_cons_succ
abbrev vbu:=@List.findIdx?_eq_some_iff_getElem
abbrev vbv:=@List.getElem?_eq_none
abbrev vbw:=@List.map_append
abbrev vbx:=@Go.World.cell?_setCell_other
abbrev vby:=@List.mem_cons
abbrev vbz:=@List.any_eq_false
abbrev vca:=@Go.World.cell?_setCell_same
abbrev vcb:=@List.mem_append_right
abbrev vcc:=@List.mem_singleton
abbrev vcd:=@List.mem_append
abbrev vce:=@Int.ediv_ediv_of_nonneg
abbrev vcf:=@List.getElem?_eq_some_iff
abbrev vcg:=@List.take_append_drop
abbrev vch:=@List.getElem_append_left
abbrev vci:=@Go.DataW.trod_int
abbrev vcj:=@Bool.eq_iff_iff
abbrev vck:=@Go.World.size_alloc
abbrev vcl:=@List.length_drop
abbrev vcm:=@List.map_cons
abbrev vcn:=@List.findIdx?_eq_none_iff
abbrev vco:=@List.length_nil
abbrev vcp:=@List.all_eq_false
abbrev vcq:=@List.length_map
abbrev vcr:=@List.find?_cons
abbrev vcs:=@Bool.not_eq_true
abbrev vct:=@List.drop_eq_nil_of_le
abbrev vcu:=@Bool.false_eq_true
abbrev vcv:=@List.contains_iff_mem
abbrev vcw:=@List.mem_map
abbrev vcx:=@Bool.and_eq_false_iff
abbrev vcy:=@List.all_cons
abbrev vcz:=@List.nodup_iff_pairwise_ne
abbrev vda:=@Go.DataW.held.injEq
abbrev vdb:=@List.append_nil
abbrev vdc:=@List.range_succ
abbrev vdd:=@Prod.mk.injEq
abbrev vde:=@Except.ok.inj
abbrev vdf:=@List.append_assoc
abbrev vdg:=@List.getElem_take
abbrev vdh:=@List.nodup_append
abbrev vdi:=@List.length_singleton
abbrev vdj:=@List.getElem?_toArray
abbrev vdk:=@Go.DataW.trod_slice
abbrev vdl:=@List.getElem?_modify
abbrev vdm:=@List.mem_of_getElem?
abbrev vdn:=@Nat.mul_le_mul_right
abbrev vdo:=@List.mem_append_left
abbrev vdp:=@List.nodup_cons
abbrev vdq:=@List.flatMap_append
abbrev vdr:=@Nat.one_mul
abbrev vds:=@Go.Oper.upon_enter
abbrev vdt:=@Nat.min_eq_left
abbrev vdu:=@List.length_zip
abbrev vdv:=@List.map_nil
abbrev vdw:=@List.getElem?_take
abbrev vdx:=@Nat.eq_zero_or_pos
abbrev vdy:=@Nat.mul_le_mul
abbrev vdz:=@Bool.not_eq_true'
abbrev vea:=@List.getElem_drop
abbrev veb:=@Go.DataW.trod_struct
abbrev vec:=@Bool.true_and
abbrev ved:=@List.getElem_map
abbrev vee:=@List.getElem_zip
abbrev vef:=@Bool.or_eq_true
abbrev veg:=@List.nil_append
abbrev veh:=@UInt8.toNat_inj
abbrev vei:=@List.all_nil
abbrev vej:=@Bool.false_and
abbrev vek:=@List.take_zero
abbrev vel:=@Nat.le_succ
abbrev vem:=@ByteArray.ext
abbrev ven:=@Bool.false_or
abbrev veo:=@Ne.symm
abbrev OA:=Option Addr
abbrev L8:=List UInt8
namespace Lx
def zh1 (c:UInt8):Bool:=decide (97<=(c.toNat:Int))&&decide ((c.toNat:Int)<=122)
def zhu (c:UInt8):Bool:=decide (48<=(c.toNat:Int))&&decide ((c.toNat:Int)<=57)
def zdk (c:UInt8):Bool:=zh1 c||zhu c
def zrj:L8->Bool
 | []=>false
 | c :: _=>zh1 c
def zbt (l:L8):Bool:=zrj l&&decide (l.length<=8)&&l.all zdk
def zxz:L8:=[123,125,40,41,91,93,44,59,61,46,43,45,42,47,37,60,33,38,124]
def zuy (c:UInt8):Bool:=zxz.contains c
theorem zg9 (s:ByteArray) (k:Nat) (h:k<s.size):s.data.toList.take (k+1)=s.data.toList.take k++[s[k]]:=by
 rw [vaf (by simpa using h)];rfl
theorem zbe (s:ByteArray):s.data.toList.length=s.size:=Array.length_toList
theorem z0n (s:ByteArray) (h:0<s.size):s.toList.isEmpty=false:=by
 rw [vbb]
 cases hl:s.data.toList with
 | nil=>have:=zbe s;rw [hl] at this;simp at this;omega
 | cons=>rfl
theorem zx0 (s:ByteArray) (h:0<s.size):zrj s.data.toList=zh1 s[0]:=by
 have:=zg9 s 0 h
 cases hl:s.data.toList with
 | nil=>rw [hl] at this;simp at this
 | cons c r=>rw [hl] at this;simp at this;simp [zrj,this]
theorem ze6 (s:ByteArray) (k:Nat) (h:k<s.size) (p:UInt8->Bool):(s.data.toList.take (k+1)).all p=((s.data.toList.take k).all p&&p s[k]):=by
 rw [zg9 s k h];simp
theorem zj7 (s:ByteArray) (p:UInt8->Bool):(s.data.toList.take s.size).all p=s.data.toList.all p:=by
 rw [vau (by rw [zbe];exact vaa _)]
theorem zrk (s:ByteArray) (k:Nat) (h:k<s.size) (p:UInt8->Bool) (hp:p s[k]=false):s.data.toList.all p=false:=by
 have hx:s.data.toList[k]'(by rw [zbe];exact h)=s[k]:=rfl;rw [vcp];refine ⟨s[k],?_,by simp [hp]⟩
 rw [← hx];exact vag _
theorem zj8 (s:ByteArray) (h:s.size=0):zbt s.data.toList=false:=by
 have:s.data.toList=[]:=vam (by rw [zbe];exact h)
 rw [this];rfl
theorem zmh (s:ByteArray) (h:8<s.size):zbt s.data.toList=false:=by
 unfold zbt;rw [zbe,show decide (s.size<=8)=false from by simp;omega];simp
theorem zmi (s:ByteArray) (h:0<s.size) (hl:zh1 s[0]=false):zbt s.data.toList=false:=by
 unfold zbt;rw [zx0 s h,hl];simp
theorem zmj (s:ByteArray) (h:0<s.size) (h8:s.size<=8) (hl:zh1 s[0]=true):zbt s.data.toList=s.data.toList.all zdk:=by
 unfold zbt;rw [zx0 s h,hl,zbe,show decide (s.size<=8)=true from by simp;omega];simp
def z62 (l:L8):Nat:=(l.takeWhile zdk).length
def z5b (s:ByteArray) (a:Nat):Nat:=z62 (s.data.toList.drop a)
theorem zrl:∀ (l:L8) (k:Nat),(l.take k).all zdk=true->k<=l.length->(∀ h:k<l.length,zdk l[k]=false)->z62 l=k
 | [],k,_,hk,_=>by simp at hk;subst hk;rfl
 | c :: l,0,_,_,hs=>by have:=hs (by simp);simp at this;simp [z62,this]
 | c :: l,k+1,ha,hk,hs=>by
   simp only [List.take_succ_cons,vcy,vab] at ha;have ih:=zrl l k ha.2 (by simp at hk;omega) (fun h=>by have:=hs (by simp;omega);simpa using this);simp only [z62] at ih ⊢;rw [List.takeWhile_cons,if_pos ha.1,vaw,ih]
theorem zf7 (s:ByteArray) (a:Nat):(s.data.toList.drop a).length=s.size - a:=by rw [vcl,zbe]
theorem zte (s:ByteArray) (a k:Nat) (h:a+k<s.size):(s.data.toList.drop a)[k]'(by rw [zf7];omega)=s[a+k]:=by
 rw [vea];rfl
theorem ztf (s:ByteArray) (a k:Nat) (h:a+k<s.size):((s.data.toList.drop a).take (k+1)).all zdk=(((s.data.toList.drop a).take k).all zdk&&zdk s[a+k]):=by
 rw [vaf (by rw [zf7];omega),zte s a k h];simp
theorem z0o (s:ByteArray) (a k:Nat) (ha:((s.data.toList.drop a).take k).all zdk=true) (h:a+k=s.size):z5b s a=k:=
 zrl _ k ha (by rw [zf7];omega) (fun hk=>by rw [zf7] at hk;omega)
theorem zpp (s:ByteArray) (a k:Nat) (ha:((s.data.toList.drop a).take k).all zdk=true) (h:a+k<s.size) (hc:zdk s[a+k]=false):z5b s a=k:=
 zrl _ k ha (by rw [zf7];omega) (fun _=>by rw [zte s a k h];exact hc)
def pieceN (s:ByteArray) (a:Nat):Nat:=if z5b s a=0 then 1 else z5b s a
theorem z33 (s:ByteArray) (a:Nat) (h:a<s.size):((s.data.toList.drop a).take 1).all zdk=zdk s[a]:=by
 have:=ztf s a 0 (by omega);simpa using this
theorem zpq (s:ByteArray) (a:Nat) (h:a<s.size) (hc:zdk s[a]=false):pieceN s a=1:=by
 have:=zpp s a 0 (by simp) (by omega) (by simpa using hc);simp [pieceN,this]
theorem zpr (s:ByteArray) (a k:Nat) (hk:0<k) (h:z5b s a=k):pieceN s a=k:=by
 unfold pieceN;rw [h,if_neg (by omega)]
theorem z34 (s:ByteArray) (a:Nat):z5b s a<=s.size - a:=by
 have:=(List.takeWhile_prefix zdk (l:=s.data.toList.drop a)).length_le
 rw [zf7] at this;exact this
theorem zh2 (s:ByteArray) (a:Nat):0<pieceN s a:=by unfold pieceN;split<;>omega
theorem zx1 (s:ByteArray) (a:Nat) (h:a<s.size):a+pieceN s a<=s.size:=by
 have:=z34 s a;unfold pieceN;split<;>omega
end Lx
namespace Fx
def fit64 (n:Int):Prop:=-9223372036854775808<=n/\n<=9223372036854775807
structure It where
 kind:Int
 n:Int
 at_:Int
 name:ByteArray
structure Fc where
 name:ByteArray
 items:List It
def nameOk (s:ByteArray):Bool:=Lx.zbt s.data.toList
def numOkB (i:It):Bool:=
 if i.kind=1 then decide (0<=i.n)&&decide (i.n<=1099511627775)&&decide (i.at_=0)
 else if i.kind=2 then decide (i.n=0)&&decide (0<=i.at_)&&decide (i.at_<=320)
 else if i.kind=3 then decide (1<=i.n)&&decide (i.n<=32)&&decide (0<=i.at_)&&decide (i.at_<=320)
 else if i.kind=4 then decide (0<=i.n)&&decide (i.n<=3)&&decide (0<=i.at_)&&decide (i.at_<=320)
 else false
def zfi (i:It):Bool:=nameOk i.name&&numOkB i
def zha:List (L8)->List (L8):=List.foldl (fun A7 s=>if s ∈ A7 then A7 else A7++[s]) []
def zfk (l:List (L8)):Bool:=decide ((zha l).length<l.length)
theorem zf8 (l:List (L8)) (s:L8):zha (l++[s])=if s ∈ zha l then zha l else zha l++[s]:=by
 unfold zha;rw [vbn];rfl
theorem zdx {α:Type} {p:List α->Prop} (h0:p []) (h1:∀ l a,p l->p (l++[a])):∀ l,p l:=by
 intro l
 have:∀ n (l:List α),l.length=n->p l:=by
  intro n
  induction n with
  | zero=>intro l hl;rw [vam hl];exact h0
  | succ n ih=>
    intro l hl
    have Aj:l≠[]:=fun e=>by rw [e] at hl;simp at hl
    rw [← List.dropLast_concat_getLast Aj];exact h1 _ _ (ih _ (by rw [List.length_dropLast];omega))
 exact this _ l rfl
theorem zhb (x:L8):∀ l:List (L8),x ∈ zha l↔x ∈ l:=by
 apply zdx
 . exact Iff.rfl
 . intro l a ih
   rw [zf8]
   by_cases h:a ∈ zha l
   . rw [if_pos h]
     simp only [vcd,vcc]
     constructor
     . intro hx;exact Or.inl (ih.1 hx)
     . rintro (hx | rfl)
       . exact ih.2 hx
       . exact h
   . rw [if_neg h]
     simp only [vcd,vcc,ih]
theorem zx2:∀ l:List (L8),(zha l).length<=l.length:=by
 apply zdx
 . exact vaa _
 . intro l a ih
   rw [zf8];split
   . rw [vak];simp;omega
   . rw [vak,vak];simp;omega
theorem zhc (l:List (L8)) (s:L8):zfk (l++[s])=(zfk l||decide (s ∈ l)):=by
 have h1:=zx2 l
 have h2:(l++[s]).length=l.length+1:=by simp
 unfold zfk;rw [zf8,h2]
 by_cases h:s ∈ zha l
 . rw [if_pos h,decide_eq_true ((zhb s l).1 h),Bool.or_true]
   exact decide_eq_true (by omega)
 . rw [if_neg h,decide_eq_false (fun e=>h ((zhb s l).2 e)),Bool.or_false,show (zha l++[s]).length=(zha l).length+1 from by simp]
   exact decide_eq_decide.2 (by omega)
def zd2 (l:List It):List (L8):=l.map (·.name.data.toList)
def zk9 (f:Fc):Int:=
 if 16<f.items.length then 2 else if nameOk f.name && !zfk (zd2 f.items)&&f.items.all zfi then 0 else 1
theorem z0p {f:Fc} (h:16<f.items.length):zk9 f=2:=if_pos h
theorem z0q {f:Fc} (h:¬ 16<f.items.length) (h1:nameOk f.name=false):zk9 f=1:=by unfold zk9;rw [if_neg h,h1];rfl
theorem z35 {f:Fc} (h:¬ 16<f.items.length) (h1:zfk (zd2 f.items)=true):zk9 f=1:=by unfold zk9;rw [if_neg h,h1];simp
theorem z0r {f:Fc} (h:¬ 16<f.items.length) (h1:f.items.all zfi=false):zk9 f=1:=by unfold zk9;rw [if_neg h,h1];simp
theorem z59 {f:Fc} (h:¬ 16<f.items.length) (h0:nameOk f.name=true) (h1:zfk (zd2 f.items)=false) (h2:f.items.all zfi=true):zk9 f=0:=by unfold zk9;rw [if_neg h,h0,h1,h2];rfl
end Fx
end Go.Proofs.YtndkhgakfodldaaGreatDoor
