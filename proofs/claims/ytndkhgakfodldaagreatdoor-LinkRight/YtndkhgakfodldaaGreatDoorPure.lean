import Derived.RowKit
import Derived.Lib.Strings
namespace Go.Proofs.YtndkhgakfodldaaGreatDoor
abbrev vaa:=@Nat.le_refl
abbrev vab:=@Option.some.inj
abbrev vac:=@Bool.and_eq_true
abbrev vad:=@List.setIfInBounds_toArray
abbrev vae:=@List.getElem?_eq_getElem
abbrev vaf:=@List.take_succ_eq_append_getElem
abbrev vag:=@Nat.zero_le
abbrev vah:=@Nat.lt_of_lt_of_le
abbrev vai:=@List.mem_cons_of_mem
abbrev vaj:=@List.getElem_mem
abbrev vak:=@List.eq_nil_of_length_eq_zero
abbrev vam:=@List.length_append
abbrev van:=@List.set_cons_zero
abbrev vao:=@Prod.mk.inj
abbrev vap:=@List.set_cons_succ
abbrev vaq:=@Go.World.size_setCell
abbrev var:=@List.mem_cons_self
abbrev vas:=@List.all_eq_true
abbrev vat:=@Bool.or_eq_false_iff
abbrev vau:=@List.take_length
abbrev vav:=@List.length_cons
abbrev vaw:=@List.take_of_length_le
abbrev vax:=@Go.Lib.toList_data
abbrev vay:=@List.getD_eq_getElem?_getD
abbrev vaz:=@Array.getElem?_eq_none
abbrev vba:=@Nat.zero_add
abbrev vbb:=@List.getElem?_append_left
abbrev vbc:=@Nat.le_trans
abbrev vbd:=@List.getElem?_append_right
abbrev vbe:=@Option.some.injEq
abbrev vbf:=@List.flatMap_cons
abbrev vbg:=@Nat.lt_or_ge
abbrev vbh:=@List.getElem_cons_zero
abbrev vbi:=@Nat.zero_mul
abbrev vbj:=@Nat.add_assoc
abbrev vbk:=@List.foldl_append
abbrev vbl:=@List.getElem_of_mem
abbrev vbm:=@List.all_append
abbrev vbn:=@List.getElem_cons_succ
abbrev vbo:=@List.findIdx?_eq_some_iff_getElem
abbrev vbp:=@Nat.add_zero
abbrev vbq:=@List.getElem?_eq_none
abbrev vbr:=@List.map_append
abbrev vbs:=@List.mem_append
abbrev vbt:=@Go.World.cell?_setCell_other
abbrev vbu:=@Array.getElem?_eq_getElem
abbrev vbv:=@List.length_drop
abbrev vbw:=@List.any_eq_false
abbrev vbx:=@Int.toNat_natCast
abbrev vby:=@List.mem_append_right
abbrev vbz:=@Go.World.cell?_setCell_same
abbrev vca:=@List.mem_cons
abbrev vcb:=@Int.ediv_ediv_of_nonneg
abbrev vcc:=@List.length_take
abbrev vcd:=@List.getElem?_eq_some_iff
abbrev vce:=@List.contains_iff_mem
abbrev vcf:=@List.getElem_append_left
abbrev vcg:=@List.mem_singleton
abbrev vch:=@List.mem_map
abbrev vci:=@Go.DataW.trod_int
abbrev vcj:=@Bool.eq_iff_iff
abbrev vck:=@Nat.not_lt_zero
abbrev vcl:=@List.append_nil
abbrev vcm:=@Go.World.size_alloc
abbrev vcn:=@List.map_cons
abbrev vco:=@List.take_append_drop
abbrev vcp:=@List.length_map
abbrev vcq:=@List.find?_cons
abbrev vcr:=@List.all_cons
abbrev vcs:=@Bool.not_eq_true
abbrev vct:=@List.drop_eq_nil_of_le
abbrev vcu:=@Bool.false_eq_true
abbrev vcv:=@List.length_nil
abbrev vcw:=@List.all_eq_false
abbrev vcx:=@List.findIdx?_eq_none_iff
abbrev vcy:=@Go.DataW.held.injEq
abbrev vcz:=@Prod.mk.injEq
abbrev vda:=@Nat.eq_zero_or_pos
abbrev vdb:=@Except.ok.inj
abbrev vdc:=@List.append_assoc
abbrev vdd:=@List.length_singleton
abbrev vde:=@List.getElem?_toArray
abbrev vdf:=@Bool.and_eq_false_iff
abbrev vdg:=@List.getElem?_modify
abbrev vdh:=@List.mem_of_getElem?
abbrev vdi:=@Nat.mul_le_mul_right
abbrev vdj:=@List.mem_append_left
abbrev vdk:=@List.flatMap_append
abbrev vdl:=@Nat.min_eq_left
abbrev vdm:=@Nat.one_mul
abbrev vdn:=@Go.Oper.upon_enter
abbrev vdo:=@List.length_zip
abbrev vdp:=@List.getElem?_take
abbrev vdq:=@List.map_nil
abbrev vdr:=@Nat.mul_le_mul
abbrev vds:=@List.getElem_drop
abbrev vdt:=@Go.DataW.trod_struct
abbrev vdu:=@Bool.true_and
abbrev vdv:=@List.getElem_map
abbrev vdw:=@Go.DataW.trod_slice
abbrev vdx:=@List.getElem_zip
abbrev vdy:=@List.nodup_cons
abbrev vdz:=@List.range_succ
abbrev vea:=@UInt8.toNat_inj
abbrev veb:=@List.all_nil
abbrev vec:=@Bool.false_and
abbrev ved:=@List.take_zero
abbrev vee:=@Nat.le_succ
abbrev OA:=Option Addr
abbrev L8:=List UInt8
namespace Lx
def zio (c:UInt8):Bool:=decide (97<=(c.toNat:Int))&&decide ((c.toNat:Int)<=122)
def zie (c:UInt8):Bool:=decide (48<=(c.toNat:Int))&&decide ((c.toNat:Int)<=57)
def zdz (c:UInt8):Bool:=zio c||zie c
def zox:L8->Bool
 | []=>false
 | c :: _=>zio c
def zby (l:L8):Bool:=zox l&&decide (l.length<=8)&&l.all zdz
def signs:L8:=[123,125,40,41,91,93,44,59,61,46,43,45,42,47,37,60,33,38,124]
def zwe (c:UInt8):Bool:=signs.contains c
theorem zhy (s:ByteArray) (k:Nat) (h:k<s.size):s.data.toList.take (k+1)=s.data.toList.take k++[s[k]]:=by
 rw [vaf (by simpa using h)];rfl
theorem zaz (s:ByteArray):s.data.toList.length=s.size:=Array.length_toList
theorem z2a (s:ByteArray) (h:0<s.size):s.toList.isEmpty=false:=by
 rw [vax]
 cases hl:s.data.toList with
 | nil=>have:=zaz s;rw [hl] at this;simp at this;omega
 | cons=>rfl
theorem zzk (s:ByteArray) (h:0<s.size):zox s.data.toList=zio s[0]:=by
 have:=zhy s 0 h
 cases hl:s.data.toList with
 | nil=>rw [hl] at this;simp at this
 | cons c r=>rw [hl] at this;simp at this;simp [zox,this]
theorem zfn (s:ByteArray) (k:Nat) (h:k<s.size) (p:UInt8->Bool):(s.data.toList.take (k+1)).all p=((s.data.toList.take k).all p&&p s[k]):=by
 rw [zhy s k h];simp
theorem zk2 (s:ByteArray) (p:UInt8->Bool):(s.data.toList.take s.size).all p=s.data.toList.all p:=by
 rw [vaw (by rw [zaz];exact vaa _)]
theorem zs0 (s:ByteArray) (k:Nat) (h:k<s.size) (p:UInt8->Bool) (hp:p s[k]=false):s.data.toList.all p=false:=by
 have hx:s.data.toList[k]'(by rw [zaz];exact h)=s[k]:=rfl;rw [vcw];refine ⟨s[k],?_,by simp [hp]⟩
 rw [← hx];exact vaj _
theorem zk3 (s:ByteArray) (h:s.size=0):zby s.data.toList=false:=by
 have:s.data.toList=[]:=vak (by rw [zaz];exact h)
 rw [this];rfl
theorem znf (s:ByteArray) (h:8<s.size):zby s.data.toList=false:=by
 unfold zby;rw [zaz,show decide (s.size<=8)=false from by simp;omega];simp
theorem zng (s:ByteArray) (h:0<s.size) (hl:zio s[0]=false):zby s.data.toList=false:=by
 unfold zby;rw [zzk s h,hl];simp
theorem znh (s:ByteArray) (h:0<s.size) (h8:s.size<=8) (hl:zio s[0]=true):zby s.data.toList=s.data.toList.all zdz:=by
 unfold zby;rw [zzk s h,hl,zaz,show decide (s.size<=8)=true from by simp;omega];simp
def z6s (l:L8):Nat:=(l.takeWhile zdz).length
def z6t (s:ByteArray) (a:Nat):Nat:=z6s (s.data.toList.drop a)
theorem zs1:∀ (l:L8) (k:Nat),(l.take k).all zdz=true->k<=l.length->(∀ h:k<l.length,zdz l[k]=false)->z6s l=k
 | [],k,_,hk,_=>by simp at hk;subst hk;rfl
 | c :: l,0,_,_,hs=>by have:=hs (by simp);simp at this;simp [z6s,this]
 | c :: l,k+1,ha,hk,hs=>by
   simp only [List.take_succ_cons,vcr,vac] at ha;have ih:=zs1 l k ha.2 (by simp at hk;omega) (fun h=>by have:=hs (by simp;omega);simpa using this);simp only [z6s] at ih ⊢;rw [List.takeWhile_cons,if_pos ha.1,vav,ih]
theorem zgi (s:ByteArray) (a:Nat):(s.data.toList.drop a).length=s.size - a:=by rw [vbv,zaz]
theorem zux (s:ByteArray) (a k:Nat) (h:a+k<s.size):(s.data.toList.drop a)[k]'(by rw [zgi];omega)=s[a+k]:=by
 rw [vds];rfl
theorem zuy (s:ByteArray) (a k:Nat) (h:a+k<s.size):((s.data.toList.drop a).take (k+1)).all zdz=(((s.data.toList.drop a).take k).all zdz&&zdz s[a+k]):=by
 rw [vaf (by rw [zgi];omega),zux s a k h];simp
theorem z2b (s:ByteArray) (a k:Nat) (ha:((s.data.toList.drop a).take k).all zdz=true) (h:a+k=s.size):z6t s a=k:=
 zs1 _ k ha (by rw [zgi];omega) (fun hk=>by rw [zgi] at hk;omega)
theorem zqu (s:ByteArray) (a k:Nat) (ha:((s.data.toList.drop a).take k).all zdz=true) (h:a+k<s.size) (hc:zdz s[a+k]=false):z6t s a=k:=
 zs1 _ k ha (by rw [zgi];omega) (fun _=>by rw [zux s a k h];exact hc)
def pieceN (s:ByteArray) (a:Nat):Nat:=if z6t s a=0 then 1 else z6t s a
theorem z5o (s:ByteArray) (a:Nat) (h:a<s.size):((s.data.toList.drop a).take 1).all zdz=zdz s[a]:=by
 have:=zuy s a 0 (by omega);simpa using this
theorem zqv (s:ByteArray) (a:Nat) (h:a<s.size) (hc:zdz s[a]=false):pieceN s a=1:=by
 have:=zqu s a 0 (by simp) (by omega) (by simpa using hc);simp [pieceN,this]
theorem zqw (s:ByteArray) (a k:Nat) (hk:0<k) (h:z6t s a=k):pieceN s a=k:=by
 unfold pieceN;rw [h,if_neg (by omega)]
theorem z5p (s:ByteArray) (a:Nat):z6t s a<=s.size - a:=by
 have:=(List.takeWhile_prefix zdz (l:=s.data.toList.drop a)).length_le
 rw [zgi] at this;exact this
theorem zgj (s:ByteArray) (a:Nat):0<pieceN s a:=by unfold pieceN;split<;>omega
theorem zzl (s:ByteArray) (a:Nat) (h:a<s.size):a+pieceN s a<=s.size:=by
 have:=z5p s a;unfold pieceN;split<;>omega
end Lx
namespace Fx
def fit64 (n:Int):Prop:=-9223372036854775808<=n/\n<=9223372036854775807
structure It where
 kind:Int
 n:Int
 at_:Int
 name:ByteArray
structure Fc where
 name:ByteArray
 items:List It
def nameOk (s:ByteArray):Bool:=Lx.zby s.data.toList
def numOkB (i:It):Bool:=
 if i.kind=1 then decide (0<=i.n)&&decide (i.n<=1099511627775)&&decide (i.at_=0)
 else if i.kind=2 then decide (i.n=0)&&decide (0<=i.at_)&&decide (i.at_<=320)
 else if i.kind=3 then decide (1<=i.n)&&decide (i.n<=32)&&decide (0<=i.at_)&&decide (i.at_<=320)
 else if i.kind=4 then decide (0<=i.n)&&decide (i.n<=3)&&decide (0<=i.at_)&&decide (i.at_<=320)
 else false
def zfv (i:It):Bool:=nameOk i.name&&numOkB i
def zmc:List (L8)->List (L8):=List.foldl (fun A5 s=>if s ∈ A5 then A5 else A5++[s]) []
def zpu (l:List (L8)):Bool:=decide ((zmc l).length<l.length)
theorem zni (l:List (L8)) (s:L8):zmc (l++[s])=if s ∈ zmc l then zmc l else zmc l++[s]:=by
 unfold zmc;rw [vbk];rfl
theorem zoy {α:Type} {p:List α->Prop} (h0:p []) (h1:∀ l a,p l->p (l++[a])):∀ l,p l:=by
 intro l
 have:∀ n (l:List α),l.length=n->p l:=by
  intro n
  induction n with
  | zero=>intro l hl;rw [vak hl];exact h0
  | succ n ih=>
    intro l hl
    have Ak:l≠[]:=fun e=>by rw [e] at hl;simp at hl
    rw [← List.dropLast_concat_getLast Ak];exact h1 _ _ (ih _ (by rw [List.length_dropLast];omega))
 exact this _ l rfl
theorem zqx (x:L8):∀ l:List (L8),x ∈ zmc l↔x ∈ l:=by
 apply zoy
 . exact Iff.rfl
 . intro l a ih
   rw [zni]
   by_cases h:a ∈ zmc l
   . rw [if_pos h]
     simp only [vbs,vcg]
     constructor
     . intro hx;exact Or.inl (ih.1 hx)
     . rintro (hx | rfl)
       . exact ih.2 hx
       . exact h
   . rw [if_neg h]
     simp only [vbs,vcg,ih]
def zek (l:List It):List (L8):=l.map (·.name.data.toList)
def zl0 (f:Fc):Int:=
 if 16<f.items.length then 2 else if nameOk f.name && !zpu (zek f.items)&&f.items.all zfv then 0 else 1
theorem z2c {f:Fc} (h:16<f.items.length):zl0 f=2:=if_pos h
theorem z2d {f:Fc} (h:¬ 16<f.items.length) (h1:nameOk f.name=false):zl0 f=1:=by unfold zl0;rw [if_neg h,h1];rfl
theorem z5q {f:Fc} (h:¬ 16<f.items.length) (h1:zpu (zek f.items)=true):zl0 f=1:=by unfold zl0;rw [if_neg h,h1];simp
theorem z2e {f:Fc} (h:¬ 16<f.items.length) (h1:f.items.all zfv=false):zl0 f=1:=by unfold zl0;rw [if_neg h,h1];simp
theorem z7s {f:Fc} (h:¬ 16<f.items.length) (h0:nameOk f.name=true) (h1:zpu (zek f.items)=false) (h2:f.items.all zfv=true):zl0 f=0:=by unfold zl0;rw [if_neg h,h0,h1,h2];rfl
end Fx
end Go.Proofs.YtndkhgakfodldaaGreatDoor
