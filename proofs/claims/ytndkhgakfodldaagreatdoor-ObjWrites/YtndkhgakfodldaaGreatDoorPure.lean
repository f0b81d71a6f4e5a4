import Derived.RowKit
import Derived.Lib.Strings
namespace Go.Proofs.YtndkhgakfodldaaGreatDoor
def vaa:=@Nat.le_refl
def vab:=@List.length_append
def vac:=@Option.some.inj
def vad:=@Bool.and_eq_true
def vae:=@Nat.zero_le
def vaf:=@List.mem_cons_of_mem
def vag:=@List.take_succ_eq_append_getElem
def vah:=@Nat.lt_of_lt_of_le
def vai:=@Nat.le_trans
def vaj:=@List.getElem?_eq_getElem
def vak:=@Prod.mk.inj
def vam:=@List.mem_cons_self
def van:=@List.setIfInBounds_toArray
def vao:=@List.eq_nil_of_length_eq_zero
def vap:=@List.getElem_mem
def vaq:=@List.append_assoc
def var:=@Go.World.size_setCell
def vas:=@List.length_cons
def vat:=@List.set_cons_zero
def vau:=@List.set_cons_succ
def vav:=@List.take_of_length_le
def vaw:=@Option.bind_some
def vax:=@List.all_eq_true
def vay:=@Bool.or_eq_false_iff
def vaz:=@List.take_length
def vba:=@Go.Lib.toList_data
def vbb:=@List.length_take
def vbc:=@List.length_singleton
def vbd:=@List.getElem_of_mem
def vbe:=@List.append_nil
def vbf:=@Array.getElem?_eq_none
def vbg:=@List.flatMap_cons
def vbh:=@Option.some.injEq
def vbi:=@List.getElem?_append_left
def vbj:=@Nat.lt_or_ge
def vbk:=@List.getElem?_append_right
def vbl:=@List.getD_eq_getElem?_getD
def vbm:=@Int.toNat_natCast
def vbn:=@List.foldl_append
def vbo:=@Nat.zero_mul
def vbp:=@Go.World.cell?_setCell_other
def vbq:=@Nat.zero_add
def vbr:=@Go.World.cell?_setCell_same
def vbs:=@List.getElem?_eq_none
def vbt:=@Nat.add_assoc
def vbu:=@List.length_nil
def vbv:=@Bool.eq_false_iff
def vbw:=@Nat.add_zero
def vbx:=@List.getElem_cons_zero
def vby:=@List.getElem_cons_succ
def vbz:=@List.findIdx?_eq_some_iff_getElem
def vca:=@List.take_append_drop
def vcb:=@Nat.mul_le_mul_left
def vcc:=@List.length_drop
def vcd:=@List.mem_singleton
def vce:=@Nat.eq_zero_or_pos
def vcf:=@List.mem_append
def vcg:=@List.take_zero
def vch:=@List.all_append
def vci:=@Array.getElem?_eq_getElem
def vcj:=@List.any_eq_false
def vck:=@List.mem_append_right
def vcl:=@Int.ediv_ediv_of_nonneg
def vcm:=@List.mem_cons
def vcn:=@List.cons_append
def vco:=@List.flatMap_nil
def vcp:=@Bool.and_eq_false_iff
def vcq:=@Bool.eq_iff_iff
def vcr:=@Go.DataW.trod_int
def vcs:=@Bool.false_eq_true
def vct:=@List.contains_iff_mem
def vcu:=@List.getElem_append_left
def vcv:=@Nat.not_lt_zero
def vcw:=@List.nil_append
def vcx:=@List.find?_cons
def vcy:=@Nat.le_of_eq
def vcz:=@List.map_cons
def vda:=@List.all_cons
def vdb:=@Bool.true_and
def vdc:=@Bool.not_eq_true
def vdd:=@Go.World.size_alloc
def vde:=@List.drop_eq_nil_of_le
def vdf:=@List.map_append
def vdg:=@List.length_map
def vdh:=@List.nodup_iff_pairwise_ne
def vdi:=@List.findIdx?_eq_none_iff
def vdj:=@Nat.mul_le_mul
def vdk:=@Int.toNat_of_nonneg
def vdl:=@Except.ok.inj
def vdm:=@Bool.not_eq_true'
def vdn:=@Nat.one_mul
def vdo:=@List.all_eq_false
def vdp:=@List.mem_map
def vdq:=@List.mem_of_mem_take
def vdr:=@Nat.mul_le_mul_right
def vds:=@List.mem_of_getElem?
def vdt:=@List.mem_append_left
def vdu:=@UInt8.toNat_inj
def vdv:=@Nat.le_succ
def vdw:=@Nat.min_eq_left
def vdx:=@List.flatMap_append
def vdy:=@Go.Oper.upon_enter
def vdz:=@List.length_zip
def vea:=@List.getElem?_take
def veb:=@Array.size_append
def vec:=@List.getElem_drop
def ved:=@Go.DataW.trod_struct
def vee:=@Prod.mk.injEq
def vef:=@Nat.le_add_right
def veg:=@Go.DataW.held.injEq
def veh:=@List.getElem_zip
def vei:=@Bool.or_eq_true
def vej:=@List.map_nil
def vek:=@List.all_nil
def vel:=@Nat.sub_self
def vem:=@Bool.false_and
def ven:=@ByteArray.ext
def veo:=@Bool.false_or
abbrev OA:=Option Addr
abbrev L8:=List UInt8
namespace Lx
def zj9 (c:UInt8):Bool:=decide (97<=(c.toNat:Int))&&decide ((c.toNat:Int)<=122)
def zjy (c:UInt8):Bool:=decide (48<=(c.toNat:Int))&&decide ((c.toNat:Int)<=57)
def zev (c:UInt8):Bool:=zj9 c||zjy c
def zqo:L8->Bool
 | []=>false
 | c :: _=>zj9 c
def zbx (l:L8):Bool:=zqo l&&decide (l.length<=8)&&l.all zev
def signs:L8:=[123,125,40,41,91,93,44,59,61,46,43,45,42,47,37,60,33,38,124]
def zxu (c:UInt8):Bool:=signs.contains c
theorem zi9 (s:ByteArray) (k:Nat) (h:k<s.size):s.data.toList.take (k+1)=s.data.toList.take k++[s[k]]:=by
 rw [vag (by simpa using h)];rfl
theorem zat (s:ByteArray):s.data.toList.length=s.size:=Array.length_toList
theorem zqp (s:ByteArray) (h:0<s.size):s.toList.isEmpty=false:=by
 rw [vba]
 cases hl:s.data.toList with
 | nil=>have:=zat s;rw [hl] at this;simp at this;omega
 | cons=>rfl
theorem z0r (s:ByteArray) (h:0<s.size):zqo s.data.toList=zj9 s[0]:=by
 have:=zi9 s 0 h
 cases hl:s.data.toList with
 | nil=>rw [hl] at this;simp at this
 | cons c r=>rw [hl] at this;simp at this;simp [zqo,this]
theorem zgm (s:ByteArray) (k:Nat) (h:k<s.size) (p:UInt8->Bool):(s.data.toList.take (k+1)).all p=((s.data.toList.take k).all p&&p s[k]):=by
 rw [zi9 s k h];simp
theorem zml (s:ByteArray) (p:UInt8->Bool):(s.data.toList.take s.size).all p=s.data.toList.all p:=by
 rw [vav (by rw [zat];exact vaa _)]
theorem zun (s:ByteArray) (k:Nat) (h:k<s.size) (p:UInt8->Bool) (hp:p s[k]=false):s.data.toList.all p=false:=by
 have hx:s.data.toList[k]'(by rw [zat];exact h)=s[k]:=rfl;rw [vdo];refine ⟨s[k],?_,by simp [hp]⟩
 rw [← hx];exact vap _
theorem zmm (s:ByteArray) (h:s.size=0):zbx s.data.toList=false:=by
 have:s.data.toList=[]:=vao (by rw [zat];exact h)
 rw [this];rfl
theorem zo0 (s:ByteArray) (h:8<s.size):zbx s.data.toList=false:=by
 unfold zbx;rw [zat,show decide (s.size<=8)=false from by simp;omega];simp
theorem zo1 (s:ByteArray) (h:0<s.size) (hl:zj9 s[0]=false):zbx s.data.toList=false:=by
 unfold zbx;rw [z0r s h,hl];simp
theorem zo2 (s:ByteArray) (h:0<s.size) (h8:s.size<=8) (hl:zj9 s[0]=true):zbx s.data.toList=s.data.toList.all zev:=by
 unfold zbx;rw [z0r s h,hl,zat,show decide (s.size<=8)=true from by simp;omega];simp
def z7t (l:L8):Nat:=(l.takeWhile zev).length
def z7u (s:ByteArray) (a:Nat):Nat:=z7t (s.data.toList.drop a)
theorem zuo:∀ (l:L8) (k:Nat),(l.take k).all zev=true->k<=l.length->(∀ h:k<l.length,zev l[k]=false)->z7t l=k
 | [],k,_,hk,_=>by simp at hk;subst hk;rfl
 | c :: l,0,_,_,hs=>by have:=hs (by simp);simp at this;simp [z7t,this]
 | c :: l,k+1,ha,hk,hs=>by
   simp only [List.take_succ_cons,vda,vad] at ha;have ih:=zuo l k ha.2 (by simp at hk;omega) (fun h=>by have:=hs (by simp;omega);simpa using this);simp only [z7t] at ih ⊢;rw [List.takeWhile_cons,if_pos ha.1,vas,ih]
theorem zhj (s:ByteArray) (a:Nat):(s.data.toList.drop a).length=s.size - a:=by rw [vcc,zat]
theorem zwc (s:ByteArray) (a k:Nat) (h:a+k<s.size):(s.data.toList.drop a)[k]'(by rw [zhj];omega)=s[a+k]:=by
 rw [vec];rfl
theorem zwd (s:ByteArray) (a k:Nat) (h:a+k<s.size):((s.data.toList.drop a).take (k+1)).all zev=(((s.data.toList.drop a).take k).all zev&&zev s[a+k]):=by
 rw [vag (by rw [zhj];omega),zwc s a k h];simp
theorem z3s (s:ByteArray) (a k:Nat) (ha:((s.data.toList.drop a).take k).all zev=true) (h:a+k=s.size):z7u s a=k:=
 zuo _ k ha (by rw [zhj];omega) (fun hk=>by rw [zhj] at hk;omega)
theorem zso (s:ByteArray) (a k:Nat) (ha:((s.data.toList.drop a).take k).all zev=true) (h:a+k<s.size) (hc:zev s[a+k]=false):z7u s a=k:=
 zuo _ k ha (by rw [zhj];omega) (fun _=>by rw [zwc s a k h];exact hc)
def pieceN (s:ByteArray) (a:Nat):Nat:=if z7u s a=0 then 1 else z7u s a
theorem z6t (s:ByteArray) (a:Nat) (h:a<s.size):((s.data.toList.drop a).take 1).all zev=zev s[a]:=by
 have:=zwd s a 0 (by omega);simpa using this
theorem zsp (s:ByteArray) (a:Nat) (h:a<s.size) (hc:zev s[a]=false):pieceN s a=1:=by
 have:=zso s a 0 (by simp) (by omega) (by simpa using hc);simp [pieceN,this]
theorem zsq (s:ByteArray) (a k:Nat) (hk:0<k) (h:z7u s a=k):pieceN s a=k:=by
 unfold pieceN;rw [h,if_neg (by omega)]
theorem z6u (s:ByteArray) (a:Nat):z7u s a<=s.size - a:=by
 have:=(List.takeWhile_prefix zev (l:=s.data.toList.drop a)).length_le
 rw [zhj] at this;exact this
theorem zhk (s:ByteArray) (a:Nat):0<pieceN s a:=by unfold pieceN;split<;>omega
theorem z0s (s:ByteArray) (a:Nat) (h:a<s.size):a+pieceN s a<=s.size:=by
 have:=z6u s a;unfold pieceN;split<;>omega
end Lx
namespace Fx
structure It where
 kind:Int
 n:Int
 at_:Int
 name:ByteArray
structure Fc where
 name:ByteArray
 items:List It
def nameOk (s:ByteArray):Bool:=Lx.zbx s.data.toList
def numOkB (i:It):Bool:=
 if i.kind=1 then decide (0<=i.n)&&decide (i.n<=1099511627775)&&decide (i.at_=0)
 else if i.kind=2 then decide (i.n=0)&&decide (0<=i.at_)&&decide (i.at_<=320)
 else if i.kind=3 then decide (1<=i.n)&&decide (i.n<=32)&&decide (0<=i.at_)&&decide (i.at_<=320)
 else if i.kind=4 then decide (0<=i.n)&&decide (i.n<=3)&&decide (0<=i.at_)&&decide (i.at_<=320)
 else false
def zgt (i:It):Bool:=nameOk i.name&&numOkB i
def zja:List (L8)->List (L8):=List.foldl (fun acc s=>if s ∈ acc then acc else acc++[s]) []
def zgu (l:List (L8)):Bool:=decide ((zja l).length<l.length)
theorem zhl (l:List (L8)) (s:L8):zja (l++[s])=if s ∈ zja l then zja l else zja l++[s]:=by
 unfold zja;rw [vbn];rfl
theorem zgn {α:Type} {p:List α->Prop} (h0:p []) (h1:∀ l a,p l->p (l++[a])):∀ l,p l:=by
 intro l
 have:∀ n (l:List α),l.length=n->p l:=by
  intro n
  induction n with
  | zero=>intro l hl;rw [vao hl];exact h0
  | succ n ih=>
    intro l hl
    have hne:l≠[]:=fun e=>by rw [e] at hl;simp at hl
    rw [← List.dropLast_concat_getLast hne];exact h1 _ _ (ih _ (by rw [List.length_dropLast];omega))
 exact this _ l rfl
theorem zjb (x:L8):∀ l:List (L8),x ∈ zja l↔x ∈ l:=by
 apply zgn
 . exact Iff.rfl
 . intro l a ih
   rw [zhl]
   by_cases h:a ∈ zja l
   . rw [if_pos h]
     simp only [vcf,vcd]
     constructor
     . intro hx;exact Or.inl (ih.1 hx)
     . rintro (hx | rfl)
       . exact ih.2 hx
       . exact h
   . rw [if_neg h]
     simp only [vcf,vcd,ih]
theorem z0t:∀ l:List (L8),(zja l).length<=l.length:=by
 apply zgn
 . exact vaa _
 . intro l a ih
   rw [zhl];split
   . rw [vab];simp;omega
   . rw [vab,vab];simp;omega
theorem zld (l:List (L8)) (s:L8):zgu (l++[s])=(zgu l||decide (s ∈ l)):=by
 have h1:=z0t l
 have h2:(l++[s]).length=l.length+1:=by simp
 unfold zgu;rw [zhl,h2]
 by_cases h:s ∈ zja l
 . rw [if_pos h,decide_eq_true ((zjb s l).1 h),Bool.or_true]
   exact decide_eq_true (by omega)
 . rw [if_neg h,decide_eq_false (fun e=>h ((zjb s l).2 e)),Bool.or_false,show (zja l++[s]).length=(zja l).length+1 from by simp]
   exact decide_eq_decide.2 (by omega)
def zfj (l:List It):List (L8):=l.map (·.name.data.toList)
def zng (f:Fc):Int:=
 if 16<f.items.length then 2 else if nameOk f.name && !zgu (zfj f.items)&&f.items.all zgt then 0 else 1
theorem z3t {f:Fc} (h:16<f.items.length):zng f=2:=if_pos h
theorem z3u {f:Fc} (h:¬ 16<f.items.length) (h1:nameOk f.name=false):zng f=1:=by unfold zng;rw [if_neg h,h1];rfl
theorem z6v {f:Fc} (h:¬ 16<f.items.length) (h1:zgu (zfj f.items)=true):zng f=1:=by unfold zng;rw [if_neg h,h1];simp
theorem z3v {f:Fc} (h:¬ 16<f.items.length) (h1:f.items.all zgt=false):zng f=1:=by unfold zng;rw [if_neg h,h1];simp
theorem z8r {f:Fc} (h:¬ 16<f.items.length) (h0:nameOk f.name=true) (h1:zgu (zfj f.items)=false) (h2:f.items.all zgt=true):zng f=0:=by unfold zng;rw [if_neg h,h0,h1,h2];rfl
end Fx
end Go.Proofs.YtndkhgakfodldaaGreatDoor
