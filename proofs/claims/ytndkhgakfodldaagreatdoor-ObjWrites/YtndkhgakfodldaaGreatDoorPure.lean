import Derived.RowKit
import Derived.Lib.Strings
namespace Go.Proofs.YtndkhgakfodldaaGreatDoor
abbrev vaa:=@Nat.le_refl
abbrev vab:=@List.length_append
abbrev vac:=@Option.some.inj
abbrev vad:=@Bool.and_eq_true
abbrev vae:=@Nat.zero_le
abbrev vaf:=@List.mem_cons_of_mem
abbrev vag:=@List.take_succ_eq_append_getElem
abbrev vah:=@Nat.lt_of_lt_of_le
abbrev vai:=@Nat.le_trans
abbrev vaj:=@List.getElem?_eq_getElem
abbrev vak:=@Prod.mk.inj
abbrev vam:=@List.mem_cons_self
abbrev van:=@List.setIfInBounds_toArray
abbrev vao:=@List.eq_nil_of_length_eq_zero
abbrev vap:=@List.getElem_mem
abbrev vaq:=@List.append_assoc
abbrev var:=@Go.World.size_setCell
abbrev vas:=@List.length_cons
abbrev vat:=@List.set_cons_zero
abbrev vau:=@List.set_cons_succ
abbrev vav:=@List.take_of_length_le
abbrev vaw:=@Option.bind_some
abbrev vax:=@List.all_eq_true
abbrev vay:=@Bool.or_eq_false_iff
abbrev vaz:=@List.take_length
abbrev vba:=@Go.Lib.toList_data
abbrev vbb:=@List.length_take
abbrev vbc:=@List.length_singleton
abbrev vbd:=@List.getElem_of_mem
abbrev vbe:=@List.append_nil
abbrev vbf:=@Array.getElem?_eq_none
abbrev vbg:=@List.flatMap_cons
abbrev vbh:=@Option.some.injEq
abbrev vbi:=@List.getElem?_append_left
abbrev vbj:=@Nat.lt_or_ge
abbrev vbk:=@List.getElem?_append_right
abbrev vbl:=@List.getD_eq_getElem?_getD
abbrev vbm:=@Int.toNat_natCast
abbrev vbn:=@List.foldl_append
abbrev vbo:=@Nat.zero_mul
abbrev vbp:=@Go.World.cell?_setCell_other
abbrev vbq:=@Nat.zero_add
abbrev vbr:=@Go.World.cell?_setCell_same
abbrev vbs:=@List.getElem?_eq_none
abbrev vbt:=@Nat.add_assoc
abbrev vbu:=@List.length_nil
abbrev vbv:=@Bool.eq_false_iff
abbrev vbw:=@Nat.add_zero
abbrev vbx:=@List.getElem_cons_zero
abbrev vby:=@List.getElem_cons_succ
abbrev vbz:=@List.findIdx?_eq_some_iff_getElem
abbrev vca:=@List.take_append_drop
abbrev vcb:=@Nat.mul_le_mul_left
abbrev vcc:=@List.length_drop
abbrev vcd:=@List.mem_singleton
abbrev vce:=@Nat.eq_zero_or_pos
abbrev vcf:=@List.mem_append
abbrev vcg:=@List.take_zero
abbrev vch:=@List.all_append
abbrev vci:=@Array.getElem?_eq_getElem
abbrev vcj:=@List.any_eq_false
abbrev vck:=@List.mem_append_right
abbrev vcl:=@Int.ediv_ediv_of_nonneg
abbrev vcm:=@List.mem_cons
abbrev vcn:=@List.cons_append
abbrev vco:=@List.flatMap_nil
abbrev vcp:=@Bool.and_eq_false_iff
abbrev vcq:=@Bool.eq_iff_iff
abbrev vcr:=@Go.DataW.trod_int
abbrev vcs:=@Bool.false_eq_true
abbrev vct:=@List.contains_iff_mem
abbrev vcu:=@List.getElem_append_left
abbrev vcv:=@Nat.not_lt_zero
abbrev vcw:=@List.nil_append
abbrev vcx:=@List.find?_cons
abbrev vcy:=@Nat.le_of_eq
abbrev vcz:=@List.map_cons
abbrev vda:=@List.all_cons
abbrev vdb:=@Bool.true_and
abbrev vdc:=@Bool.not_eq_true
abbrev vdd:=@Go.World.size_alloc
abbrev vde:=@List.drop_eq_nil_of_le
abbrev vdf:=@List.map_append
abbrev vdg:=@List.length_map
abbrev vdh:=@List.nodup_iff_pairwise_ne
abbrev vdi:=@List.findIdx?_eq_none_iff
abbrev vdj:=@Nat.mul_le_mul
abbrev vdk:=@Int.toNat_of_nonneg
abbrev vdl:=@Except.ok.inj
abbrev vdm:=@Bool.not_eq_true'
abbrev vdn:=@Nat.one_mul
abbrev vdo:=@List.all_eq_false
abbrev vdp:=@List.mem_map
abbrev vdq:=@List.mem_of_mem_take
abbrev vdr:=@Nat.mul_le_mul_right
abbrev vds:=@List.mem_of_getElem?
abbrev vdt:=@List.mem_append_left
abbrev vdu:=@UInt8.toNat_inj
abbrev vdv:=@Nat.le_succ
abbrev vdw:=@Nat.min_eq_left
abbrev vdx:=@List.flatMap_append
abbrev vdy:=@Go.Oper.upon_enter
abbrev vdz:=@List.length_zip
abbrev vea:=@List.getElem?_take
abbrev veb:=@Array.size_append
abbrev vec:=@List.getElem_drop
abbrev ved:=@Go.DataW.trod_struct
abbrev vee:=@Prod.mk.injEq
abbrev vef:=@Nat.le_add_right
abbrev veg:=@Go.DataW.held.injEq
abbrev veh:=@List.getElem_zip
abbrev vei:=@Bool.or_eq_true
abbrev vej:=@List.map_nil
abbrev vek:=@List.all_nil
abbrev vel:=@Nat.sub_self
abbrev vem:=@Bool.false_and
abbrev ven:=@ByteArray.ext
abbrev veo:=@Bool.false_or
abbrev OA:=Option Addr
abbrev L8:=List UInt8
namespace Lx
def zj9 (c:UInt8):Bool:=decide (97<=(c.toNat:Int))&&decide ((c.toNat:Int)<=122)
def zjy (c:UInt8):Bool:=decide (48<=(c.toNat:Int))&&decide ((c.toNat:Int)<=57)
def zev (c:UInt8):Bool:=zj9 c||zjy c
def zqo:L8->Bool
 | []=>false
 | c :: _=>zj9 c
def zbx (l:L8):Bool:=zqo l&&decide (l.length<=8)&&l.all zev
def signs:L8:=[123,125,40,41,91,93,44,59,61,46,43,45,42,47,37,60,33,38,124]
def zxu (c:UInt8):Bool:=signs.contains c
theorem zi9 (s:ByteArray) (k:Nat) (h:k<s.size):s.data.toList.take (k+1)=s.data.toList.take k++[s[k]]:=by
 rw [vag (by simpa using h)];rfl
theorem zat (s:ByteArray):s.data.toList.length=s.size:=Array.length_toList
theorem zqp (s:ByteArray) (h:0<s.size):s.toList.isEmpty=false:=by
 rw [vba]
 cases hl:s.data.toList with
 | nil=>have:=zat s;rw [hl] at this;simp at this;omega
 | cons=>rfl
theorem z0r (s:ByteArray) (h:0<s.size):zqo s.data.toList=zj9 s[0]:=by
 have:=zi9 s 0 h
 cases hl:s.data.toList with
 | nil=>rw [hl] at this;simp at this
 | cons c r=>rw [hl] at this;simp at this;simp [zqo,this]
theorem zgm (s:ByteArray) (k:Nat) (h:k<s.size) (p:UInt8->Bool):(s.data.toList.take (k+1)).all p=((s.data.toList.take k).all p&&p s[k]):=by
 rw [zi9 s k h];simp
theorem zml (s:ByteArray) (p:UInt8->Bool):(s.data.toList.take s.size).all p=s.data.toList.all p:=by
 rw [vav (by rw [zat];exact vaa _)]
theorem zun (s:ByteArray) (k:Nat) (h:k<s.size) (p:UInt8->Bool) (hp:p s[k]=false):s.data.toList.all p=false:=by
 have hx:s.data.toList[k]'(by rw [zat];exact h)=s[k]:=rfl;rw [vdo];refine ⟨s[k],?_,by simp [hp]⟩
 rw [← hx];exact vap _
theorem zmm (s:ByteArray) (h:s.size=0):zbx s.data.toList=false:=by
 have:s.data.toList=[]:=vao (by rw [zat];exact h)
 rw [this];rfl
theorem zo0 (s:ByteArray) (h:8<s.size):zbx s.data.toList=false:=by
 unfold zbx;rw [zat,show decide (s.size<=8)=false from by simp;omega];simp
theorem zo1 (s:ByteArray) (h:0<s.size) (hl:zj9 s[0]=false):zbx s.data.toList=false:=by
 unfold zbx;rw [z0r s h,hl];simp
theorem zo2 (s:ByteArray) (h:0<s.size) (h8:s.size<=8) (hl:zj9 s[0]=true):zbx s.data.toList=s.data.toList.all zev:=by
 unfold zbx;rw [z0r s h,hl,zat,show decide (s.size<=8)=true from by simp;omega];simp
def z7t (l:L8):Nat:=(l.takeWhile zev).length
def z7u (s:ByteArray) (a:Nat):Nat:=z7t (s.data.toList.drop a)
theorem zuo:∀ (l:L8) (k:Nat),(l.take k).all zev=true->k<=l.length->(∀ h:k<l.length,zev l[k]=false)->z7t l=k
 | [],k,_,hk,_=>by simp at hk;subst hk;rfl
 | c :: l,0,_,_,hs=>by have:=hs (by simp);simp at this;simp [z7t,this]
 | c :: l,k+1,ha,hk,hs=>by
   simp only [List.take_succ_cons,vda,vad] at ha;have ih:=zuo l k ha.2 (by simp at hk;omega) (fun h=>by have:=hs (by simp;omega);simpa using this);simp only [z7t] at ih ⊢;rw [List.takeWhile_cons,if_pos ha.1,vas,ih]
theorem zhj (s:ByteArray) (a:Nat):(s.data.toList.drop a).length=s.size - a:=by rw [vcc,zat]
theorem zwc (s:ByteArray) (a k:Nat) (h:a+k<s.size):(s.data.toList.drop a)[k]'(by rw [zhj];omega)=s[a+k]:=by
 rw [vec];rfl
theorem zwd (s:ByteArray) (a k:Nat) (h:a+k<s.size):((s.data.toList.drop a).take (k+1)).all zev=(((s.data.toList.drop a).take k).all zev&&zev s[a+k]):=by
 rw [vag (by rw [zhj];omega),zwc s a k h];simp
theorem z3s (s:ByteArray) (a k:Nat) (ha:((s.data.toList.drop a).take k).all zev=true) (h:a+k=s.size):z7u s a=k:=
 zuo _ k ha (by rw [zhj];omega) (fun hk=>by rw [zhj] at hk;omega)
theorem zso (s:ByteArray) (a k:Nat) (ha:((s.data.toList.drop a).take k).all zev=true) (h:a+k<s.size) (hc:zev s[a+k]=false):z7u s a=k:=
 zuo _ k ha (by rw [zhj];omega) (fun _=>by rw [zwc s a k h];exact hc)
def pieceN (s:ByteArray) (a:Nat):Nat:=if z7u s a=0 then 1 else z7u s a
theorem z6t (s:ByteArray) (a:Nat) (h:a<s.size):((s.data.toList.drop a).take 1).all zev=zev s[a]:=by
 have:=zwd s a 0 (by omega);simpa using this
theorem zsp (s:ByteArray) (a:Nat) (h:a<s.size) (hc:zev s[a]=false):pieceN s a=1:=by
 have:=zso s a 0 (by simp) (by omega) (by simpa using hc);simp [pieceN,this]
theorem zsq (s:ByteArray) (a k:Nat) (hk:0<k) (h:z7u s a=k):pieceN s a=k:=by
 unfold pieceN;rw [h,if_neg (by omega)]
theorem z6u (s:ByteArray) (a:Nat):z7u s a<=s.size - a:=by
 have:=(List.takeWhile_prefix zev (l:=s.data.toList.drop a)).length_le
 rw [zhj] at this;exact this
theorem zhk (s:ByteArray) (a:Nat):0<pieceN s a:=by unfold pieceN;split<;>omega
theorem z0s (s:ByteArray) (a:Nat) (h:a<s.size):a+pieceN s a<=s.size:=by
 have:=z6u s a;unfold pieceN;split<;>omega
end Lx
namespace Fx
structure It where
 kind:Int
 n:Int
 at_:Int
 name:ByteArray
structure Fc where
 name:ByteArray
 items:List It
def nameOk (s:ByteArray):Bool:=Lx.zbx s.data.toList
def numOkB (i:It):Bool:=
 if i.kind=1 then decide (0<=i.n)&&decide (i.n<=1099511627775)&&decide (i.at_=0)
 else if i.kind=2 then decide (i.n=0)&&decide (0<=i.at_)&&decide (i.at_<=320)
 else if i.kind=3 then decide (1<=i.n)&&decide (i.n<=32)&&decide (0<=i.at_)&&decide (i.at_<=320)
 else if i.kind=4 then decide (0<=i.n)&&decide (i.n<=3)&&decide (0<=i.at_)&&decide (i.at_<=320)
 else false
def zgt (i:It):Bool:=nameOk i.name&&numOkB i
def zja:List (L8)->List (L8):=List.foldl (fun acc s=>if s ∈ acc then acc else acc++[s]) []
def zgu (l:List (L8)):Bool:=decide ((zja l).length<l.length)
theorem zhl (l:List (L8)) (s:L8):zja (l++[s])=if s ∈ zja l then zja l else zja l++[s]:=by
 unfold zja;rw [vbn];rfl
theorem zgn {α:Type} {p:List α->Prop} (h0:p []) (h1:∀ l a,p l->p (l++[a])):∀ l,p l:=by
 intro l
 have:∀ n (l:List α),l.length=n->p l:=by
  intro n
  induction n with
  | zero=>intro l hl;rw [vao hl];exact h0
  | succ n ih=>
    intro l hl
    have hne:l≠[]:=fun e=>by rw [e] at hl;simp at hl
    rw [← List.dropLast_concat_getLast hne];exact h1 _ _ (ih _ (by rw [List.length_dropLast];omega))
 exact this _ l rfl
theorem zjb (x:L8):∀ l:List (L8),x ∈ zja l↔x ∈ l:=by
 apply zgn
 . exact Iff.rfl
 . intro l a ih
   rw [zhl]
   by_cases h:a ∈ zja l
   . rw [if_pos h]
     simp only [vcf,vcd]
     constructor
     . intro hx;exact Or.inl (ih.1 hx)
     . rintro (hx | rfl)
       . exact ih.2 hx
       . exact h
   . rw [if_neg h]
     simp only [vcf,vcd,ih]
theorem z0t:∀ l:List (L8),(zja l).length<=l.length:=by
 apply zgn
 . exact vaa _
 . intro l a ih
   rw [zhl];split
   . rw [vab];simp;omega
   . rw [vab,vab];simp;omega
theorem zld (l:List (L8)) (s:L8):zgu (l++[s])=(zgu l||decide (s ∈ l)):=by
 have h1:=z0t l
 have h2:(l++[s]).length=l.length+1:=by simp
 unfold zgu;rw [zhl,h2]
 by_cases h:s ∈ zja l
 . rw [if_pos h,decide_eq_true ((zjb s l).1 h),Bool.or_true]
   exact decide_eq_true (by omega)
 . rw [if_neg h,decide_eq_false (fun e=>h ((zjb s l).2 e)),Bool.or_false,show (zja l++[s]).length=(zja l).length+1 from by simp]
   exact decide_eq_decide.2 (by omega)
def zfj (l:List It):List (L8):=l.map (·.name.data.toList)
def zng (f:Fc):Int:=
 if 16<f.items.length then 2 else if nameOk f.name && !zgu (zfj f.items)&&f.items.all zgt then 0 else 1
theorem z3t {f:Fc} (h:16<f.items.length):zng f=2:=if_pos h
theorem z3u {f:Fc} (h:¬ 16<f.items.length) (h1:nameOk f.name=false):zng f=1:=by unfold zng;rw [if_neg h,h1];rfl
theorem z6v {f:Fc} (h:¬ 16<f.items.length) (h1:zgu (zfj f.items)=true):zng f=1:=by unfold zng;rw [if_neg h,h1];simp
theorem z3v {f:Fc} (h:¬ 16<f.items.length) (h1:f.items.all zgt=false):zng f=1:=by unfold zng;rw [if_neg h,h1];simp
theorem z8r {f:Fc} (h:¬ 16<f.items.length) (h0:nameOk f.name=true) (h1:zgu (zfj f.items)=false) (h2:f.items.all zgt=true):zng f=0:=by unfold zng;rw [if_neg h,h0,h1,h2];rfl
end Fx
end Go.Proofs.YtndkhgakfodldaaGreatDoor
