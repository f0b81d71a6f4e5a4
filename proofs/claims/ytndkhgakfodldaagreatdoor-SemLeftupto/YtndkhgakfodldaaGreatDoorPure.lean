import Derived.RowKit
import Derived.Lib.Strings
namespace Go.Proofs.YtndkhgakfodldaaGreatDoor
abbrev vaa:=@Nat.le_refl
abbrev vab:=@Option.some.inj
abbrev vac:=@Nat.lt_of_lt_of_le
abbrev vad:=@Nat.zero_le
abbrev vae:=@Bool.and_eq_true
abbrev vaf:=@List.take_succ_eq_append_getElem
abbrev vag:=@List.length_append
abbrev vah:=@List.getElem_mem
abbrev vai:=@List.setIfInBounds_toArray
abbrev vaj:=@List.getElem?_eq_getElem
abbrev vak:=@Prod.mk.inj
abbrev vam:=@List.eq_nil_of_length_eq_zero
abbrev van:=@Go.World.size_setCell
abbrev vao:=@List.take_of_length_le
abbrev vap:=@List.set_cons_zero
abbrev vaq:=@List.set_cons_succ
abbrev var:=@List.getD_eq_getElem?_getD
abbrev vas:=@List.all_eq_true
abbrev vat:=@List.length_cons
abbrev vau:=@List.getElem_append_left
abbrev vav:=@Nat.le_trans
abbrev vaw:=@List.getElem?_append_left
abbrev vax:=@Go.Lib.toList_data
abbrev vay:=@Bool.or_eq_false_iff
abbrev vaz:=@List.take_length
abbrev vba:=@Option.getD_some
abbrev vbb:=@List.getElem?_append_right
abbrev vbc:=@Nat.zero_add
abbrev vbd:=@List.length_map
abbrev vbe:=@Nat.lt_or_ge
abbrev vbf:=@Int.toNat_natCast
abbrev vbg:=@List.length_singleton
abbrev vbh:=@Nat.zero_mul
abbrev vbi:=@List.getElem?_eq_none
abbrev vbj:=@List.all_append
abbrev vbk:=@List.findIdx?_eq_some_iff_getElem
abbrev vbl:=@Nat.add_zero
abbrev vbm:=@List.length_take
abbrev vbn:=@List.getElem_cons_zero
abbrev vbo:=@List.getElem_cons_succ
abbrev vbp:=@List.mem_append
abbrev vbq:=@Go.World.cell?_setCell_other
abbrev vbr:=@Go.DataW.trod_int
abbrev vbs:=@Nat.add_assoc
abbrev vbt:=@List.length_drop
abbrev vbu:=@List.getElem_of_mem
abbrev vbv:=@List.any_eq_false
abbrev vbw:=@List.flatMap_cons
abbrev vbx:=@Go.World.cell?_setCell_same
abbrev vby:=@List.mem_singleton
abbrev vbz:=@Int.ediv_ediv_of_nonneg
abbrev vca:=@List.drop_eq_getElem_cons
abbrev vcb:=@List.mem_map
abbrev vcc:=@List.mem_cons_of_mem
abbrev vcd:=@List.foldl_append
abbrev vce:=@List.map_append
abbrev vcf:=@List.append_nil
abbrev vcg:=@List.drop_eq_nil_of_le
abbrev vch:=@Array.getElem?_eq_none
abbrev vci:=@List.mem_cons
abbrev vcj:=@List.contains_iff_mem
abbrev vck:=@List.find?_cons
abbrev vcl:=@List.map_cons
abbrev vcm:=@List.all_cons
abbrev vcn:=@Nat.eq_zero_or_pos
abbrev vco:=@Bool.false_eq_true
abbrev vcp:=@List.getElem?_toArray
abbrev vcq:=@List.length_set
abbrev vcr:=@Bool.eq_iff_iff
abbrev vcs:=@List.getElem_concat_length
abbrev vct:=@List.findIdx?_eq_none_iff
abbrev vcu:=@List.getElem_map
abbrev vcv:=@Int.le_refl
abbrev vcw:=@List.mem_cons_self
abbrev vcx:=@Except.ok.inj
abbrev vcy:=@Option.some.injEq
abbrev vcz:=@List.append_assoc
abbrev vda:=@Nat.le_succ
abbrev vdb:=@List.all_eq_false
abbrev vdc:=@Go.DataW.trod_struct
abbrev vdd:=@Bool.and_eq_false_iff
abbrev vde:=@List.take_append_drop
abbrev vdf:=@Bool.not_eq_true
abbrev vdg:=@List.prefix_refl
abbrev vdh:=@List.flatMap_append
abbrev vdi:=@Go.Oper.upon_enter
abbrev vdj:=@List.length_zip
abbrev vdk:=@List.all_nil
abbrev vdl:=@Nat.mul_le_mul
abbrev vdm:=@List.getElem_drop
abbrev vdn:=@Prod.mk.injEq
abbrev vdo:=@Nat.one_mul
abbrev vdp:=@Go.DataW.held.injEq
abbrev vdq:=@Go.World.size_alloc
abbrev vdr:=@List.any_eq_true
abbrev vds:=@Go.DataW.trod_slice
abbrev vdt:=@List.getElem_zip
abbrev vdu:=@List.length_nil
abbrev vdv:=@UInt8.toNat_inj
abbrev vdw:=@Nat.min_eq_left
abbrev vdx:=@List.map_nil
abbrev vdy:=@Bool.false_and
abbrev vdz:=@List.take_zero
abbrev vea:=@Nat.mul_one
abbrev veb:=@Bool.true_and
abbrev vec:=@List.map_set
abbrev ved:=@Nat.succ_mul
abbrev OA:=Option Addr
abbrev L8:=List UInt8
namespace Lx
def zhj (c:UInt8):Bool:=decide (97<=(c.toNat:Int))&&decide ((c.toNat:Int)<=122)
def zhd (c:UInt8):Bool:=decide (48<=(c.toNat:Int))&&decide ((c.toNat:Int)<=57)
def zc9 (c:UInt8):Bool:=zhj c||zhd c
def zl3:L8->Bool
 | []=>false
 | c :: _=>zhj c
def zcc (l:L8):Bool:=zl3 l&&decide (l.length<=8)&&l.all zc9
def signs:L8:=[123,125,40,41,91,93,44,59,61,46,43,45,42,47,37,60,33,38,124]
def zsj (c:UInt8):Bool:=signs.contains c
theorem zgz (s:ByteArray) (k:Nat) (h:k<s.size):s.data.toList.take (k+1)=s.data.toList.take k++[s[k]]:=by
 rw [vaf (by simpa using h)];rfl
theorem zau (s:ByteArray):s.data.toList.length=s.size:=Array.length_toList
theorem zxu (s:ByteArray) (h:0<s.size):s.toList.isEmpty=false:=by
 rw [vax]
 cases hl:s.data.toList with
 | nil=>have:=zau s;rw [hl] at this;simp at this;omega
 | cons=>rfl
theorem zva (s:ByteArray) (h:0<s.size):zl3 s.data.toList=zhj s[0]:=by
 have:=zgz s 0 h
 cases hl:s.data.toList with
 | nil=>rw [hl] at this;simp at this
 | cons c r=>rw [hl] at this;simp at this;simp [zl3,this]
theorem zer (s:ByteArray) (k:Nat) (h:k<s.size) (p:UInt8->Bool):(s.data.toList.take (k+1)).all p=((s.data.toList.take k).all p&&p s[k]):=by
 rw [zgz s k h];simp
theorem zi5 (s:ByteArray) (p:UInt8->Bool):(s.data.toList.take s.size).all p=s.data.toList.all p:=by
 rw [vao (by rw [zau];exact vaa _)]
theorem zpq (s:ByteArray) (k:Nat) (h:k<s.size) (p:UInt8->Bool) (hp:p s[k]=false):s.data.toList.all p=false:=by
 have hx:s.data.toList[k]'(by rw [zau];exact h)=s[k]:=rfl;rw [vdb];refine ⟨s[k],?_,by simp [hp]⟩
 rw [← hx];exact vah _
theorem zi6 (s:ByteArray) (h:s.size=0):zcc s.data.toList=false:=by
 have:s.data.toList=[]:=vam (by rw [zau];exact h)
 rw [this];rfl
theorem zkz (s:ByteArray) (h:8<s.size):zcc s.data.toList=false:=by
 unfold zcc;rw [zau,show decide (s.size<=8)=false from by simp;omega];simp
theorem zk0 (s:ByteArray) (h:0<s.size) (hl:zhj s[0]=false):zcc s.data.toList=false:=by
 unfold zcc;rw [zva s h,hl];simp
theorem zk1 (s:ByteArray) (h:0<s.size) (h8:s.size<=8) (hl:zhj s[0]=true):zcc s.data.toList=s.data.toList.all zc9:=by
 unfold zcc;rw [zva s h,hl,zau,show decide (s.size<=8)=true from by simp;omega];simp
def z09 (l:L8):Nat:=(l.takeWhile zc9).length
def z1a (s:ByteArray) (a:Nat):Nat:=z09 (s.data.toList.drop a)
theorem zpr:∀ (l:L8) (k:Nat),(l.take k).all zc9=true->k<=l.length->(∀ h:k<l.length,zc9 l[k]=false)->z09 l=k
 | [],k,_,hk,_=>by simp at hk;subst hk;rfl
 | c :: l,0,_,_,hs=>by have:=hs (by simp);simp at this;simp [z09,this]
 | c :: l,k+1,ha,hk,hs=>by
   simp only [List.take_succ_cons,vcm,vae] at ha;have ih:=zpr l k ha.2 (by simp at hk;omega) (fun h=>by have:=hs (by simp;omega);simpa using this);simp only [z09] at ih ⊢;rw [List.takeWhile_cons,if_pos ha.1,vat,ih]
theorem zfj (s:ByteArray) (a:Nat):(s.data.toList.drop a).length=s.size - a:=by rw [vbt,zau]
theorem zq1 (s:ByteArray) (a k:Nat) (h:a+k<s.size):(s.data.toList.drop a)[k]'(by rw [zfj];omega)=s[a+k]:=by
 rw [vdm];rfl
theorem zq2 (s:ByteArray) (a k:Nat) (h:a+k<s.size):((s.data.toList.drop a).take (k+1)).all zc9=(((s.data.toList.drop a).take k).all zc9&&zc9 s[a+k]):=by
 rw [vaf (by rw [zfj];omega),zq1 s a k h];simp
theorem zxv (s:ByteArray) (a k:Nat) (ha:((s.data.toList.drop a).take k).all zc9=true) (h:a+k=s.size):z1a s a=k:=
 zpr _ k ha (by rw [zfj];omega) (fun hk=>by rw [zfj] at hk;omega)
theorem zno (s:ByteArray) (a k:Nat) (ha:((s.data.toList.drop a).take k).all zc9=true) (h:a+k<s.size) (hc:zc9 s[a+k]=false):z1a s a=k:=
 zpr _ k ha (by rw [zfj];omega) (fun _=>by rw [zq1 s a k h];exact hc)
def pieceN (s:ByteArray) (a:Nat):Nat:=if z1a s a=0 then 1 else z1a s a
theorem zz9 (s:ByteArray) (a:Nat) (h:a<s.size):((s.data.toList.drop a).take 1).all zc9=zc9 s[a]:=by
 have:=zq2 s a 0 (by omega);simpa using this
theorem znp (s:ByteArray) (a:Nat) (h:a<s.size) (hc:zc9 s[a]=false):pieceN s a=1:=by
 have:=zno s a 0 (by simp) (by omega) (by simpa using hc);simp [pieceN,this]
theorem znq (s:ByteArray) (a k:Nat) (hk:0<k) (h:z1a s a=k):pieceN s a=k:=by
 unfold pieceN;rw [h,if_neg (by omega)]
theorem z0a (s:ByteArray) (a:Nat):z1a s a<=s.size - a:=by
 have:=(List.takeWhile_prefix zc9 (l:=s.data.toList.drop a)).length_le
 rw [zfj] at this;exact this
theorem zfk (s:ByteArray) (a:Nat):0<pieceN s a:=by unfold pieceN;split<;>omega
theorem zvb (s:ByteArray) (a:Nat) (h:a<s.size):a+pieceN s a<=s.size:=by
 have:=z0a s a;unfold pieceN;split<;>omega
end Lx
namespace Fx
structure It where
 kind:Int
 n:Int
 at_:Int
 name:ByteArray
structure Fc where
 name:ByteArray
 items:List It
def nameOk (s:ByteArray):Bool:=Lx.zcc s.data.toList
def numOkB (i:It):Bool:=
 if i.kind=1 then decide (0<=i.n)&&decide (i.n<=1099511627775)&&decide (i.at_=0)
 else if i.kind=2 then decide (i.n=0)&&decide (0<=i.at_)&&decide (i.at_<=320)
 else if i.kind=3 then decide (1<=i.n)&&decide (i.n<=32)&&decide (0<=i.at_)&&decide (i.at_<=320)
 else if i.kind=4 then decide (0<=i.n)&&decide (i.n<=3)&&decide (0<=i.at_)&&decide (i.at_<=320)
 else false
def zey (i:It):Bool:=nameOk i.name&&numOkB i
def zgc:List (L8)->List (L8):=List.foldl (fun acc s=>if s ∈ acc then acc else acc++[s]) []
def zgj (l:List (L8)):Bool:=decide ((zgc l).length<l.length)
theorem zfl (l:List (L8)) (s:L8):zgc (l++[s])=if s ∈ zgc l then zgc l else zgc l++[s]:=by
 unfold zgc;rw [vcd];rfl
theorem zbw {α:Type} {p:List α->Prop} (h0:p []) (h1:∀ l a,p l->p (l++[a])):∀ l,p l:=by
 intro l
 have:∀ n (l:List α),l.length=n->p l:=by
  intro n
  induction n with
  | zero=>intro l hl;rw [vam hl];exact h0
  | succ n ih=>
    intro l hl
    have hne:l≠[]:=fun e=>by rw [e] at hl;simp at hl
    rw [← List.dropLast_concat_getLast hne];exact h1 _ _ (ih _ (by rw [List.length_dropLast];omega))
 exact this _ l rfl
theorem zg0 (x:L8):∀ l:List (L8),x ∈ zgc l↔x ∈ l:=by
 apply zbw
 . exact Iff.rfl
 . intro l a ih
   rw [zfl]
   by_cases h:a ∈ zgc l
   . rw [if_pos h]
     simp only [vbp,vby]
     constructor
     . intro hx;exact Or.inl (ih.1 hx)
     . rintro (hx | rfl)
       . exact ih.2 hx
       . exact h
   . rw [if_neg h]
     simp only [vbp,vby,ih]
theorem zvc:∀ l:List (L8),(zgc l).length<=l.length:=by
 apply zbw
 . exact vaa _
 . intro l a ih
   rw [zfl];split
   . rw [vag];simp;omega
   . rw [vag,vag];simp;omega
theorem zxw (l:List (L8)) (s:L8):zgj (l++[s])=(zgj l||decide (s ∈ l)):=by
 have h1:=zvc l
 have h2:(l++[s]).length=l.length+1:=by simp
 unfold zgj;rw [zfl,h2]
 by_cases h:s ∈ zgc l
 . rw [if_pos h,decide_eq_true ((zg0 s l).1 h),Bool.or_true]
   exact decide_eq_true (by omega)
 . rw [if_neg h,decide_eq_false (fun e=>h ((zg0 s l).2 e)),Bool.or_false,show (zgc l++[s]).length=(zgc l).length+1 from by simp]
   exact decide_eq_decide.2 (by omega)
def zdt (l:List It):List (L8):=l.map (·.name.data.toList)
def zjs (f:Fc):Int:=
 if 16<f.items.length then 2 else if nameOk f.name && !zgj (zdt f.items)&&f.items.all zey then 0 else 1
theorem zxx {f:Fc} (h:16<f.items.length):zjs f=2:=if_pos h
theorem zxy {f:Fc} (h:¬ 16<f.items.length) (h1:nameOk f.name=false):zjs f=1:=by unfold zjs;rw [if_neg h,h1];rfl
theorem z0b {f:Fc} (h:¬ 16<f.items.length) (h1:zgj (zdt f.items)=true):zjs f=1:=by unfold zjs;rw [if_neg h,h1];simp
theorem zxz {f:Fc} (h:¬ 16<f.items.length) (h1:f.items.all zey=false):zjs f=1:=by unfold zjs;rw [if_neg h,h1];simp
theorem z17 {f:Fc} (h:¬ 16<f.items.length) (h0:nameOk f.name=true) (h1:zgj (zdt f.items)=false) (h2:f.items.all zey=true):zjs f=0:=by unfold zjs;rw [if_neg h,h0,h1,h2];rfl
end Fx
end Go.Proofs.YtndkhgakfodldaaGreatDoor
