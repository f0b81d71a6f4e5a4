/-
  The plain mathematics of tokens: what a name, a sign, a number, a token, a list of tokens and a text of tokens are, said of lists of bytes, without the program.
-/
import Derived.RowKit
import Derived.Lib.Strings
namespace Go.Proofs.YtndkhgakfodldaaGreatDoor
def vaa:=@Nat.le_refl
def vab:=@List.length_append
def vac:=@Option.some.inj
def vad:=@Bool.and_eq_true
def vae:=@Nat.zero_le
def vaf:=@List.mem_cons_of_mem
def vag:=@List.take_succ_eq_append_getElem
def vah:=@Nat.lt_of_lt_of_le
def vai:=@Nat.le_trans
def vaj:=@List.getElem?_eq_getElem
def vak:=@Prod.mk.inj
def vam:=@List.mem_cons_self
def van:=@List.setIfInBounds_toArray
def vao:=@List.eq_nil_of_length_eq_zero
def vap:=@List.getElem_mem
def vaq:=@List.append_assoc
def var:=@Go.World.size_setCell
def vas:=@List.length_cons
def vat:=@List.set_cons_zero
def vau:=@List.set_cons_succ
def vav:=@List.take_of_length_le
def vaw:=@Option.bind_some
def vax:=@List.all_eq_true
def vay:=@Bool.or_eq_false_iff
def vaz:=@List.take_length
def vba:=@Go.Lib.toList_data
def vbb:=@List.length_take
def vbc:=@List.length_singleton
def vbd:=@List.getElem_of_mem
def vbe:=@List.append_nil
def vbf:=@Array.getElem?_eq_none
def vbg:=@List.flatMap_cons
def vbh:=@Option.some.injEq
def vbi:=@List.getElem?_append_left
def vbj:=@Nat.lt_or_ge
def vbk:=@List.getElem?_append_right
def vbl:=@List.getD_eq_getElem?_getD
def vbm:=@Int.toNat_natCast
def vbn:=@List.foldl_append
def vbo:=@Nat.zero_mul
def vbp:=@Go.World.cell?_setCell_other
def vbq:=@Nat.zero_add
def vbr:=@Go.World.cell?_setCell_same
def vbs:=@List.getElem?_eq_none
def vbt:=@Nat.add_assoc
def vbu:=@List.length_nil
def vbv:=@Bool.eq_false_iff
def vbw:=@Nat.add_zero
def vbx:=@List.getElem_cons_zero
def vby:=@List.getElem_cons_succ
def vbz:=@List.findIdx?_eq_some_iff_getElem
def vca:=@List.take_append_drop
def vcb:=@Nat.mul_le_mul_left
def vcc:=@List.length_drop
def vcd:=@List.mem_singleton
def vce:=@Nat.eq_zero_or_pos
def vcf:=@List.mem_append
def vcg:=@List.take_zero
def vch:=@List.all_append
def vci:=@Array.getElem?_eq_getElem
def vcj:=@List.any_eq_false
def vck:=@List.mem_append_right
def vcl:=@Int.ediv_ediv_of_nonneg
def vcm:=@List.mem_cons
def vcn:=@List.cons_append
def vco:=@List.flatMap_nil
def vcp:=@Bool.and_eq_false_iff
def vcq:=@Bool.eq_iff_iff
def vcr:=@Go.DataW.trod_int
def vcs:=@Bool.false_eq_true
def vct:=@List.contains_iff_mem
def vcu:=@List.getElem_append_left
def vcv:=@Nat.not_lt_zero
def vcw:=@List.nil_append
def vcx:=@List.find?_cons
def vcy:=@Nat.le_of_eq
def vcz:=@List.map_cons
def vda:=@List.all_cons
def vdb:=@Bool.true_and
def vdc:=@Bool.not_eq_true
def vdd:=@Go.World.size_alloc
def vde:=@List.drop_eq_nil_of_le
def vdf:=@List.map_append
def vdg:=@List.length_map
def vdh:=@List.nodup_iff_pairwise_ne
def vdi:=@List.findIdx?_eq_none_iff
def vdj:=@Nat.mul_le_mul
def vdk:=@Int.toNat_of_nonneg
def vdl:=@Except.ok.inj
def vdm:=@Bool.not_eq_true'
def vdn:=@Nat.one_mul
def vdo:=@List.all_eq_false
def vdp:=@List.mem_map
def vdq:=@List.mem_of_mem_take
def vdr:=@Nat.mul_le_mul_right
def vds:=@List.mem_of_getElem?
def vdt:=@List.mem_append_left
def vdu:=@UInt8.toNat_inj
def vdv:=@Nat.le_succ
def vdw:=@Nat.min_eq_left
def vdx:=@List.flatMap_append
def vdy:=@Go.Oper.upon_enter
def vdz:=@List.length_zip
def vea:=@List.getElem?_take
def veb:=@Array.size_append
def vec:=@List.getElem_drop
def ved:=@Go.DataW.trod_struct
def vee:=@Prod.mk.injEq
def vef:=@Nat.le_add_right
def veg:=@Go.DataW.held.injEq
def veh:=@List.getElem_zip
def vei:=@Bool.or_eq_true
def vej:=@List.map_nil
def vek:=@List.all_nil
def vel:=@Nat.sub_self
def vem:=@Bool.false_and
def ven:=@ByteArray.ext
def veo:=@Bool.false_or
abbrev OA:=Option Addr
abbrev L8:=List UInt8
namespace Lx
def letB (c:UInt8):Bool:=decide (97<=(c.toNat:Int))&&decide ((c.toNat:Int)<=122)
def digB (c:UInt8):Bool:=decide (48<=(c.toNat:Int))&&decide ((c.toNat:Int)<=57)
def alnB (c:UInt8):Bool:=letB c||digB c
def headLet:L8->Bool
 | []=>false
 | c :: _=>letB c
def nameB (l:L8):Bool:=headLet l&&decide (l.length<=8)&&l.all alnB
def signs:L8:=[123,125,40,41,91,93,44,59,61,46,43,45,42,47,37,60,33,38,124]
def zvn (c:UInt8):Bool:=signs.contains c
theorem zh9 (s:ByteArray) (k:Nat) (h:k<s.size):s.data.toList.take (k+1)=s.data.toList.take k++[s[k]]:=by
 rw [vag (by simpa using h)];rfl
theorem len_toList (s:ByteArray):s.data.toList.length=s.size:=Array.length_toList
theorem ne_empty (s:ByteArray) (h:0<s.size):s.toList.isEmpty=false:=by
 rw [vba]
 cases hl:s.data.toList with
 | nil=>have:=len_toList s;rw [hl] at this;simp at this;omega
 | cons=>rfl
theorem zyd (s:ByteArray) (h:0<s.size):headLet s.data.toList=letB s[0]:=by
 have:=zh9 s 0 h
 cases hl:s.data.toList with
 | nil=>rw [hl] at this;simp at this
 | cons c r=>rw [hl] at this;simp at this;simp [headLet,this]
theorem all_take_snoc (s:ByteArray) (k:Nat) (h:k<s.size) (p:UInt8->Bool):(s.data.toList.take (k+1)).all p=((s.data.toList.take k).all p&&p s[k]):=by
 rw [zh9 s k h];simp
theorem all_of_take (s:ByteArray) (p:UInt8->Bool):(s.data.toList.take s.size).all p=s.data.toList.all p:=by
 rw [vav (by rw [len_toList];exact vaa _)]
theorem not_all (s:ByteArray) (k:Nat) (h:k<s.size) (p:UInt8->Bool) (hp:p s[k]=false):s.data.toList.all p=false:=by
 have hx:s.data.toList[k]'(by rw [len_toList];exact h)=s[k]:=rfl;rw [vdo];refine ⟨s[k],?_,by simp [hp]⟩
 rw [← hx];exact vap _
theorem nameB_empty (s:ByteArray) (h:s.size=0):nameB s.data.toList=false:=by
 have:s.data.toList=[]:=vao (by rw [len_toList];exact h)
 rw [this];rfl
theorem nameB_long (s:ByteArray) (h:8<s.size):nameB s.data.toList=false:=by
 unfold nameB;rw [len_toList,show decide (s.size<=8)=false from by simp;omega];simp
theorem nameB_head (s:ByteArray) (h:0<s.size) (hl:letB s[0]=false):nameB s.data.toList=false:=by
 unfold nameB;rw [zyd s h,hl];simp
theorem nameB_rest (s:ByteArray) (h:0<s.size) (h8:s.size<=8) (hl:letB s[0]=true):nameB s.data.toList=s.data.toList.all alnB:=by
 unfold nameB;rw [zyd s h,hl,len_toList,show decide (s.size<=8)=true from by simp;omega];simp
def runL (l:L8):Nat:=(l.takeWhile alnB).length
def z41 (s:ByteArray) (a:Nat):Nat:=runL (s.data.toList.drop a)
theorem zsm:∀ (l:L8) (k:Nat),(l.take k).all alnB=true->k<=l.length->(∀ h:k<l.length,alnB l[k]=false)->runL l=k
 | [],k,_,hk,_=>by simp at hk;subst hk;rfl
 | c :: l,0,_,_,hs=>by have:=hs (by simp);simp at this;simp [runL,this]
 | c :: l,k+1,ha,hk,hs=>by
   simp only [List.take_succ_cons,vda,vad] at ha;have ih:=zsm l k ha.2 (by simp at hk;omega) (fun h=>by have:=hs (by simp;omega);simpa using this);simp only [runL] at ih ⊢;rw [List.takeWhile_cons,if_pos ha.1,vas,ih]
theorem zgm (s:ByteArray) (a:Nat):(s.data.toList.drop a).length=s.size - a:=by rw [vcc,len_toList]
theorem zua (s:ByteArray) (a k:Nat) (h:a+k<s.size):(s.data.toList.drop a)[k]'(by rw [zgm];omega)=s[a+k]:=by
 rw [vec];rfl
theorem seg_snoc (s:ByteArray) (a k:Nat) (h:a+k<s.size):((s.data.toList.drop a).take (k+1)).all alnB=(((s.data.toList.drop a).take k).all alnB&&alnB s[a+k]):=by
 rw [vag (by rw [zgm];omega),zua s a k h];simp
theorem runN_end (s:ByteArray) (a k:Nat) (ha:((s.data.toList.drop a).take k).all alnB=true) (h:a+k=s.size):z41 s a=k:=
 zsm _ k ha (by rw [zgm];omega) (fun hk=>by rw [zgm] at hk;omega)
theorem runN_stop (s:ByteArray) (a k:Nat) (ha:((s.data.toList.drop a).take k).all alnB=true) (h:a+k<s.size) (hc:alnB s[a+k]=false):z41 s a=k:=
 zsm _ k ha (by rw [zgm];omega) (fun _=>by rw [zua s a k h];exact hc)
def pieceN (s:ByteArray) (a:Nat):Nat:=if z41 s a=0 then 1 else z41 s a
theorem seg_one (s:ByteArray) (a:Nat) (h:a<s.size):((s.data.toList.drop a).take 1).all alnB=alnB s[a]:=by
 have:=seg_snoc s a 0 (by omega);simpa using this
theorem pieceN_other (s:ByteArray) (a:Nat) (h:a<s.size) (hc:alnB s[a]=false):pieceN s a=1:=by
 have:=runN_stop s a 0 (by simp) (by omega) (by simpa using hc);simp [pieceN,this]
theorem pieceN_of (s:ByteArray) (a k:Nat) (hk:0<k) (h:z41 s a=k):pieceN s a=k:=by
 unfold pieceN;rw [h,if_neg (by omega)]
theorem z30 (s:ByteArray) (a:Nat):z41 s a<=s.size - a:=by
 have:=(List.takeWhile_prefix alnB (l:=s.data.toList.drop a)).length_le
 rw [zgm] at this;exact this
theorem pieceN_pos (s:ByteArray) (a:Nat):0<pieceN s a:=by unfold pieceN;split<;>omega
theorem pieceN_le (s:ByteArray) (a:Nat) (h:a<s.size):a+pieceN s a<=s.size:=by
 have:=z30 s a;unfold pieceN;split<;>omega
end Lx
namespace Fx
structure It where
 kind:Int
 n:Int
 at_:Int
 name:ByteArray
structure Fc where
 name:ByteArray
 items:List It
def nameOk (s:ByteArray):Bool:=Lx.nameB s.data.toList
def numOkB (i:It):Bool:=
 if i.kind=1 then decide (0<=i.n)&&decide (i.n<=1099511627775)&&decide (i.at_=0)
 else if i.kind=2 then decide (i.n=0)&&decide (0<=i.at_)&&decide (i.at_<=320)
 else if i.kind=3 then decide (1<=i.n)&&decide (i.n<=32)&&decide (0<=i.at_)&&decide (i.at_<=320)
 else if i.kind=4 then decide (0<=i.n)&&decide (i.n<=3)&&decide (0<=i.at_)&&decide (i.at_<=320)
 else false
def zfz (i:It):Bool:=nameOk i.name&&numOkB i
def zia:List (L8)->List (L8):=List.foldl (fun acc s=>if s ∈ acc then acc else acc++[s]) []
def dupB (l:List (L8)):Bool:=decide ((zia l).length<l.length)
theorem zgn (l:List (L8)) (s:L8):zia (l++[s])=if s ∈ zia l then zia l else zia l++[s]:=by
 unfold zia;rw [vbn];rfl
theorem list_snoc_ind {α:Type} {p:List α->Prop} (h0:p []) (h1:∀ l a,p l->p (l++[a])):∀ l,p l:=by
 intro l
 have:∀ n (l:List α),l.length=n->p l:=by
  intro n
  induction n with
  | zero=>intro l hl;rw [vao hl];exact h0
  | succ n ih=>
    intro l hl
    have hne:l≠[]:=fun e=>by rw [e] at hl;simp at hl
    rw [← List.dropLast_concat_getLast hne];exact h1 _ _ (ih _ (by rw [List.length_dropLast];omega))
 exact this _ l rfl
theorem zib (x:L8):∀ l:List (L8),x ∈ zia l↔x ∈ l:=by
 apply list_snoc_ind
 . exact Iff.rfl
 . intro l a ih
   rw [zgn]
   by_cases h:a ∈ zia l
   . rw [if_pos h]
     simp only [vcf,vcd]
     constructor
     . intro hx;exact Or.inl (ih.1 hx)
     . rintro (hx | rfl)
       . exact ih.2 hx
       . exact h
   . rw [if_neg h]
     simp only [vcf,vcd,ih]
theorem zye:∀ l:List (L8),(zia l).length<=l.length:=by
 apply list_snoc_ind
 . exact vaa _
 . intro l a ih
   rw [zgn];split
   . rw [vab];simp;omega
   . rw [vab,vab];simp;omega
theorem dup_snoc (l:List (L8)) (s:L8):dupB (l++[s])=(dupB l||decide (s ∈ l)):=by
 have h1:=zye l
 have h2:(l++[s]).length=l.length+1:=by simp
 unfold dupB;rw [zgn,h2]
 by_cases h:s ∈ zia l
 . rw [if_pos h,decide_eq_true ((zib s l).1 h),Bool.or_true]
   exact decide_eq_true (by omega)
 . rw [if_neg h,decide_eq_false (fun e=>h ((zib s l).2 e)),Bool.or_false,show (zia l++[s]).length=(zia l).length+1 from by simp]
   exact decide_eq_decide.2 (by omega)
def namesOf (l:List It):List (L8):=l.map (·.name.data.toList)
def chkF (f:Fc):Int:=
 if 16<f.items.length then 2 else if nameOk f.name && !dupB (namesOf f.items)&&f.items.all zfz then 0 else 1
theorem z05 {f:Fc} (h:16<f.items.length):chkF f=2:=if_pos h
theorem z06 {f:Fc} (h:¬ 16<f.items.length) (h1:nameOk f.name=false):chkF f=1:=by unfold chkF;rw [if_neg h,h1];rfl
theorem z32 {f:Fc} (h:¬ 16<f.items.length) (h1:dupB (namesOf f.items)=true):chkF f=1:=by unfold chkF;rw [if_neg h,h1];simp
theorem z07 {f:Fc} (h:¬ 16<f.items.length) (h1:f.items.all zfz=false):chkF f=1:=by unfold chkF;rw [if_neg h,h1];simp
theorem z5y {f:Fc} (h:¬ 16<f.items.length) (h0:nameOk f.name=true) (h1:dupB (namesOf f.items)=false) (h2:f.items.all zfz=true):chkF f=0:=by unfold chkF;rw [if_neg h,h0,h1,h2];rfl
end Fx
end Go.Proofs.YtndkhgakfodldaaGreatDoor
