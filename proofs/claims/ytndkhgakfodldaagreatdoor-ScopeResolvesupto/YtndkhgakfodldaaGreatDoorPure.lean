import Derived.RowKit
import Derived.Lib.Strings
namespace Go.Proofs.YtndkhgakfodldaaGreatDoor
abbrev vaa:=@Nat.le_refl
abbrev vab:=@List.setIfInBounds_toArray
abbrev vac:=@Option.some.inj
abbrev vad:=@Nat.zero_le
abbrev vae:=@List.set_cons_zero
abbrev vaf:=@List.set_cons_succ
abbrev vag:=@List.take_succ_eq_append_getElem
abbrev vah:=@List.getElem_mem
abbrev vai:=@Nat.lt_of_lt_of_le
abbrev vaj:=@List.eq_nil_of_length_eq_zero
abbrev vak:=@Prod.mk.inj
abbrev vam:=@Go.World.size_setCell
abbrev van:=@Bool.and_eq_true
abbrev vao:=@List.length_append
abbrev vap:=@Bool.or_eq_false_iff
abbrev vaq:=@List.take_of_length_le
abbrev vas:=@Go.Lib.toList_data
abbrev vat:=@List.all_eq_true
abbrev vau:=@List.any_eq_false
abbrev vav:=@List.take_length
abbrev vaw:=@List.all_append
abbrev vax:=@List.length_cons
abbrev vay:=@List.getElem_of_mem
abbrev vaz:=@Bool.false_or
abbrev vba:=@List.getElem?_eq_getElem
abbrev vbb:=@List.getElem?_append_right
abbrev vbc:=@Nat.zero_add
abbrev vbd:=@List.findIdx?_eq_some_iff_getElem
abbrev vbe:=@Nat.le_trans
abbrev vbf:=@List.getElem?_append_left
abbrev vbg:=@List.mem_cons_self
abbrev vbh:=@Go.DataW.trod_string
abbrev vbi:=@List.mem_cons_of_mem
abbrev vbj:=@Nat.add_assoc
abbrev vbk:=@Nat.lt_or_ge
abbrev vbl:=@List.findIdx?_eq_none_iff
abbrev vbm:=@List.length_map
abbrev vbn:=@Go.World.cell?_setCell_other
abbrev vbo:=@List.mem_cons
abbrev vbp:=@List.length_drop
abbrev vbq:=@List.map_cons
abbrev vbr:=@List.map_append
abbrev vbs:=@List.all_cons
abbrev vbt:=@Bool.eq_iff_iff
abbrev vbu:=@List.length_take
abbrev vbv:=@List.getElem_cons_succ
abbrev vbw:=@List.append_nil
abbrev vbx:=@Go.World.cell?_setCell_same
abbrev vby:=@Bool.or_true
abbrev vbz:=@Go.DataW.trod_struct
abbrev vca:=@List.mem_append
abbrev vcb:=@List.nil_append
abbrev vcc:=@List.getElem_cons_zero
abbrev vcd:=@List.getD_eq_getElem?_getD
abbrev vce:=@Bool.not_eq_true
abbrev vcf:=@Bool.and_eq_false_iff
abbrev vcg:=@List.mem_map
abbrev vch:=@List.contains_iff_mem
abbrev vci:=@List.drop_eq_getElem_cons
abbrev vcj:=@Go.DataW.trod_int
abbrev vck:=@List.getElem_append_left
abbrev vcl:=@List.foldl_append
abbrev vcm:=@List.find?_cons
abbrev vcn:=@List.all_nil
abbrev vco:=@Array.getElem?_eq_none
abbrev vcp:=@List.drop_eq_nil_of_le
abbrev vcq:=@List.find?_eq_none
abbrev vcr:=@List.mem_singleton
abbrev vcs:=@Bool.false_eq_true
abbrev vct:=@List.getElem?_eq_none
abbrev vcu:=@List.map_nil
abbrev vcv:=@Except.ok.inj
abbrev vcw:=@List.flatMap_cons
abbrev vcx:=@Option.some.injEq
abbrev vcy:=@List.take_zero
abbrev vcz:=@Bool.false_and
abbrev vda:=@Nat.lt_succ_self
abbrev vdb:=@List.cons_append
abbrev vdc:=@Nat.not_lt_zero
abbrev vdd:=@List.length_zip
abbrev vde:=@List.all_eq_false
abbrev vdf:=@Nat.mul_le_mul
abbrev vdg:=@List.append_eq
abbrev vdh:=@List.take_append_drop
abbrev vdi:=@Bool.true_and
abbrev vdj:=@List.flatMap_append
abbrev vdk:=@Go.Oper.upon_enter
abbrev vdl:=@Nat.min_eq_left
abbrev vdm:=@Nat.eq_zero_or_pos
abbrev vdn:=@Nat.zero_mul
abbrev vdo:=@Nat.le_of_lt_succ
abbrev vdp:=@Bool.not_eq_true'
abbrev vdq:=@List.getElem_drop
abbrev vdr:=@List.getElem?_map
abbrev vds:=@List.append_assoc
abbrev vdt:=@List.any_cons
abbrev vdu:=@Prod.mk.injEq
abbrev vdv:=@Go.DataW.held.injEq
abbrev vdw:=@List.getElem_zip
abbrev vdx:=@Bool.or_eq_true
abbrev vdy:=@UInt8.toNat_inj
abbrev vdz:=@Bool.not_and
abbrev vea:=@Nat.succ_mul
abbrev OA:=Option Addr
abbrev L8:=List UInt8
namespace Lx
def zh6 (c:UInt8):Bool:=decide (97<=(c.toNat:Int))&&decide ((c.toNat:Int)<=122)
def zhx (c:UInt8):Bool:=decide (48<=(c.toNat:Int))&&decide ((c.toNat:Int)<=57)
def zdx (c:UInt8):Bool:=zh6 c||zhx c
def zmt:L8->Bool
 | []=>false
 | c :: _=>zh6 c
def zcq (l:L8):Bool:=zmt l&&decide (l.length<=8)&&l.all zdx
def signs:L8:=[123,125,40,41,91,93,44,59,61,46,43,45,42,47,37,60,33,38,124]
def zss (c:UInt8):Bool:=signs.contains c
theorem zhc (s:ByteArray) (k:Nat) (h:k<s.size):s.data.toList.take (k+1)=s.data.toList.take k++[s[k]]:=by
 rw [vag (by simpa using h)];rfl
theorem za1 (s:ByteArray):s.data.toList.length=s.size:=Array.length_toList
theorem zxu (s:ByteArray) (h:0<s.size):s.toList.isEmpty=false:=by
 rw [vas]
 cases hl:s.data.toList with
 | nil=>have:=za1 s;rw [hl] at this;simp at this;omega
 | cons=>rfl
theorem zvn (s:ByteArray) (h:0<s.size):zmt s.data.toList=zh6 s[0]:=by
 have:=zhc s 0 h
 cases hl:s.data.toList with
 | nil=>rw [hl] at this;simp at this
 | cons c r=>rw [hl] at this;simp at this;simp [zmt,this]
theorem ze6 (s:ByteArray) (k:Nat) (h:k<s.size) (p:UInt8->Bool):(s.data.toList.take (k+1)).all p=((s.data.toList.take k).all p&&p s[k]):=by
 rw [zhc s k h];simp
theorem zju (s:ByteArray) (p:UInt8->Bool):(s.data.toList.take s.size).all p=s.data.toList.all p:=by
 rw [vaq (by rw [za1];exact vaa _)]
theorem zpy (s:ByteArray) (k:Nat) (h:k<s.size) (p:UInt8->Bool) (hp:p s[k]=false):s.data.toList.all p=false:=by
 have hx:s.data.toList[k]'(by rw [za1];exact h)=s[k]:=rfl;rw [vde];refine ⟨s[k],?_,by simp [hp]⟩
 rw [← hx];exact vah _
theorem zjv (s:ByteArray) (h:s.size=0):zcq s.data.toList=false:=by
 have:s.data.toList=[]:=vaj (by rw [za1];exact h)
 rw [this];rfl
theorem zls (s:ByteArray) (h:8<s.size):zcq s.data.toList=false:=by
 unfold zcq;rw [za1,show decide (s.size<=8)=false from by simp;omega];simp
theorem zlt (s:ByteArray) (h:0<s.size) (hl:zh6 s[0]=false):zcq s.data.toList=false:=by
 unfold zcq;rw [zvn s h,hl];simp
theorem zlu (s:ByteArray) (h:0<s.size) (h8:s.size<=8) (hl:zh6 s[0]=true):zcq s.data.toList=s.data.toList.all zdx:=by
 unfold zcq;rw [zvn s h,hl,za1,show decide (s.size<=8)=true from by simp;omega];simp
def z0t (l:L8):Nat:=(l.takeWhile zdx).length
def z0u (s:ByteArray) (a:Nat):Nat:=z0t (s.data.toList.drop a)
theorem zpz:∀ (l:L8) (k:Nat),(l.take k).all zdx=true->k<=l.length->(∀ h:k<l.length,zdx l[k]=false)->z0t l=k
 | [],k,_,hk,_=>by simp at hk;subst hk;rfl
 | c :: l,0,_,_,hs=>by have:=hs (by simp);simp at this;simp [z0t,this]
 | c :: l,k+1,ha,hk,hs=>by
   simp only [List.take_succ_cons,vbs,van] at ha;have ih:=zpz l k ha.2 (by simp at hk;omega) (fun h=>by have:=hs (by simp;omega);simpa using this);simp only [z0t] at ih ⊢;rw [List.takeWhile_cons,if_pos ha.1,vax,ih]
theorem zfu (s:ByteArray) (a:Nat):(s.data.toList.drop a).length=s.size - a:=by rw [vbp,za1]
theorem zra (s:ByteArray) (a k:Nat) (h:a+k<s.size):(s.data.toList.drop a)[k]'(by rw [zfu];omega)=s[a+k]:=by
 rw [vdq];rfl
theorem zrb (s:ByteArray) (a k:Nat) (h:a+k<s.size):((s.data.toList.drop a).take (k+1)).all zdx=(((s.data.toList.drop a).take k).all zdx&&zdx s[a+k]):=by
 rw [vag (by rw [zfu];omega),zra s a k h];simp
theorem zxv (s:ByteArray) (a k:Nat) (ha:((s.data.toList.drop a).take k).all zdx=true) (h:a+k=s.size):z0u s a=k:=
 zpz _ k ha (by rw [zfu];omega) (fun hk=>by rw [zfu] at hk;omega)
theorem zn9 (s:ByteArray) (a k:Nat) (ha:((s.data.toList.drop a).take k).all zdx=true) (h:a+k<s.size) (hc:zdx s[a+k]=false):z0u s a=k:=
 zpz _ k ha (by rw [zfu];omega) (fun _=>by rw [zra s a k h];exact hc)
def pieceN (s:ByteArray) (a:Nat):Nat:=if z0u s a=0 then 1 else z0u s a
theorem zz7 (s:ByteArray) (a:Nat) (h:a<s.size):((s.data.toList.drop a).take 1).all zdx=zdx s[a]:=by
 have:=zrb s a 0 (by omega);simpa using this
theorem zoa (s:ByteArray) (a:Nat) (h:a<s.size) (hc:zdx s[a]=false):pieceN s a=1:=by
 have:=zn9 s a 0 (by simp) (by omega) (by simpa using hc);simp [pieceN,this]
theorem zob (s:ByteArray) (a k:Nat) (hk:0<k) (h:z0u s a=k):pieceN s a=k:=by
 unfold pieceN;rw [h,if_neg (by omega)]
theorem zz8 (s:ByteArray) (a:Nat):z0u s a<=s.size - a:=by
 have:=(List.takeWhile_prefix zdx (l:=s.data.toList.drop a)).length_le
 rw [zfu] at this;exact this
theorem zfv (s:ByteArray) (a:Nat):0<pieceN s a:=by unfold pieceN;split<;>omega
theorem zvo (s:ByteArray) (a:Nat) (h:a<s.size):a+pieceN s a<=s.size:=by
 have:=zz8 s a;unfold pieceN;split<;>omega
end Lx
namespace Fx
structure It where
 kind:Int
 n:Int
 at_:Int
 name:ByteArray
structure Fc where
 name:ByteArray
 items:List It
def nameOk (s:ByteArray):Bool:=Lx.zcq s.data.toList
def numOkB (i:It):Bool:=
 if i.kind=1 then decide (0<=i.n)&&decide (i.n<=1099511627775)&&decide (i.at_=0)
 else if i.kind=2 then decide (i.n=0)&&decide (0<=i.at_)&&decide (i.at_<=320)
 else if i.kind=3 then decide (1<=i.n)&&decide (i.n<=32)&&decide (0<=i.at_)&&decide (i.at_<=320)
 else if i.kind=4 then decide (0<=i.n)&&decide (i.n<=3)&&decide (0<=i.at_)&&decide (i.at_<=320)
 else false
def za8 (i:It):Bool:=nameOk i.name&&numOkB i
def zhd:List (L8)->List (L8):=List.foldl (fun acc s=>if s ∈ acc then acc else acc++[s]) []
def zd9 (l:List (L8)):Bool:=decide ((zhd l).length<l.length)
theorem zfw (l:List (L8)) (s:L8):zhd (l++[s])=if s ∈ zhd l then zhd l else zhd l++[s]:=by
 unfold zhd;rw [vcl];rfl
theorem zch {α:Type} {p:List α->Prop} (h0:p []) (h1:∀ l a,p l->p (l++[a])):∀ l,p l:=by
 intro l
 have:∀ n (l:List α),l.length=n->p l:=by
  intro n
  induction n with
  | zero=>intro l hl;rw [vaj hl];exact h0
  | succ n ih=>
    intro l hl
    have hne:l≠[]:=fun e=>by rw [e] at hl;simp at hl
    rw [← List.dropLast_concat_getLast hne];exact h1 _ _ (ih _ (by rw [List.length_dropLast];omega))
 exact this _ l rfl
theorem zhe (x:L8):∀ l:List (L8),x ∈ zhd l↔x ∈ l:=by
 apply zch
 . exact Iff.rfl
 . intro l a ih
   rw [zfw]
   by_cases h:a ∈ zhd l
   . rw [if_pos h]
     simp only [vca,vcr]
     constructor
     . intro hx;exact Or.inl (ih.1 hx)
     . rintro (hx | rfl)
       . exact ih.2 hx
       . exact h
   . rw [if_neg h]
     simp only [vca,vcr,ih]
theorem zvp:∀ l:List (L8),(zhd l).length<=l.length:=by
 apply zch
 . exact vaa _
 . intro l a ih
   rw [zfw];split
   . rw [vao];simp;omega
   . rw [vao,vao];simp;omega
theorem zi1 (l:List (L8)) (s:L8):zd9 (l++[s])=(zd9 l||decide (s ∈ l)):=by
 have h1:=zvp l
 have h2:(l++[s]).length=l.length+1:=by simp
 unfold zd9;rw [zfw,h2]
 by_cases h:s ∈ zhd l
 . rw [if_pos h,decide_eq_true ((zhe s l).1 h),vby]
   exact decide_eq_true (by omega)
 . rw [if_neg h,decide_eq_false (fun e=>h ((zhe s l).2 e)),Bool.or_false,show (zhd l++[s]).length=(zhd l).length+1 from by simp]
   exact decide_eq_decide.2 (by omega)
def zbs (l:List It):List (L8):=l.map (·.name.data.toList)
def zey (f:Fc):Int:=
 if 16<f.items.length then 2 else if nameOk f.name && !zd9 (zbs f.items)&&f.items.all za8 then 0 else 1
theorem zrc {f:Fc} (h:16<f.items.length):zey f=2:=if_pos h
theorem zrd {f:Fc} (h:¬ 16<f.items.length) (h1:nameOk f.name=false):zey f=1:=by unfold zey;rw [if_neg h,h1];rfl
theorem zvq {f:Fc} (h:¬ 16<f.items.length) (h1:zd9 (zbs f.items)=true):zey f=1:=by unfold zey;rw [if_neg h,h1];simp
theorem zd6 {f:Fc} (h:¬ 16<f.items.length) (h1:f.items.all za8=false):zey f=1:=by unfold zey;rw [if_neg h,h1];simp
theorem zy4 {f:Fc} (h:¬ 16<f.items.length) (h0:nameOk f.name=true) (h1:zd9 (zbs f.items)=false) (h2:f.items.all za8=true):zey f=0:=by unfold zey;rw [if_neg h,h0,h1,h2];rfl
end Fx
end Go.Proofs.YtndkhgakfodldaaGreatDoor
