import Derived.RowKit
import Derived.Lib.Strings
namespace Go.Proofs.YtndkhgakfodldaaGreatDoor
abbrev vaa:=@Nat.le_refl
abbrev vab:=@Option.some.inj
abbrev vac:=@Nat.lt_of_lt_of_le
abbrev vad:=@Nat.zero_le
abbrev vae:=@Bool.and_eq_true
abbrev vaf:=@List.take_succ_eq_append_getElem
abbrev vag:=@List.length_append
abbrev vah:=@List.getElem_mem
abbrev vai:=@List.setIfInBounds_toArray
abbrev vaj:=@List.getElem?_eq_getElem
abbrev vak:=@Prod.mk.inj
abbrev vam:=@List.eq_nil_of_length_eq_zero
abbrev van:=@Go.World.size_setCell
abbrev vao:=@List.take_of_length_le
abbrev vap:=@List.set_cons_zero
abbrev vaq:=@List.set_cons_succ
abbrev var:=@List.getD_eq_getElem?_getD
abbrev vas:=@List.all_eq_true
abbrev vat:=@List.length_cons
abbrev vau:=@List.getElem_append_left
abbrev vav:=@Nat.le_trans
abbrev vaw:=@List.getElem?_append_left
abbrev vax:=@Go.Lib.toList_data
abbrev vay:=@Bool.or_eq_false_iff
abbrev vaz:=@Option.getD_some
abbrev vba:=@List.take_length
abbrev vbb:=@List.getElem?_append_right
abbrev vbc:=@List.length_map
abbrev vbd:=@Nat.zero_add
abbrev vbe:=@Int.toNat_natCast
abbrev vbf:=@Nat.lt_or_ge
abbrev vbg:=@Nat.zero_mul
abbrev vbh:=@List.all_append
abbrev vbi:=@List.findIdx?_eq_some_iff_getElem
abbrev vbj:=@List.length_singleton
abbrev vbk:=@Nat.add_zero
abbrev vbl:=@List.getElem?_eq_none
abbrev vbm:=@List.length_take
abbrev vbn:=@List.getElem_cons_zero
abbrev vbo:=@List.getElem_cons_succ
abbrev vbp:=@Go.World.cell?_setCell_other
abbrev vbq:=@Go.DataW.trod_int
abbrev vbr:=@Nat.add_assoc
abbrev vbs:=@List.length_drop
abbrev vbt:=@List.any_eq_false
abbrev vbu:=@List.flatMap_cons
abbrev vbv:=@Go.World.cell?_setCell_same
abbrev vbw:=@List.mem_append
abbrev vbx:=@Int.ediv_ediv_of_nonneg
abbrev vby:=@List.getElem_of_mem
abbrev vbz:=@List.drop_eq_getElem_cons
abbrev vca:=@List.mem_singleton
abbrev vcb:=@List.prefix_refl
abbrev vcc:=@List.mem_map
abbrev vcd:=@List.foldl_append
abbrev vce:=@List.map_append
abbrev vcf:=@List.append_nil
abbrev vcg:=@List.drop_eq_nil_of_le
abbrev vch:=@Array.getElem?_eq_none
abbrev vci:=@List.mem_cons
abbrev vcj:=@List.contains_iff_mem
abbrev vck:=@List.mem_cons_of_mem
abbrev vcl:=@List.find?_cons
abbrev vcm:=@List.map_cons
abbrev vcn:=@List.all_cons
abbrev vco:=@Nat.eq_zero_or_pos
abbrev vcp:=@Bool.false_eq_true
abbrev vcq:=@List.getElem?_toArray
abbrev vcr:=@List.length_set
abbrev vcs:=@Bool.eq_iff_iff
abbrev vct:=@List.getElem_concat_length
abbrev vcu:=@List.findIdx?_eq_none_iff
abbrev vcv:=@List.getElem_map
abbrev vcw:=@Int.le_refl
abbrev vcx:=@Except.ok.inj
abbrev vcy:=@Option.some.injEq
abbrev vcz:=@List.append_assoc
abbrev vda:=@Nat.le_succ
abbrev vdb:=@List.all_eq_false
abbrev vdc:=@Go.DataW.trod_struct
abbrev vdd:=@Bool.and_eq_false_iff
abbrev vde:=@List.take_append_drop
abbrev vdf:=@Bool.not_eq_true
abbrev vdg:=@List.flatMap_append
abbrev vdh:=@Go.Oper.upon_enter
abbrev vdi:=@List.length_zip
abbrev vdj:=@List.mem_cons_self
abbrev vdk:=@List.all_nil
abbrev vdl:=@Nat.mul_le_mul
abbrev vdm:=@List.getElem_drop
abbrev vdn:=@Prod.mk.injEq
abbrev vdo:=@Nat.one_mul
abbrev vdp:=@Go.DataW.held.injEq
abbrev vdq:=@Go.World.size_alloc
abbrev vdr:=@List.any_eq_true
abbrev vds:=@Go.DataW.trod_slice
abbrev vdt:=@List.getElem_zip
abbrev vdu:=@List.length_nil
abbrev vdv:=@UInt8.toNat_inj
abbrev vdw:=@Nat.min_eq_left
abbrev vdx:=@List.map_nil
abbrev vdy:=@Bool.false_and
abbrev vdz:=@List.take_zero
abbrev vea:=@Bool.true_and
abbrev veb:=@List.map_set
abbrev vec:=@Nat.succ_mul
abbrev OA:=Option Addr
abbrev L8:=List UInt8
namespace Lx
def zho (c:UInt8):Bool:=decide (97<=(c.toNat:Int))&&decide ((c.toNat:Int)<=122)
def zhi (c:UInt8):Bool:=decide (48<=(c.toNat:Int))&&decide ((c.toNat:Int)<=57)
def zdb (c:UInt8):Bool:=zho c||zhi c
def zl6:L8->Bool
 | []=>false
 | c :: _=>zho c
def zcd (l:L8):Bool:=zl6 l&&decide (l.length<=8)&&l.all zdb
def signs:L8:=[123,125,40,41,91,93,44,59,61,46,43,45,42,47,37,60,33,38,124]
def zsn (c:UInt8):Bool:=signs.contains c
theorem zg3 (s:ByteArray) (k:Nat) (h:k<s.size):s.data.toList.take (k+1)=s.data.toList.take k++[s[k]]:=by
 rw [vaf (by simpa using h)];rfl
theorem zav (s:ByteArray):s.data.toList.length=s.size:=Array.length_toList
theorem zxy (s:ByteArray) (h:0<s.size):s.toList.isEmpty=false:=by
 rw [vax]
 cases hl:s.data.toList with
 | nil=>have:=zav s;rw [hl] at this;simp at this;omega
 | cons=>rfl
theorem zvg (s:ByteArray) (h:0<s.size):zl6 s.data.toList=zho s[0]:=by
 have:=zg3 s 0 h
 cases hl:s.data.toList with
 | nil=>rw [hl] at this;simp at this
 | cons c r=>rw [hl] at this;simp at this;simp [zl6,this]
theorem zep (s:ByteArray) (k:Nat) (h:k<s.size) (p:UInt8->Bool):(s.data.toList.take (k+1)).all p=((s.data.toList.take k).all p&&p s[k]):=by
 rw [zg3 s k h];simp
theorem zi7 (s:ByteArray) (p:UInt8->Bool):(s.data.toList.take s.size).all p=s.data.toList.all p:=by
 rw [vao (by rw [zav];exact vaa _)]
theorem zpr (s:ByteArray) (k:Nat) (h:k<s.size) (p:UInt8->Bool) (hp:p s[k]=false):s.data.toList.all p=false:=by
 have hx:s.data.toList[k]'(by rw [zav];exact h)=s[k]:=rfl;rw [vdb];refine ⟨s[k],?_,by simp [hp]⟩
 rw [← hx];exact vah _
theorem zi8 (s:ByteArray) (h:s.size=0):zcd s.data.toList=false:=by
 have:s.data.toList=[]:=vam (by rw [zav];exact h)
 rw [this];rfl
theorem zk2 (s:ByteArray) (h:8<s.size):zcd s.data.toList=false:=by
 unfold zcd;rw [zav,show decide (s.size<=8)=false from by simp;omega];simp
theorem zk3 (s:ByteArray) (h:0<s.size) (hl:zho s[0]=false):zcd s.data.toList=false:=by
 unfold zcd;rw [zvg s h,hl];simp
theorem zk4 (s:ByteArray) (h:0<s.size) (h8:s.size<=8) (hl:zho s[0]=true):zcd s.data.toList=s.data.toList.all zdb:=by
 unfold zcd;rw [zvg s h,hl,zav,show decide (s.size<=8)=true from by simp;omega];simp
def z1a (l:L8):Nat:=(l.takeWhile zdb).length
def z1b (s:ByteArray) (a:Nat):Nat:=z1a (s.data.toList.drop a)
theorem zps:∀ (l:L8) (k:Nat),(l.take k).all zdb=true->k<=l.length->(∀ h:k<l.length,zdb l[k]=false)->z1a l=k
 | [],k,_,hk,_=>by simp at hk;subst hk;rfl
 | c :: l,0,_,_,hs=>by have:=hs (by simp);simp at this;simp [z1a,this]
 | c :: l,k+1,ha,hk,hs=>by
   simp only [List.take_succ_cons,vcn,vae] at ha;have ih:=zps l k ha.2 (by simp at hk;omega) (fun h=>by have:=hs (by simp;omega);simpa using this);simp only [z1a] at ih ⊢;rw [List.takeWhile_cons,if_pos ha.1,vat,ih]
theorem zfk (s:ByteArray) (a:Nat):(s.data.toList.drop a).length=s.size - a:=by rw [vbs,zav]
theorem zq5 (s:ByteArray) (a k:Nat) (h:a+k<s.size):(s.data.toList.drop a)[k]'(by rw [zfk];omega)=s[a+k]:=by
 rw [vdm];rfl
theorem zq6 (s:ByteArray) (a k:Nat) (h:a+k<s.size):((s.data.toList.drop a).take (k+1)).all zdb=(((s.data.toList.drop a).take k).all zdb&&zdb s[a+k]):=by
 rw [vaf (by rw [zfk];omega),zq5 s a k h];simp
theorem zxz (s:ByteArray) (a k:Nat) (ha:((s.data.toList.drop a).take k).all zdb=true) (h:a+k=s.size):z1b s a=k:=
 zps _ k ha (by rw [zfk];omega) (fun hk=>by rw [zfk] at hk;omega)
theorem znr (s:ByteArray) (a k:Nat) (ha:((s.data.toList.drop a).take k).all zdb=true) (h:a+k<s.size) (hc:zdb s[a+k]=false):z1b s a=k:=
 zps _ k ha (by rw [zfk];omega) (fun _=>by rw [zq5 s a k h];exact hc)
def pieceN (s:ByteArray) (a:Nat):Nat:=if z1b s a=0 then 1 else z1b s a
theorem z0e (s:ByteArray) (a:Nat) (h:a<s.size):((s.data.toList.drop a).take 1).all zdb=zdb s[a]:=by
 have:=zq6 s a 0 (by omega);simpa using this
theorem zns (s:ByteArray) (a:Nat) (h:a<s.size) (hc:zdb s[a]=false):pieceN s a=1:=by
 have:=znr s a 0 (by simp) (by omega) (by simpa using hc);simp [pieceN,this]
theorem znt (s:ByteArray) (a k:Nat) (hk:0<k) (h:z1b s a=k):pieceN s a=k:=by
 unfold pieceN;rw [h,if_neg (by omega)]
theorem z0f (s:ByteArray) (a:Nat):z1b s a<=s.size - a:=by
 have:=(List.takeWhile_prefix zdb (l:=s.data.toList.drop a)).length_le
 rw [zfk] at this;exact this
theorem zfl (s:ByteArray) (a:Nat):0<pieceN s a:=by unfold pieceN;split<;>omega
theorem zvh (s:ByteArray) (a:Nat) (h:a<s.size):a+pieceN s a<=s.size:=by
 have:=z0f s a;unfold pieceN;split<;>omega
end Lx
namespace Fx
structure It where
 kind:Int
 n:Int
 at_:Int
 name:ByteArray
structure Fc where
 name:ByteArray
 items:List It
def nameOk (s:ByteArray):Bool:=Lx.zcd s.data.toList
def numOkB (i:It):Bool:=
 if i.kind=1 then decide (0<=i.n)&&decide (i.n<=1099511627775)&&decide (i.at_=0)
 else if i.kind=2 then decide (i.n=0)&&decide (0<=i.at_)&&decide (i.at_<=320)
 else if i.kind=3 then decide (1<=i.n)&&decide (i.n<=32)&&decide (0<=i.at_)&&decide (i.at_<=320)
 else if i.kind=4 then decide (0<=i.n)&&decide (i.n<=3)&&decide (0<=i.at_)&&decide (i.at_<=320)
 else false
def zex (i:It):Bool:=nameOk i.name&&numOkB i
def zgf:List (L8)->List (L8):=List.foldl (fun acc s=>if s ∈ acc then acc else acc++[s]) []
def zgm (l:List (L8)):Bool:=decide ((zgf l).length<l.length)
theorem zfm (l:List (L8)) (s:L8):zgf (l++[s])=if s ∈ zgf l then zgf l else zgf l++[s]:=by
 unfold zgf;rw [vcd];rfl
theorem zbx {α:Type} {p:List α->Prop} (h0:p []) (h1:∀ l a,p l->p (l++[a])):∀ l,p l:=by
 intro l
 have:∀ n (l:List α),l.length=n->p l:=by
  intro n
  induction n with
  | zero=>intro l hl;rw [vam hl];exact h0
  | succ n ih=>
    intro l hl
    have hne:l≠[]:=fun e=>by rw [e] at hl;simp at hl
    rw [← List.dropLast_concat_getLast hne];exact h1 _ _ (ih _ (by rw [List.length_dropLast];omega))
 exact this _ l rfl
theorem zg4 (x:L8):∀ l:List (L8),x ∈ zgf l↔x ∈ l:=by
 apply zbx
 . exact Iff.rfl
 . intro l a ih
   rw [zfm]
   by_cases h:a ∈ zgf l
   . rw [if_pos h]
     simp only [vbw,vca]
     constructor
     . intro hx;exact Or.inl (ih.1 hx)
     . rintro (hx | rfl)
       . exact ih.2 hx
       . exact h
   . rw [if_neg h]
     simp only [vbw,vca,ih]
theorem zvi:∀ l:List (L8),(zgf l).length<=l.length:=by
 apply zbx
 . exact vaa _
 . intro l a ih
   rw [zfm];split
   . rw [vag];simp;omega
   . rw [vag,vag];simp;omega
theorem zx0 (l:List (L8)) (s:L8):zgm (l++[s])=(zgm l||decide (s ∈ l)):=by
 have h1:=zvi l
 have h2:(l++[s]).length=l.length+1:=by simp
 unfold zgm;rw [zfm,h2]
 by_cases h:s ∈ zgf l
 . rw [if_pos h,decide_eq_true ((zg4 s l).1 h),Bool.or_true]
   exact decide_eq_true (by omega)
 . rw [if_neg h,decide_eq_false (fun e=>h ((zg4 s l).2 e)),Bool.or_false,show (zgf l++[s]).length=(zgf l).length+1 from by simp]
   exact decide_eq_decide.2 (by omega)
def zdw (l:List It):List (L8):=l.map (·.name.data.toList)
def zjv (f:Fc):Int:=
 if 16<f.items.length then 2 else if nameOk f.name && !zgm (zdw f.items)&&f.items.all zex then 0 else 1
theorem zx1 {f:Fc} (h:16<f.items.length):zjv f=2:=if_pos h
theorem zx2 {f:Fc} (h:¬ 16<f.items.length) (h1:nameOk f.name=false):zjv f=1:=by unfold zjv;rw [if_neg h,h1];rfl
theorem z0g {f:Fc} (h:¬ 16<f.items.length) (h1:zgm (zdw f.items)=true):zjv f=1:=by unfold zjv;rw [if_neg h,h1];simp
theorem zx3 {f:Fc} (h:¬ 16<f.items.length) (h1:f.items.all zex=false):zjv f=1:=by unfold zjv;rw [if_neg h,h1];simp
theorem z18 {f:Fc} (h:¬ 16<f.items.length) (h0:nameOk f.name=true) (h1:zgm (zdw f.items)=false) (h2:f.items.all zex=true):zjv f=0:=by unfold zjv;rw [if_neg h,h0,h1,h2];rfl
end Fx
end Go.Proofs.YtndkhgakfodldaaGreatDoor
