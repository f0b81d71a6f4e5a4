/-
  The program's reader: lists.
-/
import Derived.Test.YtndkhgakfodldaaGreatDoorId
import Derived.Test.YtndkhgakfodldaaGreatDoorMd
namespace Go.Proofs.YtndkhgakfodldaaGreatDoor
set_option maxRecDepth 100000
set_option maxHeartbeats 1600000
open Go.RowKit Go.Shelf
set_option linter.unusedSimpArgs false
set_option linter.unusedVariables false
def pMany {α:Type} (p:List UInt8->Option (α × List UInt8)):Nat->List UInt8->Option (List α × List UInt8)
 | 0,l=>some ([],l)
 | n+1,l=>(p l).bind fun a=>(pMany p n a.2).map fun b=>(a.1 :: b.1,b.2)
def pAcc {α:Type} (p:List UInt8->Option (α × List UInt8)) (acc:List α) (n:Nat) (l:List UInt8):Option (List α × List UInt8):=(pMany p n l).map fun b=>(acc++b.1,b.2)
section
variable {α:Type} {p:List UInt8->Option (α × List UInt8)} {acc:List α} {n:Nat} {l r:List UInt8} {i:α}
theorem pAcc_none (h:p l=none):pAcc p acc (n+1) l=none:=by simp [pAcc,pMany,h]
theorem pAcc_some (h:p l=some (i,r)):pAcc p acc (n+1) l=pAcc p (acc++[i]) n r:=by
 simp [pAcc,pMany,h]
 rfl
theorem pAcc_zero:pAcc p acc 0 l=some (acc,l):=by simp [pAcc,pMany]
theorem pAcc_nil:pAcc p [] n l=pMany p n l:=by
 unfold pAcc
 cases pMany p n l<;>simp
end
def pLst {α:Type} (p:List UInt8->Option (α × List UInt8)) (l:List UInt8):Option (List α × List UInt8):=(pCnt l).bind fun q=>pMany p q.1 q.2
theorem rdr_base {B rb:Nat} {w w':World} {l:List UInt8} (h:Fx.Rdr w rb l) (hb:Below B w w') (hr:rb<B):Fx.Rdr w' rb l:=
 ⟨Nat.lt_of_lt_of_le h.lt hb.size,(World.cell?_of_block (a:=⟨rb,0,none⟩) (hb.block rb hr)).trans h.c0,(World.frozen?_of_block (a:=⟨rb,0,none⟩) (hb.block rb hr)).trans h.f0⟩
theorem grown_base {w w1 w2:World} {r:Option Nat} (h:w.grownBy w1 r) (hb:Below w.heap.size w1 w2):w.grownBy w2 r:=
 ⟨hb.os.trans h.os,hb.tape.trans h.tape,hb.output.trans h.output,Nat.le_trans h.size hb.size,fun k hk hne=>(hb.block k hk).trans (h.block k hk hne)⟩
theorem own_kept {W W':World} {B:Nat} {e:TypeId} {size:Nat} {v:Value} {n:Nat} {xs:List Value} {rb:Nat} (h:W.ownsRow B e size v n xs) (hg:W.grownBy W' (some rb)) (hr:rb<B):W'.ownsRow B e size v n xs:=
 ownsRow_keep h (fun k hk=>hg.block k (h.lt k hk).2 (fun e=>by have:=(h.lt k hk).1;cases e;omega))
theorem cnt_left {l r:List UInt8} {n:Nat} (h:pCnt l=some (n,r)):r.length+8=l.length/\n<=9223372036854775807:=by
 unfold pCnt at h
 cases hq:Fx.pNum l with
 | none=>rw [hq] at h;cases h
 | some q=>
   rw [hq] at h;simp only [Option.bind_some] at h
   split at h
   . cases h
   . cases h
     have:=numL_fit (n:=q.1) (r:=q.2) hq;exact ⟨num_left (n:=q.1) (r:=q.2) hq,by omega⟩
theorem instr_left {l r:List UInt8} {x:Gi} (h:pInstr l=some (x,r)):r.length+1<=l.length:=by
 unfold pInstr at h
 cases h1:Fx.pByte l with
 | none=>rw [h1] at h;cases h
 | some a=>
   rw [h1] at h
   cases h2:Fx.pNum a.2 with
   | none=>simp [h2] at h
   | some b=>
     cases h3:Fx.pNum b.2 with
     | none=>simp [h2,h3] at h
     | some c=>
       simp [h2,h3] at h;have y1:=byte_left (n:=a.1) (r:=a.2) h1;have y2:=num_left (n:=b.1) (r:=b.2) h2;have y3:=num_left (n:=c.1) (r:=c.2) h3;rw [← h.2];omega
theorem fix_left {l r:List UInt8} {x:Gf} (h:pFixy l=some (x,r)):r.length+1<=l.length:=by
 unfold pFixy at h
 cases h1:Fx.pNum l with
 | none=>rw [h1] at h;cases h
 | some a=>
   rw [h1] at h
   cases h2:Fx.pByte a.2 with
   | none=>simp [h2] at h
   | some b=>
     cases h3:Fx.pNum b.2 with
     | none=>simp [h2,h3] at h
     | some c=>
       simp [h2,h3] at h;have y1:=num_left (n:=a.1) (r:=a.2) h1;have y2:=byte_left (n:=b.1) (r:=b.2) h2;have y3:=num_left (n:=c.1) (r:=c.2) h3;rw [← h.2];omega
theorem str_one (x:ByteArray):∀ u ∈ (#[Value.string x]:Array Value).toList,u.oneCell'=true:=by simp;rfl
theorem int_one (x:Int):∀ u ∈ (#[Value.int .i64 x]:Array Value).toList,u.oneCell'=true:=by simp;rfl
theorem strV_snoc' (l:List ByteArray) (x:ByteArray):strV (l++[x])=strV l++[.string x]:=by simp [strV]
def isTexts (B:Nat) (W:World) (xs:List ByteArray) (v:Value):Prop:=W.ownsRow B 9 1 v xs.length (strV xs)
theorem rdTextsN (rb n:Nat) (l:List UInt8) (w:World) (h:Fx.Rdr w rb l) (hl:l.length<=1000000) (hn:n<=9223372036854775807) :
 Calls Tryz.prog 175 #[.pointer (some ⟨rb,0,none⟩),.int .i64 n,.func (.func 137) #[] #[]] w fun e w'=>Rdd rb w (pMany pTx n l) (isTexts w.heap.size) e w':=by
 have HR:=hid h;have hlt:=h.lt
 obtain ⟨R,hR⟩:∃ R,pMany pTx n l=R:=⟨_,rfl⟩
 have HE:Hid (pAcc pTx [] n l=R):=pAcc_nil.trans hR;rw [hR];clear h hR;go_enter Tryz.func175,Tryz.ntmps175;go_wp2_with fail
 go_loopw [7,9] (fun u i wr=>∃ (k:Nat) (acc:List ByteArray) (t:List UInt8),k<=n/\i = .int .i64 k/\acc.length=k/\acc.length+t.length<=l.length/\pAcc pTx acc (n - k) t=R/\wr.ownsRow w.heap.size 9 1 u acc.length (strV acc)/\Fx.Rdr wr rb t/\w.grownBy wr (some rb)) (fun _ i _=>n - (intOf i).toNat)
 case atStart=>exact ⟨0,[],l,Nat.zero_le _,rfl,rfl,by simp,HE.out,World.ownsRow_nil _ _ _ _,HR.out,Fx.grown_refl _ _⟩
 case round=>
  obtain ⟨k,acc,t,hk,rfl,ha,ht,hacc,hrow,hrd,hg⟩:=hrel;have HRow:=hid hrow;have HG:=hid hg;have HAcc:=hid hacc;have hsz:=hg.size;have HC:=hid (rdText rb t wr hrd (by omega));have HRd:=hid hrd
  by_cases hkn:k<n
  . have HA:=hid ha
    have HT:=hid ht;clear hrow hrd hg hacc ha;go_wp2_with fail;refine HC.out.mono ?_;rintro e w1 ⟨hg,⟨hp,c,hc,rfl⟩ | ⟨x,r,v,hp,rfl,hv,hr⟩⟩
    . exact ⟨rfl,Fx.grown_trans HG.out hg,Or.inl ⟨by rw [← HAcc.out,show n - k=(n - (k+1))+1 by omega];exact pAcc_none hp,c,hc,rfl⟩⟩
    obtain rfl:v = .string x:=hv
    have HN:Hid (pAcc pTx (acc++[x]) (n - (k+1)) r=R):=by
     rw [← HAcc.out,show n - k=(n - (k+1))+1 by omega];exact (pAcc_some hp).symm
    have HL:=hid (tx_left hp);have HG1:=hid (Fx.grown_trans HG.out hg);have HR1:=hid hr;have HRow1:=hid (own_kept HRow.out hg (by omega));have hs1:=HG1.out.size;clear hg hr hp HRow HG HAcc HC HRd
    go_wp2_with (at_builtin;(refine append_two rfl (.tmp 11) (.tmp 15) 22 rfl w.heap.size 9 _ 1 16 Tryz.underlying22 Tryz.infoP9 rfl (by decide) w1 u7 acc.length (strV acc) rfl HRow1.out #[.string x] _ rfl rfl rfl (str_one x) (by omega) (by decide) (by omega) ?_);intro g2 c2 w2 ho2 hb2 hz2 hkp2 hkb2;have HO2:=hid ho2;have HB2:=hid hb2;clear ho2 hb2 hz2 hkp2 hkb2)
    go_roundw
    case rel=>
     refine ⟨k+1,acc++[x],r,by omega,by go_num,by rw [List.length_append,HA.out];rfl,?_,HN.out,?_,rdr_base HR1.out HB2.out hlt,grown_base HG1.out HB2.out⟩
     . have h1:=HL.out
       have h2:=HT.out;rw [List.length_append,List.length_singleton];omega
     . have:=HO2.out
       rw [List.length_append,List.length_singleton,strV_snoc'];exact this
    case measure=>simp [intOf];omega
  . obtain rfl:k=n:=by omega
    clear hrow hrd hg hacc;go_wp2_with fail
    go_returns
    have h0:=HAcc.out;rw [Nat.sub_self,pAcc_zero] at h0;exact ⟨HG.out,Or.inr ⟨acc,t,_,h0.symm,rfl,HRow.out,HRd.out⟩⟩
theorem rdTexts (rb:Nat) (l:List UInt8) (w:World) (h:Fx.Rdr w rb l) (hl:l.length<=1000000) :
 Calls Tryz.prog 138 #[.pointer (some ⟨rb,0,none⟩),.func (.func 137) #[] #[]] w fun e w'=>Rdd rb w (pLst pTx l) (isTexts w.heap.size) e w':=by
 have HC:=hid (rdCount rb l w h hl);have HP:Hid (pLst pTx l=(pCnt l).bind fun q=>pMany pTx q.1 q.2):=rfl;have hlt:=h.lt;clear h;go_enter Tryz.func138,Tryz.ntmps138;go_wp2_with fail;refine HC.out.mono ?_;rintro e w1 ⟨hg,⟨hp,c,hc,rfl⟩ | ⟨n,r,v,hp,rfl,hv,hr⟩⟩
 . exact ⟨rfl,hg,Or.inl ⟨by rw [HP.out,hp];rfl,c,hc,rfl⟩⟩
 obtain rfl:v = .int .i64 n:=hv
 have HP1:Hid (pLst pTx l=pMany pTx n r):=by show _=_;rw [HP.out,hp];rfl
 obtain ⟨h1,h2⟩:=cnt_left hp;have HG:=hid hg;have HN:=hid (rdTextsN rb n r w1 hr (by omega) h2);clear hg hr hp HP HC;go_wp2_with fail;refine HN.out.mono ?_;rintro e w2 ⟨hg,⟨hp,c,hc,rfl⟩ | ⟨x,r2,v,hp,rfl,hv,hr⟩⟩
 . exact ⟨rfl,Fx.grown_trans HG.out hg,Or.inl ⟨by rw [HP1.out,hp],c,hc,rfl⟩⟩
 have HE:Hid (Rdd rb w (pLst pTx l) (isTexts w.heap.size) (.returned v) w2):=⟨Fx.grown_trans HG.out hg,Or.inr ⟨x,r2,v,by rw [HP1.out,hp],rfl,ownsRow_lower hv HG.out.size,hr⟩⟩
 clear hg hv hr hp;go_wp2_with fail
 go_returns
 exact HE.out
def isNums (B:Nat) (W:World) (xs:List Int) (v:Value):Prop:=W.ownsRow B 3 1 v xs.length (intV xs)
theorem rdNumsN (rb n:Nat) (l:List UInt8) (w:World) (h:Fx.Rdr w rb l) (hl:l.length<=1000000) (hn:n<=9223372036854775807) :
 Calls Tryz.prog 179 #[.pointer (some ⟨rb,0,none⟩),.int .i64 n,.func (.func 139) #[] #[]] w fun e w'=>Rdd rb w (pMany Fx.pNum n l) (isNums w.heap.size) e w':=by
 have HR:=hid h;have hlt:=h.lt
 obtain ⟨R,hR⟩:∃ R,pMany Fx.pNum n l=R:=⟨_,rfl⟩
 have HE:Hid (pAcc Fx.pNum [] n l=R):=pAcc_nil.trans hR;rw [hR];clear h hR;go_enter Tryz.func179,Tryz.ntmps179;go_wp2_with fail
 go_loopw [7,9] (fun u i wr=>∃ (k:Nat) (acc:List Int) (t:List UInt8),k<=n/\i = .int .i64 k/\acc.length=k/\acc.length+t.length<=l.length/\pAcc Fx.pNum acc (n - k) t=R/\wr.ownsRow w.heap.size 3 1 u acc.length (intV acc)/\Fx.Rdr wr rb t/\w.grownBy wr (some rb)) (fun _ i _=>n - (intOf i).toNat)
 case atStart=>exact ⟨0,[],l,Nat.zero_le _,rfl,rfl,by simp,HE.out,World.ownsRow_nil _ _ _ _,HR.out,Fx.grown_refl _ _⟩
 case round=>
  obtain ⟨k,acc,t,hk,rfl,ha,ht,hacc,hrow,hrd,hg⟩:=hrel;have HRow:=hid hrow;have HG:=hid hg;have HAcc:=hid hacc;have hsz:=hg.size;have HC:=hid (rdNum rb t wr hrd (by omega));have HRd:=hid hrd
  by_cases hkn:k<n
  . have HA:=hid ha
    have HT:=hid ht;clear hrow hrd hg hacc ha;go_wp2_with fail;refine HC.out.mono ?_;rintro e w1 ⟨hg,⟨hp,c,hc,rfl⟩ | ⟨x,r,v,hp,rfl,hv,hr⟩⟩
    . exact ⟨rfl,Fx.grown_trans HG.out hg,Or.inl ⟨by rw [← HAcc.out,show n - k=(n - (k+1))+1 by omega];exact pAcc_none hp,c,hc,rfl⟩⟩
    obtain rfl:v = .int .i64 x:=hv
    have HN:Hid (pAcc Fx.pNum (acc++[x]) (n - (k+1)) r=R):=by
     rw [← HAcc.out,show n - k=(n - (k+1))+1 by omega];exact (pAcc_some hp).symm
    have HL:=hid (num_left hp);have HG1:=hid (Fx.grown_trans HG.out hg);have HR1:=hid hr;have HRow1:=hid (own_kept HRow.out hg (by omega));have hs1:=HG1.out.size;clear hg hr hp HRow HG HAcc HC HRd
    go_wp2_with (at_builtin;(refine append_two rfl (.tmp 11) (.tmp 15) 49 rfl w.heap.size 3 _ 1 8 Tryz.underlying49 Tryz.infoI rfl (by decide) w1 u7 acc.length (intV acc) rfl HRow1.out #[.int .i64 x] _ rfl rfl rfl (int_one x) (by omega) (by decide) (by omega) ?_);intro g2 c2 w2 ho2 hb2 hz2 hkp2 hkb2;have HO2:=hid ho2;have HB2:=hid hb2;clear ho2 hb2 hz2 hkp2 hkb2)
    go_roundw
    case rel=>
     refine ⟨k+1,acc++[x],r,by omega,by go_num,by rw [List.length_append,HA.out];rfl,?_,HN.out,?_,rdr_base HR1.out HB2.out hlt,grown_base HG1.out HB2.out⟩
     . have h1:=HL.out
       have h2:=HT.out;rw [List.length_append,List.length_singleton];omega
     . have:=HO2.out
       rw [List.length_append,List.length_singleton,intV_snoc];exact this
    case measure=>simp [intOf];omega
  . obtain rfl:k=n:=by omega
    clear hrow hrd hg hacc;go_wp2_with fail
    go_returns
    have h0:=HAcc.out;rw [Nat.sub_self,pAcc_zero] at h0;exact ⟨HG.out,Or.inr ⟨acc,t,_,h0.symm,rfl,HRow.out,HRd.out⟩⟩
theorem rdNums (rb:Nat) (l:List UInt8) (w:World) (h:Fx.Rdr w rb l) (hl:l.length<=1000000) :
 Calls Tryz.prog 145 #[.pointer (some ⟨rb,0,none⟩),.func (.func 139) #[] #[]] w fun e w'=>Rdd rb w (pLst Fx.pNum l) (isNums w.heap.size) e w':=by
 have HC:=hid (rdCount rb l w h hl);have HP:Hid (pLst Fx.pNum l=(pCnt l).bind fun q=>pMany Fx.pNum q.1 q.2):=rfl;have hlt:=h.lt;clear h;go_enter Tryz.func145,Tryz.ntmps145;go_wp2_with fail;refine HC.out.mono ?_;rintro e w1 ⟨hg,⟨hp,c,hc,rfl⟩ | ⟨n,r,v,hp,rfl,hv,hr⟩⟩
 . exact ⟨rfl,hg,Or.inl ⟨by rw [HP.out,hp];rfl,c,hc,rfl⟩⟩
 obtain rfl:v = .int .i64 n:=hv
 have HP1:Hid (pLst Fx.pNum l=pMany Fx.pNum n r):=by show _=_;rw [HP.out,hp];rfl
 obtain ⟨h1,h2⟩:=cnt_left hp;have HG:=hid hg;have HN:=hid (rdNumsN rb n r w1 hr (by omega) h2);clear hg hr hp HP HC;go_wp2_with fail;refine HN.out.mono ?_;rintro e w2 ⟨hg,⟨hp,c,hc,rfl⟩ | ⟨x,r2,v,hp,rfl,hv,hr⟩⟩
 . exact ⟨rfl,Fx.grown_trans HG.out hg,Or.inl ⟨by rw [HP1.out,hp],c,hc,rfl⟩⟩
 have HE:Hid (Rdd rb w (pLst Fx.pNum l) (isNums w.heap.size) (.returned v) w2):=⟨Fx.grown_trans HG.out hg,Or.inr ⟨x,r2,v,by rw [HP1.out,hp],rfl,ownsRow_lower hv HG.out.size,hr⟩⟩
 clear hg hv hr hp;go_wp2_with fail
 go_returns
 exact HE.out
def isInstrs (B:Nat) (W:World) (xs:List Gi) (v:Value):Prop:=W.ownsRow B 69 3 v xs.length (gisV xs)
theorem rdInstrsN (rb n:Nat) (l:List UInt8) (w:World) (h:Fx.Rdr w rb l) (hl:l.length<=1000000) (hn:n<=9223372036854775807) :
 Calls Tryz.prog 177 #[.pointer (some ⟨rb,0,none⟩),.int .i64 n,.func (.func 141) #[] #[]] w fun e w'=>Rdd rb w (pMany pInstr n l) (isInstrs w.heap.size) e w':=by
 have HR:=hid h;have hlt:=h.lt
 obtain ⟨R,hR⟩:∃ R,pMany pInstr n l=R:=⟨_,rfl⟩
 have HE:Hid (pAcc pInstr [] n l=R):=pAcc_nil.trans hR;rw [hR];clear h hR;go_enter Tryz.func177,Tryz.ntmps177;go_wp2_with fail
 go_loopw [7,9] (fun u i wr=>∃ (k:Nat) (acc:List Gi) (t:List UInt8),k<=n/\i = .int .i64 k/\acc.length=k/\acc.length+t.length<=l.length/\pAcc pInstr acc (n - k) t=R/\wr.ownsRow w.heap.size 69 3 u acc.length (gisV acc)/\Fx.Rdr wr rb t/\w.grownBy wr (some rb)) (fun _ i _=>n - (intOf i).toNat)
 case atStart=>exact ⟨0,[],l,Nat.zero_le _,rfl,rfl,by simp,HE.out,World.ownsRow_nil _ _ _ _,HR.out,Fx.grown_refl _ _⟩
 case round=>
  obtain ⟨k,acc,t,hk,rfl,ha,ht,hacc,hrow,hrd,hg⟩:=hrel;have HRow:=hid hrow;have HG:=hid hg;have HAcc:=hid hacc;have hsz:=hg.size;have HC:=hid (rdInstr rb t wr hrd (by omega));have HRd:=hid hrd
  by_cases hkn:k<n
  . have HA:=hid ha
    have HT:=hid ht;clear hrow hrd hg hacc ha;go_wp2_with fail;refine HC.out.mono ?_;rintro e w1 ⟨hg,⟨hp,c,hc,rfl⟩ | ⟨x,r,v,hp,rfl,hv,hr⟩⟩
    . exact ⟨rfl,Fx.grown_trans HG.out hg,Or.inl ⟨by rw [← HAcc.out,show n - k=(n - (k+1))+1 by omega];exact pAcc_none hp,c,hc,rfl⟩⟩
    obtain rfl:v = .agg #[.int .i64 x.op,.int .i64 x.a,.int .i64 x.b]:=hv
    have HN:Hid (pAcc pInstr (acc++[x]) (n - (k+1)) r=R):=by
     rw [← HAcc.out,show n - k=(n - (k+1))+1 by omega];exact (pAcc_some hp).symm
    have HL:=hid (instr_left hp);have HG1:=hid (Fx.grown_trans HG.out hg);have HR1:=hid hr;have HRow1:=hid (own_kept HRow.out hg (by omega));have hs1:=HG1.out.size;clear hg hr hp HRow HG HAcc HC HRd
    go_wp2_with (at_builtin;(refine append_two rfl (.tmp 11) (.tmp 15) 59 rfl w.heap.size 69 _ 3 24 Tryz.underlying59 Tryz.infoInstr rfl (by decide) w1 u7 acc.length (gisV acc) rfl HRow1.out #[.int .i64 x.op,.int .i64 x.a,.int .i64 x.b] _ rfl rfl rfl (gi_one x) (by omega) (by decide) (by omega) ?_);intro g2 c2 w2 ho2 hb2 hz2 hkp2 hkb2;have HO2:=hid ho2;have HB2:=hid hb2;clear ho2 hb2 hz2 hkp2 hkb2)
    go_roundw
    case rel=>
     refine ⟨k+1,acc++[x],r,by omega,by go_num,by rw [List.length_append,HA.out];rfl,?_,HN.out,?_,rdr_base HR1.out HB2.out hlt,grown_base HG1.out HB2.out⟩
     . have h1:=HL.out
       have h2:=HT.out;rw [List.length_append,List.length_singleton];omega
     . have:=HO2.out
       rw [List.length_append,List.length_singleton,gisV_snoc];exact this
    case measure=>simp [intOf];omega
  . obtain rfl:k=n:=by omega
    clear hrow hrd hg hacc;go_wp2_with fail
    go_returns
    have h0:=HAcc.out;rw [Nat.sub_self,pAcc_zero] at h0;exact ⟨HG.out,Or.inr ⟨acc,t,_,h0.symm,rfl,HRow.out,HRd.out⟩⟩
theorem rdInstrs (rb:Nat) (l:List UInt8) (w:World) (h:Fx.Rdr w rb l) (hl:l.length<=1000000) :
 Calls Tryz.prog 140 #[.pointer (some ⟨rb,0,none⟩),.func (.func 141) #[] #[]] w fun e w'=>Rdd rb w (pLst pInstr l) (isInstrs w.heap.size) e w':=by
 have HC:=hid (rdCount rb l w h hl);have HP:Hid (pLst pInstr l=(pCnt l).bind fun q=>pMany pInstr q.1 q.2):=rfl;have hlt:=h.lt;clear h;go_enter Tryz.func140,Tryz.ntmps140;go_wp2_with fail;refine HC.out.mono ?_;rintro e w1 ⟨hg,⟨hp,c,hc,rfl⟩ | ⟨n,r,v,hp,rfl,hv,hr⟩⟩
 . exact ⟨rfl,hg,Or.inl ⟨by rw [HP.out,hp];rfl,c,hc,rfl⟩⟩
 obtain rfl:v = .int .i64 n:=hv
 have HP1:Hid (pLst pInstr l=pMany pInstr n r):=by show _=_;rw [HP.out,hp];rfl
 obtain ⟨h1,h2⟩:=cnt_left hp;have HG:=hid hg;have HN:=hid (rdInstrsN rb n r w1 hr (by omega) h2);clear hg hr hp HP HC;go_wp2_with fail;refine HN.out.mono ?_;rintro e w2 ⟨hg,⟨hp,c,hc,rfl⟩ | ⟨x,r2,v,hp,rfl,hv,hr⟩⟩
 . exact ⟨rfl,Fx.grown_trans HG.out hg,Or.inl ⟨by rw [HP1.out,hp],c,hc,rfl⟩⟩
 have HE:Hid (Rdd rb w (pLst pInstr l) (isInstrs w.heap.size) (.returned v) w2):=⟨Fx.grown_trans HG.out hg,Or.inr ⟨x,r2,v,by rw [HP1.out,hp],rfl,ownsRow_lower hv HG.out.size,hr⟩⟩
 clear hg hv hr hp;go_wp2_with fail
 go_returns
 exact HE.out
def isFixes (B:Nat) (W:World) (xs:List Gf) (v:Value):Prop:=W.ownsRow B 67 3 v xs.length (gfsV xs)
theorem rdFixesN (rb n:Nat) (l:List UInt8) (w:World) (h:Fx.Rdr w rb l) (hl:l.length<=1000000) (hn:n<=9223372036854775807) :
 Calls Tryz.prog 178 #[.pointer (some ⟨rb,0,none⟩),.int .i64 n,.func (.func 144) #[] #[]] w fun e w'=>Rdd rb w (pMany pFixy n l) (isFixes w.heap.size) e w':=by
 have HR:=hid h;have hlt:=h.lt
 obtain ⟨R,hR⟩:∃ R,pMany pFixy n l=R:=⟨_,rfl⟩
 have HE:Hid (pAcc pFixy [] n l=R):=pAcc_nil.trans hR;rw [hR];clear h hR;go_enter Tryz.func178,Tryz.ntmps178;go_wp2_with fail
 go_loopw [7,9] (fun u i wr=>∃ (k:Nat) (acc:List Gf) (t:List UInt8),k<=n/\i = .int .i64 k/\acc.length=k/\acc.length+t.length<=l.length/\pAcc pFixy acc (n - k) t=R/\wr.ownsRow w.heap.size 67 3 u acc.length (gfsV acc)/\Fx.Rdr wr rb t/\w.grownBy wr (some rb)) (fun _ i _=>n - (intOf i).toNat)
 case atStart=>exact ⟨0,[],l,Nat.zero_le _,rfl,rfl,by simp,HE.out,World.ownsRow_nil _ _ _ _,HR.out,Fx.grown_refl _ _⟩
 case round=>
  obtain ⟨k,acc,t,hk,rfl,ha,ht,hacc,hrow,hrd,hg⟩:=hrel;have HRow:=hid hrow;have HG:=hid hg;have HAcc:=hid hacc;have hsz:=hg.size;have HC:=hid (rdFix rb t wr hrd (by omega));have HRd:=hid hrd
  by_cases hkn:k<n
  . have HA:=hid ha
    have HT:=hid ht;clear hrow hrd hg hacc ha;go_wp2_with fail;refine HC.out.mono ?_;rintro e w1 ⟨hg,⟨hp,c,hc,rfl⟩ | ⟨x,r,v,hp,rfl,hv,hr⟩⟩
    . exact ⟨rfl,Fx.grown_trans HG.out hg,Or.inl ⟨by rw [← HAcc.out,show n - k=(n - (k+1))+1 by omega];exact pAcc_none hp,c,hc,rfl⟩⟩
    obtain rfl:v = .agg #[.int .i64 x.at_,.int .i64 x.kind,.int .i64 x.m]:=hv
    have HN:Hid (pAcc pFixy (acc++[x]) (n - (k+1)) r=R):=by
     rw [← HAcc.out,show n - k=(n - (k+1))+1 by omega];exact (pAcc_some hp).symm
    have HL:=hid (fix_left hp);have HG1:=hid (Fx.grown_trans HG.out hg);have HR1:=hid hr;have HRow1:=hid (own_kept HRow.out hg (by omega));have hs1:=HG1.out.size;clear hg hr hp HRow HG HAcc HC HRd
    go_wp2_with (at_builtin;(refine append_two rfl (.tmp 11) (.tmp 15) 60 rfl w.heap.size 67 _ 3 24 Tryz.underlying60 Tryz.infoFix rfl (by decide) w1 u7 acc.length (gfsV acc) rfl HRow1.out #[.int .i64 x.at_,.int .i64 x.kind,.int .i64 x.m] _ rfl rfl rfl (gf_one x) (by omega) (by decide) (by omega) ?_);intro g2 c2 w2 ho2 hb2 hz2 hkp2 hkb2;have HO2:=hid ho2;have HB2:=hid hb2;clear ho2 hb2 hz2 hkp2 hkb2)
    go_roundw
    case rel=>
     refine ⟨k+1,acc++[x],r,by omega,by go_num,by rw [List.length_append,HA.out];rfl,?_,HN.out,?_,rdr_base HR1.out HB2.out hlt,grown_base HG1.out HB2.out⟩
     . have h1:=HL.out
       have h2:=HT.out;rw [List.length_append,List.length_singleton];omega
     . have:=HO2.out
       rw [List.length_append,List.length_singleton,gfsV_snoc];exact this
    case measure=>simp [intOf];omega
  . obtain rfl:k=n:=by omega
    clear hrow hrd hg hacc;go_wp2_with fail
    go_returns
    have h0:=HAcc.out;rw [Nat.sub_self,pAcc_zero] at h0;exact ⟨HG.out,Or.inr ⟨acc,t,_,h0.symm,rfl,HRow.out,HRd.out⟩⟩
theorem rdFixes (rb:Nat) (l:List UInt8) (w:World) (h:Fx.Rdr w rb l) (hl:l.length<=1000000) :
 Calls Tryz.prog 143 #[.pointer (some ⟨rb,0,none⟩),.func (.func 144) #[] #[]] w fun e w'=>Rdd rb w (pLst pFixy l) (isFixes w.heap.size) e w':=by
 have HC:=hid (rdCount rb l w h hl);have HP:Hid (pLst pFixy l=(pCnt l).bind fun q=>pMany pFixy q.1 q.2):=rfl;have hlt:=h.lt;clear h;go_enter Tryz.func143,Tryz.ntmps143;go_wp2_with fail;refine HC.out.mono ?_;rintro e w1 ⟨hg,⟨hp,c,hc,rfl⟩ | ⟨n,r,v,hp,rfl,hv,hr⟩⟩
 . exact ⟨rfl,hg,Or.inl ⟨by rw [HP.out,hp];rfl,c,hc,rfl⟩⟩
 obtain rfl:v = .int .i64 n:=hv
 have HP1:Hid (pLst pFixy l=pMany pFixy n r):=by show _=_;rw [HP.out,hp];rfl
 obtain ⟨h1,h2⟩:=cnt_left hp;have HG:=hid hg;have HN:=hid (rdFixesN rb n r w1 hr (by omega) h2);clear hg hr hp HP HC;go_wp2_with fail;refine HN.out.mono ?_;rintro e w2 ⟨hg,⟨hp,c,hc,rfl⟩ | ⟨x,r2,v,hp,rfl,hv,hr⟩⟩
 . exact ⟨rfl,Fx.grown_trans HG.out hg,Or.inl ⟨by rw [HP1.out,hp],c,hc,rfl⟩⟩
 have HE:Hid (Rdd rb w (pLst pFixy l) (isFixes w.heap.size) (.returned v) w2):=⟨Fx.grown_trans HG.out hg,Or.inr ⟨x,r2,v,by rw [HP1.out,hp],rfl,ownsRow_lower hv HG.out.size,hr⟩⟩
 clear hg hv hr hp;go_wp2_with fail
 go_returns
 exact HE.out
end Go.Proofs.YtndkhgakfodldaaGreatDoor

namespace Go.Proofs.YtndkhgakfodldaaGreatDoor
set_option maxRecDepth 100000
set_option maxHeartbeats 12800000
open Go.RowKit Go.Shelf
set_option linter.unusedSimpArgs false
set_option linter.unusedVariables false
theorem wf64_of {n:Int} (h : -9223372036854775808<=n/\n<=9223372036854775807):(Lit.int .i64 n).wf=true:=by
 have h1:IntKind.i64.min = -9223372036854775808:=by decide
 have h2:IntKind.i64.max=9223372036854775807:=by decide
 simp [Lit.wf,h1,h2];omega
def W64 (n:Int):Prop:=(Lit.int .i64 n).wf=true
theorem gis_valw {W:World} {A:Nat->Prop}:∀ (l:List Gi),(∀ i ∈ l,W64 i.op/\W64 i.a/\W64 i.b)->DVals W A (gisD l) (gisV l)
 | [],_=>DVals.nil
 | i :: r,h=>by
   have h1:=h i (List.mem_cons_self ..);simp only [gisD,gisV,List.flatMap_cons];exact DVals.append (.cons (dint h1.1) (.cons (dint h1.2.1) (.cons (dint h1.2.2) .nil))) (gis_valw r (fun j hj=>h j (List.mem_cons_of_mem _ hj)))
theorem gfs_valw {W:World} {A:Nat->Prop}:∀ (l:List Gf),(∀ i ∈ l,W64 i.at_/\W64 i.kind/\W64 i.m)->DVals W A (gfsD l) (gfsV l)
 | [],_=>DVals.nil
 | i :: r,h=>by
   have h1:=h i (List.mem_cons_self ..);simp only [gfsD,gfsV,List.flatMap_cons];exact DVals.append (.cons (dint h1.1) (.cons (dint h1.2.1) (.cons (dint h1.2.2) .nil))) (gfs_valw r (fun j hj=>h j (List.mem_cons_of_mem _ hj)))
theorem ints_valw {W:World} {A:Nat->Prop}:∀ (l:List Int),(∀ i ∈ l,W64 i)->DVals W A (intD l) (intV l)
 | [],_=>DVals.nil
 | i :: r,h=>.cons (dint (h i (List.mem_cons_self ..))) (ints_valw r (fun j hj=>h j (List.mem_cons_of_mem _ hj)))
theorem strs_valw {W:World} {A:Nat->Prop}:∀ (l:List ByteArray),(∀ s ∈ l,s.size<=maxLen)->DVals W A (strsD l) (strV l)
 | [],_=>DVals.nil
 | i :: r,h=>.cons (dstr (h i (List.mem_cons_self ..))) (strs_valw r (fun j hj=>h j (List.mem_cons_of_mem _ hj)))
theorem dat_rowA {W:World} {base lo:Nat} {t:TypeId} {sz:Nat} {a:Option Addr} {n cap:Nat} {xs:List Value} {ds:List D} (h:W.ownsRow base t sz (.slice a n cap) n xs) (hlo:lo<=base) (hx:DVals W (lo<=·) ds xs) (h1:n<=ds.length) (h2:ds.length<=17592186044416):DAt W (lo<=·) a n ds:=by
 refine ⟨h1,h2,?_⟩
 rcases h.2 with ⟨e,h0⟩ | ⟨g,cap',cur,e,hB,hg,_⟩
 . exact Or.inl h0
 . cases e
   refine Or.inr ⟨g,0,xs,rfl,Nat.le_trans hlo hB,lt_of_heap hg,fun j u hj=>?_,hx⟩;have:=h.cells (g:=g) rfl j u hj;rw [show (⟨g,0,none⟩:Addr).add j=⟨g,j,none⟩ from by unfold Addr.add;split<;>simp_all] at this
   rw [Nat.zero_add];exact this
structure OvLo (w:World) (lo:Nat) (o:Ob) (x1:Option Addr) (x3:Option Addr) (x4:Option Addr) (x5:Option Addr):Prop where
 wn:o.name.size<=maxLen
 uses:DAt w (lo<=·) x1 o.uses.length (strsD o.uses)
 wd:(Lit.int .i64 o.data).wf=true
 code:DAt w (lo<=·) x3 o.code.length (gisD o.code)
 fixes:DAt w (lo<=·) x4 o.fixes.length (gfsD o.fixes)
 entries:DAt w (lo<=·) x5 o.entries.length (intD o.entries)
 wm:(Lit.int .i64 o.main).wf=true
theorem OvLo.moves {w w':World} {lo lo':Nat} {o:Ob} {x1 x3 x4 x5:Option Addr} (h:OvLo w lo o x1 x3 x4 x5) (m:Moves w (lo<=·) w' (lo'<=·)):OvLo w' lo' o x1 x3 x4 x5:=
 ⟨h.wn,h.uses.moves m,h.wd,h.code.moves m,h.fixes.moves m,h.entries.moves m,h.wm⟩
theorem OvLo.ov {w:World} {lo:Nat} {o:Ob} {x1 x3 x4 x5:Option Addr} (h:OvLo w lo o x1 x3 x4 x5):OvAt w o x1 x3 x4 x5:=
 have m:Moves w (lo<=·) w Tt:=⟨Nat.le_refl _,fun b hb _=>⟨trivial,rfl⟩⟩
 ⟨h.wn,h.uses.moves m,h.wd,h.code.moves m,h.fixes.moves m,h.entries.moves m,h.wm⟩
theorem pMany_all {α:Type} {p:List UInt8->Option (α × List UInt8)} {Q:α->Prop} (hQ:∀ l x r,p l=some (x,r)->Q x/\r.length+1<=l.length):∀ (n:Nat) (l:List UInt8) (xs:List α) (r:List UInt8),pMany p n l=some (xs,r)->(∀ x ∈ xs,Q x)/\xs.length+r.length<=l.length
 | 0,l,xs,r,h=>by
   cases h;exact ⟨fun x hx=>(by cases hx),by simp⟩
 | n + 1,l,xs,r,h=>by
   unfold pMany at h
   cases h1:p l with
   | none=>rw [h1] at h;cases h
   | some a=>
     rw [h1] at h
     cases h2:pMany p n a.2 with
     | none=>simp [h2] at h
     | some b=>
       simp [h2] at h;obtain ⟨q1,q2⟩:=hQ l a.1 a.2 h1;obtain ⟨q3,q4⟩:=pMany_all hQ n a.2 b.1 b.2 h2;rw [← h.1,← h.2];refine ⟨fun x hx=>?_,by rw [List.length_cons];omega⟩
       rcases List.mem_cons.1 hx with rfl | hx
       . exact q1
       . exact q3 x hx
theorem pLst_all {α:Type} {p:List UInt8->Option (α × List UInt8)} {Q:α->Prop} (hQ:∀ l x r,p l=some (x,r)->Q x/\r.length+1<=l.length) {l r:List UInt8} {xs:List α} (h:pLst p l=some (xs,r)):(∀ x ∈ xs,Q x)/\xs.length+r.length<=l.length:=by
 unfold pLst at h
 cases h1:pCnt l with
 | none=>rw [h1] at h;cases h
 | some q=>
   rw [h1] at h;have h2:=pMany_all hQ q.1 q.2 xs r h;have h3:=(cnt_left (n:=q.1) (r:=q.2) h1).1;exact ⟨h2.1,by omega⟩
theorem tx_all (l:List UInt8) (x:ByteArray) (r:List UInt8) (h:pTx l=some (x,r)):x.size<=255/\r.length+1<=l.length:=by
 refine ⟨?_,tx_left h⟩;unfold pTx at h
 cases hq:Fx.pText l with
 | none=>rw [hq] at h;cases h
 | some q=>
   rw [hq] at h;cases h;rw [Fx.strOf_size];unfold Fx.pText at hq
   cases hb:Fx.pByte l with
   | none=>rw [hb] at hq;cases hq
   | some z=>
     rw [hb] at hq;have h1:=Fx.pByte_lo (n:=z.1) (r:=z.2) hb;have h2:=(Fx.pTake_len (n:=z.1.toNat) (l:=z.2) (x:=q.1) (r:=q.2) hq).1;omega
theorem num_all (l:List UInt8) (x:Int) (r:List UInt8) (h:Fx.pNum l=some (x,r)):W64 x/\r.length+1<=l.length:=⟨wf64_of (numL_fit h),by have:=num_left h;omega⟩
theorem byte_wf {l r:List UInt8} {x:Int} (h:Fx.pByte l=some (x,r)):W64 x:=wf64_of (by have:=Fx.pByte_lo h;omega)
theorem instr_all (l:List UInt8) (x:Gi) (r:List UInt8) (h:pInstr l=some (x,r)):(W64 x.op/\W64 x.a/\W64 x.b)/\r.length+1<=l.length:=by
 refine ⟨?_,instr_left h⟩;unfold pInstr at h
 cases h1:Fx.pByte l with
 | none=>rw [h1] at h;cases h
 | some a=>
   rw [h1] at h
   cases h2:Fx.pNum a.2 with
   | none=>simp [h2] at h
   | some b=>
     cases h3:Fx.pNum b.2 with
     | none=>simp [h2,h3] at h
     | some c=>
       simp [h2,h3] at h;rw [← h.1];exact ⟨byte_wf (x:=a.1) (r:=a.2) h1,(num_all _ b.1 b.2 h2).1,(num_all _ c.1 c.2 h3).1⟩
theorem fix_all (l:List UInt8) (x:Gf) (r:List UInt8) (h:pFixy l=some (x,r)):(W64 x.at_/\W64 x.kind/\W64 x.m)/\r.length+1<=l.length:=by
 refine ⟨?_,fix_left h⟩;unfold pFixy at h
 cases h1:Fx.pNum l with
 | none=>rw [h1] at h;cases h
 | some a=>
   rw [h1] at h
   cases h2:Fx.pByte a.2 with
   | none=>simp [h2] at h
   | some b=>
     cases h3:Fx.pNum b.2 with
     | none=>simp [h2,h3] at h
     | some c=>
       simp [h2,h3] at h;rw [← h.1];exact ⟨(num_all _ a.1 a.2 h1).1,byte_wf (x:=b.1) (r:=b.2) h2,(num_all _ c.1 c.2 h3).1⟩
def pObj (l:List UInt8):Option (Ob × List UInt8):=(pTx l).bind fun a=>(pLst pTx a.2).bind fun b=>(Fx.pNum b.2).bind fun c=>(pLst pInstr c.2).bind fun d=>(pLst pFixy d.2).bind fun e=>(pLst Fx.pNum e.2).bind fun f=>(Fx.pNum f.2).map fun g=>(⟨a.1,b.1,c.1,d.1,e.1,f.1,g.1⟩,g.2)
def isOb (lo:Nat) (W:World) (o:Ob) (v:Value):Prop:=∃ x1 y1 x3 y3 x4 y4 x5 y5,v = .agg #[.string o.name,.slice x1 o.uses.length y1,.int .i64 o.data,.slice x3 o.code.length y3,.slice x4 o.fixes.length y4,.slice x5 o.entries.length y5,.int .i64 o.main]/\OvLo W lo o x1 x3 x4 x5/\o.uses.length<=y1
theorem own_put {W:World} {B:Nat} {e:TypeId} {size:Nat} {v:Value} {n:Nat} {xs:List Value} (h:W.ownsRow B e size v n xs) {a:Addr} {u:Value} (ha:a.block<B):(W.setCell a u).ownsRow B e size v n xs:=
 ownsRow_keep h (fun k hk=>heap_set_ne (by have:=(h.lt k hk).1;omega) u)
theorem own_lo {W:World} {B B':Nat} {e:TypeId} {sz:Nat} {v:Value} {n:Nat} {xs:List Value} (h:W.ownsRow B e sz v n xs) (hb:B'<=B):W.ownsRow B' e sz v n xs:=ownsRow_lower h hb
theorem fin7 {W:World} {B b:Nat} {e:TypeId} {sz:Nat} {v:Value} {n:Nat} {xs:List Value} (h:W.ownsRow B e sz v n xs) (v0 v1 v2 v3 v4 v5 v6:Value) (hb:b<B) :
 (((((((W.setCell ⟨b,0,none⟩ v0).setCell ⟨b,1,none⟩ v1).setCell ⟨b,2,none⟩ v2).setCell ⟨b,3,none⟩ v3).setCell ⟨b,4,none⟩ v4).setCell ⟨b,5,none⟩ v5).setCell ⟨b,6,none⟩ v6).ownsRow B e sz v n xs:=
 own_put (own_put (own_put (own_put (own_put (own_put (own_put h (a:=⟨b,0,none⟩) hb) (a:=⟨b,1,none⟩) hb) (a:=⟨b,2,none⟩) hb) (a:=⟨b,3,none⟩) hb) (a:=⟨b,4,none⟩) hb) (a:=⟨b,5,none⟩) hb) (a:=⟨b,6,none⟩) hb
theorem rdObj (rb:Nat) (l0:List UInt8) (w:World) (h:Fx.Rdr w rb l0) (hl:l0.length<=1000000):Calls Tryz.prog 96 #[.pointer (some ⟨rb,0,none⟩)] w fun e w'=>Rdd rb w (pObj l0) (isOb w.heap.size) e w':=by
 have hlt:=h.lt
 have hn0:w.heap.size≠rb:=by omega
 have hn1:w.heap.size+1≠rb:=by omega
 have hb0:=bl2 w (.cells #[.string ⟨#[]⟩,.slice none 0 0,.int .i64 0,.slice none 0 0,.slice none 0 0,.slice none 0 0,.int .i64 0] 62) (.cells #[.string ⟨#[]⟩,.slice none 0 0,.int .i64 0,.slice none 0 0,.slice none 0 0,.slice none 0 0,.int .i64 0] 62);have P0:Hid (pObj l0=(pTx l0).bind fun a=>(pLst pTx a.2).bind fun b=>(Fx.pNum b.2).bind fun c=>(pLst pInstr c.2).bind fun d=>(pLst pFixy d.2).bind fun e=>(pLst Fx.pNum e.2).bind fun f=>(Fx.pNum f.2).map fun g=>(⟨a.1,b.1,c.1,d.1,e.1,f.1,g.1⟩,g.2)):=rfl;have HX0:=hid (heap_old (o:=.cells #[.string ⟨#[]⟩,.slice none 0 0,.int .i64 0,.slice none 0 0,.slice none 0 0,.slice none 0 0,.int .i64 0] 62) (heap_newP w (.cells #[.string ⟨#[]⟩,.slice none 0 0,.int .i64 0,.slice none 0 0,.slice none 0 0,.slice none 0 0,.int .i64 0] 62)));have HI0:=hid (new_1 w (.cells #[.string ⟨#[]⟩,.slice none 0 0,.int .i64 0,.slice none 0 0,.slice none 0 0,.slice none 0 0,.int .i64 0] 62) (.cells #[.string ⟨#[]⟩,.slice none 0 0,.int .i64 0,.slice none 0 0,.slice none 0 0,.slice none 0 0,.int .i64 0] 62))
 have HR0:=hid (h.below hb0);have HG0:Hid (w.grownBy ((w.alloc (.cells #[.string ⟨#[]⟩,.slice none 0 0,.int .i64 0,.slice none 0 0,.slice none 0 0,.slice none 0 0,.int .i64 0] 62)).alloc (.cells #[.string ⟨#[]⟩,.slice none 0 0,.int .i64 0,.slice none 0 0,.slice none 0 0,.slice none 0 0,.int .i64 0] 62)) (some rb)):=grown_after hb0 (Fx.grown_refl _ _);clear h hb0;go_enter Tryz.func96,Tryz.ntmps96;go_wp2_with fail;refine (rdText rb l0 _ HR0.out (by omega)).mono ?_;rintro e w1 ⟨hg,⟨hp,c,hc,rfl⟩ | ⟨z0,l1,v0,hp,rfl,hv,hr⟩⟩
 . exact ⟨rfl,Fx.grown_trans HG0.out hg,Or.inl ⟨by rw [P0.out,hp];rfl,c,hc,rfl⟩⟩
 obtain rfl:v0 = .string z0:=hv;have A0:=hid (tx_all _ _ _ hp)
 have P1:Hid (pObj l0=(pLst pTx l1).bind fun b=>(Fx.pNum b.2).bind fun c=>(pLst pInstr c.2).bind fun d=>(pLst pFixy d.2).bind fun e=>(pLst Fx.pNum e.2).bind fun f=>(Fx.pNum f.2).map fun g=>(⟨z0,b.1,c.1,d.1,e.1,f.1,g.1⟩,g.2)):=by show _=_;rw [P0.out,hp];rfl
 have hln1:l1.length<=1000000:=by have:=A0.out.2;omega
 have HXa:Hid (w1.heap[w.heap.size]? = some (.cells #[.string ⟨#[]⟩,.slice none 0 0,.int .i64 0,.slice none 0 0,.slice none 0 0,.slice none 0 0,.int .i64 0] 62)):=gk hg HX0.out hn0;have HIa:Hid (w1.heap[w.heap.size+1]? = some (.cells #[.string ⟨#[]⟩,.slice none 0 0,.int .i64 0,.slice none 0 0,.slice none 0 0,.slice none 0 0,.int .i64 0] 62)):=gk hg HI0.out hn1;have HGa:=hid (Fx.grown_trans HG0.out hg);have HX1:Hid ((w1.setCell ⟨w.heap.size+1,0,none⟩ (.string z0)).heap[w.heap.size]? = some (.cells #[.string ⟨#[]⟩,.slice none 0 0,.int .i64 0,.slice none 0 0,.slice none 0 0,.slice none 0 0,.int .i64 0] 62)):=(heap_set_ne (p:=⟨w.heap.size+1,0,none⟩) (by show w.heap.size≠w.heap.size+1;omega) _).trans HXa.out;have HI1:Hid ((w1.setCell ⟨w.heap.size+1,0,none⟩ (.string z0)).heap[w.heap.size+1]? = some (.cells #[.string z0,.slice none 0 0,.int .i64 0,.slice none 0 0,.slice none 0 0,.slice none 0 0,.int .i64 0] 62)):=heap_set HIa.out _
 have HR1:Hid (Fx.Rdr (w1.setCell ⟨w.heap.size+1,0,none⟩ (.string z0)) rb l1):=rdr_put hr hn1;have HG1:Hid (w.grownBy (w1.setCell ⟨w.heap.size+1,0,none⟩ (.string z0)) (some rb)):=grown_put HGa.out (by show w.heap.size<=w.heap.size+1;omega);obtain ⟨i0,i1,i2,i3,i4,i5,i6,iz⟩:=cells7 HIa.out
 have ifz:∀ j,w1.frozen? ⟨w.heap.size+1,j,none⟩=false:=fun j=>Lib.frozen_of_heap HIa.out j
 clear hg hr hp HXa HIa HGa HX0 HI0 HR0 HG0 P0;go_wp2_with fail;clear i0 i1 i2 i3 i4 i5 i6 iz ifz;refine (rdTexts rb l1 _ HR1.out (by omega)).mono ?_;rintro e w2 ⟨hg,⟨hp,c,hc,rfl⟩ | ⟨z1,l2,v1,hp,rfl,hv,hr⟩⟩
 . exact ⟨rfl,Fx.grown_trans HG1.out hg,Or.inl ⟨by rw [P1.out,hp];rfl,c,hc,rfl⟩⟩
 obtain ⟨x1,y1,rfl,hcap1, -⟩:=ownsRow_form hv;have K1:=hid (own_lo (B':=w.heap.size+2) hv (by have:=HG1.out.size;have:=lt_of_heap HI1.out;omega));have C1:=hid hcap1;clear hcap1;have A1:=hid (pLst_all tx_all hp)
 have P2:Hid (pObj l0=(Fx.pNum l2).bind fun c=>(pLst pInstr c.2).bind fun d=>(pLst pFixy d.2).bind fun e=>(pLst Fx.pNum e.2).bind fun f=>(Fx.pNum f.2).map fun g=>(⟨z0,z1,c.1,d.1,e.1,f.1,g.1⟩,g.2)):=by show _=_;rw [P1.out,hp];rfl
 have hln2:l2.length<=1000000:=by have:=A1.out.2;omega
 have HXa:Hid (w2.heap[w.heap.size]? = some (.cells #[.string ⟨#[]⟩,.slice none 0 0,.int .i64 0,.slice none 0 0,.slice none 0 0,.slice none 0 0,.int .i64 0] 62)):=gk hg HX1.out hn0;have HIa:Hid (w2.heap[w.heap.size+1]? = some (.cells #[.string z0,.slice none 0 0,.int .i64 0,.slice none 0 0,.slice none 0 0,.slice none 0 0,.int .i64 0] 62)):=gk hg HI1.out hn1;have HGa:=hid (Fx.grown_trans HG1.out hg);have HX2:Hid ((w2.setCell ⟨w.heap.size+1,1,none⟩ (.slice x1 z1.length y1)).heap[w.heap.size]? = some (.cells #[.string ⟨#[]⟩,.slice none 0 0,.int .i64 0,.slice none 0 0,.slice none 0 0,.slice none 0 0,.int .i64 0] 62)):=(heap_set_ne (p:=⟨w.heap.size+1,1,none⟩) (by show w.heap.size≠w.heap.size+1;omega) _).trans HXa.out;have HI2:Hid ((w2.setCell ⟨w.heap.size+1,1,none⟩ (.slice x1 z1.length y1)).heap[w.heap.size+1]? = some (.cells #[.string z0,.slice x1 z1.length y1,.int .i64 0,.slice none 0 0,.slice none 0 0,.slice none 0 0,.int .i64 0] 62)):=heap_set HIa.out _
 have HR2:Hid (Fx.Rdr (w2.setCell ⟨w.heap.size+1,1,none⟩ (.slice x1 z1.length y1)) rb l2):=rdr_put hr hn1;have HG2:Hid (w.grownBy (w2.setCell ⟨w.heap.size+1,1,none⟩ (.slice x1 z1.length y1)) (some rb)):=grown_put HGa.out (by show w.heap.size<=w.heap.size+1;omega);have K1:=hid (own_put K1.out (a:=⟨w.heap.size+1,1,none⟩) (u:=.slice x1 z1.length y1) (by show w.heap.size+1<w.heap.size+2;omega));obtain ⟨i0,i1,i2,i3,i4,i5,i6,iz⟩:=cells7 HIa.out
 have ifz:∀ j,w2.frozen? ⟨w.heap.size+1,j,none⟩=false:=fun j=>Lib.frozen_of_heap HIa.out j
 clear hg hr hp hv HXa HIa HGa HX1 HI1 HR1 HG1 P1;go_wp2_with fail;clear i0 i1 i2 i3 i4 i5 i6 iz ifz;refine (rdNum rb l2 _ HR2.out (by omega)).mono ?_;rintro e w3 ⟨hg,⟨hp,c,hc,rfl⟩ | ⟨z2,l3,v2,hp,rfl,hv,hr⟩⟩
 . exact ⟨rfl,Fx.grown_trans HG2.out hg,Or.inl ⟨by rw [P2.out,hp];rfl,c,hc,rfl⟩⟩
 obtain rfl:v2 = .int .i64 z2:=hv;have A2:=hid (num_all _ _ _ hp)
 have P3:Hid (pObj l0=(pLst pInstr l3).bind fun d=>(pLst pFixy d.2).bind fun e=>(pLst Fx.pNum e.2).bind fun f=>(Fx.pNum f.2).map fun g=>(⟨z0,z1,z2,d.1,e.1,f.1,g.1⟩,g.2)):=by show _=_;rw [P2.out,hp];rfl
 have hln3:l3.length<=1000000:=by have:=A2.out.2;omega
 have HXa:Hid (w3.heap[w.heap.size]? = some (.cells #[.string ⟨#[]⟩,.slice none 0 0,.int .i64 0,.slice none 0 0,.slice none 0 0,.slice none 0 0,.int .i64 0] 62)):=gk hg HX2.out hn0;have HIa:Hid (w3.heap[w.heap.size+1]? = some (.cells #[.string z0,.slice x1 z1.length y1,.int .i64 0,.slice none 0 0,.slice none 0 0,.slice none 0 0,.int .i64 0] 62)):=gk hg HI2.out hn1;have HGa:=hid (Fx.grown_trans HG2.out hg);have K1:=hid (own_kept K1.out hg (by omega));have HX3:Hid ((w3.setCell ⟨w.heap.size+1,2,none⟩ (.int .i64 z2)).heap[w.heap.size]? = some (.cells #[.string ⟨#[]⟩,.slice none 0 0,.int .i64 0,.slice none 0 0,.slice none 0 0,.slice none 0 0,.int .i64 0] 62)):=(heap_set_ne (p:=⟨w.heap.size+1,2,none⟩) (by show w.heap.size≠w.heap.size+1;omega) _).trans HXa.out;have HI3:Hid ((w3.setCell ⟨w.heap.size+1,2,none⟩ (.int .i64 z2)).heap[w.heap.size+1]? = some (.cells #[.string z0,.slice x1 z1.length y1,.int .i64 z2,.slice none 0 0,.slice none 0 0,.slice none 0 0,.int .i64 0] 62)):=heap_set HIa.out _
 have HR3:Hid (Fx.Rdr (w3.setCell ⟨w.heap.size+1,2,none⟩ (.int .i64 z2)) rb l3):=rdr_put hr hn1;have HG3:Hid (w.grownBy (w3.setCell ⟨w.heap.size+1,2,none⟩ (.int .i64 z2)) (some rb)):=grown_put HGa.out (by show w.heap.size<=w.heap.size+1;omega);have K1:=hid (own_put K1.out (a:=⟨w.heap.size+1,2,none⟩) (u:=.int .i64 z2) (by show w.heap.size+1<w.heap.size+2;omega));obtain ⟨i0,i1,i2,i3,i4,i5,i6,iz⟩:=cells7 HIa.out
 have ifz:∀ j,w3.frozen? ⟨w.heap.size+1,j,none⟩=false:=fun j=>Lib.frozen_of_heap HIa.out j
 clear hg hr hp HXa HIa HGa HX2 HI2 HR2 HG2 P2;go_wp2_with fail;clear i0 i1 i2 i3 i4 i5 i6 iz ifz;refine (rdInstrs rb l3 _ HR3.out (by omega)).mono ?_;rintro e w4 ⟨hg,⟨hp,c,hc,rfl⟩ | ⟨z3,l4,v3,hp,rfl,hv,hr⟩⟩
 . exact ⟨rfl,Fx.grown_trans HG3.out hg,Or.inl ⟨by rw [P3.out,hp];rfl,c,hc,rfl⟩⟩
 obtain ⟨x3,y3,rfl,hcap3, -⟩:=ownsRow_form hv;have K3:=hid (own_lo (B':=w.heap.size+2) hv (by have:=HG3.out.size;have:=lt_of_heap HI3.out;omega));have C3:=hid hcap3;clear hcap3;have A3:=hid (pLst_all instr_all hp)
 have P4:Hid (pObj l0=(pLst pFixy l4).bind fun e=>(pLst Fx.pNum e.2).bind fun f=>(Fx.pNum f.2).map fun g=>(⟨z0,z1,z2,z3,e.1,f.1,g.1⟩,g.2)):=by show _=_;rw [P3.out,hp];rfl
 have hln4:l4.length<=1000000:=by have:=A3.out.2;omega
 have HXa:Hid (w4.heap[w.heap.size]? = some (.cells #[.string ⟨#[]⟩,.slice none 0 0,.int .i64 0,.slice none 0 0,.slice none 0 0,.slice none 0 0,.int .i64 0] 62)):=gk hg HX3.out hn0;have HIa:Hid (w4.heap[w.heap.size+1]? = some (.cells #[.string z0,.slice x1 z1.length y1,.int .i64 z2,.slice none 0 0,.slice none 0 0,.slice none 0 0,.int .i64 0] 62)):=gk hg HI3.out hn1;have HGa:=hid (Fx.grown_trans HG3.out hg);have K1:=hid (own_kept K1.out hg (by omega));have HX4:Hid ((w4.setCell ⟨w.heap.size+1,3,none⟩ (.slice x3 z3.length y3)).heap[w.heap.size]? = some (.cells #[.string ⟨#[]⟩,.slice none 0 0,.int .i64 0,.slice none 0 0,.slice none 0 0,.slice none 0 0,.int .i64 0] 62)):=(heap_set_ne (p:=⟨w.heap.size+1,3,none⟩) (by show w.heap.size≠w.heap.size+1;omega) _).trans HXa.out;have HI4:Hid ((w4.setCell ⟨w.heap.size+1,3,none⟩ (.slice x3 z3.length y3)).heap[w.heap.size+1]? = some (.cells #[.string z0,.slice x1 z1.length y1,.int .i64 z2,.slice x3 z3.length y3,.slice none 0 0,.slice none 0 0,.int .i64 0] 62)):=heap_set HIa.out _
 have HR4:Hid (Fx.Rdr (w4.setCell ⟨w.heap.size+1,3,none⟩ (.slice x3 z3.length y3)) rb l4):=rdr_put hr hn1;have HG4:Hid (w.grownBy (w4.setCell ⟨w.heap.size+1,3,none⟩ (.slice x3 z3.length y3)) (some rb)):=grown_put HGa.out (by show w.heap.size<=w.heap.size+1;omega);have K1:=hid (own_put K1.out (a:=⟨w.heap.size+1,3,none⟩) (u:=.slice x3 z3.length y3) (by show w.heap.size+1<w.heap.size+2;omega));have K3:=hid (own_put K3.out (a:=⟨w.heap.size+1,3,none⟩) (u:=.slice x3 z3.length y3) (by show w.heap.size+1<w.heap.size+2;omega));obtain ⟨i0,i1,i2,i3,i4,i5,i6,iz⟩:=cells7 HIa.out
 have ifz:∀ j,w4.frozen? ⟨w.heap.size+1,j,none⟩=false:=fun j=>Lib.frozen_of_heap HIa.out j
 clear hg hr hp hv HXa HIa HGa HX3 HI3 HR3 HG3 P3;go_wp2_with fail;clear i0 i1 i2 i3 i4 i5 i6 iz ifz;refine (rdFixes rb l4 _ HR4.out (by omega)).mono ?_;rintro e w5 ⟨hg,⟨hp,c,hc,rfl⟩ | ⟨z4,l5,v4,hp,rfl,hv,hr⟩⟩
 . exact ⟨rfl,Fx.grown_trans HG4.out hg,Or.inl ⟨by rw [P4.out,hp];rfl,c,hc,rfl⟩⟩
 obtain ⟨x4,y4,rfl,hcap4, -⟩:=ownsRow_form hv;have K4:=hid (own_lo (B':=w.heap.size+2) hv (by have:=HG4.out.size;have:=lt_of_heap HI4.out;omega));have C4:=hid hcap4;clear hcap4;have A4:=hid (pLst_all fix_all hp)
 have P5:Hid (pObj l0=(pLst Fx.pNum l5).bind fun f=>(Fx.pNum f.2).map fun g=>(⟨z0,z1,z2,z3,z4,f.1,g.1⟩,g.2)):=by show _=_;rw [P4.out,hp];rfl
 have hln5:l5.length<=1000000:=by have:=A4.out.2;omega
 have HXa:Hid (w5.heap[w.heap.size]? = some (.cells #[.string ⟨#[]⟩,.slice none 0 0,.int .i64 0,.slice none 0 0,.slice none 0 0,.slice none 0 0,.int .i64 0] 62)):=gk hg HX4.out hn0;have HIa:Hid (w5.heap[w.heap.size+1]? = some (.cells #[.string z0,.slice x1 z1.length y1,.int .i64 z2,.slice x3 z3.length y3,.slice none 0 0,.slice none 0 0,.int .i64 0] 62)):=gk hg HI4.out hn1;have HGa:=hid (Fx.grown_trans HG4.out hg);have K1:=hid (own_kept K1.out hg (by omega));have K3:=hid (own_kept K3.out hg (by omega));have HX5:Hid ((w5.setCell ⟨w.heap.size+1,4,none⟩ (.slice x4 z4.length y4)).heap[w.heap.size]? = some (.cells #[.string ⟨#[]⟩,.slice none 0 0,.int .i64 0,.slice none 0 0,.slice none 0 0,.slice none 0 0,.int .i64 0] 62)):=(heap_set_ne (p:=⟨w.heap.size+1,4,none⟩) (by show w.heap.size≠w.heap.size+1;omega) _).trans HXa.out;have HI5:Hid ((w5.setCell ⟨w.heap.size+1,4,none⟩ (.slice x4 z4.length y4)).heap[w.heap.size+1]? = some (.cells #[.string z0,.slice x1 z1.length y1,.int .i64 z2,.slice x3 z3.length y3,.slice x4 z4.length y4,.slice none 0 0,.int .i64 0] 62)):=heap_set HIa.out _
 have HR5:Hid (Fx.Rdr (w5.setCell ⟨w.heap.size+1,4,none⟩ (.slice x4 z4.length y4)) rb l5):=rdr_put hr hn1;have HG5:Hid (w.grownBy (w5.setCell ⟨w.heap.size+1,4,none⟩ (.slice x4 z4.length y4)) (some rb)):=grown_put HGa.out (by show w.heap.size<=w.heap.size+1;omega);have K1:=hid (own_put K1.out (a:=⟨w.heap.size+1,4,none⟩) (u:=.slice x4 z4.length y4) (by show w.heap.size+1<w.heap.size+2;omega));have K3:=hid (own_put K3.out (a:=⟨w.heap.size+1,4,none⟩) (u:=.slice x4 z4.length y4) (by show w.heap.size+1<w.heap.size+2;omega));have K4:=hid (own_put K4.out (a:=⟨w.heap.size+1,4,none⟩) (u:=.slice x4 z4.length y4) (by show w.heap.size+1<w.heap.size+2;omega));obtain ⟨i0,i1,i2,i3,i4,i5,i6,iz⟩:=cells7 HIa.out
 have ifz:∀ j,w5.frozen? ⟨w.heap.size+1,j,none⟩=false:=fun j=>Lib.frozen_of_heap HIa.out j
 clear hg hr hp hv HXa HIa HGa HX4 HI4 HR4 HG4 P4;go_wp2_with fail;clear i0 i1 i2 i3 i4 i5 i6 iz ifz;refine (rdNums rb l5 _ HR5.out (by omega)).mono ?_;rintro e w6 ⟨hg,⟨hp,c,hc,rfl⟩ | ⟨z5,l6,v5,hp,rfl,hv,hr⟩⟩
 . exact ⟨rfl,Fx.grown_trans HG5.out hg,Or.inl ⟨by rw [P5.out,hp];rfl,c,hc,rfl⟩⟩
 obtain ⟨x5,y5,rfl,hcap5, -⟩:=ownsRow_form hv;have K5:=hid (own_lo (B':=w.heap.size+2) hv (by have:=HG5.out.size;have:=lt_of_heap HI5.out;omega));have C5:=hid hcap5;clear hcap5;have A5:=hid (pLst_all num_all hp)
 have P6:Hid (pObj l0=(Fx.pNum l6).map fun g=>(⟨z0,z1,z2,z3,z4,z5,g.1⟩,g.2)):=by show _=_;rw [P5.out,hp];rfl
 have hln6:l6.length<=1000000:=by have:=A5.out.2;omega
 have HXa:Hid (w6.heap[w.heap.size]? = some (.cells #[.string ⟨#[]⟩,.slice none 0 0,.int .i64 0,.slice none 0 0,.slice none 0 0,.slice none 0 0,.int .i64 0] 62)):=gk hg HX5.out hn0;have HIa:Hid (w6.heap[w.heap.size+1]? = some (.cells #[.string z0,.slice x1 z1.length y1,.int .i64 z2,.slice x3 z3.length y3,.slice x4 z4.length y4,.slice none 0 0,.int .i64 0] 62)):=gk hg HI5.out hn1;have HGa:=hid (Fx.grown_trans HG5.out hg);have K1:=hid (own_kept K1.out hg (by omega));have K3:=hid (own_kept K3.out hg (by omega));have K4:=hid (own_kept K4.out hg (by omega));have HX6:Hid ((w6.setCell ⟨w.heap.size+1,5,none⟩ (.slice x5 z5.length y5)).heap[w.heap.size]? = some (.cells #[.string ⟨#[]⟩,.slice none 0 0,.int .i64 0,.slice none 0 0,.slice none 0 0,.slice none 0 0,.int .i64 0] 62)):=(heap_set_ne (p:=⟨w.heap.size+1,5,none⟩) (by show w.heap.size≠w.heap.size+1;omega) _).trans HXa.out
 have HI6:Hid ((w6.setCell ⟨w.heap.size+1,5,none⟩ (.slice x5 z5.length y5)).heap[w.heap.size+1]? = some (.cells #[.string z0,.slice x1 z1.length y1,.int .i64 z2,.slice x3 z3.length y3,.slice x4 z4.length y4,.slice x5 z5.length y5,.int .i64 0] 62)):=heap_set HIa.out _;have HR6:Hid (Fx.Rdr (w6.setCell ⟨w.heap.size+1,5,none⟩ (.slice x5 z5.length y5)) rb l6):=rdr_put hr hn1;have HG6:Hid (w.grownBy (w6.setCell ⟨w.heap.size+1,5,none⟩ (.slice x5 z5.length y5)) (some rb)):=grown_put HGa.out (by show w.heap.size<=w.heap.size+1;omega);have K1:=hid (own_put K1.out (a:=⟨w.heap.size+1,5,none⟩) (u:=.slice x5 z5.length y5) (by show w.heap.size+1<w.heap.size+2;omega));have K3:=hid (own_put K3.out (a:=⟨w.heap.size+1,5,none⟩) (u:=.slice x5 z5.length y5) (by show w.heap.size+1<w.heap.size+2;omega));have K4:=hid (own_put K4.out (a:=⟨w.heap.size+1,5,none⟩) (u:=.slice x5 z5.length y5) (by show w.heap.size+1<w.heap.size+2;omega))
 have K5:=hid (own_put K5.out (a:=⟨w.heap.size+1,5,none⟩) (u:=.slice x5 z5.length y5) (by show w.heap.size+1<w.heap.size+2;omega));obtain ⟨i0,i1,i2,i3,i4,i5,i6,iz⟩:=cells7 HIa.out
 have ifz:∀ j,w6.frozen? ⟨w.heap.size+1,j,none⟩=false:=fun j=>Lib.frozen_of_heap HIa.out j
 clear hg hr hp hv HXa HIa HGa HX5 HI5 HR5 HG5 P5;go_wp2_with fail;clear i0 i1 i2 i3 i4 i5 i6 iz ifz;refine (rdNum rb l6 _ HR6.out (by omega)).mono ?_;rintro e w7 ⟨hg,⟨hp,c,hc,rfl⟩ | ⟨z6,l7,v6,hp,rfl,hv,hr⟩⟩
 . exact ⟨rfl,Fx.grown_trans HG6.out hg,Or.inl ⟨by rw [P6.out,hp];rfl,c,hc,rfl⟩⟩
 obtain rfl:v6 = .int .i64 z6:=hv;have A6:=hid (num_all _ _ _ hp)
 have P7:Hid (pObj l0=some (⟨z0,z1,z2,z3,z4,z5,z6⟩,l7)):=by show _=_;rw [P6.out,hp];rfl
 have hln7:l7.length<=1000000:=by have:=A6.out.2;omega
 have HXa:Hid (w7.heap[w.heap.size]? = some (.cells #[.string ⟨#[]⟩,.slice none 0 0,.int .i64 0,.slice none 0 0,.slice none 0 0,.slice none 0 0,.int .i64 0] 62)):=gk hg HX6.out hn0;have HIa:Hid (w7.heap[w.heap.size+1]? = some (.cells #[.string z0,.slice x1 z1.length y1,.int .i64 z2,.slice x3 z3.length y3,.slice x4 z4.length y4,.slice x5 z5.length y5,.int .i64 0] 62)):=gk hg HI6.out hn1;have HGa:=hid (Fx.grown_trans HG6.out hg);have K1:=hid (own_kept K1.out hg (by omega));have K3:=hid (own_kept K3.out hg (by omega));have K4:=hid (own_kept K4.out hg (by omega));have K5:=hid (own_kept K5.out hg (by omega));have HX7:Hid ((w7.setCell ⟨w.heap.size+1,6,none⟩ (.int .i64 z6)).heap[w.heap.size]? = some (.cells #[.string ⟨#[]⟩,.slice none 0 0,.int .i64 0,.slice none 0 0,.slice none 0 0,.slice none 0 0,.int .i64 0] 62)):=(heap_set_ne (p:=⟨w.heap.size+1,6,none⟩) (by show w.heap.size≠w.heap.size+1;omega) _).trans HXa.out
 have HI7:Hid ((w7.setCell ⟨w.heap.size+1,6,none⟩ (.int .i64 z6)).heap[w.heap.size+1]? = some (.cells #[.string z0,.slice x1 z1.length y1,.int .i64 z2,.slice x3 z3.length y3,.slice x4 z4.length y4,.slice x5 z5.length y5,.int .i64 z6] 62)):=heap_set HIa.out _;have HR7:Hid (Fx.Rdr (w7.setCell ⟨w.heap.size+1,6,none⟩ (.int .i64 z6)) rb l7):=rdr_put hr hn1;have HG7:Hid (w.grownBy (w7.setCell ⟨w.heap.size+1,6,none⟩ (.int .i64 z6)) (some rb)):=grown_put HGa.out (by show w.heap.size<=w.heap.size+1;omega);have K1:=hid (own_put K1.out (a:=⟨w.heap.size+1,6,none⟩) (u:=.int .i64 z6) (by show w.heap.size+1<w.heap.size+2;omega));have K3:=hid (own_put K3.out (a:=⟨w.heap.size+1,6,none⟩) (u:=.int .i64 z6) (by show w.heap.size+1<w.heap.size+2;omega));have K4:=hid (own_put K4.out (a:=⟨w.heap.size+1,6,none⟩) (u:=.int .i64 z6) (by show w.heap.size+1<w.heap.size+2;omega))
 have K5:=hid (own_put K5.out (a:=⟨w.heap.size+1,6,none⟩) (u:=.int .i64 z6) (by show w.heap.size+1<w.heap.size+2;omega));obtain ⟨i0,i1,i2,i3,i4,i5,i6,iz⟩:=cells7 HIa.out
 have ifz:∀ j,w7.frozen? ⟨w.heap.size+1,j,none⟩=false:=fun j=>Lib.frozen_of_heap HIa.out j
 obtain ⟨j0,j1,j2,j3,j4,j5,j6,jz⟩:=cells7 HXa.out
 have jfz:∀ j,w7.frozen? ⟨w.heap.size,j,none⟩=false:=fun j=>Lib.frozen_of_heap HXa.out j
 have hne:¬ (w.heap.size=w.heap.size+1):=by omega
 clear hg hr hp HXa HIa HGa;go_wp2_with fail;refine bodyPost_ret (v:=.agg #[.string z0,.slice x1 z1.length y1,.int .i64 z2,.slice x3 z3.length y3,.slice x4 z4.length y4,.slice x5 z5.length y5,.int .i64 z6]) (by simp [results,Tryz.results96,go_sem,j0,j1,j2,j3,j4,j5,j6,i0,i1,i2,i3,i4,i5,i6,jz,iz]) rfl ⟨?_,Or.inr ⟨_,l7,_,P7.out,rfl,⟨x1,y1,x3,y3,x4,y4,x5,y5,rfl,?_,C1.out⟩,?_⟩⟩
 . exact grown_put (grown_put (grown_put (grown_put (grown_put (grown_put (grown_put HG7.out (Nat.le_refl _)) (Nat.le_refl _)) (Nat.le_refl _)) (Nat.le_refl _)) (Nat.le_refl _)) (Nat.le_refl _)) (Nat.le_refl _)
 . have f1:=fin7 K1.out (.string z0) (.slice x1 z1.length y1) (.int .i64 z2) (.slice x3 z3.length y3) (.slice x4 z4.length y4) (.slice x5 z5.length y5) (.int .i64 z6) (b:=w.heap.size) (by omega)
   have f3:=fin7 K3.out (.string z0) (.slice x1 z1.length y1) (.int .i64 z2) (.slice x3 z3.length y3) (.slice x4 z4.length y4) (.slice x5 z5.length y5) (.int .i64 z6) (b:=w.heap.size) (by omega);have f4:=fin7 K4.out (.string z0) (.slice x1 z1.length y1) (.int .i64 z2) (.slice x3 z3.length y3) (.slice x4 z4.length y4) (.slice x5 z5.length y5) (.int .i64 z6) (b:=w.heap.size) (by omega);have f5:=fin7 K5.out (.string z0) (.slice x1 z1.length y1) (.int .i64 z2) (.slice x3 z3.length y3) (.slice x4 z4.length y4) (.slice x5 z5.length y5) (.int .i64 z6) (b:=w.heap.size) (by omega);have b1:=A1.out.2;have b3:=A3.out.2;have b4:=A4.out.2;have b5:=A5.out.2;refine ⟨Nat.le_trans A0.out.1 (by decide),?_,A2.out.1,?_,?_,?_,A6.out.1⟩
   . exact dat_rowA f1 (by omega) (strs_valw _ (fun s hs=>Nat.le_trans (A1.out.1 s hs) (by decide))) (by simp [strsD]) (by rw [show (strsD z1).length=z1.length from by simp [strsD]];omega)
   . exact dat_rowA f3 (by omega) (gis_valw _ A3.out.1) (by rw [gisD_len];omega) (by rw [gisD_len];show z3.length*3<=_;omega)
   . exact dat_rowA f4 (by omega) (gfs_valw _ A4.out.1) (by rw [gfsD_len];omega) (by rw [gfsD_len];show z4.length*3<=_;omega)
   . exact dat_rowA f5 (by omega) (ints_valw _ A5.out.1) (by simp [intD]) (by rw [show (intD z5).length=z5.length from by simp [intD]];omega)
 . exact rdr_put (rdr_put (rdr_put (rdr_put (rdr_put (rdr_put (rdr_put HR7.out hn0) hn0) hn0) hn0) hn0) hn0) hn0
end Go.Proofs.YtndkhgakfodldaaGreatDoor
