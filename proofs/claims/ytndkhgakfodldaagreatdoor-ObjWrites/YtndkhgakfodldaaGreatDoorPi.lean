import Derived.Test.YtndkhgakfodldaaGreatDoorPf
namespace Go.Proofs.YtndkhgakfodldaaGreatDoor
set_option maxRecDepth 100000
set_option maxHeartbeats 1600000
open Go.RowKit Go.Shelf
theorem z0m {l l':List Tk} {s:St} (h:zb2 l=some (s,l')):l'.length<l.length:=by
 unfold zb2 at h
 split at h
 . cases h
 rename_i m n l1 h1
 have:=ztm h1
 split at h
 . rename_i hs
   have:=zar (by decide) hs
   split at h
   . cases h
   rename_i x l2 h2
   have:=zpt h2;obtain ⟨_,rfl⟩:=vak (vac h);omega
 split at h
 . rename_i hs
   have:=zar (by decide) hs
   split at h
   . cases h
   rename_i x l2 h2
   have:=zpt h2
   split at h
   . rename_i hs2
     have:=zar (by decide) hs2
     split at h
     . rename_i hs3
       have:=zar (by decide) hs3
       split at h
       . cases h
       rename_i y l3 h3
       have:=zpt h3;obtain ⟨_,rfl⟩:=vak (vac h);omega
     . cases h
   . cases h
 split at h
 . rename_i hs
   have:=zar (by decide) hs
   split at h
   . cases h
   rename_i x l2 h2
   have:=z71 h2;obtain ⟨_,rfl⟩:=vak (vac h);omega
 . cases h
theorem zmi {r:Option (St × List Tk)} {l':List Tk} {s:St} {n:Nat} (h:zem r=some (s,l')) (hr:∀ s l,r=some (s,l)->l.length<n):l'.length<n:=by
 unfold zem at h
 split at h
 . cases h
 . rename_i s1 l1
   have:=hr s1 l1 rfl
   split at h
   . rename_i hs
     have:=zar (by decide) hs;obtain ⟨_,rfl⟩:=vak (vac h);omega
   . cases h
def zda (f:Nat) (l:List Tk):Option (St × List Tk):=
 match pX l with
 | none=>none
 | some (x,l1)=>match zb5 f l1 with
   | none=>none
   | some (b,l2)=>if skB l2 ztl then (match zb5 f l2.tail with | none=>none | some (o,l3)=>if o.length=0 then none else some (.mk 4 ⟨#[]⟩ ⟨#[]⟩ [x] b o,l3))
     else some (.mk 4 ⟨#[]⟩ ⟨#[]⟩ [x] b [],l2)
theorem zv5 {f:Nat} {l:List Tk} (h:skB l tIf=true):zcw (f+1) l=zda f l.tail:=by
 unfold zcw;rw [if_pos h];rfl
theorem zii {f:Nat} {l:List Tk} (h:skB l tIf=false) (h1:skB l zh4=true):zcw (f+1) l=(match pX l.tail with
 | none=>none
 | some (x,l1)=>match zb5 f l1 with | none=>none | some (b,l2)=>some (.mk 5 ⟨#[]⟩ ⟨#[]⟩ [x] b [],l2)):=by
 unfold zcw;rw [if_neg (by simp [h]),if_pos h1];rfl
theorem zg6 {f:Nat} {l:List Tk} (h:skB l tIf=false) (h1:skB l zh4=false) (h2:skB l zgg=true):zcw (f+1) l=zem (match pX l.tail with | none=>none | some (x,l1)=>some (.mk 6 ⟨#[]⟩ ⟨#[]⟩ [x] [] [],l1)):=by
 unfold zcw;rw [if_neg (by simp [h]),if_neg (by simp [h1]),if_pos h2];rfl
theorem zmj {f:Nat} {l:List Tk} (h:skB l tIf=false) (h1:skB l zh4=false) (h2:skB l zgg=false) (h3:skB l z47=true):zcw (f+1) l=zem (match pX l.tail with | none=>none | some (x,l1)=>some (.mk 7 ⟨#[]⟩ ⟨#[]⟩ [x] [] [],l1)):=by
 unfold zcw;rw [if_neg (by simp [h]),if_neg (by simp [h1]),if_neg (by simp [h2]),if_pos h3];rfl
theorem zij {f:Nat} {l:List Tk} (h:skB l tIf=false) (h1:skB l zh4=false) (h2:skB l zgg=false) (h3:skB l z47=false):zcw (f+1) l=zem (zb2 l):=by
 unfold zcw;rw [if_neg (by simp [h]),if_neg (by simp [h1]),if_neg (by simp [h2]),if_neg (by simp [h3])]
mutual
theorem zqk:∀ (f:Nat) (l l':List Tk) (s:St),zcw f l=some (s,l')->l'.length<l.length
 | 0,_,_,_,h=>by simp [zcw] at h
 | f + 1,l,l',s,h=>by
   unfold zcw at h
   split at h
   . rename_i hs
     have:=zar (by decide) hs
     split at h
     . cases h
     rename_i x l1 h1
     have:=zpt h1
     split at h
     . cases h
     rename_i b l2 h2
     have:=zg7 f _ _ _ h2
     split at h
     . rename_i hs2
       have:=zar (by decide) hs2
       split at h
       . cases h
       rename_i o l3 h3
       have:=zg7 f _ _ _ h3
       split at h
       . cases h
       . obtain ⟨_,rfl⟩:=vak (vac h)
         omega
     . obtain ⟨_,rfl⟩:=vak (vac h)
       omega
   split at h
   . rename_i hs
     have:=zar (by decide) hs
     split at h
     . cases h
     rename_i x l1 h1
     have:=zpt h1
     split at h
     . cases h
     rename_i b l2 h2
     have:=zg7 f _ _ _ h2;obtain ⟨_,rfl⟩:=vak (vac h);omega
   split at h
   . rename_i hs
     have:=zar (by decide) hs;refine zmi h ?_;intro s l2 h2
     split at h2
     . cases h2
     rename_i x l1 h1
     have:=zpt h1;obtain ⟨_,rfl⟩:=vak (vac h2);omega
   split at h
   . rename_i hs
     have:=zar (by decide) hs;refine zmi h ?_;intro s l2 h2
     split at h2
     . cases h2
     rename_i x l1 h1
     have:=zpt h1;obtain ⟨_,rfl⟩:=vak (vac h2);omega
   . exact zmi h fun s l2 h2=>z0m h2
theorem zg7:∀ (f:Nat) (l l':List Tk) (b:List St),zb5 f l=some (b,l')->l'.length<l.length
 | 0,_,_,_,h=>by simp [zb5] at h
 | f + 1,l,l',s,h=>by
   unfold zb5 at h
   split at h
   . rename_i hs
     have:=zar (by decide) hs;have:=zsm f _ _ _ _ h;omega
   . cases h
theorem zsm:∀ (f:Nat) (acc:List St) (l l':List Tk) (b:List St),zfg f acc l=some (b,l')->l'.length<l.length
 | 0,_,_,_,_,h=>by simp [zfg] at h
 | f + 1,acc,l,l',b,h=>by
   unfold zfg at h
   split at h
   . rename_i hs
     obtain ⟨_,rfl⟩:=vak (vac h);exact zar (by decide) hs
   split at h
   . cases h
   . rename_i s l1 h1
     have:=zqk f _ _ _ h1;have:=zsm f _ _ _ _ h;omega
end
structure StC (R cap:Nat) (a:OA) (ts:List Tk) (f:Nat):Prop where
 stmt:∀ (l:List Tk) (w:World),Rd R a cap ts w l->3*l.length+1<=f->Calls Tryz.prog 254 #[.pointer (some ⟨R,0,none⟩)] w (zey R a cap ts w (zcw f l) (zg5 (w.heap.size<=·)))
 block:∀ (l:List Tk) (w:World),Rd R a cap ts w l->3*l.length+1<=f->Calls Tryz.prog 201 #[.pointer (some ⟨R,0,none⟩)] w (zey R a cap ts w (zb5 f l) (yai (w.heap.size<=·)))
theorem zxn (R cap:Nat) (a:OA) (ts:List Tk) (f:Nat) (IH:∀ g,g<=f->StC R cap a ts g) (l:List Tk) (w:World) (h:Rd R a cap ts w l) (hf:3*l.length+1<=f+1) :
 Calls Tryz.prog 201 #[.pointer (some ⟨R,0,none⟩)] w (zey R a cap ts w (zb5 (f+1) l) (yai (w.heap.size<=·))):=by
 have HI:Hid (∀ g,g<=f->StC R cap a ts g):=IH;have HR:Hid (Rd R a cap ts w l):=h;have hRw:=h.lt
 have hlts:l.length<=4096:=by
  obtain ⟨k,_,rfl,_⟩:=h.idx;have:=h.len
  rw [vcc];omega
 clear IH h;go_enter Tryz.func201,Tryz.ntmps201;go_wp2_with fail;refine (zgj R cap _ a ts l tLb _ rfl HR.out (by decide)).mono ?_;rintro e w1 ⟨HK1,⟨hs,rfl⟩ | ⟨hs,rfl,HR1⟩⟩
 . exact ⟨rfl,HK1,Or.inl ⟨by unfold zb5;rw [if_neg (by simp [hs])],rfl⟩⟩
 have hl1:=zar (by decide) hs
 have HP:Hid (zb5 (f+1) l=zfg f [] l.tail):=by show zb5 (f+1) l=_;unfold zb5;rw [if_pos hs]
 have HR1':Hid (Rd R a cap ts w1 l.tail):=HR1;have HK1':Hid (Keeps R w w1):=HK1;have hz1:=HK1.size;clear HR1 HK1 hs;go_wp2_with fail
 go_loopw [3] (fun v wr=>∃ (g:Nat) (acc:List St) (l':List Tk),g<=f/\zb5 (f+1) l=zfg g acc l'/\3*l'.length+2<=g/\acc.length+l'.length<=l.length/\Row w.heap.size 176 6 wr v acc.length (zb0 acc)/\Rd R a cap ts wr l'/\Keeps R w wr) (fun _ wr=>zi6 R ts.length wr)
 case atStart=>exact ⟨f,[],l.tail,vaa _,HP.out,by omega,by simp,Row.nil _ _ _ _,HR1'.out,HK1'.out⟩
 case round=>
  obtain ⟨g,acc,l',hg,hpm,hlen,hacc,hrow,hrd,hke⟩:=hrel;have HG:Hid (zb5 (f+1) l=zfg g acc l'):=hpm;have HO:Hid (Row w.heap.size 176 6 wr u3 acc.length (zb0 acc)):=hrow;have HD:Hid (Rd R a cap ts wr l'):=hrd;have HE:Hid (Keeps R w wr):=hke;have hzr:=hke.size
  obtain ⟨g,rfl⟩:∃ g',g=g'+1:=⟨g - 1,by omega⟩
  clear hpm hrow hrd hke HP;go_wp2_with fail
  by_cases hs:skB l' tRb=true
  . have HP:Hid (zb5 (f+1) l=some (acc,l'.tail)):=by show zb5 (f+1) l=_;rw [HG.out];unfold zfg;rw [if_pos hs]
    refine (zbu R cap a ts l' tRb wr (by decide) HD.out hs).mono ?_;rintro e w3 ⟨rfl,HR3,HK3⟩;have HO3:Hid (Row w.heap.size 176 6 w3 u3 acc.length (zb0 acc)):=HO.out.keeps HK3 hRw;go_wp2_with fail;go_ret;exact ⟨HE.out.trans HK3,Or.inr ⟨acc,l'.tail,_,HP.out,rfl,HO3.out.slice,HR3⟩⟩
  refine (zcg R cap a ts l' tRb wr HD.out (by simpa using hs)).mono ?_;rintro e w3 ⟨rfl,HR3,HK3⟩;have hz3:=HK3.size;go_wp2_with fail;refine ((HI.out g (by omega)).stmt l' w3 HR3 (by omega)).mono ?_;rintro e w4 ⟨HK4,⟨hn,rfl⟩ | ⟨y,l4,v,hn,rfl,⟨a1,c1,a2,c2,a3,c3,rfl,hx1,hx2,hx3,hx4,hx5⟩,HR4⟩⟩
  . exact ⟨rfl,(HE.out.trans HK3).trans HK4,Or.inl ⟨by rw [HG.out];unfold zfg;rw [if_neg hs,hn],rfl⟩⟩
  have hl4:=zqk _ _ _ _ hn
  have HP:Hid (zb5 (f+1) l=zfg g (acc++[y]) l4):=by show zb5 (f+1) l=_;rw [HG.out];unfold zfg;rw [if_neg hs,hn];cases g<;>rfl
  have HX4:Hid (za1 w4 (w3.heap.size<=·) y.ds (z0k y a1 c1 a2 c2 a3 c3)):=z3l hx1 hx2 hx3 hx4 hx5;have HR4':Hid (Rd R a cap ts w4 l4):=HR4;have HK4':Hid (Keeps R w w4):=(HE.out.trans HK3).trans HK4;have HO4:Hid (Row w.heap.size 176 6 w4 u3 acc.length (zb0 acc)):=(HO.out.keeps HK3 hRw).keeps HK4 hRw;have hz4:=HK4.size
  have HL:Hid (∀ k,u3.ownBlock=some k->k<w3.heap.size):=fun k hk=>((HO.out.keeps HK3 hRw).lt k hk).2
  have hle:=HD.out.left;clear hn HR3 HR4 HK3 HK4 hx1 hx2 hx3 hx4 hx5 hs
  go_wp2_with (at_builtin;refine zb3 rfl (.tmp 10) (.tmp 13) 25 rfl w.heap.size 176 _ 6 112 Tryz.underlying25 Tryz.infoP48 rfl (by decide) w4 u3 acc.length (zb0 acc) y.ds rfl HO4.out _ _ rfl rfl rfl (w3.heap.size<=·) HX4.out ?_ (by omega) (by decide) (by omega) ?_)
  . intro b _ hb
    exact ⟨by omega,fun h=>by have:=HL.out b h;omega⟩
  . intro g5 c5 w5 HO5 HB5 hz5
    have HO5':Hid (Row w.heap.size 176 6 w5 (.slice (some ⟨g5,0,none⟩) (acc.length+1) c5) (acc.length+1) (zb0 acc++y.ds)):=HO5;have HR5:Hid (Rd R a cap ts w5 l4):=HR4'.out.belowOf HR.out HB5;have HK5:Hid (Keeps R w w5):=HK4'.out.belowOf HB5;have hl5:=HR5.out.left;clear HO5 HB5 HO4 HR4' HK4' HX4;go_wp2_with fail;go_roundw
    case rel=>exact ⟨g,acc++[y],l4,by omega,HP.out,by omega,by simp;omega,by rw [zio,zwf,vab];exact HO5'.out,HR5.out,HK5.out⟩
    case measure=>rw [hl5,hle];omega
end Go.Proofs.YtndkhgakfodldaaGreatDoor
