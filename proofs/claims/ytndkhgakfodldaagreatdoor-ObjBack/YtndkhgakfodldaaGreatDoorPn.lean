/-
  Modules are read as the grammar says.
-/
import Derived.Test.YtndkhgakfodldaaGreatDoorPm
import Derived.Deep.DeepCutAuto
namespace Go.Proofs.YtndkhgakfodldaaGreatDoor
set_option maxRecDepth 100000
set_option maxHeartbeats 16000000
open Go.RowKit Go.Shelf
def pM3 (n:ByteArray) (us:List ByteArray) (ds:List De) (l3:List Tk):Option (Mo × List Tk):=match pProcs (l3.length+1) [] l3 with
 | none=>none
 | some (ps,l4)=>(match pB l4 with
   | none=>none
   | some (b,l5)=>if skB l5 tRb then some (⟨n,us,ds,ps,b⟩,l5.tail) else none)
def pM2 (n:ByteArray) (us:List ByteArray) (l2:List Tk):Option (Mo × List Tk):=match pDecls (l2.length+1) [] l2 with
 | none=>none
 | some (ds,l3)=>pM3 n us ds l3
def pM1 (n:ByteArray) (l1:List Tk):Option (Mo × List Tk):=match pList tUse (l1.length+1) [] l1 with
 | none=>none
 | some (us,l2)=>pM2 n us l2
theorem pModule_eq (l:List Tk):pModule l=if skB l tModule then (match pName l.tail with | none=>none | some (n,l1)=>if skB l1 tLb then pM1 n l1.tail else none) else none:=by
 unfold pModule pM1 pM2 pM3;rfl
def MoRep (A:Nat->Prop) (m:Mo) (w:World) (v:Value):Prop:=∃ a1 c1 a2 c2 a3 c3 a4 c4,v = .agg #[.string m.name,.slice a1 m.uses.length c1,.slice a2 m.decls.length c2,.slice a3 m.procs.length c3,.slice a4 m.main.length c4]/\m.name.size<=maxLen/\EAt w A a1 m.uses.length (strsD m.uses)/\EAt w A a2 m.decls.length (desD m.decls)/\EAt w A a3 m.procs.length (prsD m.procs)/\EAt w A a4 m.main.length (stsD m.main)
abbrev moZero:Obj:=.cells #[.string ⟨#[]⟩,.slice none 0 0,.slice none 0 0,.slice none 0 0,.slice none 0 0] 27 (0,0)
theorem en_decl:Enters Tryz.prog 199:=enters_of Tryz.func199 (by kernel_rfl) rfl
theorem en_proc:Enters Tryz.prog 200:=enters_of Tryz.func200 (by kernel_rfl) rfl
theorem de_evals {A:Nat->Prop} {w:World} {d:De} (h:d.name.size<=maxLen):EVals w A d.ds [.int .i64 d.kind,.string d.name,.bool d.pub,.int .i64 d.n]:=.cons eint (.cons (estr h) (.cons ebool (.cons eint .nil)))
theorem pr_evals {A:Nat->Prop} {w:World} {p:Pr} {a1 a2 a3:Option Addr} {c1 c2 c3:Nat} (h:p.name.size<=maxLen) (h1:EAt w A a1 p.params.length (strsD p.params)) (h2:EAt w A a2 p.locals.length (strsD p.locals)) (h3:EAt w A a3 p.body.length (stsD p.body)):EVals w A p.ds [.string p.name,.bool p.pub,.slice a1 p.params.length c1,.slice a2 p.locals.length c2,.slice a3 p.body.length c3]:=
 .cons (estr h) (.cons ebool (.cons h1.val (.cons h2.val (.cons h3.val .nil))))
theorem mo_fin {R cap C:Nat} {a:Option Addr} {ts l':List Tk} {w ws wr:World} {r:Option (Mo × List Tk)} {m:Mo} {a1 a2 a3 a4:Option Addr} {c1 c2 c3 c4:Nat} (h:FSt R a cap ts w ws C 27 moZero #[.string m.name,.slice a1 m.uses.length c1,.slice a2 m.decls.length c2,.slice a3 m.procs.length c3,.slice a4 m.main.length c4] wr l') (hr:r=some (m,l')) (hn:m.name.size<=maxLen) (h1:EAt wr (C<·) a1 m.uses.length (strsD m.uses)) (h2:EAt wr (C<·) a2 m.decls.length (desD m.decls)) (h3:EAt wr (C<·) a3 m.procs.length (prsD m.procs)) (h4:EAt wr (C<·) a4 m.main.length (stsD m.main)) :
 PEnd R a cap ts w r (MoRep (w.heap.size<=·)) (.returned (.agg #[.string m.name,.slice a1 m.uses.length c1,.slice a2 m.decls.length c2,.slice a3 m.procs.length c3,.slice a4 m.main.length c4])) (set5 wr w.heap.size (.string m.name) (.slice a1 m.uses.length c1) (.slice a2 m.decls.length c2) (.slice a3 m.procs.length c3) (.slice a4 m.main.length c4)):=by
 obtain ⟨l0,h0⟩:=h.r0;have hC:=h.hC
 have hm:Moves wr (C<·) (set5 wr w.heap.size (.string m.name) (.slice a1 m.uses.length c1) (.slice a2 m.decls.length c2) (.slice a3 m.procs.length c3) (.slice a4 m.main.length c4)) (w.heap.size<=·):=
  (((Moves.refl wr (C<·)).set5 (b:=w.heap.size) (fun b _ hb=>by omega) _ _ _ _ _)).trans ⟨Nat.le_refl _,fun b _ hb=>⟨by omega,rfl⟩⟩
 exact ⟨h.ke.set5 (Nat.le_refl _) _ _ _ _ _,Or.inr ⟨m,l',_,hr,rfl,⟨a1,c1,a2,c2,a3,c3,a4,c4,rfl,hn,h1.moves hm,h2.moves hm,h3.moves hm,h4.moves hm⟩,h.rd.set5 h0 (Nat.le_refl _) _ _ _ _ _⟩⟩
theorem low {w:World} {lo C n:Nat} {a:Option Addr} {ds:List D} (h:EAt w (lo<=·) a n ds) (hl:C<lo):EAt w (C<·) a n ds:=h.moves ⟨Nat.le_refl _,fun _ _ hb=>⟨Nat.lt_of_lt_of_le hl hb,rfl⟩⟩
theorem module_any (R cap:Nat) (a:Option Addr) (ts l:List Tk) (w:World) (h:Rd R a cap ts w l) :
 Calls Tryz.prog 159 #[.pointer (some ⟨R,0,none⟩)] w (PEnd R a cap ts w (pModule l) (MoRep (w.heap.size<=·))):=by
 have HR:Hid (Rd R a cap ts w l):=h;have hRw:=h.lt
 have hlts:l.length<=4096:=by
  obtain ⟨k,_,rfl,_⟩:=h.idx;have:=h.len
  rw [List.length_drop];omega
 have HP0:=hid (pModule_eq l);clear h;go_enter Tryz.func159,Tryz.ntmps159;go_wp2_with fail
 obtain ⟨w2,hw2⟩:∃ w2,w2=(w.alloc moZero).alloc moZero:=⟨_,rfl⟩
 have hz2:w2.heap.size=w.heap.size+1+1:=by rw [hw2];simp
 have HF2:Hid (FSt R a cap ts w w2 (w.heap.size+1) 27 moZero #[.string ⟨#[]⟩,.slice none 0 0,.slice none 0 0,.slice none 0 0,.slice none 0 0] w2 l):=
  ⟨by rw [hw2];exact (HR.out.alloc _).alloc _,by rw [hw2];exact ((Keeps.refl R w).alloc _).alloc _,by rw [hw2];exact heap_old (heap_newP _ _),by rw [hw2];have:=heap_newP (w.alloc moZero) moZero;simpa using this,Moves.refl _ _,hRw,by omega,by omega,l,HR.out⟩
 rw [← hw2];clear hw2;generalize hC:w.heap.size+1=C at *;refine (must1 R cap _ a ts l tModule w2 hz2.symm HF2.out.rd (by decide)).mono ?_;rintro e w3 ⟨KK,⟨s1,rfl⟩ | ⟨s1,rfl,RD⟩⟩
 . exact ⟨rfl,HF2.out.ke.trans KK,Or.inl ⟨by rw [HP0.out,if_neg (by simp [s1])],rfl⟩⟩
 have HF3:=hid (HF2.out.keeps KK RD);have hz3:=KK.size;have hl3:=skB_lt (by decide) s1;clear RD KK HF2;go_wp2_with fail;refine (name_any R cap a ts l.tail w3 HF3.out.rd).mono ?_;rintro e w4 ⟨KK,⟨hn,rfl⟩ | ⟨nm,l4,v,hn,rfl,⟨rfl,hnm⟩,RD⟩⟩
 . exact ⟨rfl,HF3.out.ke.trans KK,Or.inl ⟨by rw [HP0.out,if_pos s1,hn],rfl⟩⟩
 have HP4:Hid (pModule l=if skB l4 tLb then pM1 nm l4.tail else none):=by show _=_;rw [HP0.out,if_pos s1,hn]
 have HF4:=hid (HF3.out.keeps KK RD);have hz4:=KK.size;have hl4:=pName_lt hn;clear RD KK HF3 hn s1 HP0;have HF5:=hid (HF4.out.put 0 (.string nm))
 have hz5:(w4.setCell ⟨C,0,none⟩ (.string nm)).heap.size=w4.heap.size:=by simp only [World.size_setCell]
 obtain ⟨h0,h1,h2,h3,h4,h5⟩:=cellsOf5 HF4.out.cb;have hq4:C<w4.heap.size:=lt_of_heap HF4.out.cb;go_wp2_with fail;generalize w4.setCell ⟨C,0,none⟩ (.string nm)=w5 at *;clear h0 h1 h2 h3 h4 h5 HF4;refine (must1 R cap _ a ts l4 tLb w5 (by omega) HF5.out.rd (by decide)).mono ?_;rintro e w6 ⟨KK,⟨s1,rfl⟩ | ⟨s1,rfl,RD⟩⟩
 . exact ⟨rfl,HF5.out.ke.trans KK,Or.inl ⟨by rw [HP4.out,if_neg (by simp [s1])],rfl⟩⟩
 have HP6:Hid (pModule l=pM1 nm l4.tail):=by show _=_;rw [HP4.out,if_pos s1]
 have HF6:Hid (FSt R a cap ts w w2 C 27 moZero #[.string nm,.slice none 0 0,.slice none 0 0,.slice none 0 0,.slice none 0 0] w6 l4.tail):=HF5.out.keeps KK RD;have hz6:=KK.size;have hl5:=skB_lt (by decide) s1;clear RD KK HF5 s1 HP4;generalize hl6:l4.tail=l6 at *
 have hl6':l6.length<l.length:=by omega
 have HW:=hid HF6.out.restart;have hC6:C<w6.heap.size:=lt_of_heap HF6.out.cb;have hz26:w2.heap.size<=w6.heap.size:=HF6.out.mv.1;clear HF6 hl6 hl3 hl4 hl5;go_wp2_with fail
 go_loopw [] (fun wr=>∃ (g:Nat) (acc:List ByteArray) (l':List Tk) (v:Value),Hid (pList tUse (l6.length+1) [] l6=pList tUse g acc l')/\l'.length+1<=g/\acc.length+l'.length<=l.length/\FSt R a cap ts w w6 C 27 moZero #[.string nm,v,.slice none 0 0,.slice none 0 0,.slice none 0 0] wr l'/\Row w6.heap.size 9 1 wr v acc.length (strsD acc)) (fun wr=>leftN R ts.length wr)
 case atStart=>exact ⟨_,[],l6,_,rfl,Nat.le_refl _,by simp;omega,HW.out,Row.nil _ _ _ _⟩
 case round =>
  obtain ⟨g,acc,l',v,HG,hg,hacc,hF,hrow⟩:=hrel;have HF:=hid hF;have HO:=hid hrow;have HDl:Hid (leftN R ts.length wr=l'.length):=hF.rd.left
  obtain ⟨g,rfl⟩:∃ g',g=g'+1:=⟨g - 1,by omega⟩
  clear hF hrow HW;go_wp2_with fail
  cases hs:skB l' tUse with
  | true =>
    refine (skip_yes R cap a ts l' tUse wr (by decide) HF.out.rd hs).mono ?_;rintro e w7 ⟨rfl,HR3,HK3⟩;have hl3:=skB_lt (by decide) hs;have hz7:=HK3.size;have HF7:=hid (HF.out.keeps HK3 HR3);have HO7:=hid (HO.out.keeps HK3 (by omega));obtain ⟨h0,hvw7,h2,h3,h4,h5⟩:=cellsOf5 HF7.out.cb;have hCw7:C<w7.heap.size:=lt_of_heap HF7.out.cb
    have besw7:Hid (∀ {b:Nat} {W:World},b<W.heap.size->False->w7.heap.size<=W.heap.size->Beside w6.heap.size v b):=fun _ h _=>h.elim
    have hwz:w6.heap.size<=wr.heap.size:=HF.out.mv.1;clear HK3 HR3 HF HO;go_wp2_with fail
    cases hx:pName l'.tail with
    | none=>
      have HE:Hid (∀ w',Rd R a cap ts w' l'.tail->Calls Tryz.prog 196 #[.pointer (some ⟨R,0,none⟩)] w' fun e w''=>e = .panicked errPanic/\Keeps R w' w''):=fun w' h'=>by
       refine (name_any R cap a ts _ w' h').mono ?_;rintro e w'' ⟨hk,⟨_,rfl⟩ | ⟨_,_,_,h,_⟩⟩
       . exact ⟨rfl,hk⟩
       . rw [hx] at h;cases h
      have HP:Hid (pModule l=none):=by show _=_;rw [HP6.out];unfold pM1;rw [HG.out];unfold pList;rw [if_pos hs,hx]
      clear hx;go_wp2_with fail;refine wp_region_any (by kernel_rfl) ?_
      change wpAny _ _ _ _ _ _ _ (World.drew _)
      refine wpAny_take (i:=2) (v:=.pointer (some ⟨R,0,none⟩)) rfl (by kernel_rfl) (by kernel_rfl) (by kernel_rfl) (fun c a w h=>h) (Or.inl ⟨by rfl,fun w=>by go_simp⟩) ?_;refine wpAny_take (i:=0) (v:=.pointer (some ⟨C,1,none⟩)) rfl (by kernel_rfl) (by kernel_rfl) (by kernel_rfl) (fun c a w h=>h) (Or.inl ⟨by rfl,fun w=>by go_simp⟩) ?_;refine wpAny_ready (rs:=[1,3]) (by kernel_rfl) (by simp) ?_;refine AllReady.cons rfl (fun K hK=>?_) (AllReady.cons rfl (fun K hK=>?_) AllReady.nil)
      . go_simp
        refine hK _ _ ?_;clear hK K;refine wpAny_ready (rs:=[3]) (by kernel_rfl) (by simp) ?_;refine AllReady.cons rfl (fun K hK=>?_) AllReady.nil;refine step_callP (by rfl) 196 _ _ (by rfl) en_name _ (by rfl) errPanic (HE.out _ HF7.out.rd.drew) ?_;intro w8 hk8;exact ⟨rfl,HF7.out.ke.drew.trans hk8,Or.inl ⟨HP.out,rfl⟩⟩
      . refine step_callP (by rfl) 196 _ _ (by rfl) en_name _ (by rfl) errPanic (HE.out _ HF7.out.rd.drew) ?_
        intro w8 hk8;exact ⟨rfl,HF7.out.ke.drew.trans hk8,Or.inl ⟨HP.out,rfl⟩⟩
    | some r=>
      obtain ⟨y,ly⟩:=r
      have HE:Hid (∀ w',Rd R a cap ts w' l'.tail->Calls Tryz.prog 196 #[.pointer (some ⟨R,0,none⟩)] w' fun e w''=>∃ u,e = .returned u/\(Keeps R w' w''/\(u = .string y/\y.size<=maxLen)/\Rd R a cap ts w'' ly)):=fun w' h'=>by
       refine (name_any R cap a ts _ w' h').mono ?_;rintro e w'' ⟨hk,⟨h,_⟩ | ⟨y',l',u,h,rfl,hr,hd⟩⟩
       . rw [hx] at h;cases h
       . rw [hx] at h
         obtain ⟨rfl,rfl⟩:=Prod.mk.inj (Option.some.inj h);exact ⟨u,rfl,hk,hr,hd⟩
      have HPy:Hid (pList tUse (l6.length+1) [] l6=if skB ly tSem then pList tUse g (acc++[y]) ly.tail else none):=by show _=_;rw [HG.out];unfold pList;rw [if_pos hs,hx];cases g<;>rfl
      have hly:=pName_lt hx;clear hx;go_wp2_with fail
      go_region_law (first
       | (refine step_callR (by rfl) 196 _ _ (by rfl) en_name _ (by rfl) (HE.out _ HF7.out.rd.drew) ?_
          rintro u8 w8 ⟨HK8,⟨rfl,hy8⟩,HR8⟩;have hz8:w7.heap.size<=w8.heap.size:=HK8.size;have HF8:=hid (HF7.out.drew.keeps HK8 HR8);have hc8:w8.cell? ⟨C,1,none⟩=some v:=(HK8.cell (show C<w7.heap.size from hCw7) (by omega)).trans hvw7
          have hq8:C<w8.heap.size:=by omega
          have HO8:Hid (Row w6.heap.size 9 1 w8 v acc.length (strsD acc)):=(HO7.out.keeps (Keeps.refl R w7).drew (by omega)).keeps HK8 (by omega))
       | (refine step_append_row (by rfl) _ _ 22 (by rfl) w6.heap.size 9 _ 1 16 Tryz.underlying22 Tryz.infoP9 rfl (by decide) w8 _ acc.length (strsD acc) [.str y] (by rfl) HO8.out #[.string y] _ rfl (by rfl) rfl (fun _=>False) (.cons (estr hy8) .nil) (fun b hb hA=>?_) (by omega) (by decide) (by omega) ?_
          focus (exact besw7.out hb hA hz8)
          intro g9 c9 w9 HO9 HB9 hz9;obtain ⟨k0,k1,k2,k3,k4,k5⟩:=cellsOf5 (HF8.out.belowB HB9 (by omega)).cb
          have hq9:C<w9.heap.size:=by omega
          have HF9:=hid ((HF8.out.belowB HB9 (by omega)).put 1 (.slice (some ⟨g9,0,none⟩) (acc.length+1) c9))
          have HO9':=hid (HO9.set (p:=⟨C,1,none⟩) (by show C<w6.heap.size;omega) (.slice (some ⟨g9,0,none⟩) (acc.length+1) c9))))
      all_goals
       clear HE;go_wp2_with fail
       have hz10:(w9.setCell ⟨C,1,none⟩ (.slice (some ⟨g9,0,none⟩) (acc.length+1) c9)).heap.size=w9.heap.size:=by simp only [World.size_setCell]
       generalize w9.setCell ⟨C,1,none⟩ (.slice (some ⟨g9,0,none⟩) (acc.length+1) c9)=w10 at *;refine (must1 R cap _ a ts ly tSem w10 (by omega) HF9.out.rd (by decide)).mono ?_;rintro e z1 ⟨ZK,⟨zs,rfl⟩ | ⟨zs,rfl,ZR⟩⟩
       . exact ⟨rfl,HF9.out.ke.trans ZK,Or.inl ⟨by rw [HP6.out];unfold pM1;rw [HPy.out,if_neg (by simp [zs])],rfl⟩⟩
       have HFz:=hid (HF9.out.keeps ZK ZR);have HOz:=hid (HO9'.out.keeps ZK (by omega));have hlz:=skB_lt (by decide) zs
       have HPz:Hid (pList tUse (l6.length+1) [] l6=pList tUse g (acc++[y]) ly.tail):=by show _=_;rw [HPy.out,if_pos zs]
       clear ZK ZR zs HPy HF9 HO9';go_wp2_with fail;go_roundw
       case rel=>exact ⟨g,acc++[y],ly.tail,_,HPz,by simp;omega,by simp;omega,HFz.out,by rw [List.length_append];rw [show strsD (acc++[y])=strsD acc++[.str y] from by simp [strsD]];exact HOz.out⟩
       case measure=>rw [HFz.out.rd.left,HDl.out];simp;omega
  | false =>
    refine (skip_no R cap a ts l' tUse wr HF.out.rd hs).mono ?_;rintro e w7 ⟨rfl,HR3,HK3⟩;have HF7:=hid (HF.out.keeps HK3 HR3);have HO7:=hid (HO.out.keeps HK3 (by omega))
    have HP7:Hid (pModule l=pM2 nm acc l'):=by show _=_;rw [HP6.out];unfold pM1;rw [HG.out];unfold pList;rw [if_neg (by simp [hs])]
    obtain ⟨a7,c7,rfl,hls⟩:=HO7.out.slice;have HUs:Hid (EAt w7 (C<·) a7 acc.length (strsD acc)):=low hls (by omega);have hwz:w6.heap.size<=wr.heap.size:=HF.out.mv.1;have hz7:=HK3.size;have HW:=hid HF7.out.restart;have hC7:C<w7.heap.size:=lt_of_heap HF7.out.cb
    have hacc':l'.length<=l.length:=by omega
    clear HK3 HR3 HF HO hs hls HG HP6 HF7 HO7 HDl hacc hg g;generalize hus:acc=us at *;generalize hl7:l'=l7 at *;clear hus hl7;go_wp2_with fail
    go_loopw [] (fun wr=>∃ (g:Nat) (acc:List De) (l':List Tk) (v:Value),Hid (pDecls (l7.length+1) [] l7=pDecls g acc l')/\l'.length+1<=g/\acc.length+l'.length<=l.length/\FSt R a cap ts w w7 C 27 moZero #[.string nm,.slice a7 us.length c7,v,.slice none 0 0,.slice none 0 0] wr l'/\Row w7.heap.size 170 4 wr v acc.length (desD acc)) (fun wr=>leftN R ts.length wr)
    case atStart=>exact ⟨_,[],l7,_,rfl,Nat.le_refl _,by simp;omega,HW.out,Row.nil _ _ _ _⟩
    case round =>
     obtain ⟨g,acc,l',v,HG,hg,hacc,hF,hrow⟩:=hrel;have HF:=hid hF;have HO:=hid hrow;have HDl:Hid (leftN R ts.length wr=l'.length):=hF.rd.left
     obtain ⟨g,rfl⟩:∃ g',g=g'+1:=⟨g - 1,by omega⟩
     clear hF hrow HW;go_wp2_with fail;refine (declAhead_any R cap a ts l' wr HF.out.rd).mono ?_
     cases hs:declB l' with
     | true =>
       rintro e w13 ⟨rfl,hb13⟩;have hz13:=hb13.size;have HF13:=hid (HF.out.later hb13);have HO13:=hid (HO.out.later hb13);obtain ⟨h0,h1,hvw13,h3,h4,h5⟩:=cellsOf5 HF13.out.cb;have hCw13:C<w13.heap.size:=lt_of_heap HF13.out.cb
       have besw13:Hid (∀ {b:Nat} {W:World},b<W.heap.size->False->w13.heap.size<=W.heap.size->Beside w7.heap.size v b):=fun _ h _=>h.elim
       have hwz:w7.heap.size<=wr.heap.size:=HF.out.mv.1;clear hb13 HF HO;go_wp2_with fail
       cases hx:pDecl l' with
       | none=>
         have HE:Hid (∀ w',Rd R a cap ts w' l'->Calls Tryz.prog 199 #[.pointer (some ⟨R,0,none⟩)] w' fun e w''=>e = .panicked errPanic/\Keeps R w' w''):=fun w' h'=>by
          refine (decl_any R cap a ts _ w' h').mono ?_;rintro e w'' ⟨hk,⟨_,rfl⟩ | ⟨_,_,_,h,_⟩⟩
          . exact ⟨rfl,hk⟩
          . rw [hx] at h;cases h
         have HP:Hid (pModule l=none):=by show _=_;rw [HP7.out];unfold pM2;rw [HG.out];unfold pDecls;rw [if_pos hs,hx]
         clear hx;go_wp2_with fail;refine wp_region_any (by kernel_rfl) ?_
         change wpAny _ _ _ _ _ _ _ (World.drew _)
         refine wpAny_take (i:=2) (v:=.pointer (some ⟨R,0,none⟩)) rfl (by kernel_rfl) (by kernel_rfl) (by kernel_rfl) (fun c a w h=>h) (Or.inl ⟨by rfl,fun w=>by go_simp⟩) ?_;refine wpAny_take (i:=0) (v:=.pointer (some ⟨C,2,none⟩)) rfl (by kernel_rfl) (by kernel_rfl) (by kernel_rfl) (fun c a w h=>h) (Or.inl ⟨by rfl,fun w=>by go_simp⟩) ?_;refine wpAny_ready (rs:=[1,3]) (by kernel_rfl) (by simp) ?_;refine AllReady.cons rfl (fun K hK=>?_) (AllReady.cons rfl (fun K hK=>?_) AllReady.nil)
         . go_simp
           refine hK _ _ ?_;clear hK K;refine wpAny_ready (rs:=[3]) (by kernel_rfl) (by simp) ?_;refine AllReady.cons rfl (fun K hK=>?_) AllReady.nil;refine step_callP (by rfl) 199 _ _ (by rfl) en_decl _ (by rfl) errPanic (HE.out _ HF13.out.rd.drew) ?_;intro w8 hk8;exact ⟨rfl,HF13.out.ke.drew.trans hk8,Or.inl ⟨HP.out,rfl⟩⟩
         . refine step_callP (by rfl) 199 _ _ (by rfl) en_decl _ (by rfl) errPanic (HE.out _ HF13.out.rd.drew) ?_
           intro w8 hk8;exact ⟨rfl,HF13.out.ke.drew.trans hk8,Or.inl ⟨HP.out,rfl⟩⟩
       | some r=>
         obtain ⟨y,ly⟩:=r
         have HE:Hid (∀ w',Rd R a cap ts w' l'->Calls Tryz.prog 199 #[.pointer (some ⟨R,0,none⟩)] w' fun e w''=>∃ u,e = .returned u/\(Keeps R w' w''/\DeRep y w'' u/\Rd R a cap ts w'' ly)):=fun w' h'=>by
          refine (decl_any R cap a ts _ w' h').mono ?_;rintro e w'' ⟨hk,⟨h,_⟩ | ⟨y',l',u,h,rfl,hr,hd⟩⟩
          . rw [hx] at h;cases h
          . rw [hx] at h
            obtain ⟨rfl,rfl⟩:=Prod.mk.inj (Option.some.inj h);exact ⟨u,rfl,hk,hr,hd⟩
         have HPy:Hid (pDecls (l7.length+1) [] l7=pDecls g (acc++[y]) ly):=by show _=_;rw [HG.out];unfold pDecls;rw [if_pos hs,hx];cases g<;>rfl
         have hly:=pDecl_lt hx;clear hx;go_wp2_with fail
         go_region_law (first
          | (refine step_callR (by rfl) 199 _ _ (by rfl) en_decl _ (by rfl) (HE.out _ HF13.out.rd.drew) ?_
             rintro u8 w8 ⟨HK8,⟨rfl,hy8⟩,HR8⟩;have hz8:w13.heap.size<=w8.heap.size:=HK8.size;have HF8:=hid (HF13.out.drew.keeps HK8 HR8);have hc8:w8.cell? ⟨C,2,none⟩=some v:=(HK8.cell (show C<w13.heap.size from hCw13) (by omega)).trans hvw13
             have hq8:C<w8.heap.size:=by omega
             have HO8:Hid (Row w7.heap.size 170 4 w8 v acc.length (desD acc)):=(HO13.out.keeps (Keeps.refl R w13).drew (by omega)).keeps HK8 (by omega))
          | (refine step_append_row (by rfl) _ _ 23 (by rfl) w7.heap.size 170 _ 4 40 Tryz.underlying23 Tryz.infoP56 rfl (by decide) w8 _ acc.length (desD acc) y.ds (by rfl) HO8.out #[.int .i64 y.kind,.string y.name,.bool y.pub,.int .i64 y.n] _ rfl (by rfl) rfl (fun _=>False) (de_evals hy8) (fun b hb hA=>?_) (by omega) (by decide) (by omega) ?_
             focus (exact besw13.out hb hA hz8)
             intro g9 c9 w9 HO9 HB9 hz9;obtain ⟨k0,k1,k2,k3,k4,k5⟩:=cellsOf5 (HF8.out.belowB HB9 (by omega)).cb
             have hq9:C<w9.heap.size:=by omega
             have HF9:=hid ((HF8.out.belowB HB9 (by omega)).put 2 (.slice (some ⟨g9,0,none⟩) (acc.length+1) c9))
             have HO9':=hid (HO9.set (p:=⟨C,2,none⟩) (by show C<w7.heap.size;omega) (.slice (some ⟨g9,0,none⟩) (acc.length+1) c9))))
         all_goals
          clear HE;go_wp2_with fail;go_roundw
          case rel=>exact ⟨g,acc++[y],ly,_,HPy,by omega,by simp;omega,HF9.out,by rw [List.length_append];rw [show desD (acc++[y])=desD acc++y.ds from by simp [desD]];exact HO9'.out⟩
          case measure=>rw [HF9.out.rd.left,HDl.out];omega
     | false =>
       rintro e w13 ⟨rfl,hb13⟩;have HF13:=hid (HF.out.later hb13);have HO13:=hid (HO.out.later hb13)
       have HP13:Hid (pModule l=pM3 nm us acc l'):=by show _=_;rw [HP7.out];unfold pM2;rw [HG.out];unfold pDecls;rw [if_neg (by simp [hs])]
       obtain ⟨a13,c13,rfl,hls⟩:=HO13.out.slice;have hwz:w7.heap.size<=wr.heap.size:=HF.out.mv.1;have hz13:=hb13.size;have HDs:Hid (EAt w13 (C<·) a13 acc.length (desD acc)):=low hls (by omega);have HUs':Hid (EAt w13 (C<·) a7 us.length (strsD us)):=HF13.out.at' HUs.out;have HW:=hid HF13.out.restart;have hC13:C<w13.heap.size:=lt_of_heap HF13.out.cb
       have hacc':l'.length<=l.length:=by omega
       clear hb13 HF HO hs hls HG HP7 HF13 HO13 HDl hacc hg g HUs;generalize hds:acc=ds at *;generalize hl13:l'=l13 at *;clear hds hl13;go_wp2_with fail
       go_loopw [] (fun wr=>∃ (g:Nat) (acc:List Pr) (l':List Tk) (v:Value),Hid (pProcs (l13.length+1) [] l13=pProcs g acc l')/\l'.length+1<=g/\acc.length+l'.length<=l.length/\FSt R a cap ts w w13 C 27 moZero #[.string nm,.slice a7 us.length c7,.slice a13 ds.length c13,v,.slice none 0 0] wr l'/\Row w13.heap.size 118 5 wr v acc.length (prsD acc)) (fun wr=>leftN R ts.length wr)
       case atStart=>exact ⟨_,[],l13,_,rfl,Nat.le_refl _,by simp;omega,HW.out,Row.nil _ _ _ _⟩
       case round=>
        obtain ⟨g,acc,l',v,HG,hg,hacc,hF,hrow⟩:=hrel;have HF:=hid hF;have HO:=hid hrow;have HDl:Hid (leftN R ts.length wr=l'.length):=hF.rd.left
        obtain ⟨g,rfl⟩:∃ g',g=g'+1:=⟨g - 1,by omega⟩
        clear hF hrow HW;go_wp2_with fail
        cases hs:skB l' tMain with
        | false =>
          refine (skip_no R cap a ts l' tMain wr HF.out.rd hs).mono ?_;rintro e w23 ⟨rfl,HR3,HK3⟩;have hz23:=HK3.size;have HF23:=hid (HF.out.keeps HK3 HR3);have HO23:=hid (HO.out.keeps HK3 (by omega));obtain ⟨h0,h1,h2,hvw23,h4,h5⟩:=cellsOf5 HF23.out.cb;have hCw23:C<w23.heap.size:=lt_of_heap HF23.out.cb;have hwz:w13.heap.size<=wr.heap.size:=HF.out.mv.1
          have besw23:Hid (∀ {b:Nat} {W:World},b<W.heap.size->w23.heap.size<=b->w23.heap.size<=W.heap.size->Beside w13.heap.size v b):=fun {b} _ _ h _=>⟨by omega,fun e=>by have:=(HO23.out.lt b e).2;omega⟩
          clear HK3 HR3 HF HO;go_wp2_with fail
          cases hx:pProc l' with
          | none=>
            have HE:Hid (∀ w',Rd R a cap ts w' l'->Calls Tryz.prog 200 #[.pointer (some ⟨R,0,none⟩)] w' fun e w''=>e = .panicked errPanic/\Keeps R w' w''):=fun w' h'=>by
             refine (proc_any R cap a ts _ w' h').mono ?_;rintro e w'' ⟨hk,⟨_,rfl⟩ | ⟨_,_,_,h,_⟩⟩
             . exact ⟨rfl,hk⟩
             . rw [hx] at h;cases h
            have HP:Hid (pModule l=none):=by show _=_;rw [HP13.out];unfold pM3;rw [HG.out];unfold pProcs;rw [if_neg (by simp [hs]),hx]
            clear hx;go_wp2_with fail;refine wp_region_any (by kernel_rfl) ?_
            change wpAny _ _ _ _ _ _ _ (World.drew _)
            refine wpAny_take (i:=2) (v:=.pointer (some ⟨R,0,none⟩)) rfl (by kernel_rfl) (by kernel_rfl) (by kernel_rfl) (fun c a w h=>h) (Or.inl ⟨by rfl,fun w=>by go_simp⟩) ?_;refine wpAny_take (i:=0) (v:=.pointer (some ⟨C,3,none⟩)) rfl (by kernel_rfl) (by kernel_rfl) (by kernel_rfl) (fun c a w h=>h) (Or.inl ⟨by rfl,fun w=>by go_simp⟩) ?_;refine wpAny_ready (rs:=[1,3]) (by kernel_rfl) (by simp) ?_;refine AllReady.cons rfl (fun K hK=>?_) (AllReady.cons rfl (fun K hK=>?_) AllReady.nil)
            . go_simp
              refine hK _ _ ?_;clear hK K;refine wpAny_ready (rs:=[3]) (by kernel_rfl) (by simp) ?_;refine AllReady.cons rfl (fun K hK=>?_) AllReady.nil;refine step_callP (by rfl) 200 _ _ (by rfl) en_proc _ (by rfl) errPanic (HE.out _ HF23.out.rd.drew) ?_;intro w8 hk8;exact ⟨rfl,HF23.out.ke.drew.trans hk8,Or.inl ⟨HP.out,rfl⟩⟩
            . refine step_callP (by rfl) 200 _ _ (by rfl) en_proc _ (by rfl) errPanic (HE.out _ HF23.out.rd.drew) ?_
              intro w8 hk8;exact ⟨rfl,HF23.out.ke.drew.trans hk8,Or.inl ⟨HP.out,rfl⟩⟩
          | some r=>
            obtain ⟨y,ly⟩:=r
            have HE:Hid (∀ w',Rd R a cap ts w' l'->Calls Tryz.prog 200 #[.pointer (some ⟨R,0,none⟩)] w' fun e w''=>∃ u,e = .returned u/\(Keeps R w' w''/\PrRep (w'.heap.size<=·) y w'' u/\Rd R a cap ts w'' ly)):=fun w' h'=>by
             refine (proc_any R cap a ts _ w' h').mono ?_;rintro e w'' ⟨hk,⟨h,_⟩ | ⟨y',l',u,h,rfl,hr,hd⟩⟩
             . rw [hx] at h;cases h
             . rw [hx] at h
               obtain ⟨rfl,rfl⟩:=Prod.mk.inj (Option.some.inj h);exact ⟨u,rfl,hk,hr,hd⟩
            have HPy:Hid (pProcs (l13.length+1) [] l13=pProcs g (acc++[y]) ly):=by show _=_;rw [HG.out];unfold pProcs;rw [if_neg (by simp [hs]),hx];cases g<;>rfl
            have hly:=pProc_lt hx;clear hx;go_wp2_with fail
            go_region_law (first
             | (refine step_callR (by rfl) 200 _ _ (by rfl) en_proc _ (by rfl) (HE.out _ HF23.out.rd.drew) ?_
                rintro u8 w8 ⟨HK8,⟨p1,q1,p2,q2,p3,q3,rfl,hy0,hy1,hy2,hy3⟩,HR8⟩;have hz8:w23.heap.size<=w8.heap.size:=HK8.size;have HF8:=hid (HF23.out.drew.keeps HK8 HR8);have hc8:w8.cell? ⟨C,3,none⟩=some v:=(HK8.cell (show C<w23.heap.size from hCw23) (by omega)).trans hvw23
                have hq8:C<w8.heap.size:=by omega
                have HO8:Hid (Row w13.heap.size 118 5 w8 v acc.length (prsD acc)):=(HO23.out.keeps (Keeps.refl R w23).drew (by omega)).keeps HK8 (by omega))
             | (refine step_append_row (by rfl) _ _ 24 (by rfl) w13.heap.size 118 _ 5 96 Tryz.underlying24 Tryz.infoP60 rfl (by decide) w8 _ acc.length (prsD acc) y.ds (by rfl) HO8.out #[.string y.name,.bool y.pub,.slice p1 y.params.length q1,.slice p2 y.locals.length q2,.slice p3 y.body.length q3] _ rfl (by rfl) rfl (w23.heap.size<=·) (pr_evals hy0 hy1 hy2 hy3) (fun b hb hA=>?_) (by omega) (by decide) (by omega) ?_
                focus (exact besw23.out hb hA hz8)
                intro g9 c9 w9 HO9 HB9 hz9;obtain ⟨k0,k1,k2,k3,k4,k5⟩:=cellsOf5 (HF8.out.belowB HB9 (by omega)).cb
                have hq9:C<w9.heap.size:=by omega
                have HF9:=hid ((HF8.out.belowB HB9 (by omega)).put 3 (.slice (some ⟨g9,0,none⟩) (acc.length+1) c9))
                have HO9':=hid (HO9.set (p:=⟨C,3,none⟩) (by show C<w13.heap.size;omega) (.slice (some ⟨g9,0,none⟩) (acc.length+1) c9))))
            all_goals
             clear HE;go_wp2_with fail;go_roundw
             case rel=>exact ⟨g,acc++[y],ly,_,HPy,by omega,by simp;omega,HF9.out,by rw [List.length_append];rw [show prsD (acc++[y])=prsD acc++y.ds from by simp [prsD]];exact HO9'.out⟩
             case measure=>rw [HF9.out.rd.left,HDl.out];omega
        | true=>
          refine (skip_yes R cap a ts l' tMain wr (by decide) HF.out.rd hs).mono ?_;rintro e w23 ⟨rfl,HR3,HK3⟩;have HF23:=hid (HF.out.keeps HK3 HR3);have HO23:=hid (HO.out.keeps HK3 (by omega))
          have HP23:Hid (pModule l=(match pB l'.tail with
           | none=>none
           | some (b,l5)=>if skB l5 tRb then some (⟨nm,us,ds,acc,b⟩,l5.tail) else none)):=by show _=_;rw [HP13.out];unfold pM3;rw [HG.out];unfold pProcs;rw [if_pos hs]
          obtain ⟨a23,c23,rfl,hls⟩:=HO23.out.slice;have hwz:w13.heap.size<=wr.heap.size:=HF.out.mv.1;have hz23:=HK3.size;have HPs:Hid (EAt w23 (C<·) a23 acc.length (prsD acc)):=low hls (by omega);have HUs:Hid (EAt w23 (C<·) a7 us.length (strsD us)):=HF23.out.at' HUs'.out;have HDs':Hid (EAt w23 (C<·) a13 ds.length (desD ds)):=HF23.out.at' HDs.out;have HW:=hid HF23.out.restart;have hC23:C<w23.heap.size:=lt_of_heap HF23.out.cb;clear HK3 HR3 HF HO hs hls HG HP13 HF23 HO23 HDl HUs' HDs;go_wp2_with fail;refine (block_any R cap a ts l'.tail w23 HW.out.rd).mono ?_;rintro e w24 ⟨KK,⟨hn,rfl⟩ | ⟨b,l4,v,hn,rfl,⟨a4,c4,rfl,hb4⟩,RD⟩⟩
          . exact ⟨rfl,HW.out.ke.trans KK,Or.inl ⟨by rw [HP23.out,hn],rfl⟩⟩
          have HP24:Hid (pModule l=if skB l4 tRb then some (⟨nm,us,ds,acc,b⟩,l4.tail) else none):=by show _=_;rw [HP23.out,hn]
          have HF24:=hid (HW.out.keeps KK RD);have hz24:=KK.size;have HF25:Hid (FSt R a cap ts w w23 C 27 moZero #[.string nm,.slice a7 us.length c7,.slice a13 ds.length c13,.slice a23 acc.length c23,.slice a4 b.length c4] (w24.setCell ⟨C,4,none⟩ (.slice a4 b.length c4)) l4):=HF24.out.put 4 (.slice a4 b.length c4);have H4:Hid (EAt (w24.setCell ⟨C,4,none⟩ (.slice a4 b.length c4)) (C<·) a4 b.length (stsD b)):=hb4.moves (((Moves.refl w24 _).set (fun k _ hk=>by show k≠C;omega) _).trans ⟨Nat.le_refl _,fun k _ hk=>⟨by omega,rfl⟩⟩);obtain ⟨h0,h1,h2,h3,h4,h5⟩:=cellsOf5 HF24.out.cb
          have hq24:C<w24.heap.size:=by omega
          have hz25:(w24.setCell ⟨C,4,none⟩ (.slice a4 b.length c4)).heap.size=w24.heap.size:=by simp only [World.size_setCell]
          clear KK RD hn HF24 HW hb4 HP23;go_wp2_with fail;generalize w24.setCell ⟨C,4,none⟩ (.slice a4 b.length c4)=w25 at *;clear h0 h1 h2 h3 h4 h5;refine (must1 R cap _ a ts l4 tRb w25 (by omega) HF25.out.rd (by decide)).mono ?_;rintro e w26 ⟨KK,⟨s1,rfl⟩ | ⟨s1,rfl,RD⟩⟩
          . exact ⟨rfl,HF25.out.ke.trans KK,Or.inl ⟨by rw [HP24.out,if_neg (by simp [s1])],rfl⟩⟩
          have HPE:Hid (pModule l=some (⟨nm,us,ds,acc,b⟩,l4.tail)):=by show _=_;rw [HP24.out,if_pos s1]
          have HF26:=hid (HF25.out.keeps KK RD);have hm:Hid (Moves w25 (C<·) w26 (C<·)):=(Moves.refl w25 _).keeps KK (fun k _ hk=>by omega);have HFin:=hid (mo_fin (m:=⟨nm,us,ds,acc,b⟩) HF26.out HPE.out hnm (HF26.out.at' HUs.out) (HF26.out.at' HDs'.out) (HF26.out.at' HPs.out) (H4.out.moves hm.out));obtain ⟨h0,h1,h2,h3,h4,h5⟩:=cellsOf5 HF26.out.cb;obtain ⟨g0,g1,g2,g3,g4,g5⟩:=cellsOf5 HF26.out.zb
          have hne:w.heap.size≠C:=by omega
          clear KK RD HF26 HF25 H4 hm HUs HDs' HPs HP24 HPE s1;go_wp2_with fail;refine bodyPost_ret (v:=.agg #[.string nm,.slice a7 us.length c7,.slice a13 ds.length c13,.slice a23 acc.length c23,.slice a4 b.length c4]) (by simp [results,Tryz.results159,go_sem,g0,g1,g2,g3,g4]) rfl HFin.out
end Go.Proofs.YtndkhgakfodldaaGreatDoor
