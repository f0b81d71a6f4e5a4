/-
  Declarations are read as the grammar says.
-/
import Derived.Test.YtndkhgakfodldaaGreatDoorPj
namespace Go.Proofs.YtndkhgakfodldaaGreatDoor
set_option maxRecDepth 100000
set_option maxHeartbeats 3200000
open Go.RowKit Go.Shelf
theorem declAhead_any (R cap:Nat) (a:Option Addr) (ts l:List Tk) (w:World) (h:Rd R a cap ts w l) :
 Calls Tryz.prog 198 #[.pointer (some ⟨R,0,none⟩)] w fun e w'=>e = .returned (.bool (declB l))/\Below w.heap.size w w':=by
 have HR:Hid (Rd R a cap ts w l):=h;have hf2:=tok_f2 (hd l).kind (hd l).n (hd l).text;have hf3:=tok_f2 (l.getD 1 noTk).kind (l.getD 1 noTk).n (l.getD 1 noTk).text
 have HS:Hid (skB l tPub=((hd l).text.toList == [112,117,98])):=by show skB l tPub=_;unfold skB;rw [Lib.toList_data tPub]
 have HD:Hid (declB l=((if skB l tPub then (l.getD 1 noTk).text else (hd l).text).toList == [99,111,110,115,116]||(if skB l tPub then (l.getD 1 noTk).text else (hd l).text).toList == [118,97,114]||(if skB l tPub then (l.getD 1 noTk).text else (hd l).text).toList == [97,114,114,97,121])):=by
  show declB l=_;unfold declB;rw [Lib.toList_data tConst,Lib.toList_data tVar,Lib.toList_data tArray]
 have HG:Hid (∀ w',Rd R a cap ts w' l->Calls Tryz.prog 252 #[.pointer (some ⟨R,0,none⟩),.int .i64 1] w' fun e w''=>e = .returned (.agg #[.int .i64 (l.getD 1 noTk).kind,.int .i64 (l.getD 1 noTk).n,.string (l.getD 1 noTk).text])/\Below w'.heap.size w' w''):=fun w' h'=>ahead_any R cap 1 a ts l w' (by omega) h'
 clear h;go_enter Tryz.func198,Tryz.ntmps198;go_wp2_with fail;refine (ahead0 R cap a ts l w HR.out).mono ?_;rintro e w1 ⟨rfl,hb1⟩
 by_cases hp:((hd l).text.toList == [112,117,98])=true
 . have HS':Hid (skB l tPub=true):=HS.out.trans hp
   generalize l.getD 1 noTk=T at *;go_wp2_with fail;refine (HG.out w1 (HR.out.later hb1)).mono ?_;rintro e w2 ⟨rfl,hb2⟩;go_wp2_with fail
   all_goals go_ret
   all_goals refine ⟨ret_bool ?_,hb1.trans (hb2.mono hb1.size)⟩
   all_goals rw [HD.out,HS'.out];simp_all
 . have hp':((hd l).text.toList == [112,117,98])=false:=by simpa using hp
   have HS':Hid (skB l tPub=false):=HS.out.trans hp';clear hp;generalize hd l=T at *;go_wp2_with fail
   all_goals go_ret
   all_goals refine ⟨ret_bool ?_,hb1⟩
   all_goals rw [HD.out,HS'.out];simp_all
def DeRep (d:De) (_:World) (v:Value):Prop:=v = .agg #[.int .i64 d.kind,.string d.name,.bool d.pub,.int .i64 d.n]/\d.name.size<=maxLen
abbrev set4 (w:World) (b:Nat) (v0 v1 v2 v3:Value):World:=(((w.setCell ⟨b,0,none⟩ v0).setCell ⟨b,1,none⟩ v1).setCell ⟨b,2,none⟩ v2).setCell ⟨b,3,none⟩ v3
theorem Keeps.set4 {R b:Nat} {w w1:World} (h:Keeps R w w1) (hp:w.heap.size<=b) (v0 v1 v2 v3:Value):Keeps R w (set4 w1 b v0 v1 v2 v3):=(((h.set hp v0).set hp v1).set hp v2).set hp v3
theorem Rd.set4 {R cap b:Nat} {w0 w1:World} {a:Option Addr} {ts l l0:List Tk} (h:Rd R a cap ts w1 l) (h0:Rd R a cap ts w0 l0) (hp:w0.heap.size<=b) (v0 v1 v2 v3:Value):Rd R a cap ts (set4 w1 b v0 v1 v2 v3) l:=(((h.setAbove h0 hp v0).setAbove h0 hp v1).setAbove h0 hp v2).setAbove h0 hp v3
abbrev deZero:Obj:=.cells #[.int .i64 0,.string ⟨#[]⟩,.bool false,.int .i64 0] 170 (0,0)
abbrev deCells (k:Int) (nm:ByteArray) (p:Bool) (n:Int):Obj:=.cells #[.int .i64 k,.string nm,.bool p,.int .i64 n] 170 (0,0)
theorem decl_any (R cap:Nat) (a:Option Addr) (ts l:List Tk) (w:World) (h:Rd R a cap ts w l) :
 Calls Tryz.prog 199 #[.pointer (some ⟨R,0,none⟩)] w (PEnd R a cap ts w (pDecl l) DeRep):=by
 have HR:Hid (Rd R a cap ts w l):=h;have hRw:=h.lt;clear h;go_enter Tryz.func199,Tryz.ntmps199;go_wp2_with fail;refine (skip_any R cap a ts l tPub _ (by decide) (HR.out.alloc _)).mono ?_;rintro e w1 ⟨rfl,RD,KK⟩;have HRw1:Hid (Rd R a cap ts w1 (pubL l)):=RD;have HKw1:Hid (Keeps R w w1):=((Keeps.refl R w).alloc _).trans KK;have hz1:=KK.size;simp at hz1;have HB1:Hid (w1.heap[w.heap.size]? = some deZero):=(KK.block w.heap.size (by simp) (by omega)).trans (heap_newP _ _);clear RD KK;go_wp2_with fail
 obtain ⟨w2,hw2⟩:∃ w2,w2=w1.alloc (deCells 0 ⟨#[]⟩ (skB l tPub) 0):=⟨_,rfl⟩
 have HRw2:Hid (Rd R a cap ts w2 (pubL l)):=by rw [hw2];exact HRw1.out.alloc _
 have HKw2:Hid (Keeps R w w2):=by rw [hw2];exact HKw1.out.alloc _
 have HBw2:Hid (w2.heap[w.heap.size]? = some deZero):=by rw [hw2];exact heap_old HB1.out
 have HCw2:Hid (w2.heap[w1.heap.size]? = some (deCells 0 ⟨#[]⟩ (skB l tPub) 0)):=by rw [hw2];exact heap_newP _ _
 have hz2:w2.heap.size=w1.heap.size+1:=by rw [hw2];simp
 rw [← hw2];clear hw2 HRw1 HKw1 HB1;refine (must3 R cap _ a ts (pubL l) tConst tVar tArray w2 hz2.symm HRw2.out (by decide) (by decide) (by decide)).mono ?_;rintro e w3 ⟨KK,hr3⟩;have hz3:=KK.size;have HKw3:Hid (Keeps R w w3):=HKw2.out.trans KK;have HBw3:Hid (w3.heap[w.heap.size]? = some deZero):=(KK.block w.heap.size (by omega) (by omega)).trans HBw2.out;have HCw3:Hid (w3.heap[w1.heap.size]? = some (deCells 0 ⟨#[]⟩ (skB l tPub) 0)):=(KK.block w1.heap.size (by omega) (by omega)).trans HCw2.out;clear KK HRw2 HKw2 HBw2 HCw2
 rcases hr3 with ⟨s1,s2,s3,rfl⟩ | ⟨s1,rfl,RD⟩ | ⟨s1,s2,rfl,RD⟩ | ⟨s1,s2,s3,rfl,RD⟩
 . exact ⟨rfl,HKw3.out,Or.inl ⟨by unfold pDecl;rw [s1,s2,s3];rfl,rfl⟩⟩
 . have HRw3:Hid (Rd R a cap ts w3 (pubL l).tail):=RD
   clear RD;go_wp2_with fail;refine (name_any R cap a ts (pubL l).tail w3 HRw3.out).mono ?_;rintro e w4 ⟨KK,⟨hn,rfl⟩ | ⟨nm,l4,v,hn,rfl,⟨rfl,hnm⟩,RD⟩⟩
   . exact ⟨rfl,HKw3.out.trans KK,Or.inl ⟨by unfold pDecl;rw [if_pos s1,hn],rfl⟩⟩
   have HP4:Hid (pDecl l=if skB l4 tEq then (match pNum l4.tail with | none=>none | some (k,l2)=>if skB l2 tSem then some (⟨1,nm,skB l tPub,k⟩,l2.tail) else none) else none):=by show pDecl l=_;unfold pDecl;rw [if_pos s1,hn]<;>rfl
   clear hn;have HRw4:Hid (Rd R a cap ts w4 l4):=RD;have HKw4:Hid (Keeps R w w4):=HKw3.out.trans KK;have HBw4:Hid (w4.heap[w.heap.size]? = some deZero):=(KK.block w.heap.size (by omega) (by omega)).trans HBw3.out;have HCw4:Hid (w4.heap[w1.heap.size]? = some (deCells 0 ⟨#[]⟩ (skB l tPub) 0)):=(KK.block w1.heap.size (by omega) (by omega)).trans HCw3.out;have hzw4:=KK.size;clear RD KK HRw3 HKw3 HBw3 HCw3;have HRw5:Hid (Rd R a cap ts ((w4.setCell ⟨w1.heap.size,1,none⟩ (.string nm)).setCell ⟨w1.heap.size,0,none⟩ (.int .i64 1)) l4):=((HRw4.out).setAbove HR.out (by show _<=w1.heap.size;omega) _).setAbove HR.out (by show _<=w1.heap.size;omega) _;have HKw5:Hid (Keeps R w ((w4.setCell ⟨w1.heap.size,1,none⟩ (.string nm)).setCell ⟨w1.heap.size,0,none⟩ (.int .i64 1))):=((HKw4.out).set (by show _<=w1.heap.size;omega) _).set (by show _<=w1.heap.size;omega) _
   have HBw5:Hid (((w4.setCell ⟨w1.heap.size,1,none⟩ (.string nm)).setCell ⟨w1.heap.size,0,none⟩ (.int .i64 1)).heap[w.heap.size]? = some deZero):=(heap_set_ne (by show w.heap.size≠w1.heap.size;omega) _).trans ((heap_set_ne (by show w.heap.size≠w1.heap.size;omega) _).trans (HBw4.out));have HCw5:Hid (((w4.setCell ⟨w1.heap.size,1,none⟩ (.string nm)).setCell ⟨w1.heap.size,0,none⟩ (.int .i64 1)).heap[w1.heap.size]? = some (deCells 1 nm (skB l tPub) 0)):=heap_set (heap_set (HCw4.out) _) _
   have hzw5:((w4.setCell ⟨w1.heap.size,1,none⟩ (.string nm)).setCell ⟨w1.heap.size,0,none⟩ (.int .i64 1)).heap.size=w4.heap.size:=by simp only [World.size_setCell]
   obtain ⟨h0,h1,h2,h3,h4⟩:=cellsOf4 HCw4.out
   have hqw4:w1.heap.size<w4.heap.size:=by omega
   go_wp2_with fail;generalize (w4.setCell ⟨w1.heap.size,1,none⟩ (.string nm)).setCell ⟨w1.heap.size,0,none⟩ (.int .i64 1)=w5 at *;clear h0 h1 h2 h3 h4 HRw4 HKw4 HBw4 HCw4;refine (must1 R cap _ a ts l4 tEq w5 (by omega) HRw5.out (by decide)).mono ?_;rintro e w6 ⟨KK,⟨zs,rfl⟩ | ⟨zs,rfl,RD⟩⟩
   . exact ⟨rfl,HKw5.out.trans KK,Or.inl ⟨by rw [HP4.out,if_neg (by simp [zs])],rfl⟩⟩
   have HP6:Hid (pDecl l=(match pNum l4.tail with | none=>none | some (k,l2)=>if skB l2 tSem then some (⟨1,nm,skB l tPub,k⟩,l2.tail) else none)):=by show pDecl l=_;rw [HP4.out,if_pos zs]
   clear zs;have HRw6:Hid (Rd R a cap ts w6 l4.tail):=RD;have HKw6:Hid (Keeps R w w6):=HKw5.out.trans KK;have HBw6:Hid (w6.heap[w.heap.size]? = some deZero):=(KK.block w.heap.size (by omega) (by omega)).trans HBw5.out;have HCw6:Hid (w6.heap[w1.heap.size]? = some (deCells 1 nm (skB l tPub) 0)):=(KK.block w1.heap.size (by omega) (by omega)).trans HCw5.out;have hzw6:=KK.size;clear RD KK HRw5 HKw5 HBw5 HCw5;go_wp2_with fail;refine (number_any' R cap a ts l4.tail w6 HRw6.out).mono ?_;rintro e w7 ⟨KK,⟨hn,rfl⟩ | ⟨num,l7,v,hn,rfl,rfl,RD⟩⟩
   . exact ⟨rfl,HKw6.out.trans KK,Or.inl ⟨by rw [HP6.out,hn],rfl⟩⟩
   have HP7:Hid (pDecl l=if skB l7 tSem then some (⟨1,nm,skB l tPub,num⟩,l7.tail) else none):=by show pDecl l=_;rw [HP6.out,hn]
   clear hn;have HRw7:Hid (Rd R a cap ts w7 l7):=RD;have HKw7:Hid (Keeps R w w7):=HKw6.out.trans KK;have HBw7:Hid (w7.heap[w.heap.size]? = some deZero):=(KK.block w.heap.size (by omega) (by omega)).trans HBw6.out;have HCw7:Hid (w7.heap[w1.heap.size]? = some (deCells 1 nm (skB l tPub) 0)):=(KK.block w1.heap.size (by omega) (by omega)).trans HCw6.out;have hzw7:=KK.size;clear RD KK HRw6 HKw6 HBw6 HCw6;have HRw8:Hid (Rd R a cap ts (w7.setCell ⟨w1.heap.size,3,none⟩ (.int .i64 num)) l7):=(HRw7.out).setAbove HR.out (by show _<=w1.heap.size;omega) _;have HKw8:Hid (Keeps R w (w7.setCell ⟨w1.heap.size,3,none⟩ (.int .i64 num))):=(HKw7.out).set (by show _<=w1.heap.size;omega) _;have HBw8:Hid ((w7.setCell ⟨w1.heap.size,3,none⟩ (.int .i64 num)).heap[w.heap.size]? = some deZero):=(heap_set_ne (by show w.heap.size≠w1.heap.size;omega) _).trans (HBw7.out);have HCw8:Hid ((w7.setCell ⟨w1.heap.size,3,none⟩ (.int .i64 num)).heap[w1.heap.size]? = some (deCells 1 nm (skB l tPub) num)):=heap_set (HCw7.out) _
   have hzw8:(w7.setCell ⟨w1.heap.size,3,none⟩ (.int .i64 num)).heap.size=w7.heap.size:=by simp only [World.size_setCell]
   obtain ⟨h0,h1,h2,h3,h4⟩:=cellsOf4 HCw7.out
   have hqw7:w1.heap.size<w7.heap.size:=by omega
   go_wp2_with fail;generalize w7.setCell ⟨w1.heap.size,3,none⟩ (.int .i64 num)=w8 at *;clear h0 h1 h2 h3 h4 HRw7 HKw7 HBw7 HCw7;refine (must1 R cap _ a ts l7 tSem w8 (by omega) HRw8.out (by decide)).mono ?_;rintro e z1 ⟨ZK,⟨zs,rfl⟩ | ⟨zs,rfl,ZR⟩⟩
   . exact ⟨rfl,HKw8.out.trans ZK,Or.inl ⟨by rw [HP7.out,if_neg (by simp [zs])],rfl⟩⟩
   have zz:=ZK.size
   have HP:Hid (pDecl l=some (⟨1,nm,skB l tPub,num⟩,l7.tail)):=by show pDecl l=_;rw [HP7.out,if_pos zs]
   have ZB:Hid (z1.heap[w.heap.size]? = some deZero):=(ZK.block w.heap.size (by omega) (by omega)).trans HBw8.out;have ZC:Hid (z1.heap[w1.heap.size]? = some (deCells 1 nm (skB l tPub) num)):=(ZK.block w1.heap.size (by omega) (by omega)).trans HCw8.out;obtain ⟨h0,h1,h2,h3,h4⟩:=cellsOf4 ZB.out;obtain ⟨g0,g1,g2,g3,g4⟩:=cellsOf4 ZC.out
   have HF:Hid (PEnd R a cap ts w (pDecl l) DeRep (.returned (.agg #[.int .i64 1,.string nm,.bool (skB l tPub),.int .i64 num])) (set4 z1 w.heap.size (.int .i64 1) (.string nm) (.bool (skB l tPub)) (.int .i64 num))):=
    ⟨(HKw8.out.trans ZK).set4 (Nat.le_refl _) _ _ _ _,Or.inr ⟨⟨1,nm,skB l tPub,num⟩,l7.tail,_,HP.out,rfl,⟨rfl,hnm⟩,ZR.set4 HR.out (Nat.le_refl _) _ _ _ _⟩⟩
   clear ZK ZR zs;go_wp2_with fail;refine bodyPost_ret (v:=.agg #[.int .i64 1,.string nm,.bool (skB l tPub),.int .i64 num]) (by simp [results,Tryz.results199,go_sem,h0,h1,h2,h3]) rfl HF.out
 . have HRw3:Hid (Rd R a cap ts w3 (pubL l).tail):=RD
   clear RD;go_wp2_with fail;refine (name_any R cap a ts (pubL l).tail w3 HRw3.out).mono ?_;rintro e w4 ⟨KK,⟨hn,rfl⟩ | ⟨nm,l4,v,hn,rfl,⟨rfl,hnm⟩,RD⟩⟩
   . exact ⟨rfl,HKw3.out.trans KK,Or.inl ⟨by unfold pDecl;rw [if_neg (by simp [s1]),if_pos s2,hn],rfl⟩⟩
   have HP4:Hid (pDecl l=if skB l4 tSem then some (⟨2,nm,skB l tPub,0⟩,l4.tail) else none):=by show pDecl l=_;unfold pDecl;rw [if_neg (by simp [s1]),if_pos s2,hn]<;>rfl
   clear hn;have HRw4:Hid (Rd R a cap ts w4 l4):=RD;have HKw4:Hid (Keeps R w w4):=HKw3.out.trans KK;have HBw4:Hid (w4.heap[w.heap.size]? = some deZero):=(KK.block w.heap.size (by omega) (by omega)).trans HBw3.out;have HCw4:Hid (w4.heap[w1.heap.size]? = some (deCells 0 ⟨#[]⟩ (skB l tPub) 0)):=(KK.block w1.heap.size (by omega) (by omega)).trans HCw3.out;have hzw4:=KK.size;clear RD KK HRw3 HKw3 HBw3 HCw3;have HRw5:Hid (Rd R a cap ts ((w4.setCell ⟨w1.heap.size,1,none⟩ (.string nm)).setCell ⟨w1.heap.size,0,none⟩ (.int .i64 2)) l4):=((HRw4.out).setAbove HR.out (by show _<=w1.heap.size;omega) _).setAbove HR.out (by show _<=w1.heap.size;omega) _;have HKw5:Hid (Keeps R w ((w4.setCell ⟨w1.heap.size,1,none⟩ (.string nm)).setCell ⟨w1.heap.size,0,none⟩ (.int .i64 2))):=((HKw4.out).set (by show _<=w1.heap.size;omega) _).set (by show _<=w1.heap.size;omega) _
   have HBw5:Hid (((w4.setCell ⟨w1.heap.size,1,none⟩ (.string nm)).setCell ⟨w1.heap.size,0,none⟩ (.int .i64 2)).heap[w.heap.size]? = some deZero):=(heap_set_ne (by show w.heap.size≠w1.heap.size;omega) _).trans ((heap_set_ne (by show w.heap.size≠w1.heap.size;omega) _).trans (HBw4.out));have HCw5:Hid (((w4.setCell ⟨w1.heap.size,1,none⟩ (.string nm)).setCell ⟨w1.heap.size,0,none⟩ (.int .i64 2)).heap[w1.heap.size]? = some (deCells 2 nm (skB l tPub) 0)):=heap_set (heap_set (HCw4.out) _) _
   have hzw5:((w4.setCell ⟨w1.heap.size,1,none⟩ (.string nm)).setCell ⟨w1.heap.size,0,none⟩ (.int .i64 2)).heap.size=w4.heap.size:=by simp only [World.size_setCell]
   obtain ⟨h0,h1,h2,h3,h4⟩:=cellsOf4 HCw4.out
   have hqw4:w1.heap.size<w4.heap.size:=by omega
   go_wp2_with fail;generalize (w4.setCell ⟨w1.heap.size,1,none⟩ (.string nm)).setCell ⟨w1.heap.size,0,none⟩ (.int .i64 2)=w5 at *;clear h0 h1 h2 h3 h4 HRw4 HKw4 HBw4 HCw4;refine (must1 R cap _ a ts l4 tSem w5 (by omega) HRw5.out (by decide)).mono ?_;rintro e z1 ⟨ZK,⟨zs,rfl⟩ | ⟨zs,rfl,ZR⟩⟩
   . exact ⟨rfl,HKw5.out.trans ZK,Or.inl ⟨by rw [HP4.out,if_neg (by simp [zs])],rfl⟩⟩
   have zz:=ZK.size
   have HP:Hid (pDecl l=some (⟨2,nm,skB l tPub,0⟩,l4.tail)):=by show pDecl l=_;rw [HP4.out,if_pos zs]
   have ZB:Hid (z1.heap[w.heap.size]? = some deZero):=(ZK.block w.heap.size (by omega) (by omega)).trans HBw5.out;have ZC:Hid (z1.heap[w1.heap.size]? = some (deCells 2 nm (skB l tPub) 0)):=(ZK.block w1.heap.size (by omega) (by omega)).trans HCw5.out;obtain ⟨h0,h1,h2,h3,h4⟩:=cellsOf4 ZB.out;obtain ⟨g0,g1,g2,g3,g4⟩:=cellsOf4 ZC.out
   have HF:Hid (PEnd R a cap ts w (pDecl l) DeRep (.returned (.agg #[.int .i64 2,.string nm,.bool (skB l tPub),.int .i64 0])) (set4 z1 w.heap.size (.int .i64 2) (.string nm) (.bool (skB l tPub)) (.int .i64 0))):=
    ⟨(HKw5.out.trans ZK).set4 (Nat.le_refl _) _ _ _ _,Or.inr ⟨⟨2,nm,skB l tPub,0⟩,l4.tail,_,HP.out,rfl,⟨rfl,hnm⟩,ZR.set4 HR.out (Nat.le_refl _) _ _ _ _⟩⟩
   clear ZK ZR zs;go_wp2_with fail;refine bodyPost_ret (v:=.agg #[.int .i64 2,.string nm,.bool (skB l tPub),.int .i64 0]) (by simp [results,Tryz.results199,go_sem,h0,h1,h2,h3]) rfl HF.out
 . have HRw3:Hid (Rd R a cap ts w3 (pubL l).tail):=RD
   clear RD;go_wp2_with fail;refine (name_any R cap a ts (pubL l).tail w3 HRw3.out).mono ?_;rintro e w4 ⟨KK,⟨hn,rfl⟩ | ⟨nm,l4,v,hn,rfl,⟨rfl,hnm⟩,RD⟩⟩
   . exact ⟨rfl,HKw3.out.trans KK,Or.inl ⟨by unfold pDecl;rw [if_neg (by simp [s1]),if_neg (by simp [s2]),if_pos s3,hn],rfl⟩⟩
   have HP4:Hid (pDecl l=if skB l4 tLs then (match pNum l4.tail with | none=>none | some (k,l2)=>if skB l2 tRs then (if skB l2.tail tSem then some (⟨3,nm,skB l tPub,k⟩,l2.tail.tail) else none) else none) else none):=by show pDecl l=_;unfold pDecl;rw [if_neg (by simp [s1]),if_neg (by simp [s2]),if_pos s3,hn]<;>rfl
   clear hn;have HRw4:Hid (Rd R a cap ts w4 l4):=RD;have HKw4:Hid (Keeps R w w4):=HKw3.out.trans KK;have HBw4:Hid (w4.heap[w.heap.size]? = some deZero):=(KK.block w.heap.size (by omega) (by omega)).trans HBw3.out;have HCw4:Hid (w4.heap[w1.heap.size]? = some (deCells 0 ⟨#[]⟩ (skB l tPub) 0)):=(KK.block w1.heap.size (by omega) (by omega)).trans HCw3.out;have hzw4:=KK.size;clear RD KK HRw3 HKw3 HBw3 HCw3;have HRw5:Hid (Rd R a cap ts ((w4.setCell ⟨w1.heap.size,1,none⟩ (.string nm)).setCell ⟨w1.heap.size,0,none⟩ (.int .i64 3)) l4):=((HRw4.out).setAbove HR.out (by show _<=w1.heap.size;omega) _).setAbove HR.out (by show _<=w1.heap.size;omega) _;have HKw5:Hid (Keeps R w ((w4.setCell ⟨w1.heap.size,1,none⟩ (.string nm)).setCell ⟨w1.heap.size,0,none⟩ (.int .i64 3))):=((HKw4.out).set (by show _<=w1.heap.size;omega) _).set (by show _<=w1.heap.size;omega) _
   have HBw5:Hid (((w4.setCell ⟨w1.heap.size,1,none⟩ (.string nm)).setCell ⟨w1.heap.size,0,none⟩ (.int .i64 3)).heap[w.heap.size]? = some deZero):=(heap_set_ne (by show w.heap.size≠w1.heap.size;omega) _).trans ((heap_set_ne (by show w.heap.size≠w1.heap.size;omega) _).trans (HBw4.out));have HCw5:Hid (((w4.setCell ⟨w1.heap.size,1,none⟩ (.string nm)).setCell ⟨w1.heap.size,0,none⟩ (.int .i64 3)).heap[w1.heap.size]? = some (deCells 3 nm (skB l tPub) 0)):=heap_set (heap_set (HCw4.out) _) _
   have hzw5:((w4.setCell ⟨w1.heap.size,1,none⟩ (.string nm)).setCell ⟨w1.heap.size,0,none⟩ (.int .i64 3)).heap.size=w4.heap.size:=by simp only [World.size_setCell]
   obtain ⟨h0,h1,h2,h3,h4⟩:=cellsOf4 HCw4.out
   have hqw4:w1.heap.size<w4.heap.size:=by omega
   go_wp2_with fail;generalize (w4.setCell ⟨w1.heap.size,1,none⟩ (.string nm)).setCell ⟨w1.heap.size,0,none⟩ (.int .i64 3)=w5 at *;clear h0 h1 h2 h3 h4 HRw4 HKw4 HBw4 HCw4;refine (must1 R cap _ a ts l4 tLs w5 (by omega) HRw5.out (by decide)).mono ?_;rintro e w6 ⟨KK,⟨zs,rfl⟩ | ⟨zs,rfl,RD⟩⟩
   . exact ⟨rfl,HKw5.out.trans KK,Or.inl ⟨by rw [HP4.out,if_neg (by simp [zs])],rfl⟩⟩
   have HP6:Hid (pDecl l=(match pNum l4.tail with | none=>none | some (k,l2)=>if skB l2 tRs then (if skB l2.tail tSem then some (⟨3,nm,skB l tPub,k⟩,l2.tail.tail) else none) else none)):=by show pDecl l=_;rw [HP4.out,if_pos zs]
   clear zs;have HRw6:Hid (Rd R a cap ts w6 l4.tail):=RD;have HKw6:Hid (Keeps R w w6):=HKw5.out.trans KK;have HBw6:Hid (w6.heap[w.heap.size]? = some deZero):=(KK.block w.heap.size (by omega) (by omega)).trans HBw5.out;have HCw6:Hid (w6.heap[w1.heap.size]? = some (deCells 3 nm (skB l tPub) 0)):=(KK.block w1.heap.size (by omega) (by omega)).trans HCw5.out;have hzw6:=KK.size;clear RD KK HRw5 HKw5 HBw5 HCw5;go_wp2_with fail;refine (number_any' R cap a ts l4.tail w6 HRw6.out).mono ?_;rintro e w7 ⟨KK,⟨hn,rfl⟩ | ⟨num,l7,v,hn,rfl,rfl,RD⟩⟩
   . exact ⟨rfl,HKw6.out.trans KK,Or.inl ⟨by rw [HP6.out,hn],rfl⟩⟩
   have HP7:Hid (pDecl l=if skB l7 tRs then (if skB l7.tail tSem then some (⟨3,nm,skB l tPub,num⟩,l7.tail.tail) else none) else none):=by show pDecl l=_;rw [HP6.out,hn]
   clear hn;have HRw7:Hid (Rd R a cap ts w7 l7):=RD;have HKw7:Hid (Keeps R w w7):=HKw6.out.trans KK;have HBw7:Hid (w7.heap[w.heap.size]? = some deZero):=(KK.block w.heap.size (by omega) (by omega)).trans HBw6.out;have HCw7:Hid (w7.heap[w1.heap.size]? = some (deCells 3 nm (skB l tPub) 0)):=(KK.block w1.heap.size (by omega) (by omega)).trans HCw6.out;have hzw7:=KK.size;clear RD KK HRw6 HKw6 HBw6 HCw6;have HRw8:Hid (Rd R a cap ts (w7.setCell ⟨w1.heap.size,3,none⟩ (.int .i64 num)) l7):=(HRw7.out).setAbove HR.out (by show _<=w1.heap.size;omega) _;have HKw8:Hid (Keeps R w (w7.setCell ⟨w1.heap.size,3,none⟩ (.int .i64 num))):=(HKw7.out).set (by show _<=w1.heap.size;omega) _;have HBw8:Hid ((w7.setCell ⟨w1.heap.size,3,none⟩ (.int .i64 num)).heap[w.heap.size]? = some deZero):=(heap_set_ne (by show w.heap.size≠w1.heap.size;omega) _).trans (HBw7.out);have HCw8:Hid ((w7.setCell ⟨w1.heap.size,3,none⟩ (.int .i64 num)).heap[w1.heap.size]? = some (deCells 3 nm (skB l tPub) num)):=heap_set (HCw7.out) _
   have hzw8:(w7.setCell ⟨w1.heap.size,3,none⟩ (.int .i64 num)).heap.size=w7.heap.size:=by simp only [World.size_setCell]
   obtain ⟨h0,h1,h2,h3,h4⟩:=cellsOf4 HCw7.out
   have hqw7:w1.heap.size<w7.heap.size:=by omega
   go_wp2_with fail;generalize w7.setCell ⟨w1.heap.size,3,none⟩ (.int .i64 num)=w8 at *;clear h0 h1 h2 h3 h4 HRw7 HKw7 HBw7 HCw7;refine (must1 R cap _ a ts l7 tRs w8 (by omega) HRw8.out (by decide)).mono ?_;rintro e w9 ⟨KK,⟨zs,rfl⟩ | ⟨zs,rfl,RD⟩⟩
   . exact ⟨rfl,HKw8.out.trans KK,Or.inl ⟨by rw [HP7.out,if_neg (by simp [zs])],rfl⟩⟩
   have HP9:Hid (pDecl l=if skB l7.tail tSem then some (⟨3,nm,skB l tPub,num⟩,l7.tail.tail) else none):=by show pDecl l=_;rw [HP7.out,if_pos zs]
   clear zs;have HRw9:Hid (Rd R a cap ts w9 l7.tail):=RD;have HKw9:Hid (Keeps R w w9):=HKw8.out.trans KK;have HBw9:Hid (w9.heap[w.heap.size]? = some deZero):=(KK.block w.heap.size (by omega) (by omega)).trans HBw8.out;have HCw9:Hid (w9.heap[w1.heap.size]? = some (deCells 3 nm (skB l tPub) num)):=(KK.block w1.heap.size (by omega) (by omega)).trans HCw8.out;have hzw9:=KK.size;clear RD KK HRw8 HKw8 HBw8 HCw8;go_wp2_with fail;refine (must1 R cap _ a ts l7.tail tSem w9 (by omega) HRw9.out (by decide)).mono ?_;rintro e z1 ⟨ZK,⟨zs,rfl⟩ | ⟨zs,rfl,ZR⟩⟩
   . exact ⟨rfl,HKw9.out.trans ZK,Or.inl ⟨by rw [HP9.out,if_neg (by simp [zs])],rfl⟩⟩
   have zz:=ZK.size
   have HP:Hid (pDecl l=some (⟨3,nm,skB l tPub,num⟩,l7.tail.tail)):=by show pDecl l=_;rw [HP9.out,if_pos zs]
   have ZB:Hid (z1.heap[w.heap.size]? = some deZero):=(ZK.block w.heap.size (by omega) (by omega)).trans HBw9.out;have ZC:Hid (z1.heap[w1.heap.size]? = some (deCells 3 nm (skB l tPub) num)):=(ZK.block w1.heap.size (by omega) (by omega)).trans HCw9.out;obtain ⟨h0,h1,h2,h3,h4⟩:=cellsOf4 ZB.out;obtain ⟨g0,g1,g2,g3,g4⟩:=cellsOf4 ZC.out
   have HF:Hid (PEnd R a cap ts w (pDecl l) DeRep (.returned (.agg #[.int .i64 3,.string nm,.bool (skB l tPub),.int .i64 num])) (set4 z1 w.heap.size (.int .i64 3) (.string nm) (.bool (skB l tPub)) (.int .i64 num))):=
    ⟨(HKw9.out.trans ZK).set4 (Nat.le_refl _) _ _ _ _,Or.inr ⟨⟨3,nm,skB l tPub,num⟩,l7.tail.tail,_,HP.out,rfl,⟨rfl,hnm⟩,ZR.set4 HR.out (Nat.le_refl _) _ _ _ _⟩⟩
   clear ZK ZR zs;go_wp2_with fail;refine bodyPost_ret (v:=.agg #[.int .i64 3,.string nm,.bool (skB l tPub),.int .i64 num]) (by simp [results,Tryz.results199,go_sem,h0,h1,h2,h3]) rfl HF.out
end Go.Proofs.YtndkhgakfodldaaGreatDoor
