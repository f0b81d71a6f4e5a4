import Derived.Test.YtndkhgakfodldaaGreatDoorPa
namespace Go.Proofs.YtndkhgakfodldaaGreatDoor
set_option maxRecDepth 100000
set_option maxHeartbeats 3200000
open Go.RowKit Go.Shelf
theorem zrg (R cap:Nat) (a:OA) (ts:List Tk) (f:Nat) (IH:StC R cap a ts f) (l:List Tk) (w:World) (h:Rd R a cap ts w l) (hf:3*l.length<=f) :
 qc 282 #[pq R 0] w (zd8 R a cap ts w (zcg f l) (zfw (w.heap.size<=·))):=by
 have HI:Hid (StC R cap a ts f):=IH;have HR:Hid (Rd R a cap ts w l):=h;have CT:=h.lt;clear IH h;go_enter Tryz.func282,Tryz.ntmps282;go_wp2_with fail;refine (zec R cap a ts l _ (HR.out.alloc _)).mono ?_;rintro e w1 ⟨AJ,⟨hn,rfl⟩ | ⟨x,l1,v,hn,rfl,⟨a1,c1,rfl,AK,AB,hx3⟩,AV⟩⟩
 . exact ⟨rfl,((Keeps.refl R w).alloc _).trans AJ,Or.inl ⟨by unfold zcg;rw [hn],rfl⟩⟩
 have Ao:=AJ.size;simp at Ao;have Cz:=zn3 hn;have Em:Hid (pX l=some (x,l1)):=hn
 have AE:Hid (EAt ((w1.alloc (kzE x.op x.n x.mod x.name a1 x.args.length c1))) (w.heap.size+1<=·) (some (qa w1.heap.size 0)) 1 (zb0 [x])):=
  zj2 (t:=174) (cap:=c1) AK AB hx3 (((zad.refl w1 _).alloc _).to (by simp)) (heap_newP _ _) Ao
 have AX:Hid (Keeps R w w1):=((Keeps.refl R w).alloc _).trans AJ;have BI:Hid (Rd R a cap ts w1 l1):=AV;have A8:Hid (w1.heap[w.heap.size]? = some zax):=(AJ.block w.heap.size (by simp) (by omega)).trans (heap_newP _ _);clear hn AK AB hx3 AJ AV;go_wp2_with fail;refine (HI.out.block l1 _ ((BI.out.alloc _).alloc _) (by omega)).mono ?_;rintro e w2 ⟨AM,⟨hn,rfl⟩ | ⟨b,l2,v,hn,rfl,⟨a2,c2,rfl,AB⟩,Am⟩⟩
 . exact ⟨rfl,((AX.out.alloc _).alloc _).trans AM,Or.inl ⟨by unfold zcg;rw [Em.out];simp only [];rw [hn],rfl⟩⟩
 have AA:=AM.size;simp at AA;have Cg:=zg8 _ _ _ _ hn
 have BM:Hid (zcg f l=if skB l2 zrq then (match zb1 f l2.tail with | none=>none | some (o,l3)=>if o.length=0 then none else some (.mk 4 ⟨#[]⟩ ⟨#[]⟩ [x] b o,l3))
  else some (.mk 4 ⟨#[]⟩ ⟨#[]⟩ [x] b [],l2)):=by show zcg f l=_;unfold zcg;rw [Em.out];simp only [];rw [hn];rfl
 have BQ:Hid (Keeps R w w2):=((AX.out.alloc _).alloc _).trans AM;have Ad:Hid (w2.heap[w.heap.size]? = some zax):=(AM.block w.heap.size (by simp;omega) (by omega)).trans (zab (zab A8.out))
 have Bh:Hid (w2.heap[w1.heap.size+1]? = some (.cells #[qi 4,.string ⟨#[]⟩,.string ⟨#[]⟩,.slice (some (qa w1.heap.size 0)) 1 1,qs,qs] 176 (0,0))):=(AM.block (w1.heap.size+1) (by simp) (by omega)).trans (by
  have e:=heap_newP (w1.alloc (kzE x.op x.n x.mod x.name a1 x.args.length c1)) (kzB 4 ⟨#[]⟩ ⟨#[]⟩ (some (qa w1.heap.size 0)) 1 1 none 0 0 none 0 0)
  simpa using e)
 obtain ⟨h0,h1,h2,h3,h4,h5,h6⟩:=zal Bh.out
 have IY:EAt w2 (w1.heap.size+2<=·) a2 b.length (zby b):=by simpa using AB
 -- the arguments lie below that block, the body above it
 have PF:Hid (EAt (w2.setCell ⟨w1.heap.size+1,4,none⟩ (.slice a2 b.length c2)) (fun k=>w.heap.size+1<=k/\k≠w1.heap.size+1) (some (qa w1.heap.size 0)) 1 (zb0 [x])):=by
  refine AE.out.moves ⟨by simp;omega,fun k CA DA=>?_⟩
  have M5:k<w1.heap.size+1:=by simpa using CA
  exact ⟨⟨DA,by omega⟩,(heap_set_ne (by show k≠w1.heap.size+1;omega) _).trans ((AM.block k (by simp;omega) (by omega)).trans ((Below.refl _ _).alloc (vaa _) _ |>.block k (by simp;omega)))⟩
 have Lt:Hid (EAt (w2.setCell ⟨w1.heap.size+1,4,none⟩ (.slice a2 b.length c2)) (fun k=>w.heap.size+1<=k/\k≠w1.heap.size+1) a2 b.length (zby b)):=
  IY.moves ⟨by simp,fun k CA DA=>⟨⟨by omega,by omega⟩,heap_set_ne (by show k≠w1.heap.size+1;omega) _⟩⟩
 have Av:Hid (Rd R a cap ts (w2.setCell ⟨w1.heap.size+1,4,none⟩ (.slice a2 b.length c2)) l2):=Am.setAbove HR.out (by show _<=w1.heap.size+1;omega) _;have At:Hid (Keeps R w (w2.setCell ⟨w1.heap.size+1,4,none⟩ (.slice a2 b.length c2))):=BQ.out.set (by show _<=w1.heap.size+1;omega) _;have Af:Hid ((w2.setCell ⟨w1.heap.size+1,4,none⟩ (.slice a2 b.length c2)).heap[w.heap.size]? = some zax):=(heap_set_ne (by show w.heap.size≠w1.heap.size+1;omega) _).trans Ad.out;have BF:Hid ((w2.setCell ⟨w1.heap.size+1,4,none⟩ (.slice a2 b.length c2)).heap[w1.heap.size+1]? = some (.cells #[qi 4,.string ⟨#[]⟩,.string ⟨#[]⟩,.slice (some (qa w1.heap.size 0)) 1 1,.slice a2 b.length c2,qs] 176 (0,0))):=heap_set Bh.out _
 have BO:(w2.setCell ⟨w1.heap.size+1,4,none⟩ (.slice a2 b.length c2)).heap.size=w2.heap.size:=by simp only [vaq]
 clear hn AM Am AB IY AE A8 Ad AX BQ BI Em;go_wp2_with fail;generalize w2.setCell ⟨w1.heap.size+1,4,none⟩ (.slice a2 b.length c2)=w3 at *;clear h0 h1 h2 h3 h4 h5 h6 Bh
 by_cases hs:skB l2 zrq=true
 . have CR:=za0 (by decide) hs
   refine (zbl R cap a ts l2 zrq w3 (by decide) Av.out hs).mono ?_;rintro e w4 ⟨rfl,AP,Ay⟩;have D4:=Ay.size;go_wp2_with fail;refine (HI.out.block l2.tail w4 AP (by omega)).mono ?_;rintro e w5 ⟨Ax,⟨hn,rfl⟩ | ⟨o,l5,v,hn,rfl,⟨a5,c5,rfl,hx5⟩,Bl⟩⟩
   . exact ⟨rfl,(At.out.trans Ay).trans Ax,Or.inl ⟨by rw [BM.out,if_pos hs,hn],rfl⟩⟩
   have Cc:=Ax.size;have Cv:Hid (Keeps R w w5):=(At.out.trans Ay).trans Ax;have Ar:Hid (w5.heap[w.heap.size]? = some zax):=(Ax.block w.heap.size (by omega) (by omega)).trans ((Ay.block w.heap.size (by omega) (by omega)).trans Af.out);have BX:Hid (w5.heap[w1.heap.size+1]? = some (.cells #[qi 4,.string ⟨#[]⟩,.string ⟨#[]⟩,.slice (some (qa w1.heap.size 0)) 1 1,.slice a2 b.length c2,qs] 176 (0,0))):=(Ax.block (w1.heap.size+1) (by omega) (by omega)).trans ((Ay.block (w1.heap.size+1) (by omega) (by omega)).trans BF.out);have Ig:zad w3 (fun k=>w.heap.size+1<=k/\k≠w1.heap.size+1) w5 (fun k=>w.heap.size+1<=k/\k≠w1.heap.size+1):=((zad.refl w3 _).keeps Ay (by intro k _ hk;omega)).keeps Ax (by intro k _ hk;omega);obtain ⟨h0,h1,h2,h3,h4,h5,h6⟩:=zal Ar.out;obtain ⟨g0,g1,g2,g3,g4,g5,g6⟩:=zal BX.out
   by_cases ho:o.length=0
   . have HP:Hid (zcg f l=none):=by show zcg f l=_;rw [BM.out,if_pos hs,hn];simp only [];rw [if_pos ho]
     clear hn AP Ay Bl Ax Ig hx5;go_wp2_with fail;exact ⟨rfl,Cv.out.set (by show _<=w1.heap.size+1;omega) _,Or.inl ⟨HP.out,rfl⟩⟩
   . have HP:Hid (zcg f l=some (.mk 4 ⟨#[]⟩ ⟨#[]⟩ [x] b o,l5)):=by show zcg f l=_;rw [BM.out,if_pos hs,hn];simp only [];rw [if_neg ho]
     have HF:Hid (zd8 R a cap ts w (zcg f l) (zfw (w.heap.size<=·)) (.returned (.agg #[qi 4,.string ⟨#[]⟩,.string ⟨#[]⟩,.slice (some (qa w1.heap.size 0)) 1 1,.slice a2 b.length c2,.slice a5 o.length c5])) (set6 (w5.setCell ⟨w1.heap.size+1,5,none⟩ (.slice a5 o.length c5)) w.heap.size (qi 4) (.string ⟨#[]⟩) (.string ⟨#[]⟩) (.slice (some (qa w1.heap.size 0)) 1 1) (.slice a2 b.length c2) (.slice a5 o.length c5))):=by
      have CK:zad w5 (fun k=>w.heap.size+1<=k/\k≠w1.heap.size+1) (set6 (w5.setCell ⟨w1.heap.size+1,5,none⟩ (.slice a5 o.length c5)) w.heap.size (qi 4) (.string ⟨#[]⟩) (.string ⟨#[]⟩) (.slice (some (qa w1.heap.size 0)) 1 1) (.slice a2 b.length c2) (.slice a5 o.length c5)) (w.heap.size<=·):=
       (((zad.refl w5 (fun k=>w.heap.size+1<=k/\k≠w1.heap.size+1)).set (p:=⟨w1.heap.size+1,5,none⟩) (by intro k _ hk;exact hk.2) (.slice a5 o.length c5)).set6 (b:=w.heap.size) (by intro k _ hk;omega) (qi 4) (.string ⟨#[]⟩) (.string ⟨#[]⟩) (.slice (some (qa w1.heap.size 0)) 1 1) (.slice a2 b.length c2) (.slice a5 o.length c5)).trans ⟨vaa _,fun k _ hk=>⟨by omega,rfl⟩⟩
      have LQ:zad w5 (w4.heap.size<=·) w5 (fun k=>w.heap.size+1<=k/\k≠w1.heap.size+1):=⟨vaa _,fun k _ hk=>⟨⟨by omega,by omega⟩,rfl⟩⟩
      exact zmf (s:=.mk 4 ⟨#[]⟩ ⟨#[]⟩ [x] b o) HP.out ((Cv.out.set (p:=⟨w1.heap.size+1,5,none⟩) (by show w.heap.size<=w1.heap.size+1;omega) (.slice a5 o.length c5)).set6 (b:=w.heap.size) (vaa _) _ _ _ _ _ _) ((Bl.setAbove HR.out (p:=⟨w1.heap.size+1,5,none⟩) (by show w.heap.size<=w1.heap.size+1;omega) (.slice a5 o.length c5)).set6 HR.out (b:=w.heap.size) (vaa _) _ _ _ _ _ _) (vae _) (vae _) (PF.out.moves (Ig.trans CK)) (Lt.out.moves (Ig.trans CK)) ((hx5.moves LQ).moves CK)
     clear hn AP Ay Bl Ax Ig hx5;go_wp2_with fail;refine bodyPost_ret (v:=.agg #[qi 4,.string ⟨#[]⟩,.string ⟨#[]⟩,.slice (some (qa w1.heap.size 0)) 1 1,.slice a2 b.length c2,.slice a5 o.length c5]) (by simp [results,Tryz.results282,go_sem,h0,h1,h2,h3,h4,h5]) rfl HF.out
 . refine (zcf R cap a ts l2 zrq w3 Av.out (by simpa using hs)).mono ?_
   rintro e w4 ⟨rfl,AP,Ay⟩;have D4:=Ay.size
   have HP:Hid (zcg f l=some (.mk 4 ⟨#[]⟩ ⟨#[]⟩ [x] b [],l2)):=by show zcg f l=_;rw [BM.out,if_neg hs]
   have An:Hid (w4.heap[w.heap.size]? = some zax):=(Ay.block w.heap.size (by omega) (by omega)).trans Af.out;have CU:Hid (w4.heap[w1.heap.size+1]? = some (.cells #[qi 4,.string ⟨#[]⟩,.string ⟨#[]⟩,.slice (some (qa w1.heap.size 0)) 1 1,.slice a2 b.length c2,qs] 176 (0,0))):=(Ay.block (w1.heap.size+1) (by omega) (by omega)).trans BF.out
   have HF:Hid (zd8 R a cap ts w (zcg f l) (zfw (w.heap.size<=·)) (.returned (.agg #[qi 4,.string ⟨#[]⟩,.string ⟨#[]⟩,.slice (some (qa w1.heap.size 0)) 1 1,.slice a2 b.length c2,qs])) (set6 w4 w.heap.size (qi 4) (.string ⟨#[]⟩) (.string ⟨#[]⟩) (.slice (some (qa w1.heap.size 0)) 1 1) (.slice a2 b.length c2) (qs))):=by
    have CK:zad w3 (fun k=>w.heap.size+1<=k/\k≠w1.heap.size+1) (set6 w4 w.heap.size (qi 4) (.string ⟨#[]⟩) (.string ⟨#[]⟩) (.slice (some (qa w1.heap.size 0)) 1 1) (.slice a2 b.length c2) (qs)) (w.heap.size<=·):=
     (((zad.refl w3 (fun k=>w.heap.size+1<=k/\k≠w1.heap.size+1)).keeps Ay (by intro k _ hk;omega)).set6 (b:=w.heap.size) (by intro k _ hk;omega) (qi 4) (.string ⟨#[]⟩) (.string ⟨#[]⟩) (.slice (some (qa w1.heap.size 0)) 1 1) (.slice a2 b.length c2) (qs)).trans ⟨vaa _,fun k _ hk=>⟨by omega,rfl⟩⟩
    exact zmf (s:=.mk 4 ⟨#[]⟩ ⟨#[]⟩ [x] b []) HP.out ((At.out.trans Ay).set6 (b:=w.heap.size) (vaa _) _ _ _ _ _ _) (AP.set6 HR.out (b:=w.heap.size) (vaa _) _ _ _ _ _ _) (vae _) (vae _) (PF.out.moves CK) (Lt.out.moves CK) (Or.inl rfl)
   obtain ⟨h0,h1,h2,h3,h4,h5,h6⟩:=zal An.out;obtain ⟨g0,g1,g2,g3,g4,g5,g6⟩:=zal CU.out;clear AP Ay;go_wp2_with fail;refine bodyPost_ret (v:=.agg #[qi 4,.string ⟨#[]⟩,.string ⟨#[]⟩,.slice (some (qa w1.heap.size 0)) 1 1,.slice a2 b.length c2,qs]) (by simp [results,Tryz.results282,go_sem,h0,h1,h2,h3,h4,h5]) rfl HF.out
theorem zxs (R cap:Nat) (a:OA) (ts:List Tk) (f:Nat) (IH:StC R cap a ts f) (l:List Tk) (w:World) (h:Rd R a cap ts w l) (hf:3*l.length+1<=f+1) :
 qc 254 #[pq R 0] w (zd8 R a cap ts w (zcy (f+1) l) (zfw (w.heap.size<=·))):=by
 have HI:Hid (StC R cap a ts f):=IH;have HR:Hid (Rd R a cap ts w l):=h;have CT:=h.lt;clear IH h;go_enter Tryz.func254,Tryz.ntmps254;go_wp2_with fail
 obtain ⟨w0,Ed⟩:∃ w0,w0=w.alloc zax:=⟨_,rfl⟩
 have Hk:Hid (Rd R a cap ts w0 l):=by rw [Ed];exact HR.out.alloc _
 have FO:Hid (Keeps R w w0):=by rw [Ed];exact (Keeps.refl R w).alloc _
 have Aw:Hid (w0.heap[w.heap.size]? = some zax):=by rw [Ed];exact heap_newP _ _
 have Bs:w.heap.size+1<=w0.heap.size:=by rw [Ed];simp
 rw [← Ed];clear Ed
 by_cases Du:skB l tIf=true
 . have Cz:=za0 (by decide) Du
   refine (zbl R cap a ts l tIf w0 (by decide) Hk.out Du).mono ?_;rintro e u1 ⟨rfl,KR1,KK1⟩;have LC:=KK1.size;have KB1:Hid (u1.heap[w.heap.size]? = some zax):=(KK1.block w.heap.size (by omega) (by omega)).trans Aw.out;go_wp2_with fail;refine (zrg R cap a ts f HI.out l.tail u1 KR1 (by omega)).mono ?_;rintro e u2 ⟨KK2,⟨hn,rfl⟩ | ⟨s,l2,v,hn,rfl,⟨a1,c1,a2,c2,a3,c3,rfl,AK,AB,hx3,hx4,hx5⟩,KR2⟩⟩
   . exact ⟨rfl,(FO.out.trans KK1).trans KK2,Or.inl ⟨by rw [zta Du,hn],rfl⟩⟩
   have KB2:Hid (u2.heap[w.heap.size]? = some zax):=(KK2.block w.heap.size (by omega) (by omega)).trans KB1.out;obtain ⟨h0,h1,h2,h3,h4,h5,h6⟩:=zal KB2.out
   have HF:Hid (zd8 R a cap ts w (zcy (f+1) l) (zfw (w.heap.size<=·)) (.returned (.agg #[qi s.op,.string s.mod,.string s.name,.slice a1 s.args.length c1,.slice a2 s.body.length c2,.slice a3 s.other.length c3])) (set6 u2 w.heap.size (qi s.op) (.string s.mod) (.string s.name) (.slice a1 s.args.length c1) (.slice a2 s.body.length c2) (.slice a3 s.other.length c3))):=
    st_end (s:=s) HR.out (by rw [zta Du,hn]) ((FO.out.trans KK1).trans KK2) KR2 AK AB (lo:=u1.heap.size) hx3 hx4 hx5 (by omega)
   clear hn KK2 KR2 KK1 KR1 AK AB hx3 hx4 hx5;go_wp2_with fail;refine bodyPost_ret (v:=.agg #[qi s.op,.string s.mod,.string s.name,.slice a1 s.args.length c1,.slice a2 s.body.length c2,.slice a3 s.other.length c3]) (by simp [results,Tryz.results254,go_sem,h0,h1,h2,h3,h4,h5]) rfl HF.out
 refine (zcf R cap a ts l tIf w0 Hk.out (by simpa using Du)).mono ?_;rintro e w1 ⟨rfl,AV,AJ⟩;have BI:Hid (Rd R a cap ts w1 l):=AV;have AX:Hid (Keeps R w w1):=FO.out.trans AJ;have A8:Hid (w1.heap[w.heap.size]? = some zax):=(AJ.block w.heap.size (by omega) (by omega)).trans Aw.out;have Ao:=AJ.size
 have DD:skB l tIf=false:=by simpa using Du
 clear AV AJ Hk FO Aw Du;go_wp2_with fail
 by_cases B7:skB l zgm=true
 . have Cg:=za0 (by decide) B7
   refine (zbl R cap a ts l zgm w1 (by decide) BI.out B7).mono ?_;rintro e u1 ⟨rfl,KR1,KK1⟩;have LC:=KK1.size;have KB1:Hid (u1.heap[w.heap.size]? = some zax):=(KK1.block w.heap.size (by omega) (by omega)).trans A8.out;go_wp2_with fail;refine (zec R cap a ts l.tail u1 KR1).mono ?_;rintro e u2 ⟨KK2,⟨hn,rfl⟩ | ⟨x,l2,v,hn,rfl,⟨a2,c2,rfl,AK,AB,hx3⟩,KR2⟩⟩
   . exact ⟨rfl,(AX.out.trans KK1).trans KK2,Or.inl ⟨by rw [zgv DD B7,hn],rfl⟩⟩
   have IP:=KK2.size;have SA:=zn3 hn;have KB2:Hid (u2.heap[w.heap.size]? = some zax):=(KK2.block w.heap.size (by omega) (by omega)).trans KB1.out;have HN:Hid (pX l.tail=some (x,l2)):=hn
   have AE:Hid (EAt (u2.alloc (kzE x.op x.n x.mod x.name a2 x.args.length c2)) (w.heap.size+1<=·) (some (qa u2.heap.size 0)) 1 (zb0 [x])):=
    zj2 (t:=174) (cap:=c2) AK AB hx3 (((zad.refl u2 _).alloc _).to (by omega)) (heap_newP _ _) (by omega)
   have KR2':Hid (Rd R a cap ts u2 l2):=KR2;have KK2':Hid (Keeps R w u2):=(AX.out.trans KK1).trans KK2;clear hn AK AB hx3 KR2 KK2 KR1 KK1 KB1;go_wp2_with fail;refine (HI.out.block l2 _ ((KR2'.out.alloc _).alloc _) (by omega)).mono ?_;rintro e u3 ⟨KK3,⟨hn,rfl⟩ | ⟨b,l3,v,hn,rfl,⟨a3,c3,rfl,hx3⟩,KR3⟩⟩
   . exact ⟨rfl,((KK2'.out.alloc _).alloc _).trans KK3,Or.inl ⟨by rw [zgv DD B7,HN.out];simp only [];rw [hn],rfl⟩⟩
   have I7:=KK3.size;simp at I7
   have HP:Hid (zcy (f+1) l=some (.mk 5 ⟨#[]⟩ ⟨#[]⟩ [x] b [],l3)):=by show zcy (f+1) l=_;rw [zgv DD B7,HN.out];simp only [];rw [hn]
   have KB3:Hid (u3.heap[w.heap.size]? = some zax):=(KK3.block w.heap.size (by simp;omega) (by omega)).trans (zab (zab KB2.out))
   have KC3:Hid (u3.heap[u2.heap.size+1]? = some (.cells #[qi 5,.string ⟨#[]⟩,.string ⟨#[]⟩,.slice (some (qa u2.heap.size 0)) 1 1,qs,qs] 176 (0,0))):=(KK3.block (u2.heap.size+1) (by simp) (by omega)).trans (by
    have e:=heap_newP (u2.alloc (kzE x.op x.n x.mod x.name a2 x.args.length c2)) (kzB 5 ⟨#[]⟩ ⟨#[]⟩ (some (qa u2.heap.size 0)) 1 1 none 0 0 none 0 0)
    simpa using e)
   obtain ⟨h0,h1,h2,h3,h4,h5,h6⟩:=zal KB3.out;obtain ⟨g0,g1,g2,g3,g4,g5,g6⟩:=zal KC3.out
   have IX:EAt u3 (u2.heap.size+2<=·) a3 b.length (zby b):=by simpa using hx3
   have HF:Hid (zd8 R a cap ts w (zcy (f+1) l) (zfw (w.heap.size<=·)) (.returned (.agg #[qi 5,.string ⟨#[]⟩,.string ⟨#[]⟩,.slice (some (qa u2.heap.size 0)) 1 1,.slice a3 b.length c3,qs])) (set6 (u3.setCell ⟨u2.heap.size+1,4,none⟩ (.slice a3 b.length c3)) w.heap.size (qi 5) (.string ⟨#[]⟩) (.string ⟨#[]⟩) (.slice (some (qa u2.heap.size 0)) 1 1) (.slice a3 b.length c3) (qs))):=by
    have CK:zad u3 (fun k=>w.heap.size+1<=k/\k≠u2.heap.size+1) (set6 (u3.setCell ⟨u2.heap.size+1,4,none⟩ (.slice a3 b.length c3)) w.heap.size (qi 5) (.string ⟨#[]⟩) (.string ⟨#[]⟩) (.slice (some (qa u2.heap.size 0)) 1 1) (.slice a3 b.length c3) (qs)) (w.heap.size<=·):=
     (((zad.refl u3 (fun k=>w.heap.size+1<=k/\k≠u2.heap.size+1)).set (p:=⟨u2.heap.size+1,4,none⟩) (by intro k _ hk;exact hk.2) (.slice a3 b.length c3)).set6 (b:=w.heap.size) (by intro k _ hk;omega) (qi 5) (.string ⟨#[]⟩) (.string ⟨#[]⟩) (.slice (some (qa u2.heap.size 0)) 1 1) (.slice a3 b.length c3) (qs)).trans ⟨vaa _,fun k _ hk=>⟨by omega,rfl⟩⟩
    have LQ:zad u3 (u2.heap.size+2<=·) u3 (fun k=>w.heap.size+1<=k/\k≠u2.heap.size+1):=⟨vaa _,fun k _ hk=>⟨⟨by omega,by omega⟩,rfl⟩⟩
    have Ig:zad (u2.alloc (kzE x.op x.n x.mod x.name a2 x.args.length c2)) (w.heap.size+1<=·) u3 (fun k=>w.heap.size+1<=k/\k≠u2.heap.size+1):=by
     refine ⟨by simp;omega,fun k CA DA=>?_⟩
     have M5:k<u2.heap.size+1:=by simpa using CA
     exact ⟨⟨DA,by omega⟩,(KK3.block k (by simp;omega) (by omega)).trans ((Below.refl _ _).alloc (vaa _) _ |>.block k (by simp;omega))⟩
    exact zmf (s:=.mk 5 ⟨#[]⟩ ⟨#[]⟩ [x] b []) HP.out (((((KK2'.out.alloc _).alloc _).trans KK3).set (p:=⟨u2.heap.size+1,4,none⟩) (by show w.heap.size<=u2.heap.size+1;omega) (.slice a3 b.length c3)).set6 (b:=w.heap.size) (vaa _) _ _ _ _ _ _) ((KR3.setAbove HR.out (p:=⟨u2.heap.size+1,4,none⟩) (by show w.heap.size<=u2.heap.size+1;omega) (.slice a3 b.length c3)).set6 HR.out (b:=w.heap.size) (vaa _) _ _ _ _ _ _) (vae _) (vae _) (AE.out.moves (Ig.trans CK)) ((IX.moves LQ).moves CK) (Or.inl rfl)
   clear hn KK3 KR3 hx3 IX;go_wp2_with fail;refine bodyPost_ret (v:=.agg #[qi 5,.string ⟨#[]⟩,.string ⟨#[]⟩,.slice (some (qa u2.heap.size 0)) 1 1,.slice a3 b.length c3,qs]) (by simp [results,Tryz.results254,go_sem,h0,h1,h2,h3,h4,h5]) rfl HF.out
 refine (zcf R cap a ts l zgm w1 BI.out (by simpa using B7)).mono ?_;rintro e w2 ⟨rfl,Am,AM⟩;have CQ:Hid (Rd R a cap ts w2 l):=Am;have BQ:Hid (Keeps R w w2):=AX.out.trans AM;have Ad:Hid (w2.heap[w.heap.size]? = some zax):=(AM.block w.heap.size (by omega) (by omega)).trans A8.out;have AA:=AM.size
 have Eh:skB l zgm=false:=by simpa using B7
 clear Am AM BI AX A8 B7;go_wp2_with fail
 by_cases Cw:skB l ze9=true
 . have CR:=za0 (by decide) Cw
   refine (zbl R cap a ts l ze9 w2 (by decide) CQ.out Cw).mono ?_;rintro e u1 ⟨rfl,KR1,KK1⟩;have LC:=KK1.size;have KB1:Hid (u1.heap[w.heap.size]? = some zax):=(KK1.block w.heap.size (by omega) (by omega)).trans Ad.out;go_wp2_with fail;refine (zec R cap a ts l.tail u1 KR1).mono ?_;rintro e u2 ⟨KK2,⟨hn,rfl⟩ | ⟨x,l2,v,hn,rfl,⟨a2,c2,rfl,AK,AB,hx3⟩,KR2⟩⟩
   . exact ⟨rfl,(BQ.out.trans KK1).trans KK2,Or.inl ⟨by rw [zfx DD Eh Cw,hn];rfl,rfl⟩⟩
   have IP:=KK2.size;have KB2:Hid (u2.heap[w.heap.size]? = some zax):=(KK2.block w.heap.size (by omega) (by omega)).trans KB1.out;have HN:Hid (pX l.tail=some (x,l2)):=hn
   have HX:Hid (x.mod.size<=maxLen/\x.name.size<=maxLen/\EAt u2 (u1.heap.size<=·) a2 x.args.length (zb0 x.args)):=⟨AK,AB,hx3⟩
   have KR2':Hid (Rd R a cap ts u2 l2):=KR2;have KK2':Hid (Keeps R w u2):=(BQ.out.trans KK1).trans KK2;clear hn AK AB hx3 KR2 KK2 KR1 KK1 KB1;go_wp2_with fail;refine (zj3 R cap a ts l2 _ (KR2'.out.alloc _) _ _ _ _ _ _ _ _ _ _ _ _).mono ?_;rintro e u3 ⟨KK3,⟨t3,rfl⟩ | ⟨t3,rfl,KR3⟩⟩
   . exact ⟨rfl,(KK2'.out.alloc _).trans KK3,Or.inl ⟨by rw [zfx DD Eh Cw,HN.out];simp [zee,t3],rfl⟩⟩
   have I7:=KK3.size;simp at I7
   have HP:Hid (zcy (f+1) l=some (.mk 6 ⟨#[]⟩ ⟨#[]⟩ [x] [] [],l2.tail)):=by show zcy (f+1) l=_;rw [zfx DD Eh Cw,HN.out];simp [zee,t3]
   have KB3:Hid (u3.heap[w.heap.size]? = some zax):=(KK3.block w.heap.size (by simp;omega) (by omega)).trans (zab KB2.out);obtain ⟨h0,h1,h2,h3,h4,h5,h6⟩:=zal KB3.out
   have HF:Hid (zd8 R a cap ts w (zcy (f+1) l) (zfw (w.heap.size<=·)) (.returned (.agg #[qi 6,.string ⟨#[]⟩,.string ⟨#[]⟩,.slice (some (qa u2.heap.size 0)) 1 1,qs,qs])) (set6 u3 w.heap.size (qi 6) (.string ⟨#[]⟩) (.string ⟨#[]⟩) (.slice (some (qa u2.heap.size 0)) 1 1) (qs) (qs))):=
    st_end (s:=.mk 6 ⟨#[]⟩ ⟨#[]⟩ [x] [] []) HR.out HP.out ((KK2'.out.alloc _).trans KK3) KR3 (vae _) (vae _) (lo:=u1.heap.size) (zj2 (t:=174) (cap:=c2) HX.out.1 HX.out.2.1 HX.out.2.2 (((zad.refl u2 _).alloc _).keeps KK3 (by intro k _ hk;omega)) ((KK3.block u2.heap.size (by simp) (by omega)).trans (heap_newP _ _)) IP) (Or.inl rfl) (Or.inl rfl) (by omega)
   clear KK3 KR3;go_wp2_with fail;refine bodyPost_ret (v:=.agg #[qi 6,.string ⟨#[]⟩,.string ⟨#[]⟩,.slice (some (qa u2.heap.size 0)) 1 1,qs,qs]) (by simp [results,Tryz.results254,go_sem,h0,h1,h2,h3,h4,h5]) rfl HF.out
 refine (zcf R cap a ts l ze9 w2 CQ.out (by simpa using Cw)).mono ?_;rintro e w3 ⟨rfl,Av,At⟩;have CD:Hid (Rd R a cap ts w3 l):=Av;have C4:Hid (Keeps R w w3):=BQ.out.trans At;have Af:Hid (w3.heap[w.heap.size]? = some zax):=(At.block w.heap.size (by omega) (by omega)).trans Ad.out;have BO:=At.size
 have GK:skB l ze9=false:=by simpa using Cw
 clear Av At CQ BQ Ad Cw;go_wp2_with fail
 by_cases D5:skB l z2o=true
 . have Fs:=za0 (by decide) D5
   refine (zbl R cap a ts l z2o w3 (by decide) CD.out D5).mono ?_;rintro e u1 ⟨rfl,KR1,KK1⟩;have LC:=KK1.size;have KB1:Hid (u1.heap[w.heap.size]? = some zax):=(KK1.block w.heap.size (by omega) (by omega)).trans Af.out;go_wp2_with fail;refine (zec R cap a ts l.tail u1 KR1).mono ?_;rintro e u2 ⟨KK2,⟨hn,rfl⟩ | ⟨x,l2,v,hn,rfl,⟨a2,c2,rfl,AK,AB,hx3⟩,KR2⟩⟩
   . exact ⟨rfl,(C4.out.trans KK1).trans KK2,Or.inl ⟨by rw [zj5 DD Eh GK D5,hn];rfl,rfl⟩⟩
   have IP:=KK2.size;have KB2:Hid (u2.heap[w.heap.size]? = some zax):=(KK2.block w.heap.size (by omega) (by omega)).trans KB1.out;have HN:Hid (pX l.tail=some (x,l2)):=hn
   have HX:Hid (x.mod.size<=maxLen/\x.name.size<=maxLen/\EAt u2 (u1.heap.size<=·) a2 x.args.length (zb0 x.args)):=⟨AK,AB,hx3⟩
   have KR2':Hid (Rd R a cap ts u2 l2):=KR2;have KK2':Hid (Keeps R w u2):=(C4.out.trans KK1).trans KK2;clear hn AK AB hx3 KR2 KK2 KR1 KK1 KB1;go_wp2_with fail;refine (zj3 R cap a ts l2 _ (KR2'.out.alloc _) _ _ _ _ _ _ _ _ _ _ _ _).mono ?_;rintro e u3 ⟨KK3,⟨t3,rfl⟩ | ⟨t3,rfl,KR3⟩⟩
   . exact ⟨rfl,(KK2'.out.alloc _).trans KK3,Or.inl ⟨by rw [zj5 DD Eh GK D5,HN.out];simp [zee,t3],rfl⟩⟩
   have I7:=KK3.size;simp at I7
   have HP:Hid (zcy (f+1) l=some (.mk 7 ⟨#[]⟩ ⟨#[]⟩ [x] [] [],l2.tail)):=by show zcy (f+1) l=_;rw [zj5 DD Eh GK D5,HN.out];simp [zee,t3]
   have KB3:Hid (u3.heap[w.heap.size]? = some zax):=(KK3.block w.heap.size (by simp;omega) (by omega)).trans (zab KB2.out);obtain ⟨h0,h1,h2,h3,h4,h5,h6⟩:=zal KB3.out
   have HF:Hid (zd8 R a cap ts w (zcy (f+1) l) (zfw (w.heap.size<=·)) (.returned (.agg #[qi 7,.string ⟨#[]⟩,.string ⟨#[]⟩,.slice (some (qa u2.heap.size 0)) 1 1,qs,qs])) (set6 u3 w.heap.size (qi 7) (.string ⟨#[]⟩) (.string ⟨#[]⟩) (.slice (some (qa u2.heap.size 0)) 1 1) (qs) (qs))):=
    st_end (s:=.mk 7 ⟨#[]⟩ ⟨#[]⟩ [x] [] []) HR.out HP.out ((KK2'.out.alloc _).trans KK3) KR3 (vae _) (vae _) (lo:=u1.heap.size) (zj2 (t:=174) (cap:=c2) HX.out.1 HX.out.2.1 HX.out.2.2 (((zad.refl u2 _).alloc _).keeps KK3 (by intro k _ hk;omega)) ((KK3.block u2.heap.size (by simp) (by omega)).trans (heap_newP _ _)) IP) (Or.inl rfl) (Or.inl rfl) (by omega)
   clear KK3 KR3;go_wp2_with fail;refine bodyPost_ret (v:=.agg #[qi 7,.string ⟨#[]⟩,.string ⟨#[]⟩,.slice (some (qa u2.heap.size 0)) 1 1,qs,qs]) (by simp [results,Tryz.results254,go_sem,h0,h1,h2,h3,h4,h5]) rfl HF.out
 refine (zcf R cap a ts l z2o w3 CD.out (by simpa using D5)).mono ?_;rintro e w4 ⟨rfl,AP,Ay⟩;have C2:Hid (Rd R a cap ts w4 l):=AP;have BJ:Hid (Keeps R w w4):=C4.out.trans Ay;have An:Hid (w4.heap[w.heap.size]? = some zax):=(Ay.block w.heap.size (by omega) (by omega)).trans Af.out;have D4:=Ay.size
 have KM:skB l z2o=false:=by simpa using D5
 clear AP Ay CD C4 Af D5;go_wp2_with fail;refine (zxq R cap a ts l w4 C2.out).mono ?_;rintro e u2 ⟨KK2,⟨hn,rfl⟩ | ⟨s,l2,v,hn,rfl,⟨a1,c1,a2,c2,a3,c3,rfl,AK,AB,hx3,hx4,hx5⟩,KR2⟩⟩
 . exact ⟨rfl,BJ.out.trans KK2,Or.inl ⟨by rw [zgw DD Eh GK KM,hn];rfl,rfl⟩⟩
 have IP:=KK2.size;have KB2:Hid (u2.heap[w.heap.size]? = some zax):=(KK2.block w.heap.size (by omega) (by omega)).trans An.out;have HN:Hid (zbu l=some (s,l2)):=hn
 have HX:Hid (s.mod.size<=maxLen/\s.name.size<=maxLen/\EAt u2 (w4.heap.size<=·) a1 s.args.length (zb0 s.args)/\EAt u2 (w4.heap.size<=·) a2 s.body.length (zby s.body)/\EAt u2 (w4.heap.size<=·) a3 s.other.length (zby s.other)):=⟨AK,AB,hx3,hx4,hx5⟩
 have KR2':Hid (Rd R a cap ts u2 l2):=KR2;have KK2':Hid (Keeps R w u2):=BJ.out.trans KK2;clear hn AK AB hx3 hx4 hx5 KR2 KK2;go_wp2_with fail;refine (zj3 R cap a ts l2 _ KR2'.out _ _ _ _ _ _ _ _ _ _ _ _).mono ?_;rintro e u3 ⟨KK3,⟨t3,rfl⟩ | ⟨t3,rfl,KR3⟩⟩
 . exact ⟨rfl,KK2'.out.trans KK3,Or.inl ⟨by rw [zgw DD Eh GK KM,HN.out];simp [zee,t3],rfl⟩⟩
 have I7:=KK3.size
 have HP:Hid (zcy (f+1) l=some (s,l2.tail)):=by show zcy (f+1) l=_;rw [zgw DD Eh GK KM,HN.out];simp [zee,t3]
 have KB3:Hid (u3.heap[w.heap.size]? = some zax):=(KK3.block w.heap.size (by omega) (by omega)).trans KB2.out;obtain ⟨h0,h1,h2,h3,h4,h5,h6⟩:=zal KB3.out
 have HF:Hid (zd8 R a cap ts w (zcy (f+1) l) (zfw (w.heap.size<=·)) (.returned (.agg #[qi s.op,.string s.mod,.string s.name,.slice a1 s.args.length c1,.slice a2 s.body.length c2,.slice a3 s.other.length c3])) (set6 u3 w.heap.size (qi s.op) (.string s.mod) (.string s.name) (.slice a1 s.args.length c1) (.slice a2 s.body.length c2) (.slice a3 s.other.length c3))):=by
  have hm:zad u2 (w4.heap.size<=·) u3 (w4.heap.size<=·):=(zad.refl u2 _).keeps KK3 (by intro k _ hk;omega);exact st_end (s:=s) HR.out HP.out (KK2'.out.trans KK3) KR3 HX.out.1 HX.out.2.1 (lo:=w4.heap.size) (HX.out.2.2.1.moves hm) (HX.out.2.2.2.1.moves hm) (HX.out.2.2.2.2.moves hm) (by omega)
 clear KK3 KR3;go_wp2_with fail;refine bodyPost_ret (v:=.agg #[qi s.op,.string s.mod,.string s.name,.slice a1 s.args.length c1,.slice a2 s.body.length c2,.slice a3 s.other.length c3]) (by simp [results,Tryz.results254,go_sem,h0,h1,h2,h3,h4,h5]) rfl HF.out
theorem z52 (R cap:Nat) (a:OA) (ts:List Tk):∀ f,StC R cap a ts f:=by
 intro f
 induction f using Nat.strongRecOn with
 | ind f ih=>
   cases f with
   | zero=>exact ⟨fun _ _ _ h=>by omega,fun _ _ _ h=>by omega⟩
   | succ f=>
     exact ⟨fun l w h hf=>zxs R cap a ts f (ih f (by omega)) l w h hf,fun l w h hf=>zut R cap a ts f (fun g hg=>ih g (by omega)) l w h hf⟩
def pB (l:List Tk):Option (List St × List Tk):=zb1 (3*l.length+8) l
theorem zxt (R cap:Nat) (a:OA) (ts l:List Tk) (w:World) (h:Rd R a cap ts w l) :
 qc 201 #[pq R 0] w (zd8 R a cap ts w (pB l) (z7s (w.heap.size<=·))):=(z52 R cap a ts _).block l w h (by omega)
def z2l (l:List Tk):List Tk:=if skB l zrp then l.tail else l
def z7u (l:List Tk):Option (De × List Tk):=
 if skB (z2l l) ztn then (match zd3 (z2l l).tail with
  | none=>none
  | some (n,l1)=>if skB l1 tEq then (match pNum l1.tail with | none=>none | some (k,l2)=>if skB l2 zrr then some (⟨1,n,skB l zrp,k⟩,l2.tail) else none) else none)
 else if skB (z2l l) z64 then (match zd3 (z2l l).tail with
  | none=>none
  | some (n,l1)=>if skB l1 zrr then some (⟨2,n,skB l zrp,0⟩,l1.tail) else none)
 else if skB (z2l l) zto then (match zd3 (z2l l).tail with
  | none=>none
  | some (n,l1)=>if skB l1 tLs then (match pNum l1.tail with | none=>none | some (k,l2)=>if skB l2 tRs then (if skB l2.tail zrr then some (⟨3,n,skB l zrp,k⟩,l2.tail.tail) else none) else none) else none)
 else none
def zxu:Nat->List ByteArray->List Tk->Option (List ByteArray × List Tk)
 | 0,_,_=>none
 | f+1,A7,l=>
   if skB l z65 then (match zd3 l.tail with | none=>none | some (n,l1)=>zxu f (A7++[n]) l1)
   else if skB l tRp then some (A7,l.tail) else none
def zh0 (t:ByteArray):Nat->List ByteArray->List Tk->Option (List ByteArray × List Tk)
 | 0,_,_=>none
 | f+1,A7,l=>
   if skB l t then (match zd3 l.tail with | none=>none | some (n,l1)=>if skB l1 zrr then zh0 t f (A7++[n]) l1.tail else none)
   else some (A7,l)
def z7v (l:List Tk):Option (List ByteArray × List Tk):=
 if skB l tRp then some ([],l.tail) else (match zd3 l with | none=>none | some (n,l1)=>zxu (l1.length+1) [n] l1)
def zxv (l:List Tk):Option (Pr × List Tk):=
 if skB (z2l l) z6d then (match zd3 (z2l l).tail with
  | none=>none
  | some (n,l1)=>if skB l1 tLp then (match z7v l1.tail with
    | none=>none
    | some (ps,l2)=>(match zh0 z2n (l2.length+1) [] l2 with
      | none=>none
      | some (ls,l3)=>(match pB l3 with | none=>none | some (b,l4)=>some (⟨n,skB l zrp,ps,ls,b⟩,l4)))) else none)
 else none
def zlm (l:List Tk):Bool:=
 let t:=if skB l zrp then (l.getD 1 noTk).text else (hd l).text
 t.toList == ztn.toList||t.toList == z64.toList||t.toList == zto.toList
def zmg:Nat->List De->List Tk->Option (List De × List Tk)
 | 0,_,_=>none
 | f+1,A7,l=>if zlm l then (match z7u l with | none=>none | some (d,l1)=>zmg f (A7++[d]) l1) else some (A7,l)
def zj6:Nat->List Pr->List Tk->Option (List Pr × List Tk)
 | 0,_,_=>none
 | f+1,A7,l=>if skB l z06 then some (A7,l.tail) else (match zxv l with | none=>none | some (p,l1)=>zj6 f (A7++[p]) l1)
def zch (l:List Tk):Option (Mo × List Tk):=
 if skB l zn1 then (match zd3 l.tail with
  | none=>none
  | some (n,l1)=>if skB l1 tLb then (match zh0 zvw (l1.tail.length+1) [] l1.tail with
    | none=>none
    | some (us,l2)=>(match zmg (l2.length+1) [] l2 with
      | none=>none
      | some (ds,l3)=>(match zj6 (l3.length+1) [] l3 with
        | none=>none
        | some (ps,l4)=>(match pB l4 with
          | none=>none
          | some (b,l5)=>if skB l5 tRb then some (⟨n,us,ds,ps,b⟩,l5.tail) else none)))) else none)
 else none
theorem zno (R cap:Nat) (a:OA) (ts l:List Tk) (w:World) (h:Rd R a cap ts w l) :
 qc 198 #[pq R 0] w fun e w'=>e = .returned (.bool (zlm l))/\qb w w':=by
 have HR:Hid (Rd R a cap ts w l):=h;have Eh:=zs9 (hd l).kind (hd l).n (hd l).text;have GK:=zs9 (l.getD 1 noTk).kind (l.getD 1 noTk).n (l.getD 1 noTk).text
 have HS:Hid (skB l zrp=((hd l).text.toList == [112,117,98])):=by show skB l zrp=_;unfold skB;rw [vbb zrp]
 have HD:Hid (zlm l=((if skB l zrp then (l.getD 1 noTk).text else (hd l).text).toList == [99,111,110,115,116]||(if skB l zrp then (l.getD 1 noTk).text else (hd l).text).toList == [118,97,114]||(if skB l zrp then (l.getD 1 noTk).text else (hd l).text).toList == [97,114,114,97,121])):=by
  show zlm l=_;unfold zlm;rw [vbb ztn,vbb z64,vbb zto]
 have HG:Hid (∀ w',Rd R a cap ts w' l->qc 252 #[pq R 0,qi 1] w' fun e Ce=>e = .returned (.agg #[qi (l.getD 1 noTk).kind,qi (l.getD 1 noTk).n,.string (l.getD 1 noTk).text])/\Below w'.heap.size w' Ce):=fun w' h'=>zpm R cap 1 a ts l w' (by omega) h'
 clear h;go_enter Tryz.func198,Tryz.ntmps198;go_wp2_with fail;refine (zpn R cap a ts l w HR.out).mono ?_;rintro e w1 ⟨rfl,A5⟩
 by_cases hp:((hd l).text.toList == [112,117,98])=true
 . have Hi:Hid (skB l zrp=true):=HS.out.trans hp
   generalize l.getD 1 noTk=T at *;go_wp2_with fail;refine (HG.out w1 (HR.out.later A5)).mono ?_;rintro e w2 ⟨rfl,Aa⟩;go_wp2_with fail
   all_goals go_ret
   all_goals refine ⟨ret_bool ?_,A5.trans (Aa.mono A5.size)⟩
   all_goals rw [HD.out,Hi.out];simp_all
 . have Gy:((hd l).text.toList == [112,117,98])=false:=by simpa using hp
   have Hi:Hid (skB l zrp=false):=HS.out.trans Gy;clear hp;generalize hd l=T at *;go_wp2_with fail
   all_goals go_ret
   all_goals refine ⟨ret_bool ?_,A5⟩
   all_goals rw [HD.out,Hi.out];simp_all
end Go.Proofs.YtndkhgakfodldaaGreatDoor
