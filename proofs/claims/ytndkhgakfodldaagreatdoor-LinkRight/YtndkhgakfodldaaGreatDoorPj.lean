import Derived.Test.YtndkhgakfodldaaGreatDoorPa
namespace Go.Proofs.YtndkhgakfodldaaGreatDoor
set_option maxRecDepth 100000
set_option maxHeartbeats 3200000
open Go.RowKit Go.Shelf
theorem zsv (R cap:Nat) (a:OA) (ts:List Tk) (f:Nat) (IH:StC R cap a ts f) (l:List Tk) (w:World) (h:Rd R a cap ts w l) (hf:3*l.length<=f) :
 Calls Tryz.prog 282 #[.pointer (some ⟨R,0,none⟩)] w (zd4 R a cap ts w (zco f l) (zf7 (w.heap.size<=·))):=by
 have HI:Hid (StC R cap a ts f):=IH;have HR:Hid (Rd R a cap ts w l):=h;have hRw:=h.lt;clear IH h;go_enter Tryz.func282,Tryz.ntmps282;go_wp2_with fail;refine (zet R cap a ts l _ (HR.out.alloc _)).mono ?_;rintro e w1 ⟨HK1,⟨hn,rfl⟩ | ⟨x,l1,v,hn,rfl,⟨a1,c1,rfl,hx1,hx2,hx3⟩,HR1⟩⟩
 . exact ⟨rfl,((Keeps.refl R w).alloc _).trans HK1,Or.inl ⟨by unfold zco;rw [hn],rfl⟩⟩
 have hz1:=HK1.size;simp at hz1;have hl1:=zn4 hn;have HN1:Hid (pX l=some (x,l1)):=hn
 have HX1:Hid (EAt ((w1.alloc (.cells #[.int .i64 x.op,.int .i64 x.n,.string x.mod,.string x.name,.slice a1 x.args.length c1] 174))) (w.heap.size+1<=·) (some ⟨w1.heap.size,0,none⟩) 1 (zbo [x])):=
  zkx (t:=174) (cap:=c1) hx1 hx2 hx3 (((zad.refl w1 _).alloc _).to (by simp)) (heap_newP _ _) hz1
 have HK1':Hid (Keeps R w w1):=((Keeps.refl R w).alloc _).trans HK1;have HR1':Hid (Rd R a cap ts w1 l1):=HR1;have HB1:Hid (w1.heap[w.heap.size]? = some za1):=(HK1.block w.heap.size (by simp) (by omega)).trans (heap_newP _ _);clear hn hx1 hx2 hx3 HK1 HR1;go_wp2_with fail;refine (HI.out.block l1 _ ((HR1'.out.alloc _).alloc _) (by omega)).mono ?_;rintro e w2 ⟨HK2,⟨hn,rfl⟩ | ⟨b,l2,v,hn,rfl,⟨a2,c2,rfl,hx2⟩,HR2⟩⟩
 . exact ⟨rfl,((HK1'.out.alloc _).alloc _).trans HK2,Or.inl ⟨by unfold zco;rw [HN1.out];simp only [];rw [hn],rfl⟩⟩
 have hz2:=HK2.size;simp at hz2;have hl2:=zf9 _ _ _ _ hn
 have HP2:Hid (zco f l=if skB l2 zrt then (match zbt f l2.tail with | none=>none | some (o,l3)=>if o.length=0 then none else some (.mk 4 ⟨#[]⟩ ⟨#[]⟩ [x] b o,l3))
  else some (.mk 4 ⟨#[]⟩ ⟨#[]⟩ [x] b [],l2)):=by show zco f l=_;unfold zco;rw [HN1.out];simp only [];rw [hn];rfl
 have HK2':Hid (Keeps R w w2):=((HK1'.out.alloc _).alloc _).trans HK2;have HB2:Hid (w2.heap[w.heap.size]? = some za1):=(HK2.block w.heap.size (by simp;omega) (by omega)).trans (zab (zab HB1.out))
 have HC2:Hid (w2.heap[w1.heap.size+1]? = some (.cells #[.int .i64 4,.string ⟨#[]⟩,.string ⟨#[]⟩,.slice (some ⟨w1.heap.size,0,none⟩) 1 1,.slice none 0 0,.slice none 0 0] 176 (0,0))):=(HK2.block (w1.heap.size+1) (by simp) (by omega)).trans (by
  have e:=heap_newP (w1.alloc (.cells #[.int .i64 x.op,.int .i64 x.n,.string x.mod,.string x.name,.slice a1 x.args.length c1] 174)) (.cells #[.int .i64 4,.string ⟨#[]⟩,.string ⟨#[]⟩,.slice (some ⟨w1.heap.size,0,none⟩) 1 1,.slice none 0 0,.slice none 0 0] 176)
  simpa using e)
 obtain ⟨h0,h1,h2,h3,h4,h5,h6⟩:=zam HC2.out
 have hx2':EAt w2 (w1.heap.size+2<=·) a2 b.length (zbp b):=by simpa using hx2
 -- the arguments lie below that block, the body above it
 have HA3:Hid (EAt (w2.setCell ⟨w1.heap.size+1,4,none⟩ (.slice a2 b.length c2)) (fun k=>w.heap.size+1<=k/\k≠w1.heap.size+1) (some ⟨w1.heap.size,0,none⟩) 1 (zbo [x])):=by
  refine HX1.out.moves ⟨by simp;omega,fun k hk1 hk2=>?_⟩
  have hk1':k<w1.heap.size+1:=by simpa using hk1
  exact ⟨⟨hk2,by omega⟩,(heap_set_ne (by show k≠w1.heap.size+1;omega) _).trans ((HK2.block k (by simp;omega) (by omega)).trans ((Below.refl _ _).alloc (vaa _) _ |>.block k (by simp;omega)))⟩
 have HA4:Hid (EAt (w2.setCell ⟨w1.heap.size+1,4,none⟩ (.slice a2 b.length c2)) (fun k=>w.heap.size+1<=k/\k≠w1.heap.size+1) a2 b.length (zbp b)):=
  hx2'.moves ⟨by simp,fun k hk1 hk2=>⟨⟨by omega,by omega⟩,heap_set_ne (by show k≠w1.heap.size+1;omega) _⟩⟩
 have HR3:Hid (Rd R a cap ts (w2.setCell ⟨w1.heap.size+1,4,none⟩ (.slice a2 b.length c2)) l2):=HR2.setAbove HR.out (by show _<=w1.heap.size+1;omega) _;have HK3:Hid (Keeps R w (w2.setCell ⟨w1.heap.size+1,4,none⟩ (.slice a2 b.length c2))):=HK2'.out.set (by show _<=w1.heap.size+1;omega) _;have HB3:Hid ((w2.setCell ⟨w1.heap.size+1,4,none⟩ (.slice a2 b.length c2)).heap[w.heap.size]? = some za1):=(heap_set_ne (by show w.heap.size≠w1.heap.size+1;omega) _).trans HB2.out;have HC3:Hid ((w2.setCell ⟨w1.heap.size+1,4,none⟩ (.slice a2 b.length c2)).heap[w1.heap.size+1]? = some (.cells #[.int .i64 4,.string ⟨#[]⟩,.string ⟨#[]⟩,.slice (some ⟨w1.heap.size,0,none⟩) 1 1,.slice a2 b.length c2,.slice none 0 0] 176 (0,0))):=heap_set HC2.out _
 have hz3:(w2.setCell ⟨w1.heap.size+1,4,none⟩ (.slice a2 b.length c2)).heap.size=w2.heap.size:=by simp only [vaq]
 clear hn HK2 HR2 hx2 hx2' HX1 HB1 HB2 HK1' HK2' HR1' HN1;go_wp2_with fail;generalize w2.setCell ⟨w1.heap.size+1,4,none⟩ (.slice a2 b.length c2)=w3 at *;clear h0 h1 h2 h3 h4 h5 h6 HC2
 by_cases hs:skB l2 zrt=true
 . have hl3:=zah (by decide) hs
   refine (zbl R cap a ts l2 zrt w3 (by decide) HR3.out hs).mono ?_;rintro e w4 ⟨rfl,HR4,HK4⟩;have hz4:=HK4.size;go_wp2_with fail;refine (HI.out.block l2.tail w4 HR4 (by omega)).mono ?_;rintro e w5 ⟨HK5,⟨hn,rfl⟩ | ⟨o,l5,v,hn,rfl,⟨a5,c5,rfl,hx5⟩,HR5⟩⟩
   . exact ⟨rfl,(HK3.out.trans HK4).trans HK5,Or.inl ⟨by rw [HP2.out,if_pos hs,hn],rfl⟩⟩
   have hz5:=HK5.size;have HK5':Hid (Keeps R w w5):=(HK3.out.trans HK4).trans HK5;have HB5:Hid (w5.heap[w.heap.size]? = some za1):=(HK5.block w.heap.size (by omega) (by omega)).trans ((HK4.block w.heap.size (by omega) (by omega)).trans HB3.out);have HC5:Hid (w5.heap[w1.heap.size+1]? = some (.cells #[.int .i64 4,.string ⟨#[]⟩,.string ⟨#[]⟩,.slice (some ⟨w1.heap.size,0,none⟩) 1 1,.slice a2 b.length c2,.slice none 0 0] 176 (0,0))):=(HK5.block (w1.heap.size+1) (by omega) (by omega)).trans ((HK4.block (w1.heap.size+1) (by omega) (by omega)).trans HC3.out);have hm5:zad w3 (fun k=>w.heap.size+1<=k/\k≠w1.heap.size+1) w5 (fun k=>w.heap.size+1<=k/\k≠w1.heap.size+1):=((zad.refl w3 _).keeps HK4 (by intro k _ hk;omega)).keeps HK5 (by intro k _ hk;omega);obtain ⟨h0,h1,h2,h3,h4,h5,h6⟩:=zam HB5.out;obtain ⟨g0,g1,g2,g3,g4,g5,g6⟩:=zam HC5.out
   by_cases ho:o.length=0
   . have HP:Hid (zco f l=none):=by show zco f l=_;rw [HP2.out,if_pos hs,hn];simp only [];rw [if_pos ho]
     clear hn HR4 HK4 HR5 HK5 hm5 hx5;go_wp2_with fail;exact ⟨rfl,HK5'.out.set (by show _<=w1.heap.size+1;omega) _,Or.inl ⟨HP.out,rfl⟩⟩
   . have HP:Hid (zco f l=some (.mk 4 ⟨#[]⟩ ⟨#[]⟩ [x] b o,l5)):=by show zco f l=_;rw [HP2.out,if_pos hs,hn];simp only [];rw [if_neg ho]
     have HF:Hid (zd4 R a cap ts w (zco f l) (zf7 (w.heap.size<=·)) (.returned (.agg #[.int .i64 4,.string ⟨#[]⟩,.string ⟨#[]⟩,.slice (some ⟨w1.heap.size,0,none⟩) 1 1,.slice a2 b.length c2,.slice a5 o.length c5])) (set6 (w5.setCell ⟨w1.heap.size+1,5,none⟩ (.slice a5 o.length c5)) w.heap.size (.int .i64 4) (.string ⟨#[]⟩) (.string ⟨#[]⟩) (.slice (some ⟨w1.heap.size,0,none⟩) 1 1) (.slice a2 b.length c2) (.slice a5 o.length c5))):=by
      have hm6:zad w5 (fun k=>w.heap.size+1<=k/\k≠w1.heap.size+1) (set6 (w5.setCell ⟨w1.heap.size+1,5,none⟩ (.slice a5 o.length c5)) w.heap.size (.int .i64 4) (.string ⟨#[]⟩) (.string ⟨#[]⟩) (.slice (some ⟨w1.heap.size,0,none⟩) 1 1) (.slice a2 b.length c2) (.slice a5 o.length c5)) (w.heap.size<=·):=
       (((zad.refl w5 (fun k=>w.heap.size+1<=k/\k≠w1.heap.size+1)).set (p:=⟨w1.heap.size+1,5,none⟩) (by intro k _ hk;exact hk.2) (.slice a5 o.length c5)).set6 (b:=w.heap.size) (by intro k _ hk;omega) (.int .i64 4) (.string ⟨#[]⟩) (.string ⟨#[]⟩) (.slice (some ⟨w1.heap.size,0,none⟩) 1 1) (.slice a2 b.length c2) (.slice a5 o.length c5)).trans ⟨vaa _,fun k _ hk=>⟨by omega,rfl⟩⟩
      have hm7:zad w5 (w4.heap.size<=·) w5 (fun k=>w.heap.size+1<=k/\k≠w1.heap.size+1):=⟨vaa _,fun k _ hk=>⟨⟨by omega,by omega⟩,rfl⟩⟩
      exact znc (s:=.mk 4 ⟨#[]⟩ ⟨#[]⟩ [x] b o) HP.out ((HK5'.out.set (p:=⟨w1.heap.size+1,5,none⟩) (by show w.heap.size<=w1.heap.size+1;omega) (.slice a5 o.length c5)).set6 (b:=w.heap.size) (vaa _) _ _ _ _ _ _) ((HR5.setAbove HR.out (p:=⟨w1.heap.size+1,5,none⟩) (by show w.heap.size<=w1.heap.size+1;omega) (.slice a5 o.length c5)).set6 HR.out (b:=w.heap.size) (vaa _) _ _ _ _ _ _) (vag _) (vag _) (HA3.out.moves (hm5.trans hm6)) (HA4.out.moves (hm5.trans hm6)) ((hx5.moves hm7).moves hm6)
     clear hn HR4 HK4 HR5 HK5 hm5 hx5;go_wp2_with fail;refine bodyPost_ret (v:=.agg #[.int .i64 4,.string ⟨#[]⟩,.string ⟨#[]⟩,.slice (some ⟨w1.heap.size,0,none⟩) 1 1,.slice a2 b.length c2,.slice a5 o.length c5]) (by simp [results,Tryz.results282,go_sem,h0,h1,h2,h3,h4,h5]) rfl HF.out
 . refine (zb2 R cap a ts l2 zrt w3 HR3.out (by simpa using hs)).mono ?_
   rintro e w4 ⟨rfl,HR4,HK4⟩;have hz4:=HK4.size
   have HP:Hid (zco f l=some (.mk 4 ⟨#[]⟩ ⟨#[]⟩ [x] b [],l2)):=by show zco f l=_;rw [HP2.out,if_neg hs]
   have HB4:Hid (w4.heap[w.heap.size]? = some za1):=(HK4.block w.heap.size (by omega) (by omega)).trans HB3.out;have HC4:Hid (w4.heap[w1.heap.size+1]? = some (.cells #[.int .i64 4,.string ⟨#[]⟩,.string ⟨#[]⟩,.slice (some ⟨w1.heap.size,0,none⟩) 1 1,.slice a2 b.length c2,.slice none 0 0] 176 (0,0))):=(HK4.block (w1.heap.size+1) (by omega) (by omega)).trans HC3.out
   have HF:Hid (zd4 R a cap ts w (zco f l) (zf7 (w.heap.size<=·)) (.returned (.agg #[.int .i64 4,.string ⟨#[]⟩,.string ⟨#[]⟩,.slice (some ⟨w1.heap.size,0,none⟩) 1 1,.slice a2 b.length c2,.slice none 0 0])) (set6 w4 w.heap.size (.int .i64 4) (.string ⟨#[]⟩) (.string ⟨#[]⟩) (.slice (some ⟨w1.heap.size,0,none⟩) 1 1) (.slice a2 b.length c2) (.slice none 0 0))):=by
    have hm6:zad w3 (fun k=>w.heap.size+1<=k/\k≠w1.heap.size+1) (set6 w4 w.heap.size (.int .i64 4) (.string ⟨#[]⟩) (.string ⟨#[]⟩) (.slice (some ⟨w1.heap.size,0,none⟩) 1 1) (.slice a2 b.length c2) (.slice none 0 0)) (w.heap.size<=·):=
     (((zad.refl w3 (fun k=>w.heap.size+1<=k/\k≠w1.heap.size+1)).keeps HK4 (by intro k _ hk;omega)).set6 (b:=w.heap.size) (by intro k _ hk;omega) (.int .i64 4) (.string ⟨#[]⟩) (.string ⟨#[]⟩) (.slice (some ⟨w1.heap.size,0,none⟩) 1 1) (.slice a2 b.length c2) (.slice none 0 0)).trans ⟨vaa _,fun k _ hk=>⟨by omega,rfl⟩⟩
    exact znc (s:=.mk 4 ⟨#[]⟩ ⟨#[]⟩ [x] b []) HP.out ((HK3.out.trans HK4).set6 (b:=w.heap.size) (vaa _) _ _ _ _ _ _) (HR4.set6 HR.out (b:=w.heap.size) (vaa _) _ _ _ _ _ _) (vag _) (vag _) (HA3.out.moves hm6) (HA4.out.moves hm6) (Or.inl rfl)
   obtain ⟨h0,h1,h2,h3,h4,h5,h6⟩:=zam HB4.out;obtain ⟨g0,g1,g2,g3,g4,g5,g6⟩:=zam HC4.out;clear HR4 HK4;go_wp2_with fail;refine bodyPost_ret (v:=.agg #[.int .i64 4,.string ⟨#[]⟩,.string ⟨#[]⟩,.slice (some ⟨w1.heap.size,0,none⟩) 1 1,.slice a2 b.length c2,.slice none 0 0]) (by simp [results,Tryz.results282,go_sem,h0,h1,h2,h3,h4,h5]) rfl HF.out
theorem zzh (R cap:Nat) (a:OA) (ts:List Tk) (f:Nat) (IH:StC R cap a ts f) (l:List Tk) (w:World) (h:Rd R a cap ts w l) (hf:3*l.length+1<=f+1) :
 Calls Tryz.prog 254 #[.pointer (some ⟨R,0,none⟩)] w (zd4 R a cap ts w (zce (f+1) l) (zf7 (w.heap.size<=·))):=by
 have HI:Hid (StC R cap a ts f):=IH;have HR:Hid (Rd R a cap ts w l):=h;have hRw:=h.lt;clear IH h;go_enter Tryz.func254,Tryz.ntmps254;go_wp2_with fail
 obtain ⟨w0,hw0⟩:∃ w0,w0=w.alloc za1:=⟨_,rfl⟩
 have HR0':Hid (Rd R a cap ts w0 l):=by rw [hw0];exact HR.out.alloc _
 have HK0':Hid (Keeps R w w0):=by rw [hw0];exact (Keeps.refl R w).alloc _
 have HB0:Hid (w0.heap[w.heap.size]? = some za1):=by rw [hw0];exact heap_newP _ _
 have hz0:w.heap.size+1<=w0.heap.size:=by rw [hw0];simp
 rw [← hw0];clear hw0
 by_cases hs1:skB l tIf=true
 . have hl1:=zah (by decide) hs1
   refine (zbl R cap a ts l tIf w0 (by decide) HR0'.out hs1).mono ?_;rintro e u1 ⟨rfl,KR1,KK1⟩;have kz1:=KK1.size;have KB1:Hid (u1.heap[w.heap.size]? = some za1):=(KK1.block w.heap.size (by omega) (by omega)).trans HB0.out;go_wp2_with fail;refine (zsv R cap a ts f HI.out l.tail u1 KR1 (by omega)).mono ?_;rintro e u2 ⟨KK2,⟨hn,rfl⟩ | ⟨s,l2,v,hn,rfl,⟨a1,c1,a2,c2,a3,c3,rfl,hx1,hx2,hx3,hx4,hx5⟩,KR2⟩⟩
   . exact ⟨rfl,(HK0'.out.trans KK1).trans KK2,Or.inl ⟨by rw [zur hs1,hn],rfl⟩⟩
   have KB2:Hid (u2.heap[w.heap.size]? = some za1):=(KK2.block w.heap.size (by omega) (by omega)).trans KB1.out;obtain ⟨h0,h1,h2,h3,h4,h5,h6⟩:=zam KB2.out
   have HF:Hid (zd4 R a cap ts w (zce (f+1) l) (zf7 (w.heap.size<=·)) (.returned (.agg #[.int .i64 s.op,.string s.mod,.string s.name,.slice a1 s.args.length c1,.slice a2 s.body.length c2,.slice a3 s.other.length c3])) (set6 u2 w.heap.size (.int .i64 s.op) (.string s.mod) (.string s.name) (.slice a1 s.args.length c1) (.slice a2 s.body.length c2) (.slice a3 s.other.length c3))):=
    st_end (s:=s) HR.out (by rw [zur hs1,hn]) ((HK0'.out.trans KK1).trans KK2) KR2 hx1 hx2 (lo:=u1.heap.size) hx3 hx4 hx5 (by omega)
   clear hn KK2 KR2 KK1 KR1 hx1 hx2 hx3 hx4 hx5;go_wp2_with fail;refine bodyPost_ret (v:=.agg #[.int .i64 s.op,.string s.mod,.string s.name,.slice a1 s.args.length c1,.slice a2 s.body.length c2,.slice a3 s.other.length c3]) (by simp [results,Tryz.results254,go_sem,h0,h1,h2,h3,h4,h5]) rfl HF.out
 refine (zb2 R cap a ts l tIf w0 HR0'.out (by simpa using hs1)).mono ?_;rintro e w1 ⟨rfl,HR1,HK1⟩;have HR1':Hid (Rd R a cap ts w1 l):=HR1;have HK1':Hid (Keeps R w w1):=HK0'.out.trans HK1;have HB1:Hid (w1.heap[w.heap.size]? = some za1):=(HK1.block w.heap.size (by omega) (by omega)).trans HB0.out;have hz1:=HK1.size
 have hf1:skB l tIf=false:=by simpa using hs1
 clear HR1 HK1 HR0' HK0' HB0 hs1;go_wp2_with fail
 by_cases hs2:skB l zgw=true
 . have hl2:=zah (by decide) hs2
   refine (zbl R cap a ts l zgw w1 (by decide) HR1'.out hs2).mono ?_;rintro e u1 ⟨rfl,KR1,KK1⟩;have kz1:=KK1.size;have KB1:Hid (u1.heap[w.heap.size]? = some za1):=(KK1.block w.heap.size (by omega) (by omega)).trans HB1.out;go_wp2_with fail;refine (zet R cap a ts l.tail u1 KR1).mono ?_;rintro e u2 ⟨KK2,⟨hn,rfl⟩ | ⟨x,l2,v,hn,rfl,⟨a2,c2,rfl,hx1,hx2,hx3⟩,KR2⟩⟩
   . exact ⟨rfl,(HK1'.out.trans KK1).trans KK2,Or.inl ⟨by rw [zha hf1 hs2,hn],rfl⟩⟩
   have kz2:=KK2.size;have kl2:=zn4 hn;have KB2:Hid (u2.heap[w.heap.size]? = some za1):=(KK2.block w.heap.size (by omega) (by omega)).trans KB1.out;have HN:Hid (pX l.tail=some (x,l2)):=hn
   have HX1:Hid (EAt (u2.alloc (.cells #[.int .i64 x.op,.int .i64 x.n,.string x.mod,.string x.name,.slice a2 x.args.length c2] 174)) (w.heap.size+1<=·) (some ⟨u2.heap.size,0,none⟩) 1 (zbo [x])):=
    zkx (t:=174) (cap:=c2) hx1 hx2 hx3 (((zad.refl u2 _).alloc _).to (by omega)) (heap_newP _ _) (by omega)
   have KR2':Hid (Rd R a cap ts u2 l2):=KR2;have KK2':Hid (Keeps R w u2):=(HK1'.out.trans KK1).trans KK2;clear hn hx1 hx2 hx3 KR2 KK2 KR1 KK1 KB1;go_wp2_with fail;refine (HI.out.block l2 _ ((KR2'.out.alloc _).alloc _) (by omega)).mono ?_;rintro e u3 ⟨KK3,⟨hn,rfl⟩ | ⟨b,l3,v,hn,rfl,⟨a3,c3,rfl,hx3⟩,KR3⟩⟩
   . exact ⟨rfl,((KK2'.out.alloc _).alloc _).trans KK3,Or.inl ⟨by rw [zha hf1 hs2,HN.out];simp only [];rw [hn],rfl⟩⟩
   have kz3:=KK3.size;simp at kz3
   have HP:Hid (zce (f+1) l=some (.mk 5 ⟨#[]⟩ ⟨#[]⟩ [x] b [],l3)):=by show zce (f+1) l=_;rw [zha hf1 hs2,HN.out];simp only [];rw [hn]
   have KB3:Hid (u3.heap[w.heap.size]? = some za1):=(KK3.block w.heap.size (by simp;omega) (by omega)).trans (zab (zab KB2.out))
   have KC3:Hid (u3.heap[u2.heap.size+1]? = some (.cells #[.int .i64 5,.string ⟨#[]⟩,.string ⟨#[]⟩,.slice (some ⟨u2.heap.size,0,none⟩) 1 1,.slice none 0 0,.slice none 0 0] 176 (0,0))):=(KK3.block (u2.heap.size+1) (by simp) (by omega)).trans (by
    have e:=heap_newP (u2.alloc (.cells #[.int .i64 x.op,.int .i64 x.n,.string x.mod,.string x.name,.slice a2 x.args.length c2] 174)) (.cells #[.int .i64 5,.string ⟨#[]⟩,.string ⟨#[]⟩,.slice (some ⟨u2.heap.size,0,none⟩) 1 1,.slice none 0 0,.slice none 0 0] 176)
    simpa using e)
   obtain ⟨h0,h1,h2,h3,h4,h5,h6⟩:=zam KB3.out;obtain ⟨g0,g1,g2,g3,g4,g5,g6⟩:=zam KC3.out
   have hx3':EAt u3 (u2.heap.size+2<=·) a3 b.length (zbp b):=by simpa using hx3
   have HF:Hid (zd4 R a cap ts w (zce (f+1) l) (zf7 (w.heap.size<=·)) (.returned (.agg #[.int .i64 5,.string ⟨#[]⟩,.string ⟨#[]⟩,.slice (some ⟨u2.heap.size,0,none⟩) 1 1,.slice a3 b.length c3,.slice none 0 0])) (set6 (u3.setCell ⟨u2.heap.size+1,4,none⟩ (.slice a3 b.length c3)) w.heap.size (.int .i64 5) (.string ⟨#[]⟩) (.string ⟨#[]⟩) (.slice (some ⟨u2.heap.size,0,none⟩) 1 1) (.slice a3 b.length c3) (.slice none 0 0))):=by
    have hm6:zad u3 (fun k=>w.heap.size+1<=k/\k≠u2.heap.size+1) (set6 (u3.setCell ⟨u2.heap.size+1,4,none⟩ (.slice a3 b.length c3)) w.heap.size (.int .i64 5) (.string ⟨#[]⟩) (.string ⟨#[]⟩) (.slice (some ⟨u2.heap.size,0,none⟩) 1 1) (.slice a3 b.length c3) (.slice none 0 0)) (w.heap.size<=·):=
     (((zad.refl u3 (fun k=>w.heap.size+1<=k/\k≠u2.heap.size+1)).set (p:=⟨u2.heap.size+1,4,none⟩) (by intro k _ hk;exact hk.2) (.slice a3 b.length c3)).set6 (b:=w.heap.size) (by intro k _ hk;omega) (.int .i64 5) (.string ⟨#[]⟩) (.string ⟨#[]⟩) (.slice (some ⟨u2.heap.size,0,none⟩) 1 1) (.slice a3 b.length c3) (.slice none 0 0)).trans ⟨vaa _,fun k _ hk=>⟨by omega,rfl⟩⟩
    have hm7:zad u3 (u2.heap.size+2<=·) u3 (fun k=>w.heap.size+1<=k/\k≠u2.heap.size+1):=⟨vaa _,fun k _ hk=>⟨⟨by omega,by omega⟩,rfl⟩⟩
    have hm5:zad (u2.alloc (.cells #[.int .i64 x.op,.int .i64 x.n,.string x.mod,.string x.name,.slice a2 x.args.length c2] 174)) (w.heap.size+1<=·) u3 (fun k=>w.heap.size+1<=k/\k≠u2.heap.size+1):=by
     refine ⟨by simp;omega,fun k hk1 hk2=>?_⟩
     have hk1':k<u2.heap.size+1:=by simpa using hk1
     exact ⟨⟨hk2,by omega⟩,(KK3.block k (by simp;omega) (by omega)).trans ((Below.refl _ _).alloc (vaa _) _ |>.block k (by simp;omega))⟩
    exact znc (s:=.mk 5 ⟨#[]⟩ ⟨#[]⟩ [x] b []) HP.out (((((KK2'.out.alloc _).alloc _).trans KK3).set (p:=⟨u2.heap.size+1,4,none⟩) (by show w.heap.size<=u2.heap.size+1;omega) (.slice a3 b.length c3)).set6 (b:=w.heap.size) (vaa _) _ _ _ _ _ _) ((KR3.setAbove HR.out (p:=⟨u2.heap.size+1,4,none⟩) (by show w.heap.size<=u2.heap.size+1;omega) (.slice a3 b.length c3)).set6 HR.out (b:=w.heap.size) (vaa _) _ _ _ _ _ _) (vag _) (vag _) (HX1.out.moves (hm5.trans hm6)) ((hx3'.moves hm7).moves hm6) (Or.inl rfl)
   clear hn KK3 KR3 hx3 hx3';go_wp2_with fail;refine bodyPost_ret (v:=.agg #[.int .i64 5,.string ⟨#[]⟩,.string ⟨#[]⟩,.slice (some ⟨u2.heap.size,0,none⟩) 1 1,.slice a3 b.length c3,.slice none 0 0]) (by simp [results,Tryz.results254,go_sem,h0,h1,h2,h3,h4,h5]) rfl HF.out
 refine (zb2 R cap a ts l zgw w1 HR1'.out (by simpa using hs2)).mono ?_;rintro e w2 ⟨rfl,HR2,HK2⟩;have HR2':Hid (Rd R a cap ts w2 l):=HR2;have HK2':Hid (Keeps R w w2):=HK1'.out.trans HK2;have HB2:Hid (w2.heap[w.heap.size]? = some za1):=(HK2.block w.heap.size (by omega) (by omega)).trans HB1.out;have hz2:=HK2.size
 have hf2:skB l zgw=false:=by simpa using hs2
 clear HR2 HK2 HR1' HK1' HB1 hs2;go_wp2_with fail
 by_cases hs3:skB l zfh=true
 . have hl3:=zah (by decide) hs3
   refine (zbl R cap a ts l zfh w2 (by decide) HR2'.out hs3).mono ?_;rintro e u1 ⟨rfl,KR1,KK1⟩;have kz1:=KK1.size;have KB1:Hid (u1.heap[w.heap.size]? = some za1):=(KK1.block w.heap.size (by omega) (by omega)).trans HB2.out;go_wp2_with fail;refine (zet R cap a ts l.tail u1 KR1).mono ?_;rintro e u2 ⟨KK2,⟨hn,rfl⟩ | ⟨x,l2,v,hn,rfl,⟨a2,c2,rfl,hx1,hx2,hx3⟩,KR2⟩⟩
   . exact ⟨rfl,(HK2'.out.trans KK1).trans KK2,Or.inl ⟨by rw [zf8 hf1 hf2 hs3,hn];rfl,rfl⟩⟩
   have kz2:=KK2.size;have KB2:Hid (u2.heap[w.heap.size]? = some za1):=(KK2.block w.heap.size (by omega) (by omega)).trans KB1.out;have HN:Hid (pX l.tail=some (x,l2)):=hn
   have HX:Hid (x.mod.size<=maxLen/\x.name.size<=maxLen/\EAt u2 (u1.heap.size<=·) a2 x.args.length (zbo x.args)):=⟨hx1,hx2,hx3⟩
   have KR2':Hid (Rd R a cap ts u2 l2):=KR2;have KK2':Hid (Keeps R w u2):=(HK2'.out.trans KK1).trans KK2;clear hn hx1 hx2 hx3 KR2 KK2 KR1 KK1 KB1;go_wp2_with fail;refine (zky R cap a ts l2 _ (KR2'.out.alloc _) _ _ _ _ _ _ _ _ _ _ _ _).mono ?_;rintro e u3 ⟨KK3,⟨t3,rfl⟩ | ⟨t3,rfl,KR3⟩⟩
   . exact ⟨rfl,(KK2'.out.alloc _).trans KK3,Or.inl ⟨by rw [zf8 hf1 hf2 hs3,HN.out];simp [zdt,t3],rfl⟩⟩
   have kz3:=KK3.size;simp at kz3
   have HP:Hid (zce (f+1) l=some (.mk 6 ⟨#[]⟩ ⟨#[]⟩ [x] [] [],l2.tail)):=by show zce (f+1) l=_;rw [zf8 hf1 hf2 hs3,HN.out];simp [zdt,t3]
   have KB3:Hid (u3.heap[w.heap.size]? = some za1):=(KK3.block w.heap.size (by simp;omega) (by omega)).trans (zab KB2.out);obtain ⟨h0,h1,h2,h3,h4,h5,h6⟩:=zam KB3.out
   have HF:Hid (zd4 R a cap ts w (zce (f+1) l) (zf7 (w.heap.size<=·)) (.returned (.agg #[.int .i64 6,.string ⟨#[]⟩,.string ⟨#[]⟩,.slice (some ⟨u2.heap.size,0,none⟩) 1 1,.slice none 0 0,.slice none 0 0])) (set6 u3 w.heap.size (.int .i64 6) (.string ⟨#[]⟩) (.string ⟨#[]⟩) (.slice (some ⟨u2.heap.size,0,none⟩) 1 1) (.slice none 0 0) (.slice none 0 0))):=
    st_end (s:=.mk 6 ⟨#[]⟩ ⟨#[]⟩ [x] [] []) HR.out HP.out ((KK2'.out.alloc _).trans KK3) KR3 (vag _) (vag _) (lo:=u1.heap.size) (zkx (t:=174) (cap:=c2) HX.out.1 HX.out.2.1 HX.out.2.2 (((zad.refl u2 _).alloc _).keeps KK3 (by intro k _ hk;omega)) ((KK3.block u2.heap.size (by simp) (by omega)).trans (heap_newP _ _)) kz2) (Or.inl rfl) (Or.inl rfl) (by omega)
   clear KK3 KR3;go_wp2_with fail;refine bodyPost_ret (v:=.agg #[.int .i64 6,.string ⟨#[]⟩,.string ⟨#[]⟩,.slice (some ⟨u2.heap.size,0,none⟩) 1 1,.slice none 0 0,.slice none 0 0]) (by simp [results,Tryz.results254,go_sem,h0,h1,h2,h3,h4,h5]) rfl HF.out
 refine (zb2 R cap a ts l zfh w2 HR2'.out (by simpa using hs3)).mono ?_;rintro e w3 ⟨rfl,HR3,HK3⟩;have HR3':Hid (Rd R a cap ts w3 l):=HR3;have HK3':Hid (Keeps R w w3):=HK2'.out.trans HK3;have HB3:Hid (w3.heap[w.heap.size]? = some za1):=(HK3.block w.heap.size (by omega) (by omega)).trans HB2.out;have hz3:=HK3.size
 have hf3:skB l zfh=false:=by simpa using hs3
 clear HR3 HK3 HR2' HK2' HB2 hs3;go_wp2_with fail
 by_cases hs4:skB l z3s=true
 . have hl4:=zah (by decide) hs4
   refine (zbl R cap a ts l z3s w3 (by decide) HR3'.out hs4).mono ?_;rintro e u1 ⟨rfl,KR1,KK1⟩;have kz1:=KK1.size;have KB1:Hid (u1.heap[w.heap.size]? = some za1):=(KK1.block w.heap.size (by omega) (by omega)).trans HB3.out;go_wp2_with fail;refine (zet R cap a ts l.tail u1 KR1).mono ?_;rintro e u2 ⟨KK2,⟨hn,rfl⟩ | ⟨x,l2,v,hn,rfl,⟨a2,c2,rfl,hx1,hx2,hx3⟩,KR2⟩⟩
   . exact ⟨rfl,(HK3'.out.trans KK1).trans KK2,Or.inl ⟨by rw [zk0 hf1 hf2 hf3 hs4,hn];rfl,rfl⟩⟩
   have kz2:=KK2.size;have KB2:Hid (u2.heap[w.heap.size]? = some za1):=(KK2.block w.heap.size (by omega) (by omega)).trans KB1.out;have HN:Hid (pX l.tail=some (x,l2)):=hn
   have HX:Hid (x.mod.size<=maxLen/\x.name.size<=maxLen/\EAt u2 (u1.heap.size<=·) a2 x.args.length (zbo x.args)):=⟨hx1,hx2,hx3⟩
   have KR2':Hid (Rd R a cap ts u2 l2):=KR2;have KK2':Hid (Keeps R w u2):=(HK3'.out.trans KK1).trans KK2;clear hn hx1 hx2 hx3 KR2 KK2 KR1 KK1 KB1;go_wp2_with fail;refine (zky R cap a ts l2 _ (KR2'.out.alloc _) _ _ _ _ _ _ _ _ _ _ _ _).mono ?_;rintro e u3 ⟨KK3,⟨t3,rfl⟩ | ⟨t3,rfl,KR3⟩⟩
   . exact ⟨rfl,(KK2'.out.alloc _).trans KK3,Or.inl ⟨by rw [zk0 hf1 hf2 hf3 hs4,HN.out];simp [zdt,t3],rfl⟩⟩
   have kz3:=KK3.size;simp at kz3
   have HP:Hid (zce (f+1) l=some (.mk 7 ⟨#[]⟩ ⟨#[]⟩ [x] [] [],l2.tail)):=by show zce (f+1) l=_;rw [zk0 hf1 hf2 hf3 hs4,HN.out];simp [zdt,t3]
   have KB3:Hid (u3.heap[w.heap.size]? = some za1):=(KK3.block w.heap.size (by simp;omega) (by omega)).trans (zab KB2.out);obtain ⟨h0,h1,h2,h3,h4,h5,h6⟩:=zam KB3.out
   have HF:Hid (zd4 R a cap ts w (zce (f+1) l) (zf7 (w.heap.size<=·)) (.returned (.agg #[.int .i64 7,.string ⟨#[]⟩,.string ⟨#[]⟩,.slice (some ⟨u2.heap.size,0,none⟩) 1 1,.slice none 0 0,.slice none 0 0])) (set6 u3 w.heap.size (.int .i64 7) (.string ⟨#[]⟩) (.string ⟨#[]⟩) (.slice (some ⟨u2.heap.size,0,none⟩) 1 1) (.slice none 0 0) (.slice none 0 0))):=
    st_end (s:=.mk 7 ⟨#[]⟩ ⟨#[]⟩ [x] [] []) HR.out HP.out ((KK2'.out.alloc _).trans KK3) KR3 (vag _) (vag _) (lo:=u1.heap.size) (zkx (t:=174) (cap:=c2) HX.out.1 HX.out.2.1 HX.out.2.2 (((zad.refl u2 _).alloc _).keeps KK3 (by intro k _ hk;omega)) ((KK3.block u2.heap.size (by simp) (by omega)).trans (heap_newP _ _)) kz2) (Or.inl rfl) (Or.inl rfl) (by omega)
   clear KK3 KR3;go_wp2_with fail;refine bodyPost_ret (v:=.agg #[.int .i64 7,.string ⟨#[]⟩,.string ⟨#[]⟩,.slice (some ⟨u2.heap.size,0,none⟩) 1 1,.slice none 0 0,.slice none 0 0]) (by simp [results,Tryz.results254,go_sem,h0,h1,h2,h3,h4,h5]) rfl HF.out
 refine (zb2 R cap a ts l z3s w3 HR3'.out (by simpa using hs4)).mono ?_;rintro e w4 ⟨rfl,HR4,HK4⟩;have HR4':Hid (Rd R a cap ts w4 l):=HR4;have HK4':Hid (Keeps R w w4):=HK3'.out.trans HK4;have HB4:Hid (w4.heap[w.heap.size]? = some za1):=(HK4.block w.heap.size (by omega) (by omega)).trans HB3.out;have hz4:=HK4.size
 have hf4:skB l z3s=false:=by simpa using hs4
 clear HR4 HK4 HR3' HK3' HB3 hs4;go_wp2_with fail;refine (zzf R cap a ts l w4 HR4'.out).mono ?_;rintro e u2 ⟨KK2,⟨hn,rfl⟩ | ⟨s,l2,v,hn,rfl,⟨a1,c1,a2,c2,a3,c3,rfl,hx1,hx2,hx3,hx4,hx5⟩,KR2⟩⟩
 . exact ⟨rfl,HK4'.out.trans KK2,Or.inl ⟨by rw [zhb hf1 hf2 hf3 hf4,hn];rfl,rfl⟩⟩
 have kz2:=KK2.size;have KB2:Hid (u2.heap[w.heap.size]? = some za1):=(KK2.block w.heap.size (by omega) (by omega)).trans HB4.out;have HN:Hid (zbr l=some (s,l2)):=hn
 have HX:Hid (s.mod.size<=maxLen/\s.name.size<=maxLen/\EAt u2 (w4.heap.size<=·) a1 s.args.length (zbo s.args)/\EAt u2 (w4.heap.size<=·) a2 s.body.length (zbp s.body)/\EAt u2 (w4.heap.size<=·) a3 s.other.length (zbp s.other)):=⟨hx1,hx2,hx3,hx4,hx5⟩
 have KR2':Hid (Rd R a cap ts u2 l2):=KR2;have KK2':Hid (Keeps R w u2):=HK4'.out.trans KK2;clear hn hx1 hx2 hx3 hx4 hx5 KR2 KK2;go_wp2_with fail;refine (zky R cap a ts l2 _ KR2'.out _ _ _ _ _ _ _ _ _ _ _ _).mono ?_;rintro e u3 ⟨KK3,⟨t3,rfl⟩ | ⟨t3,rfl,KR3⟩⟩
 . exact ⟨rfl,KK2'.out.trans KK3,Or.inl ⟨by rw [zhb hf1 hf2 hf3 hf4,HN.out];simp [zdt,t3],rfl⟩⟩
 have kz3:=KK3.size
 have HP:Hid (zce (f+1) l=some (s,l2.tail)):=by show zce (f+1) l=_;rw [zhb hf1 hf2 hf3 hf4,HN.out];simp [zdt,t3]
 have KB3:Hid (u3.heap[w.heap.size]? = some za1):=(KK3.block w.heap.size (by omega) (by omega)).trans KB2.out;obtain ⟨h0,h1,h2,h3,h4,h5,h6⟩:=zam KB3.out
 have HF:Hid (zd4 R a cap ts w (zce (f+1) l) (zf7 (w.heap.size<=·)) (.returned (.agg #[.int .i64 s.op,.string s.mod,.string s.name,.slice a1 s.args.length c1,.slice a2 s.body.length c2,.slice a3 s.other.length c3])) (set6 u3 w.heap.size (.int .i64 s.op) (.string s.mod) (.string s.name) (.slice a1 s.args.length c1) (.slice a2 s.body.length c2) (.slice a3 s.other.length c3))):=by
  have hm:zad u2 (w4.heap.size<=·) u3 (w4.heap.size<=·):=(zad.refl u2 _).keeps KK3 (by intro k _ hk;omega);exact st_end (s:=s) HR.out HP.out (KK2'.out.trans KK3) KR3 HX.out.1 HX.out.2.1 (lo:=w4.heap.size) (HX.out.2.2.1.moves hm) (HX.out.2.2.2.1.moves hm) (HX.out.2.2.2.2.moves hm) (by omega)
 clear KK3 KR3;go_wp2_with fail;refine bodyPost_ret (v:=.agg #[.int .i64 s.op,.string s.mod,.string s.name,.slice a1 s.args.length c1,.slice a2 s.body.length c2,.slice a3 s.other.length c3]) (by simp [results,Tryz.results254,go_sem,h0,h1,h2,h3,h4,h5]) rfl HF.out
theorem z7m (R cap:Nat) (a:OA) (ts:List Tk):∀ f,StC R cap a ts f:=by
 intro f
 induction f using Nat.strongRecOn with
 | ind f ih=>
   cases f with
   | zero=>exact ⟨fun _ _ _ h=>by omega,fun _ _ _ h=>by omega⟩
   | succ f=>
     exact ⟨fun l w h hf=>zzh R cap a ts f (ih f (by omega)) l w h hf,fun l w h hf=>zv7 R cap a ts f (fun g hg=>ih g (by omega)) l w h hf⟩
def pB (l:List Tk):Option (List St × List Tk):=zbt (3*l.length+8) l
theorem z86 {l l':List Tk} {b:List St} (h:pB l=some (b,l')):l'.length<l.length:=zf9 _ _ _ _ h
theorem zqv (R cap:Nat) (a:OA) (ts l:List Tk) (w:World) (h:Rd R a cap ts w l) :
 Calls Tryz.prog 201 #[.pointer (some ⟨R,0,none⟩)] w (zd4 R a cap ts w (pB l) (z85 (w.heap.size<=·))):=(z7m R cap a ts _).block l w h (by omega)
def zhw (l:List Tk):List Tk:=if skB l zcu then l.tail else l
def zbw (l:List Tk):Option (De × List Tk):=
 if skB (zhw l) zpy then (match zde (zhw l).tail with
  | none=>none
  | some (n,l1)=>if skB l1 tEq then (match pNum l1.tail with | none=>none | some (k,l2)=>if skB l2 zhj then some (⟨1,n,skB l zcu,k⟩,l2.tail) else none) else none)
 else if skB (zhw l) z6y then (match zde (zhw l).tail with
  | none=>none
  | some (n,l1)=>if skB l1 zhj then some (⟨2,n,skB l zcu,0⟩,l1.tail) else none)
 else if skB (zhw l) zpz then (match zde (zhw l).tail with
  | none=>none
  | some (n,l1)=>if skB l1 tLs then (match pNum l1.tail with | none=>none | some (k,l2)=>if skB l2 tRs then (if skB l2.tail zhj then some (⟨3,n,skB l zcu,k⟩,l2.tail.tail) else none) else none) else none)
 else none
def zcp:Nat->List ByteArray->List Tk->Option (List ByteArray × List Tk)
 | 0,_,_=>none
 | f+1,acc,l=>
   if skB l z06 then (match zde l.tail with | none=>none | some (n,l1)=>zcp f (acc++[n]) l1)
   else if skB l tRp then some (acc,l.tail) else none
def zcq (t:ByteArray):Nat->List ByteArray->List Tk->Option (List ByteArray × List Tk)
 | 0,_,_=>none
 | f+1,acc,l=>
   if skB l t then (match zde l.tail with | none=>none | some (n,l1)=>if skB l1 zhj then zcq t f (acc++[n]) l1.tail else none)
   else some (acc,l)
def zhc (l:List Tk):Option (List ByteArray × List Tk):=
 if skB l tRp then some ([],l.tail) else (match zde l with | none=>none | some (n,l1)=>zcp (l1.length+1) [n] l1)
def ze8 (l:List Tk):Option (Pr × List Tk):=
 if skB (zhw l) z4h then (match zde (zhw l).tail with
  | none=>none
  | some (n,l1)=>if skB l1 tLp then (match zhc l1.tail with
    | none=>none
    | some (ps,l2)=>(match zcq zd6 (l2.length+1) [] l2 with
      | none=>none
      | some (ls,l3)=>(match pB l3 with | none=>none | some (b,l4)=>some (⟨n,skB l zcu,ps,ls,b⟩,l4)))) else none)
 else none
def zv8 (l:List Tk):Bool:=
 let t:=if skB l zcu then (l.getD 1 noTk).text else (hd l).text
 t.toList == zpy.toList||t.toList == z6y.toList||t.toList == zpz.toList
def ze9:Nat->List De->List Tk->Option (List De × List Tk)
 | 0,_,_=>none
 | f+1,acc,l=>if zv8 l then (match zbw l with | none=>none | some (d,l1)=>ze9 f (acc++[d]) l1) else some (acc,l)
def zfa:Nat->List Pr->List Tk->Option (List Pr × List Tk)
 | 0,_,_=>none
 | f+1,acc,l=>if skB l zrs then some (acc,l.tail) else (match ze8 l with | none=>none | some (p,l1)=>zfa f (acc++[p]) l1)
def zcc (l:List Tk):Option (Mo × List Tk):=
 if skB l zn2 then (match zde l.tail with
  | none=>none
  | some (n,l1)=>if skB l1 tLb then (match zcq zt0 (l1.tail.length+1) [] l1.tail with
    | none=>none
    | some (us,l2)=>(match ze9 (l2.length+1) [] l2 with
      | none=>none
      | some (ds,l3)=>(match zfa (l3.length+1) [] l3 with
        | none=>none
        | some (ps,l4)=>(match pB l4 with
          | none=>none
          | some (b,l5)=>if skB l5 tRb then some (⟨n,us,ds,ps,b⟩,l5.tail) else none)))) else none)
 else none
theorem zsw (l:List Tk):(zhw l).length<=l.length:=by
 unfold zhw;split
 . simp
 . exact vaa _
theorem zus {l l':List Tk} {d:De} (h:zbw l=some (d,l')):l'.length<l.length:=by
 have hp:=zsw l;unfold zbw at h
 split at h
 . rename_i hs
   have:=zah (by decide) hs
   split at h
   . cases h
   rename_i n l1 h1
   have:=zbk h1
   split at h
   . rename_i hs2
     have:=zah (by decide) hs2
     split at h
     . cases h
     rename_i k l2 h2
     have:=zxh h2
     split at h
     . rename_i hs3
       have:=zah (by decide) hs3;obtain ⟨_,rfl⟩:=vao (vab h);omega
     . cases h
   . cases h
 split at h
 . rename_i hs
   have:=zah (by decide) hs
   split at h
   . cases h
   rename_i n l1 h1
   have:=zbk h1
   split at h
   . rename_i hs3
     have:=zah (by decide) hs3;obtain ⟨_,rfl⟩:=vao (vab h);omega
   . cases h
 split at h
 . rename_i hs
   have:=zah (by decide) hs
   split at h
   . cases h
   rename_i n l1 h1
   have:=zbk h1
   split at h
   . rename_i hs2
     have:=zah (by decide) hs2
     split at h
     . cases h
     rename_i k l2 h2
     have:=zxh h2
     split at h
     . rename_i hs3
       have:=zah (by decide) hs3
       split at h
       . rename_i hs4
         have:=zah (by decide) hs4;obtain ⟨_,rfl⟩:=vao (vab h);omega
       . cases h
     . cases h
   . cases h
 . cases h
theorem znd:∀ (f:Nat) (acc:List ByteArray) (l l':List Tk) (x:List ByteArray),zcp f acc l=some (x,l')->l'.length<=l.length
 | 0,_,_,_,_,h=>by simp [zcp] at h
 | f + 1,acc,l,l',x,h=>by
   unfold zcp at h
   split at h
   . rename_i hs
     have:=zah (by decide) hs
     split at h
     . cases h
     rename_i n l1 h1
     have:=zbk h1;have:=znd f _ _ _ _ h;omega
   split at h
   . rename_i hs
     have:=zah (by decide) hs;obtain ⟨_,rfl⟩:=vao (vab h);omega
   . cases h
theorem zut (t:ByteArray) (ht:0<t.size):∀ (f:Nat) (acc:List ByteArray) (l l':List Tk) (x:List ByteArray),zcq t f acc l=some (x,l')->l'.length<=l.length
 | 0,_,_,_,_,h=>by simp [zcq] at h
 | f + 1,acc,l,l',x,h=>by
   unfold zcq at h
   split at h
   . rename_i hs
     have:=zah ht hs
     split at h
     . cases h
     rename_i n l1 h1
     have:=zbk h1
     split at h
     . rename_i hs2
       have:=zah (by decide) hs2;have:=zut t ht f _ _ _ _ h;omega
     . cases h
   . obtain ⟨_,rfl⟩:=vao (vab h)
     exact vaa _
theorem z14 {l l':List Tk} {x:List ByteArray} (h:zhc l=some (x,l')):l'.length<=l.length:=by
 unfold zhc at h
 split at h
 . rename_i hs
   have:=zah (by decide) hs;obtain ⟨_,rfl⟩:=vao (vab h);omega
 split at h
 . cases h
 rename_i n l1 h1
 have:=zbk h1;have:=znd _ _ _ _ _ h;omega
theorem zuu {l l':List Tk} {p:Pr} (h:ze8 l=some (p,l')):l'.length<l.length:=by
 have hp:=zsw l;unfold ze8 at h
 split at h
 . rename_i hs
   have:=zah (by decide) hs
   split at h
   . cases h
   rename_i n l1 h1
   have:=zbk h1
   split at h
   . rename_i hs2
     have:=zah (by decide) hs2
     split at h
     . cases h
     rename_i ps l2 h2
     have:=z14 h2
     split at h
     . cases h
     rename_i ls l3 h3
     have:=zut _ (by decide) _ _ _ _ _ h3
     split at h
     . cases h
     rename_i b l4 h4
     have:=z86 h4;obtain ⟨_,rfl⟩:=vao (vab h);omega
   . cases h
 . cases h
theorem zov (R cap:Nat) (a:OA) (ts l:List Tk) (w:World) (h:Rd R a cap ts w l) :
 Calls Tryz.prog 198 #[.pointer (some ⟨R,0,none⟩)] w fun e w'=>e = .returned (.bool (zv8 l))/\Below w.heap.size w w':=by
 have HR:Hid (Rd R a cap ts w l):=h;have hf2:=zuq (hd l).kind (hd l).n (hd l).text;have hf3:=zuq (l.getD 1 noTk).kind (l.getD 1 noTk).n (l.getD 1 noTk).text
 have HS:Hid (skB l zcu=((hd l).text.toList == [112,117,98])):=by show skB l zcu=_;unfold skB;rw [vax zcu]
 have HD:Hid (zv8 l=((if skB l zcu then (l.getD 1 noTk).text else (hd l).text).toList == [99,111,110,115,116]||(if skB l zcu then (l.getD 1 noTk).text else (hd l).text).toList == [118,97,114]||(if skB l zcu then (l.getD 1 noTk).text else (hd l).text).toList == [97,114,114,97,121])):=by
  show zv8 l=_;unfold zv8;rw [vax zpy,vax z6y,vax zpz]
 have HG:Hid (∀ w',Rd R a cap ts w' l->Calls Tryz.prog 252 #[.pointer (some ⟨R,0,none⟩),.int .i64 1] w' fun e w''=>e = .returned (.agg #[.int .i64 (l.getD 1 noTk).kind,.int .i64 (l.getD 1 noTk).n,.string (l.getD 1 noTk).text])/\Below w'.heap.size w' w''):=fun w' h'=>zqs R cap 1 a ts l w' (by omega) h'
 clear h;go_enter Tryz.func198,Tryz.ntmps198;go_wp2_with fail;refine (zqt R cap a ts l w HR.out).mono ?_;rintro e w1 ⟨rfl,hb1⟩
 by_cases hp:((hd l).text.toList == [112,117,98])=true
 . have HS':Hid (skB l zcu=true):=HS.out.trans hp
   generalize l.getD 1 noTk=T at *;go_wp2_with fail;refine (HG.out w1 (HR.out.later hb1)).mono ?_;rintro e w2 ⟨rfl,hb2⟩;go_wp2_with fail
   all_goals go_ret
   all_goals refine ⟨ret_bool ?_,hb1.trans (hb2.mono hb1.size)⟩
   all_goals rw [HD.out,HS'.out];simp_all
 . have hp':((hd l).text.toList == [112,117,98])=false:=by simpa using hp
   have HS':Hid (skB l zcu=false):=HS.out.trans hp';clear hp;generalize hd l=T at *;go_wp2_with fail
   all_goals go_ret
   all_goals refine ⟨ret_bool ?_,hb1⟩
   all_goals rw [HD.out,HS'.out];simp_all
def zzi (d:De) (_:World) (v:Value):Prop:=v = .agg #[.int .i64 d.kind,.string d.name,.bool d.pub,.int .i64 d.n]/\d.name.size<=maxLen
abbrev set4 (w:World) (b:Nat) (v0 v1 v2 v3:Value):World:=(((w.setCell ⟨b,0,none⟩ v0).setCell ⟨b,1,none⟩ v1).setCell ⟨b,2,none⟩ v2).setCell ⟨b,3,none⟩ v3
theorem Keeps.set4 {R b:Nat} {w w1:World} (h:Keeps R w w1) (hp:w.heap.size<=b) (v0 v1 v2 v3:Value):Keeps R w (set4 w1 b v0 v1 v2 v3):=(((h.set hp v0).set hp v1).set hp v2).set hp v3
theorem Rd.set4 {R cap b:Nat} {w0 w1:World} {a:OA} {ts l l0:List Tk} (h:Rd R a cap ts w1 l) (h0:Rd R a cap ts w0 l0) (hp:w0.heap.size<=b) (v0 v1 v2 v3:Value):Rd R a cap ts (set4 w1 b v0 v1 v2 v3) l:=(((h.setAbove h0 hp v0).setAbove h0 hp v1).setAbove h0 hp v2).setAbove h0 hp v3
abbrev zc6:Obj:=.cells #[.int .i64 0,.string ⟨#[]⟩,.bool false,.int .i64 0] 170 (0,0)
abbrev zbx (k:Int) (nm:ByteArray) (p:Bool) (n:Int):Obj:=.cells #[.int .i64 k,.string nm,.bool p,.int .i64 n] 170 (0,0)
theorem zuv (R cap:Nat) (a:OA) (ts l:List Tk) (w:World) (h:Rd R a cap ts w l) :
 Calls Tryz.prog 199 #[.pointer (some ⟨R,0,none⟩)] w (zd4 R a cap ts w (zbw l) zzi):=by
 have HR:Hid (Rd R a cap ts w l):=h;have hRw:=h.lt;clear h;go_enter Tryz.func199,Tryz.ntmps199;go_wp2_with fail;refine (zot R cap a ts l zcu _ (by decide) (HR.out.alloc _)).mono ?_;rintro e w1 ⟨rfl,RD,KK⟩;have HRw1:Hid (Rd R a cap ts w1 (zhw l)):=RD;have HKw1:Hid (Keeps R w w1):=((Keeps.refl R w).alloc _).trans KK;have hz1:=KK.size;simp at hz1;have HB1:Hid (w1.heap[w.heap.size]? = some zc6):=(KK.block w.heap.size (by simp) (by omega)).trans (heap_newP _ _);clear RD KK;go_wp2_with fail
 obtain ⟨w2,hw2⟩:∃ w2,w2=w1.alloc (zbx 0 ⟨#[]⟩ (skB l zcu) 0):=⟨_,rfl⟩
 have HRw2:Hid (Rd R a cap ts w2 (zhw l)):=by rw [hw2];exact HRw1.out.alloc _
 have HKw2:Hid (Keeps R w w2):=by rw [hw2];exact HKw1.out.alloc _
 have HBw2:Hid (w2.heap[w.heap.size]? = some zc6):=by rw [hw2];exact zab HB1.out
 have HCw2:Hid (w2.heap[w1.heap.size]? = some (zbx 0 ⟨#[]⟩ (skB l zcu) 0)):=by rw [hw2];exact heap_newP _ _
 have hz2:w2.heap.size=w1.heap.size+1:=by rw [hw2];simp
 rw [← hw2];clear hw2 HRw1 HKw1 HB1;refine (z7l R cap _ a ts (zhw l) zpy z6y zpz w2 hz2.symm HRw2.out (by decide) (by decide) (by decide)).mono ?_;rintro e w3 ⟨KK,hr3⟩;have hz3:=KK.size;have HKw3:Hid (Keeps R w w3):=HKw2.out.trans KK;have HBw3:Hid (w3.heap[w.heap.size]? = some zc6):=(KK.block w.heap.size (by omega) (by omega)).trans HBw2.out;have HCw3:Hid (w3.heap[w1.heap.size]? = some (zbx 0 ⟨#[]⟩ (skB l zcu) 0)):=(KK.block w1.heap.size (by omega) (by omega)).trans HCw2.out;clear KK HRw2 HKw2 HBw2 HCw2
 rcases hr3 with ⟨s1,s2,s3,rfl⟩ | ⟨s1,rfl,RD⟩ | ⟨s1,s2,rfl,RD⟩ | ⟨s1,s2,s3,rfl,RD⟩
 . exact ⟨rfl,HKw3.out,Or.inl ⟨by unfold zbw;rw [s1,s2,s3];rfl,rfl⟩⟩
 . have HRw3:Hid (Rd R a cap ts w3 (zhw l).tail):=RD
   clear RD;go_wp2_with fail;refine (zbv R cap a ts (zhw l).tail w3 HRw3.out).mono ?_;rintro e w4 ⟨KK,⟨hn,rfl⟩ | ⟨nm,l4,v,hn,rfl,⟨rfl,hnm⟩,RD⟩⟩
   . exact ⟨rfl,HKw3.out.trans KK,Or.inl ⟨by unfold zbw;rw [if_pos s1,hn],rfl⟩⟩
   have HP4:Hid (zbw l=if skB l4 tEq then (match pNum l4.tail with | none=>none | some (k,l2)=>if skB l2 zhj then some (⟨1,nm,skB l zcu,k⟩,l2.tail) else none) else none):=by show zbw l=_;unfold zbw;rw [if_pos s1,hn]<;>rfl
   clear hn;have HRw4:Hid (Rd R a cap ts w4 l4):=RD;have HKw4:Hid (Keeps R w w4):=HKw3.out.trans KK;have HBw4:Hid (w4.heap[w.heap.size]? = some zc6):=(KK.block w.heap.size (by omega) (by omega)).trans HBw3.out;have HCw4:Hid (w4.heap[w1.heap.size]? = some (zbx 0 ⟨#[]⟩ (skB l zcu) 0)):=(KK.block w1.heap.size (by omega) (by omega)).trans HCw3.out;have hzw4:=KK.size;clear RD KK HRw3 HKw3 HBw3 HCw3;have HRw5:Hid (Rd R a cap ts ((w4.setCell ⟨w1.heap.size,1,none⟩ (.string nm)).setCell ⟨w1.heap.size,0,none⟩ (.int .i64 1)) l4):=((HRw4.out).setAbove HR.out (by show _<=w1.heap.size;omega) _).setAbove HR.out (by show _<=w1.heap.size;omega) _;have HKw5:Hid (Keeps R w ((w4.setCell ⟨w1.heap.size,1,none⟩ (.string nm)).setCell ⟨w1.heap.size,0,none⟩ (.int .i64 1))):=((HKw4.out).set (by show _<=w1.heap.size;omega) _).set (by show _<=w1.heap.size;omega) _
   have HBw5:Hid (((w4.setCell ⟨w1.heap.size,1,none⟩ (.string nm)).setCell ⟨w1.heap.size,0,none⟩ (.int .i64 1)).heap[w.heap.size]? = some zc6):=(heap_set_ne (by show w.heap.size≠w1.heap.size;omega) _).trans ((heap_set_ne (by show w.heap.size≠w1.heap.size;omega) _).trans (HBw4.out));have HCw5:Hid (((w4.setCell ⟨w1.heap.size,1,none⟩ (.string nm)).setCell ⟨w1.heap.size,0,none⟩ (.int .i64 1)).heap[w1.heap.size]? = some (zbx 1 nm (skB l zcu) 0)):=heap_set (heap_set (HCw4.out) _) _
   have hzw5:((w4.setCell ⟨w1.heap.size,1,none⟩ (.string nm)).setCell ⟨w1.heap.size,0,none⟩ (.int .i64 1)).heap.size=w4.heap.size:=by simp only [vaq]
   obtain ⟨h0,h1,h2,h3,h4⟩:=zcj HCw4.out
   have hqw4:w1.heap.size<w4.heap.size:=by omega
   go_wp2_with fail;generalize (w4.setCell ⟨w1.heap.size,1,none⟩ (.string nm)).setCell ⟨w1.heap.size,0,none⟩ (.int .i64 1)=w5 at *;clear h0 h1 h2 h3 h4 HRw4 HKw4 HBw4 HCw4;refine (zfk R cap _ a ts l4 tEq w5 (by omega) HRw5.out (by decide)).mono ?_;rintro e w6 ⟨KK,⟨zs,rfl⟩ | ⟨zs,rfl,RD⟩⟩
   . exact ⟨rfl,HKw5.out.trans KK,Or.inl ⟨by rw [HP4.out,if_neg (by simp [zs])],rfl⟩⟩
   have HP6:Hid (zbw l=(match pNum l4.tail with | none=>none | some (k,l2)=>if skB l2 zhj then some (⟨1,nm,skB l zcu,k⟩,l2.tail) else none)):=by show zbw l=_;rw [HP4.out,if_pos zs]
   clear zs;have HRw6:Hid (Rd R a cap ts w6 l4.tail):=RD;have HKw6:Hid (Keeps R w w6):=HKw5.out.trans KK;have HBw6:Hid (w6.heap[w.heap.size]? = some zc6):=(KK.block w.heap.size (by omega) (by omega)).trans HBw5.out;have HCw6:Hid (w6.heap[w1.heap.size]? = some (zbx 1 nm (skB l zcu) 0)):=(KK.block w1.heap.size (by omega) (by omega)).trans HCw5.out;have hzw6:=KK.size;clear RD KK HRw5 HKw5 HBw5 HCw5;go_wp2_with fail;refine (zg9 R cap a ts l4.tail w6 HRw6.out).mono ?_;rintro e w7 ⟨KK,⟨hn,rfl⟩ | ⟨num,l7,v,hn,rfl,rfl,RD⟩⟩
   . exact ⟨rfl,HKw6.out.trans KK,Or.inl ⟨by rw [HP6.out,hn],rfl⟩⟩
   have HP7:Hid (zbw l=if skB l7 zhj then some (⟨1,nm,skB l zcu,num⟩,l7.tail) else none):=by show zbw l=_;rw [HP6.out,hn]
   clear hn;have HRw7:Hid (Rd R a cap ts w7 l7):=RD;have HKw7:Hid (Keeps R w w7):=HKw6.out.trans KK;have HBw7:Hid (w7.heap[w.heap.size]? = some zc6):=(KK.block w.heap.size (by omega) (by omega)).trans HBw6.out;have HCw7:Hid (w7.heap[w1.heap.size]? = some (zbx 1 nm (skB l zcu) 0)):=(KK.block w1.heap.size (by omega) (by omega)).trans HCw6.out;have hzw7:=KK.size;clear RD KK HRw6 HKw6 HBw6 HCw6;have HRw8:Hid (Rd R a cap ts (w7.setCell ⟨w1.heap.size,3,none⟩ (.int .i64 num)) l7):=(HRw7.out).setAbove HR.out (by show _<=w1.heap.size;omega) _;have HKw8:Hid (Keeps R w (w7.setCell ⟨w1.heap.size,3,none⟩ (.int .i64 num))):=(HKw7.out).set (by show _<=w1.heap.size;omega) _;have HBw8:Hid ((w7.setCell ⟨w1.heap.size,3,none⟩ (.int .i64 num)).heap[w.heap.size]? = some zc6):=(heap_set_ne (by show w.heap.size≠w1.heap.size;omega) _).trans (HBw7.out);have HCw8:Hid ((w7.setCell ⟨w1.heap.size,3,none⟩ (.int .i64 num)).heap[w1.heap.size]? = some (zbx 1 nm (skB l zcu) num)):=heap_set (HCw7.out) _
   have hzw8:(w7.setCell ⟨w1.heap.size,3,none⟩ (.int .i64 num)).heap.size=w7.heap.size:=by simp only [vaq]
   obtain ⟨h0,h1,h2,h3,h4⟩:=zcj HCw7.out
   have hqw7:w1.heap.size<w7.heap.size:=by omega
   go_wp2_with fail;generalize w7.setCell ⟨w1.heap.size,3,none⟩ (.int .i64 num)=w8 at *;clear h0 h1 h2 h3 h4 HRw7 HKw7 HBw7 HCw7;refine (zfk R cap _ a ts l7 zhj w8 (by omega) HRw8.out (by decide)).mono ?_;rintro e z1 ⟨ZK,⟨zs,rfl⟩ | ⟨zs,rfl,ZR⟩⟩
   . exact ⟨rfl,HKw8.out.trans ZK,Or.inl ⟨by rw [HP7.out,if_neg (by simp [zs])],rfl⟩⟩
   have zz:=ZK.size
   have HP:Hid (zbw l=some (⟨1,nm,skB l zcu,num⟩,l7.tail)):=by show zbw l=_;rw [HP7.out,if_pos zs]
   have ZB:Hid (z1.heap[w.heap.size]? = some zc6):=(ZK.block w.heap.size (by omega) (by omega)).trans HBw8.out;have ZC:Hid (z1.heap[w1.heap.size]? = some (zbx 1 nm (skB l zcu) num)):=(ZK.block w1.heap.size (by omega) (by omega)).trans HCw8.out;obtain ⟨h0,h1,h2,h3,h4⟩:=zcj ZB.out;obtain ⟨g0,g1,g2,g3,g4⟩:=zcj ZC.out
   have HF:Hid (zd4 R a cap ts w (zbw l) zzi (.returned (.agg #[.int .i64 1,.string nm,.bool (skB l zcu),.int .i64 num])) (set4 z1 w.heap.size (.int .i64 1) (.string nm) (.bool (skB l zcu)) (.int .i64 num))):=
    ⟨(HKw8.out.trans ZK).set4 (vaa _) _ _ _ _,Or.inr ⟨⟨1,nm,skB l zcu,num⟩,l7.tail,_,HP.out,rfl,⟨rfl,hnm⟩,ZR.set4 HR.out (vaa _) _ _ _ _⟩⟩
   clear ZK ZR zs;go_wp2_with fail;refine bodyPost_ret (v:=.agg #[.int .i64 1,.string nm,.bool (skB l zcu),.int .i64 num]) (by simp [results,Tryz.results199,go_sem,h0,h1,h2,h3]) rfl HF.out
 . have HRw3:Hid (Rd R a cap ts w3 (zhw l).tail):=RD
   clear RD;go_wp2_with fail;refine (zbv R cap a ts (zhw l).tail w3 HRw3.out).mono ?_;rintro e w4 ⟨KK,⟨hn,rfl⟩ | ⟨nm,l4,v,hn,rfl,⟨rfl,hnm⟩,RD⟩⟩
   . exact ⟨rfl,HKw3.out.trans KK,Or.inl ⟨by unfold zbw;rw [if_neg (by simp [s1]),if_pos s2,hn],rfl⟩⟩
   have HP4:Hid (zbw l=if skB l4 zhj then some (⟨2,nm,skB l zcu,0⟩,l4.tail) else none):=by show zbw l=_;unfold zbw;rw [if_neg (by simp [s1]),if_pos s2,hn]<;>rfl
   clear hn;have HRw4:Hid (Rd R a cap ts w4 l4):=RD;have HKw4:Hid (Keeps R w w4):=HKw3.out.trans KK;have HBw4:Hid (w4.heap[w.heap.size]? = some zc6):=(KK.block w.heap.size (by omega) (by omega)).trans HBw3.out;have HCw4:Hid (w4.heap[w1.heap.size]? = some (zbx 0 ⟨#[]⟩ (skB l zcu) 0)):=(KK.block w1.heap.size (by omega) (by omega)).trans HCw3.out;have hzw4:=KK.size;clear RD KK HRw3 HKw3 HBw3 HCw3;have HRw5:Hid (Rd R a cap ts ((w4.setCell ⟨w1.heap.size,1,none⟩ (.string nm)).setCell ⟨w1.heap.size,0,none⟩ (.int .i64 2)) l4):=((HRw4.out).setAbove HR.out (by show _<=w1.heap.size;omega) _).setAbove HR.out (by show _<=w1.heap.size;omega) _;have HKw5:Hid (Keeps R w ((w4.setCell ⟨w1.heap.size,1,none⟩ (.string nm)).setCell ⟨w1.heap.size,0,none⟩ (.int .i64 2))):=((HKw4.out).set (by show _<=w1.heap.size;omega) _).set (by show _<=w1.heap.size;omega) _
   have HBw5:Hid (((w4.setCell ⟨w1.heap.size,1,none⟩ (.string nm)).setCell ⟨w1.heap.size,0,none⟩ (.int .i64 2)).heap[w.heap.size]? = some zc6):=(heap_set_ne (by show w.heap.size≠w1.heap.size;omega) _).trans ((heap_set_ne (by show w.heap.size≠w1.heap.size;omega) _).trans (HBw4.out));have HCw5:Hid (((w4.setCell ⟨w1.heap.size,1,none⟩ (.string nm)).setCell ⟨w1.heap.size,0,none⟩ (.int .i64 2)).heap[w1.heap.size]? = some (zbx 2 nm (skB l zcu) 0)):=heap_set (heap_set (HCw4.out) _) _
   have hzw5:((w4.setCell ⟨w1.heap.size,1,none⟩ (.string nm)).setCell ⟨w1.heap.size,0,none⟩ (.int .i64 2)).heap.size=w4.heap.size:=by simp only [vaq]
   obtain ⟨h0,h1,h2,h3,h4⟩:=zcj HCw4.out
   have hqw4:w1.heap.size<w4.heap.size:=by omega
   go_wp2_with fail;generalize (w4.setCell ⟨w1.heap.size,1,none⟩ (.string nm)).setCell ⟨w1.heap.size,0,none⟩ (.int .i64 2)=w5 at *;clear h0 h1 h2 h3 h4 HRw4 HKw4 HBw4 HCw4;refine (zfk R cap _ a ts l4 zhj w5 (by omega) HRw5.out (by decide)).mono ?_;rintro e z1 ⟨ZK,⟨zs,rfl⟩ | ⟨zs,rfl,ZR⟩⟩
   . exact ⟨rfl,HKw5.out.trans ZK,Or.inl ⟨by rw [HP4.out,if_neg (by simp [zs])],rfl⟩⟩
   have zz:=ZK.size
   have HP:Hid (zbw l=some (⟨2,nm,skB l zcu,0⟩,l4.tail)):=by show zbw l=_;rw [HP4.out,if_pos zs]
   have ZB:Hid (z1.heap[w.heap.size]? = some zc6):=(ZK.block w.heap.size (by omega) (by omega)).trans HBw5.out;have ZC:Hid (z1.heap[w1.heap.size]? = some (zbx 2 nm (skB l zcu) 0)):=(ZK.block w1.heap.size (by omega) (by omega)).trans HCw5.out;obtain ⟨h0,h1,h2,h3,h4⟩:=zcj ZB.out;obtain ⟨g0,g1,g2,g3,g4⟩:=zcj ZC.out
   have HF:Hid (zd4 R a cap ts w (zbw l) zzi (.returned (.agg #[.int .i64 2,.string nm,.bool (skB l zcu),.int .i64 0])) (set4 z1 w.heap.size (.int .i64 2) (.string nm) (.bool (skB l zcu)) (.int .i64 0))):=
    ⟨(HKw5.out.trans ZK).set4 (vaa _) _ _ _ _,Or.inr ⟨⟨2,nm,skB l zcu,0⟩,l4.tail,_,HP.out,rfl,⟨rfl,hnm⟩,ZR.set4 HR.out (vaa _) _ _ _ _⟩⟩
   clear ZK ZR zs;go_wp2_with fail;refine bodyPost_ret (v:=.agg #[.int .i64 2,.string nm,.bool (skB l zcu),.int .i64 0]) (by simp [results,Tryz.results199,go_sem,h0,h1,h2,h3]) rfl HF.out
 . have HRw3:Hid (Rd R a cap ts w3 (zhw l).tail):=RD
   clear RD;go_wp2_with fail;refine (zbv R cap a ts (zhw l).tail w3 HRw3.out).mono ?_;rintro e w4 ⟨KK,⟨hn,rfl⟩ | ⟨nm,l4,v,hn,rfl,⟨rfl,hnm⟩,RD⟩⟩
   . exact ⟨rfl,HKw3.out.trans KK,Or.inl ⟨by unfold zbw;rw [if_neg (by simp [s1]),if_neg (by simp [s2]),if_pos s3,hn],rfl⟩⟩
   have HP4:Hid (zbw l=if skB l4 tLs then (match pNum l4.tail with | none=>none | some (k,l2)=>if skB l2 tRs then (if skB l2.tail zhj then some (⟨3,nm,skB l zcu,k⟩,l2.tail.tail) else none) else none) else none):=by show zbw l=_;unfold zbw;rw [if_neg (by simp [s1]),if_neg (by simp [s2]),if_pos s3,hn]<;>rfl
   clear hn;have HRw4:Hid (Rd R a cap ts w4 l4):=RD;have HKw4:Hid (Keeps R w w4):=HKw3.out.trans KK;have HBw4:Hid (w4.heap[w.heap.size]? = some zc6):=(KK.block w.heap.size (by omega) (by omega)).trans HBw3.out;have HCw4:Hid (w4.heap[w1.heap.size]? = some (zbx 0 ⟨#[]⟩ (skB l zcu) 0)):=(KK.block w1.heap.size (by omega) (by omega)).trans HCw3.out;have hzw4:=KK.size;clear RD KK HRw3 HKw3 HBw3 HCw3;have HRw5:Hid (Rd R a cap ts ((w4.setCell ⟨w1.heap.size,1,none⟩ (.string nm)).setCell ⟨w1.heap.size,0,none⟩ (.int .i64 3)) l4):=((HRw4.out).setAbove HR.out (by show _<=w1.heap.size;omega) _).setAbove HR.out (by show _<=w1.heap.size;omega) _;have HKw5:Hid (Keeps R w ((w4.setCell ⟨w1.heap.size,1,none⟩ (.string nm)).setCell ⟨w1.heap.size,0,none⟩ (.int .i64 3))):=((HKw4.out).set (by show _<=w1.heap.size;omega) _).set (by show _<=w1.heap.size;omega) _
   have HBw5:Hid (((w4.setCell ⟨w1.heap.size,1,none⟩ (.string nm)).setCell ⟨w1.heap.size,0,none⟩ (.int .i64 3)).heap[w.heap.size]? = some zc6):=(heap_set_ne (by show w.heap.size≠w1.heap.size;omega) _).trans ((heap_set_ne (by show w.heap.size≠w1.heap.size;omega) _).trans (HBw4.out));have HCw5:Hid (((w4.setCell ⟨w1.heap.size,1,none⟩ (.string nm)).setCell ⟨w1.heap.size,0,none⟩ (.int .i64 3)).heap[w1.heap.size]? = some (zbx 3 nm (skB l zcu) 0)):=heap_set (heap_set (HCw4.out) _) _
   have hzw5:((w4.setCell ⟨w1.heap.size,1,none⟩ (.string nm)).setCell ⟨w1.heap.size,0,none⟩ (.int .i64 3)).heap.size=w4.heap.size:=by simp only [vaq]
   obtain ⟨h0,h1,h2,h3,h4⟩:=zcj HCw4.out
   have hqw4:w1.heap.size<w4.heap.size:=by omega
   go_wp2_with fail;generalize (w4.setCell ⟨w1.heap.size,1,none⟩ (.string nm)).setCell ⟨w1.heap.size,0,none⟩ (.int .i64 3)=w5 at *;clear h0 h1 h2 h3 h4 HRw4 HKw4 HBw4 HCw4;refine (zfk R cap _ a ts l4 tLs w5 (by omega) HRw5.out (by decide)).mono ?_;rintro e w6 ⟨KK,⟨zs,rfl⟩ | ⟨zs,rfl,RD⟩⟩
   . exact ⟨rfl,HKw5.out.trans KK,Or.inl ⟨by rw [HP4.out,if_neg (by simp [zs])],rfl⟩⟩
   have HP6:Hid (zbw l=(match pNum l4.tail with | none=>none | some (k,l2)=>if skB l2 tRs then (if skB l2.tail zhj then some (⟨3,nm,skB l zcu,k⟩,l2.tail.tail) else none) else none)):=by show zbw l=_;rw [HP4.out,if_pos zs]
   clear zs;have HRw6:Hid (Rd R a cap ts w6 l4.tail):=RD;have HKw6:Hid (Keeps R w w6):=HKw5.out.trans KK;have HBw6:Hid (w6.heap[w.heap.size]? = some zc6):=(KK.block w.heap.size (by omega) (by omega)).trans HBw5.out;have HCw6:Hid (w6.heap[w1.heap.size]? = some (zbx 3 nm (skB l zcu) 0)):=(KK.block w1.heap.size (by omega) (by omega)).trans HCw5.out;have hzw6:=KK.size;clear RD KK HRw5 HKw5 HBw5 HCw5;go_wp2_with fail;refine (zg9 R cap a ts l4.tail w6 HRw6.out).mono ?_;rintro e w7 ⟨KK,⟨hn,rfl⟩ | ⟨num,l7,v,hn,rfl,rfl,RD⟩⟩
   . exact ⟨rfl,HKw6.out.trans KK,Or.inl ⟨by rw [HP6.out,hn],rfl⟩⟩
   have HP7:Hid (zbw l=if skB l7 tRs then (if skB l7.tail zhj then some (⟨3,nm,skB l zcu,num⟩,l7.tail.tail) else none) else none):=by show zbw l=_;rw [HP6.out,hn]
   clear hn;have HRw7:Hid (Rd R a cap ts w7 l7):=RD;have HKw7:Hid (Keeps R w w7):=HKw6.out.trans KK;have HBw7:Hid (w7.heap[w.heap.size]? = some zc6):=(KK.block w.heap.size (by omega) (by omega)).trans HBw6.out;have HCw7:Hid (w7.heap[w1.heap.size]? = some (zbx 3 nm (skB l zcu) 0)):=(KK.block w1.heap.size (by omega) (by omega)).trans HCw6.out;have hzw7:=KK.size;clear RD KK HRw6 HKw6 HBw6 HCw6;have HRw8:Hid (Rd R a cap ts (w7.setCell ⟨w1.heap.size,3,none⟩ (.int .i64 num)) l7):=(HRw7.out).setAbove HR.out (by show _<=w1.heap.size;omega) _;have HKw8:Hid (Keeps R w (w7.setCell ⟨w1.heap.size,3,none⟩ (.int .i64 num))):=(HKw7.out).set (by show _<=w1.heap.size;omega) _;have HBw8:Hid ((w7.setCell ⟨w1.heap.size,3,none⟩ (.int .i64 num)).heap[w.heap.size]? = some zc6):=(heap_set_ne (by show w.heap.size≠w1.heap.size;omega) _).trans (HBw7.out);have HCw8:Hid ((w7.setCell ⟨w1.heap.size,3,none⟩ (.int .i64 num)).heap[w1.heap.size]? = some (zbx 3 nm (skB l zcu) num)):=heap_set (HCw7.out) _
   have hzw8:(w7.setCell ⟨w1.heap.size,3,none⟩ (.int .i64 num)).heap.size=w7.heap.size:=by simp only [vaq]
   obtain ⟨h0,h1,h2,h3,h4⟩:=zcj HCw7.out
   have hqw7:w1.heap.size<w7.heap.size:=by omega
   go_wp2_with fail;generalize w7.setCell ⟨w1.heap.size,3,none⟩ (.int .i64 num)=w8 at *;clear h0 h1 h2 h3 h4 HRw7 HKw7 HBw7 HCw7;refine (zfk R cap _ a ts l7 tRs w8 (by omega) HRw8.out (by decide)).mono ?_;rintro e w9 ⟨KK,⟨zs,rfl⟩ | ⟨zs,rfl,RD⟩⟩
   . exact ⟨rfl,HKw8.out.trans KK,Or.inl ⟨by rw [HP7.out,if_neg (by simp [zs])],rfl⟩⟩
   have HP9:Hid (zbw l=if skB l7.tail zhj then some (⟨3,nm,skB l zcu,num⟩,l7.tail.tail) else none):=by show zbw l=_;rw [HP7.out,if_pos zs]
   clear zs;have HRw9:Hid (Rd R a cap ts w9 l7.tail):=RD;have HKw9:Hid (Keeps R w w9):=HKw8.out.trans KK;have HBw9:Hid (w9.heap[w.heap.size]? = some zc6):=(KK.block w.heap.size (by omega) (by omega)).trans HBw8.out;have HCw9:Hid (w9.heap[w1.heap.size]? = some (zbx 3 nm (skB l zcu) num)):=(KK.block w1.heap.size (by omega) (by omega)).trans HCw8.out;have hzw9:=KK.size;clear RD KK HRw8 HKw8 HBw8 HCw8;go_wp2_with fail;refine (zfk R cap _ a ts l7.tail zhj w9 (by omega) HRw9.out (by decide)).mono ?_;rintro e z1 ⟨ZK,⟨zs,rfl⟩ | ⟨zs,rfl,ZR⟩⟩
   . exact ⟨rfl,HKw9.out.trans ZK,Or.inl ⟨by rw [HP9.out,if_neg (by simp [zs])],rfl⟩⟩
   have zz:=ZK.size
   have HP:Hid (zbw l=some (⟨3,nm,skB l zcu,num⟩,l7.tail.tail)):=by show zbw l=_;rw [HP9.out,if_pos zs]
   have ZB:Hid (z1.heap[w.heap.size]? = some zc6):=(ZK.block w.heap.size (by omega) (by omega)).trans HBw9.out;have ZC:Hid (z1.heap[w1.heap.size]? = some (zbx 3 nm (skB l zcu) num)):=(ZK.block w1.heap.size (by omega) (by omega)).trans HCw9.out;obtain ⟨h0,h1,h2,h3,h4⟩:=zcj ZB.out;obtain ⟨g0,g1,g2,g3,g4⟩:=zcj ZC.out
   have HF:Hid (zd4 R a cap ts w (zbw l) zzi (.returned (.agg #[.int .i64 3,.string nm,.bool (skB l zcu),.int .i64 num])) (set4 z1 w.heap.size (.int .i64 3) (.string nm) (.bool (skB l zcu)) (.int .i64 num))):=
    ⟨(HKw9.out.trans ZK).set4 (vaa _) _ _ _ _,Or.inr ⟨⟨3,nm,skB l zcu,num⟩,l7.tail.tail,_,HP.out,rfl,⟨rfl,hnm⟩,ZR.set4 HR.out (vaa _) _ _ _ _⟩⟩
   clear ZK ZR zs;go_wp2_with fail;refine bodyPost_ret (v:=.agg #[.int .i64 3,.string nm,.bool (skB l zcu),.int .i64 num]) (by simp [results,Tryz.results199,go_sem,h0,h1,h2,h3]) rfl HF.out
end Go.Proofs.YtndkhgakfodldaaGreatDoor
