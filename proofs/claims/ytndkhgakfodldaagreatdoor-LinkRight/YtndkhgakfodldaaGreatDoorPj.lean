import Derived.Test.YtndkhgakfodldaaGreatDoorPa
namespace Go.Proofs.YtndkhgakfodldaaGreatDoor
set_option maxRecDepth 100000
set_option maxHeartbeats 3200000
open Go.RowKit Go.Shelf
theorem zsu (R cap:Nat) (a:OA) (ts:List Tk) (f:Nat) (IH:StC R cap a ts f) (l:List Tk) (w:World) (h:Rd R a cap ts w l) (hf:3*l.length<=f) :
 qc 282 #[pq R 0] w (zd4 R a cap ts w (zco f l) (zf7 (w.heap.size<=·))):=by
 have HI:Hid (StC R cap a ts f):=IH;have HR:Hid (Rd R a cap ts w l):=h;have Cz:=h.lt;clear IH h;go_enter Tryz.func282,Tryz.ntmps282;go_wp2_with fail;refine (zet R cap a ts l _ (HR.out.alloc _)).mono ?_;rintro e w1 ⟨AF,⟨hn,rfl⟩ | ⟨x,l1,v,hn,rfl,⟨a1,c1,rfl,AR,AM,hx3⟩,AZ⟩⟩
 . exact ⟨rfl,((Keeps.refl R w).alloc _).trans AF,Or.inl ⟨by unfold zco;rw [hn],rfl⟩⟩
 have An:=AF.size;simp at An;have CF:=zn4 hn;have Eu:Hid (pX l=some (x,l1)):=hn
 have AG:Hid (EAt ((w1.alloc (kzE x.op x.n x.mod x.name a1 x.args.length c1))) (w.heap.size+1<=·) (some (qa w1.heap.size 0)) 1 (zbo [x])):=
  zkx (t:=174) (cap:=c1) AR AM hx3 (((zad.refl w1 _).alloc _).to (by simp)) (heap_newP _ _) An
 have AX:Hid (Keeps R w w1):=((Keeps.refl R w).alloc _).trans AF;have BC:Hid (Rd R a cap ts w1 l1):=AZ;have A7:Hid (w1.heap[w.heap.size]? = some za1):=(AF.block w.heap.size (by simp) (by omega)).trans (heap_newP _ _);clear hn AR AM hx3 AF AZ;go_wp2_with fail;refine (HI.out.block l1 _ ((BC.out.alloc _).alloc _) (by omega)).mono ?_;rintro e w2 ⟨AL,⟨hn,rfl⟩ | ⟨b,l2,v,hn,rfl,⟨a2,c2,rfl,AM⟩,Ao⟩⟩
 . exact ⟨rfl,((AX.out.alloc _).alloc _).trans AL,Or.inl ⟨by unfold zco;rw [Eu.out];simp only [];rw [hn],rfl⟩⟩
 have AA:=AL.size;simp at AA;have Cb:=zf9 _ _ _ _ hn
 have BE:Hid (zco f l=if skB l2 zrt then (match zbt f l2.tail with | none=>none | some (o,l3)=>if o.length=0 then none else some (.mk 4 ⟨#[]⟩ ⟨#[]⟩ [x] b o,l3))
  else some (.mk 4 ⟨#[]⟩ ⟨#[]⟩ [x] b [],l2)):=by show zco f l=_;unfold zco;rw [Eu.out];simp only [];rw [hn];rfl
 have BK:Hid (Keeps R w w2):=((AX.out.alloc _).alloc _).trans AL;have Af:Hid (w2.heap[w.heap.size]? = some za1):=(AL.block w.heap.size (by simp;omega) (by omega)).trans (zab (zab A7.out))
 have Bn:Hid (w2.heap[w1.heap.size+1]? = some (.cells #[qi 4,.string ⟨#[]⟩,.string ⟨#[]⟩,.slice (some (qa w1.heap.size 0)) 1 1,qs,qs] 176 (0,0))):=(AL.block (w1.heap.size+1) (by simp) (by omega)).trans (by
  have e:=heap_newP (w1.alloc (kzE x.op x.n x.mod x.name a1 x.args.length c1)) (kzB 4 ⟨#[]⟩ ⟨#[]⟩ (some (qa w1.heap.size 0)) 1 1 none 0 0 none 0 0)
  simpa using e)
 obtain ⟨h0,h1,h2,h3,h4,h5,h6⟩:=zam Bn.out
 have IV:EAt w2 (w1.heap.size+2<=·) a2 b.length (zbp b):=by simpa using AM
 -- the arguments lie below that block, the body above it
 have PF:Hid (EAt (w2.setCell ⟨w1.heap.size+1,4,none⟩ (.slice a2 b.length c2)) (fun k=>w.heap.size+1<=k/\k≠w1.heap.size+1) (some (qa w1.heap.size 0)) 1 (zbo [x])):=by
  refine AG.out.moves ⟨by simp;omega,fun k Cs DP=>?_⟩
  have M0:k<w1.heap.size+1:=by simpa using Cs
  exact ⟨⟨DP,by omega⟩,(heap_set_ne (by show k≠w1.heap.size+1;omega) _).trans ((AL.block k (by simp;omega) (by omega)).trans ((Below.refl _ _).alloc (vaa _) _ |>.block k (by simp;omega)))⟩
 have Lb:Hid (EAt (w2.setCell ⟨w1.heap.size+1,4,none⟩ (.slice a2 b.length c2)) (fun k=>w.heap.size+1<=k/\k≠w1.heap.size+1) a2 b.length (zbp b)):=
  IV.moves ⟨by simp,fun k Cs DP=>⟨⟨by omega,by omega⟩,heap_set_ne (by show k≠w1.heap.size+1;omega) _⟩⟩
 have Aq:Hid (Rd R a cap ts (w2.setCell ⟨w1.heap.size+1,4,none⟩ (.slice a2 b.length c2)) l2):=Ao.setAbove HR.out (by show _<=w1.heap.size+1;omega) _;have Am:Hid (Keeps R w (w2.setCell ⟨w1.heap.size+1,4,none⟩ (.slice a2 b.length c2))):=BK.out.set (by show _<=w1.heap.size+1;omega) _;have Ae:Hid ((w2.setCell ⟨w1.heap.size+1,4,none⟩ (.slice a2 b.length c2)).heap[w.heap.size]? = some za1):=(heap_set_ne (by show w.heap.size≠w1.heap.size+1;omega) _).trans Af.out;have BI:Hid ((w2.setCell ⟨w1.heap.size+1,4,none⟩ (.slice a2 b.length c2)).heap[w1.heap.size+1]? = some (.cells #[qi 4,.string ⟨#[]⟩,.string ⟨#[]⟩,.slice (some (qa w1.heap.size 0)) 1 1,.slice a2 b.length c2,qs] 176 (0,0))):=heap_set Bn.out _
 have Bw:(w2.setCell ⟨w1.heap.size+1,4,none⟩ (.slice a2 b.length c2)).heap.size=w2.heap.size:=by simp only [vaq]
 clear hn AL Ao AM IV AG A7 Af AX BK BC Eu;go_wp2_with fail;generalize w2.setCell ⟨w1.heap.size+1,4,none⟩ (.slice a2 b.length c2)=w3 at *;clear h0 h1 h2 h3 h4 h5 h6 Bn
 by_cases hs:skB l2 zrt=true
 . have Ci:=zah (by decide) hs
   refine (zbl R cap a ts l2 zrt w3 (by decide) Aq.out hs).mono ?_;rintro e w4 ⟨rfl,AW,Ax⟩;have CX:=Ax.size;go_wp2_with fail;refine (HI.out.block l2.tail w4 AW (by omega)).mono ?_;rintro e w5 ⟨Aw,⟨hn,rfl⟩ | ⟨o,l5,v,hn,rfl,⟨a5,c5,rfl,hx5⟩,Bs⟩⟩
   . exact ⟨rfl,(Am.out.trans Ax).trans Aw,Or.inl ⟨by rw [BE.out,if_pos hs,hn],rfl⟩⟩
   have C2:=Aw.size;have Co:Hid (Keeps R w w5):=(Am.out.trans Ax).trans Aw;have Av:Hid (w5.heap[w.heap.size]? = some za1):=(Aw.block w.heap.size (by omega) (by omega)).trans ((Ax.block w.heap.size (by omega) (by omega)).trans Ae.out);have BR:Hid (w5.heap[w1.heap.size+1]? = some (.cells #[qi 4,.string ⟨#[]⟩,.string ⟨#[]⟩,.slice (some (qa w1.heap.size 0)) 1 1,.slice a2 b.length c2,qs] 176 (0,0))):=(Aw.block (w1.heap.size+1) (by omega) (by omega)).trans ((Ax.block (w1.heap.size+1) (by omega) (by omega)).trans BI.out);have Iq:zad w3 (fun k=>w.heap.size+1<=k/\k≠w1.heap.size+1) w5 (fun k=>w.heap.size+1<=k/\k≠w1.heap.size+1):=((zad.refl w3 _).keeps Ax (by intro k _ hk;omega)).keeps Aw (by intro k _ hk;omega);obtain ⟨h0,h1,h2,h3,h4,h5,h6⟩:=zam Av.out;obtain ⟨g0,g1,g2,g3,g4,g5,g6⟩:=zam BR.out
   by_cases ho:o.length=0
   . have HP:Hid (zco f l=none):=by show zco f l=_;rw [BE.out,if_pos hs,hn];simp only [];rw [if_pos ho]
     clear hn AW Ax Bs Aw Iq hx5;go_wp2_with fail;exact ⟨rfl,Co.out.set (by show _<=w1.heap.size+1;omega) _,Or.inl ⟨HP.out,rfl⟩⟩
   . have HP:Hid (zco f l=some (.mk 4 ⟨#[]⟩ ⟨#[]⟩ [x] b o,l5)):=by show zco f l=_;rw [BE.out,if_pos hs,hn];simp only [];rw [if_neg ho]
     have HF:Hid (zd4 R a cap ts w (zco f l) (zf7 (w.heap.size<=·)) (.returned (.agg #[qi 4,.string ⟨#[]⟩,.string ⟨#[]⟩,.slice (some (qa w1.heap.size 0)) 1 1,.slice a2 b.length c2,.slice a5 o.length c5])) (set6 (w5.setCell ⟨w1.heap.size+1,5,none⟩ (.slice a5 o.length c5)) w.heap.size (qi 4) (.string ⟨#[]⟩) (.string ⟨#[]⟩) (.slice (some (qa w1.heap.size 0)) 1 1) (.slice a2 b.length c2) (.slice a5 o.length c5))):=by
      have CN:zad w5 (fun k=>w.heap.size+1<=k/\k≠w1.heap.size+1) (set6 (w5.setCell ⟨w1.heap.size+1,5,none⟩ (.slice a5 o.length c5)) w.heap.size (qi 4) (.string ⟨#[]⟩) (.string ⟨#[]⟩) (.slice (some (qa w1.heap.size 0)) 1 1) (.slice a2 b.length c2) (.slice a5 o.length c5)) (w.heap.size<=·):=
       (((zad.refl w5 (fun k=>w.heap.size+1<=k/\k≠w1.heap.size+1)).set (p:=⟨w1.heap.size+1,5,none⟩) (by intro k _ hk;exact hk.2) (.slice a5 o.length c5)).set6 (b:=w.heap.size) (by intro k _ hk;omega) (qi 4) (.string ⟨#[]⟩) (.string ⟨#[]⟩) (.slice (some (qa w1.heap.size 0)) 1 1) (.slice a2 b.length c2) (.slice a5 o.length c5)).trans ⟨vaa _,fun k _ hk=>⟨by omega,rfl⟩⟩
      have LJ:zad w5 (w4.heap.size<=·) w5 (fun k=>w.heap.size+1<=k/\k≠w1.heap.size+1):=⟨vaa _,fun k _ hk=>⟨⟨by omega,by omega⟩,rfl⟩⟩
      exact znc (s:=.mk 4 ⟨#[]⟩ ⟨#[]⟩ [x] b o) HP.out ((Co.out.set (p:=⟨w1.heap.size+1,5,none⟩) (by show w.heap.size<=w1.heap.size+1;omega) (.slice a5 o.length c5)).set6 (b:=w.heap.size) (vaa _) _ _ _ _ _ _) ((Bs.setAbove HR.out (p:=⟨w1.heap.size+1,5,none⟩) (by show w.heap.size<=w1.heap.size+1;omega) (.slice a5 o.length c5)).set6 HR.out (b:=w.heap.size) (vaa _) _ _ _ _ _ _) (vag _) (vag _) (PF.out.moves (Iq.trans CN)) (Lb.out.moves (Iq.trans CN)) ((hx5.moves LJ).moves CN)
     clear hn AW Ax Bs Aw Iq hx5;go_wp2_with fail;refine bodyPost_ret (v:=.agg #[qi 4,.string ⟨#[]⟩,.string ⟨#[]⟩,.slice (some (qa w1.heap.size 0)) 1 1,.slice a2 b.length c2,.slice a5 o.length c5]) (by simp [results,Tryz.results282,go_sem,h0,h1,h2,h3,h4,h5]) rfl HF.out
 . refine (zb2 R cap a ts l2 zrt w3 Aq.out (by simpa using hs)).mono ?_
   rintro e w4 ⟨rfl,AW,Ax⟩;have CX:=Ax.size
   have HP:Hid (zco f l=some (.mk 4 ⟨#[]⟩ ⟨#[]⟩ [x] b [],l2)):=by show zco f l=_;rw [BE.out,if_neg hs]
   have Ar:Hid (w4.heap[w.heap.size]? = some za1):=(Ax.block w.heap.size (by omega) (by omega)).trans Ae.out;have D1:Hid (w4.heap[w1.heap.size+1]? = some (.cells #[qi 4,.string ⟨#[]⟩,.string ⟨#[]⟩,.slice (some (qa w1.heap.size 0)) 1 1,.slice a2 b.length c2,qs] 176 (0,0))):=(Ax.block (w1.heap.size+1) (by omega) (by omega)).trans BI.out
   have HF:Hid (zd4 R a cap ts w (zco f l) (zf7 (w.heap.size<=·)) (.returned (.agg #[qi 4,.string ⟨#[]⟩,.string ⟨#[]⟩,.slice (some (qa w1.heap.size 0)) 1 1,.slice a2 b.length c2,qs])) (set6 w4 w.heap.size (qi 4) (.string ⟨#[]⟩) (.string ⟨#[]⟩) (.slice (some (qa w1.heap.size 0)) 1 1) (.slice a2 b.length c2) (qs))):=by
    have CN:zad w3 (fun k=>w.heap.size+1<=k/\k≠w1.heap.size+1) (set6 w4 w.heap.size (qi 4) (.string ⟨#[]⟩) (.string ⟨#[]⟩) (.slice (some (qa w1.heap.size 0)) 1 1) (.slice a2 b.length c2) (qs)) (w.heap.size<=·):=
     (((zad.refl w3 (fun k=>w.heap.size+1<=k/\k≠w1.heap.size+1)).keeps Ax (by intro k _ hk;omega)).set6 (b:=w.heap.size) (by intro k _ hk;omega) (qi 4) (.string ⟨#[]⟩) (.string ⟨#[]⟩) (.slice (some (qa w1.heap.size 0)) 1 1) (.slice a2 b.length c2) (qs)).trans ⟨vaa _,fun k _ hk=>⟨by omega,rfl⟩⟩
    exact znc (s:=.mk 4 ⟨#[]⟩ ⟨#[]⟩ [x] b []) HP.out ((Am.out.trans Ax).set6 (b:=w.heap.size) (vaa _) _ _ _ _ _ _) (AW.set6 HR.out (b:=w.heap.size) (vaa _) _ _ _ _ _ _) (vag _) (vag _) (PF.out.moves CN) (Lb.out.moves CN) (Or.inl rfl)
   obtain ⟨h0,h1,h2,h3,h4,h5,h6⟩:=zam Ar.out;obtain ⟨g0,g1,g2,g3,g4,g5,g6⟩:=zam D1.out;clear AW Ax;go_wp2_with fail;refine bodyPost_ret (v:=.agg #[qi 4,.string ⟨#[]⟩,.string ⟨#[]⟩,.slice (some (qa w1.heap.size 0)) 1 1,.slice a2 b.length c2,qs]) (by simp [results,Tryz.results282,go_sem,h0,h1,h2,h3,h4,h5]) rfl HF.out
theorem zzg (R cap:Nat) (a:OA) (ts:List Tk) (f:Nat) (IH:StC R cap a ts f) (l:List Tk) (w:World) (h:Rd R a cap ts w l) (hf:3*l.length+1<=f+1) :
 qc 254 #[pq R 0] w (zd4 R a cap ts w (zce (f+1) l) (zf7 (w.heap.size<=·))):=by
 have HI:Hid (StC R cap a ts f):=IH;have HR:Hid (Rd R a cap ts w l):=h;have Cz:=h.lt;clear IH h;go_enter Tryz.func254,Tryz.ntmps254;go_wp2_with fail
 obtain ⟨w0,Eo⟩:∃ w0,w0=w.alloc za1:=⟨_,rfl⟩
 have Hx:Hid (Rd R a cap ts w0 l):=by rw [Eo];exact HR.out.alloc _
 have G4:Hid (Keeps R w w0):=by rw [Eo];exact (Keeps.refl R w).alloc _
 have Ay:Hid (w0.heap[w.heap.size]? = some za1):=by rw [Eo];exact heap_newP _ _
 have Bq:w.heap.size+1<=w0.heap.size:=by rw [Eo];simp
 rw [← Eo];clear Eo
 by_cases EE:skB l tIf=true
 . have CF:=zah (by decide) EE
   refine (zbl R cap a ts l tIf w0 (by decide) Hx.out EE).mono ?_;rintro e u1 ⟨rfl,KR1,KK1⟩;have Lh:=KK1.size;have KB1:Hid (u1.heap[w.heap.size]? = some za1):=(KK1.block w.heap.size (by omega) (by omega)).trans Ay.out;go_wp2_with fail;refine (zsu R cap a ts f HI.out l.tail u1 KR1 (by omega)).mono ?_;rintro e u2 ⟨KK2,⟨hn,rfl⟩ | ⟨s,l2,v,hn,rfl,⟨a1,c1,a2,c2,a3,c3,rfl,AR,AM,hx3,hx4,hx5⟩,KR2⟩⟩
   . exact ⟨rfl,(G4.out.trans KK1).trans KK2,Or.inl ⟨by rw [zuq EE,hn],rfl⟩⟩
   have KB2:Hid (u2.heap[w.heap.size]? = some za1):=(KK2.block w.heap.size (by omega) (by omega)).trans KB1.out;obtain ⟨h0,h1,h2,h3,h4,h5,h6⟩:=zam KB2.out
   have HF:Hid (zd4 R a cap ts w (zce (f+1) l) (zf7 (w.heap.size<=·)) (.returned (.agg #[qi s.op,.string s.mod,.string s.name,.slice a1 s.args.length c1,.slice a2 s.body.length c2,.slice a3 s.other.length c3])) (set6 u2 w.heap.size (qi s.op) (.string s.mod) (.string s.name) (.slice a1 s.args.length c1) (.slice a2 s.body.length c2) (.slice a3 s.other.length c3))):=
    st_end (s:=s) HR.out (by rw [zuq EE,hn]) ((G4.out.trans KK1).trans KK2) KR2 AR AM (lo:=u1.heap.size) hx3 hx4 hx5 (by omega)
   clear hn KK2 KR2 KK1 KR1 AR AM hx3 hx4 hx5;go_wp2_with fail;refine bodyPost_ret (v:=.agg #[qi s.op,.string s.mod,.string s.name,.slice a1 s.args.length c1,.slice a2 s.body.length c2,.slice a3 s.other.length c3]) (by simp [results,Tryz.results254,go_sem,h0,h1,h2,h3,h4,h5]) rfl HF.out
 refine (zb2 R cap a ts l tIf w0 Hx.out (by simpa using EE)).mono ?_;rintro e w1 ⟨rfl,AZ,AF⟩;have BC:Hid (Rd R a cap ts w1 l):=AZ;have AX:Hid (Keeps R w w1):=G4.out.trans AF;have A7:Hid (w1.heap[w.heap.size]? = some za1):=(AF.block w.heap.size (by omega) (by omega)).trans Ay.out;have An:=AF.size
 have DT:skB l tIf=false:=by simpa using EE
 clear AZ AF Hx G4 Ay EE;go_wp2_with fail
 by_cases AB:skB l zgw=true
 . have Cb:=zah (by decide) AB
   refine (zbl R cap a ts l zgw w1 (by decide) BC.out AB).mono ?_;rintro e u1 ⟨rfl,KR1,KK1⟩;have Lh:=KK1.size;have KB1:Hid (u1.heap[w.heap.size]? = some za1):=(KK1.block w.heap.size (by omega) (by omega)).trans A7.out;go_wp2_with fail;refine (zet R cap a ts l.tail u1 KR1).mono ?_;rintro e u2 ⟨KK2,⟨hn,rfl⟩ | ⟨x,l2,v,hn,rfl,⟨a2,c2,rfl,AR,AM,hx3⟩,KR2⟩⟩
   . exact ⟨rfl,(AX.out.trans KK1).trans KK2,Or.inl ⟨by rw [zha DT AB,hn],rfl⟩⟩
   have IP:=KK2.size;have Sc:=zn4 hn;have KB2:Hid (u2.heap[w.heap.size]? = some za1):=(KK2.block w.heap.size (by omega) (by omega)).trans KB1.out;have HN:Hid (pX l.tail=some (x,l2)):=hn
   have AG:Hid (EAt (u2.alloc (kzE x.op x.n x.mod x.name a2 x.args.length c2)) (w.heap.size+1<=·) (some (qa u2.heap.size 0)) 1 (zbo [x])):=
    zkx (t:=174) (cap:=c2) AR AM hx3 (((zad.refl u2 _).alloc _).to (by omega)) (heap_newP _ _) (by omega)
   have KR2':Hid (Rd R a cap ts u2 l2):=KR2;have KK2':Hid (Keeps R w u2):=(AX.out.trans KK1).trans KK2;clear hn AR AM hx3 KR2 KK2 KR1 KK1 KB1;go_wp2_with fail;refine (HI.out.block l2 _ ((KR2'.out.alloc _).alloc _) (by omega)).mono ?_;rintro e u3 ⟨KK3,⟨hn,rfl⟩ | ⟨b,l3,v,hn,rfl,⟨a3,c3,rfl,hx3⟩,KR3⟩⟩
   . exact ⟨rfl,((KK2'.out.alloc _).alloc _).trans KK3,Or.inl ⟨by rw [zha DT AB,HN.out];simp only [];rw [hn],rfl⟩⟩
   have Ig:=KK3.size;simp at Ig
   have HP:Hid (zce (f+1) l=some (.mk 5 ⟨#[]⟩ ⟨#[]⟩ [x] b [],l3)):=by show zce (f+1) l=_;rw [zha DT AB,HN.out];simp only [];rw [hn]
   have KB3:Hid (u3.heap[w.heap.size]? = some za1):=(KK3.block w.heap.size (by simp;omega) (by omega)).trans (zab (zab KB2.out))
   have KC3:Hid (u3.heap[u2.heap.size+1]? = some (.cells #[qi 5,.string ⟨#[]⟩,.string ⟨#[]⟩,.slice (some (qa u2.heap.size 0)) 1 1,qs,qs] 176 (0,0))):=(KK3.block (u2.heap.size+1) (by simp) (by omega)).trans (by
    have e:=heap_newP (u2.alloc (kzE x.op x.n x.mod x.name a2 x.args.length c2)) (kzB 5 ⟨#[]⟩ ⟨#[]⟩ (some (qa u2.heap.size 0)) 1 1 none 0 0 none 0 0)
    simpa using e)
   obtain ⟨h0,h1,h2,h3,h4,h5,h6⟩:=zam KB3.out;obtain ⟨g0,g1,g2,g3,g4,g5,g6⟩:=zam KC3.out
   have IU:EAt u3 (u2.heap.size+2<=·) a3 b.length (zbp b):=by simpa using hx3
   have HF:Hid (zd4 R a cap ts w (zce (f+1) l) (zf7 (w.heap.size<=·)) (.returned (.agg #[qi 5,.string ⟨#[]⟩,.string ⟨#[]⟩,.slice (some (qa u2.heap.size 0)) 1 1,.slice a3 b.length c3,qs])) (set6 (u3.setCell ⟨u2.heap.size+1,4,none⟩ (.slice a3 b.length c3)) w.heap.size (qi 5) (.string ⟨#[]⟩) (.string ⟨#[]⟩) (.slice (some (qa u2.heap.size 0)) 1 1) (.slice a3 b.length c3) (qs))):=by
    have CN:zad u3 (fun k=>w.heap.size+1<=k/\k≠u2.heap.size+1) (set6 (u3.setCell ⟨u2.heap.size+1,4,none⟩ (.slice a3 b.length c3)) w.heap.size (qi 5) (.string ⟨#[]⟩) (.string ⟨#[]⟩) (.slice (some (qa u2.heap.size 0)) 1 1) (.slice a3 b.length c3) (qs)) (w.heap.size<=·):=
     (((zad.refl u3 (fun k=>w.heap.size+1<=k/\k≠u2.heap.size+1)).set (p:=⟨u2.heap.size+1,4,none⟩) (by intro k _ hk;exact hk.2) (.slice a3 b.length c3)).set6 (b:=w.heap.size) (by intro k _ hk;omega) (qi 5) (.string ⟨#[]⟩) (.string ⟨#[]⟩) (.slice (some (qa u2.heap.size 0)) 1 1) (.slice a3 b.length c3) (qs)).trans ⟨vaa _,fun k _ hk=>⟨by omega,rfl⟩⟩
    have LJ:zad u3 (u2.heap.size+2<=·) u3 (fun k=>w.heap.size+1<=k/\k≠u2.heap.size+1):=⟨vaa _,fun k _ hk=>⟨⟨by omega,by omega⟩,rfl⟩⟩
    have Iq:zad (u2.alloc (kzE x.op x.n x.mod x.name a2 x.args.length c2)) (w.heap.size+1<=·) u3 (fun k=>w.heap.size+1<=k/\k≠u2.heap.size+1):=by
     refine ⟨by simp;omega,fun k Cs DP=>?_⟩
     have M0:k<u2.heap.size+1:=by simpa using Cs
     exact ⟨⟨DP,by omega⟩,(KK3.block k (by simp;omega) (by omega)).trans ((Below.refl _ _).alloc (vaa _) _ |>.block k (by simp;omega))⟩
    exact znc (s:=.mk 5 ⟨#[]⟩ ⟨#[]⟩ [x] b []) HP.out (((((KK2'.out.alloc _).alloc _).trans KK3).set (p:=⟨u2.heap.size+1,4,none⟩) (by show w.heap.size<=u2.heap.size+1;omega) (.slice a3 b.length c3)).set6 (b:=w.heap.size) (vaa _) _ _ _ _ _ _) ((KR3.setAbove HR.out (p:=⟨u2.heap.size+1,4,none⟩) (by show w.heap.size<=u2.heap.size+1;omega) (.slice a3 b.length c3)).set6 HR.out (b:=w.heap.size) (vaa _) _ _ _ _ _ _) (vag _) (vag _) (AG.out.moves (Iq.trans CN)) ((IU.moves LJ).moves CN) (Or.inl rfl)
   clear hn KK3 KR3 hx3 IU;go_wp2_with fail;refine bodyPost_ret (v:=.agg #[qi 5,.string ⟨#[]⟩,.string ⟨#[]⟩,.slice (some (qa u2.heap.size 0)) 1 1,.slice a3 b.length c3,qs]) (by simp [results,Tryz.results254,go_sem,h0,h1,h2,h3,h4,h5]) rfl HF.out
 refine (zb2 R cap a ts l zgw w1 BC.out (by simpa using AB)).mono ?_;rintro e w2 ⟨rfl,Ao,AL⟩;have CS:Hid (Rd R a cap ts w2 l):=Ao;have BK:Hid (Keeps R w w2):=AX.out.trans AL;have Af:Hid (w2.heap[w.heap.size]? = some za1):=(AL.block w.heap.size (by omega) (by omega)).trans A7.out;have AA:=AL.size
 have Er:skB l zgw=false:=by simpa using AB
 clear Ao AL BC AX A7 AB;go_wp2_with fail
 by_cases Bj:skB l zfh=true
 . have Ci:=zah (by decide) Bj
   refine (zbl R cap a ts l zfh w2 (by decide) CS.out Bj).mono ?_;rintro e u1 ⟨rfl,KR1,KK1⟩;have Lh:=KK1.size;have KB1:Hid (u1.heap[w.heap.size]? = some za1):=(KK1.block w.heap.size (by omega) (by omega)).trans Af.out;go_wp2_with fail;refine (zet R cap a ts l.tail u1 KR1).mono ?_;rintro e u2 ⟨KK2,⟨hn,rfl⟩ | ⟨x,l2,v,hn,rfl,⟨a2,c2,rfl,AR,AM,hx3⟩,KR2⟩⟩
   . exact ⟨rfl,(BK.out.trans KK1).trans KK2,Or.inl ⟨by rw [zf8 DT Er Bj,hn];rfl,rfl⟩⟩
   have IP:=KK2.size;have KB2:Hid (u2.heap[w.heap.size]? = some za1):=(KK2.block w.heap.size (by omega) (by omega)).trans KB1.out;have HN:Hid (pX l.tail=some (x,l2)):=hn
   have HX:Hid (x.mod.size<=maxLen/\x.name.size<=maxLen/\EAt u2 (u1.heap.size<=·) a2 x.args.length (zbo x.args)):=⟨AR,AM,hx3⟩
   have KR2':Hid (Rd R a cap ts u2 l2):=KR2;have KK2':Hid (Keeps R w u2):=(BK.out.trans KK1).trans KK2;clear hn AR AM hx3 KR2 KK2 KR1 KK1 KB1;go_wp2_with fail;refine (zky R cap a ts l2 _ (KR2'.out.alloc _) _ _ _ _ _ _ _ _ _ _ _ _).mono ?_;rintro e u3 ⟨KK3,⟨t3,rfl⟩ | ⟨t3,rfl,KR3⟩⟩
   . exact ⟨rfl,(KK2'.out.alloc _).trans KK3,Or.inl ⟨by rw [zf8 DT Er Bj,HN.out];simp [zdt,t3],rfl⟩⟩
   have Ig:=KK3.size;simp at Ig
   have HP:Hid (zce (f+1) l=some (.mk 6 ⟨#[]⟩ ⟨#[]⟩ [x] [] [],l2.tail)):=by show zce (f+1) l=_;rw [zf8 DT Er Bj,HN.out];simp [zdt,t3]
   have KB3:Hid (u3.heap[w.heap.size]? = some za1):=(KK3.block w.heap.size (by simp;omega) (by omega)).trans (zab KB2.out);obtain ⟨h0,h1,h2,h3,h4,h5,h6⟩:=zam KB3.out
   have HF:Hid (zd4 R a cap ts w (zce (f+1) l) (zf7 (w.heap.size<=·)) (.returned (.agg #[qi 6,.string ⟨#[]⟩,.string ⟨#[]⟩,.slice (some (qa u2.heap.size 0)) 1 1,qs,qs])) (set6 u3 w.heap.size (qi 6) (.string ⟨#[]⟩) (.string ⟨#[]⟩) (.slice (some (qa u2.heap.size 0)) 1 1) (qs) (qs))):=
    st_end (s:=.mk 6 ⟨#[]⟩ ⟨#[]⟩ [x] [] []) HR.out HP.out ((KK2'.out.alloc _).trans KK3) KR3 (vag _) (vag _) (lo:=u1.heap.size) (zkx (t:=174) (cap:=c2) HX.out.1 HX.out.2.1 HX.out.2.2 (((zad.refl u2 _).alloc _).keeps KK3 (by intro k _ hk;omega)) ((KK3.block u2.heap.size (by simp) (by omega)).trans (heap_newP _ _)) IP) (Or.inl rfl) (Or.inl rfl) (by omega)
   clear KK3 KR3;go_wp2_with fail;refine bodyPost_ret (v:=.agg #[qi 6,.string ⟨#[]⟩,.string ⟨#[]⟩,.slice (some (qa u2.heap.size 0)) 1 1,qs,qs]) (by simp [results,Tryz.results254,go_sem,h0,h1,h2,h3,h4,h5]) rfl HF.out
 refine (zb2 R cap a ts l zfh w2 CS.out (by simpa using Bj)).mono ?_;rintro e w3 ⟨rfl,Aq,Am⟩;have CA:Hid (Rd R a cap ts w3 l):=Aq;have BX:Hid (Keeps R w w3):=BK.out.trans Am;have Ae:Hid (w3.heap[w.heap.size]? = some za1):=(Am.block w.heap.size (by omega) (by omega)).trans Af.out;have Bw:=Am.size
 have GW:skB l zfh=false:=by simpa using Bj
 clear Aq Am CS BK Af Bj;go_wp2_with fail
 by_cases CE:skB l z3s=true
 . have EN:=zah (by decide) CE
   refine (zbl R cap a ts l z3s w3 (by decide) CA.out CE).mono ?_;rintro e u1 ⟨rfl,KR1,KK1⟩;have Lh:=KK1.size;have KB1:Hid (u1.heap[w.heap.size]? = some za1):=(KK1.block w.heap.size (by omega) (by omega)).trans Ae.out;go_wp2_with fail;refine (zet R cap a ts l.tail u1 KR1).mono ?_;rintro e u2 ⟨KK2,⟨hn,rfl⟩ | ⟨x,l2,v,hn,rfl,⟨a2,c2,rfl,AR,AM,hx3⟩,KR2⟩⟩
   . exact ⟨rfl,(BX.out.trans KK1).trans KK2,Or.inl ⟨by rw [zk0 DT Er GW CE,hn];rfl,rfl⟩⟩
   have IP:=KK2.size;have KB2:Hid (u2.heap[w.heap.size]? = some za1):=(KK2.block w.heap.size (by omega) (by omega)).trans KB1.out;have HN:Hid (pX l.tail=some (x,l2)):=hn
   have HX:Hid (x.mod.size<=maxLen/\x.name.size<=maxLen/\EAt u2 (u1.heap.size<=·) a2 x.args.length (zbo x.args)):=⟨AR,AM,hx3⟩
   have KR2':Hid (Rd R a cap ts u2 l2):=KR2;have KK2':Hid (Keeps R w u2):=(BX.out.trans KK1).trans KK2;clear hn AR AM hx3 KR2 KK2 KR1 KK1 KB1;go_wp2_with fail;refine (zky R cap a ts l2 _ (KR2'.out.alloc _) _ _ _ _ _ _ _ _ _ _ _ _).mono ?_;rintro e u3 ⟨KK3,⟨t3,rfl⟩ | ⟨t3,rfl,KR3⟩⟩
   . exact ⟨rfl,(KK2'.out.alloc _).trans KK3,Or.inl ⟨by rw [zk0 DT Er GW CE,HN.out];simp [zdt,t3],rfl⟩⟩
   have Ig:=KK3.size;simp at Ig
   have HP:Hid (zce (f+1) l=some (.mk 7 ⟨#[]⟩ ⟨#[]⟩ [x] [] [],l2.tail)):=by show zce (f+1) l=_;rw [zk0 DT Er GW CE,HN.out];simp [zdt,t3]
   have KB3:Hid (u3.heap[w.heap.size]? = some za1):=(KK3.block w.heap.size (by simp;omega) (by omega)).trans (zab KB2.out);obtain ⟨h0,h1,h2,h3,h4,h5,h6⟩:=zam KB3.out
   have HF:Hid (zd4 R a cap ts w (zce (f+1) l) (zf7 (w.heap.size<=·)) (.returned (.agg #[qi 7,.string ⟨#[]⟩,.string ⟨#[]⟩,.slice (some (qa u2.heap.size 0)) 1 1,qs,qs])) (set6 u3 w.heap.size (qi 7) (.string ⟨#[]⟩) (.string ⟨#[]⟩) (.slice (some (qa u2.heap.size 0)) 1 1) (qs) (qs))):=
    st_end (s:=.mk 7 ⟨#[]⟩ ⟨#[]⟩ [x] [] []) HR.out HP.out ((KK2'.out.alloc _).trans KK3) KR3 (vag _) (vag _) (lo:=u1.heap.size) (zkx (t:=174) (cap:=c2) HX.out.1 HX.out.2.1 HX.out.2.2 (((zad.refl u2 _).alloc _).keeps KK3 (by intro k _ hk;omega)) ((KK3.block u2.heap.size (by simp) (by omega)).trans (heap_newP _ _)) IP) (Or.inl rfl) (Or.inl rfl) (by omega)
   clear KK3 KR3;go_wp2_with fail;refine bodyPost_ret (v:=.agg #[qi 7,.string ⟨#[]⟩,.string ⟨#[]⟩,.slice (some (qa u2.heap.size 0)) 1 1,qs,qs]) (by simp [results,Tryz.results254,go_sem,h0,h1,h2,h3,h4,h5]) rfl HF.out
 refine (zb2 R cap a ts l z3s w3 CA.out (by simpa using CE)).mono ?_;rintro e w4 ⟨rfl,AW,Ax⟩;have BV:Hid (Rd R a cap ts w4 l):=AW;have BF:Hid (Keeps R w w4):=BX.out.trans Ax;have Ar:Hid (w4.heap[w.heap.size]? = some za1):=(Ax.block w.heap.size (by omega) (by omega)).trans Ae.out;have CX:=Ax.size
 have KE:skB l z3s=false:=by simpa using CE
 clear AW Ax CA BX Ae CE;go_wp2_with fail;refine (zze R cap a ts l w4 BV.out).mono ?_;rintro e u2 ⟨KK2,⟨hn,rfl⟩ | ⟨s,l2,v,hn,rfl,⟨a1,c1,a2,c2,a3,c3,rfl,AR,AM,hx3,hx4,hx5⟩,KR2⟩⟩
 . exact ⟨rfl,BF.out.trans KK2,Or.inl ⟨by rw [zhb DT Er GW KE,hn];rfl,rfl⟩⟩
 have IP:=KK2.size;have KB2:Hid (u2.heap[w.heap.size]? = some za1):=(KK2.block w.heap.size (by omega) (by omega)).trans Ar.out;have HN:Hid (zbr l=some (s,l2)):=hn
 have HX:Hid (s.mod.size<=maxLen/\s.name.size<=maxLen/\EAt u2 (w4.heap.size<=·) a1 s.args.length (zbo s.args)/\EAt u2 (w4.heap.size<=·) a2 s.body.length (zbp s.body)/\EAt u2 (w4.heap.size<=·) a3 s.other.length (zbp s.other)):=⟨AR,AM,hx3,hx4,hx5⟩
 have KR2':Hid (Rd R a cap ts u2 l2):=KR2;have KK2':Hid (Keeps R w u2):=BF.out.trans KK2;clear hn AR AM hx3 hx4 hx5 KR2 KK2;go_wp2_with fail;refine (zky R cap a ts l2 _ KR2'.out _ _ _ _ _ _ _ _ _ _ _ _).mono ?_;rintro e u3 ⟨KK3,⟨t3,rfl⟩ | ⟨t3,rfl,KR3⟩⟩
 . exact ⟨rfl,KK2'.out.trans KK3,Or.inl ⟨by rw [zhb DT Er GW KE,HN.out];simp [zdt,t3],rfl⟩⟩
 have Ig:=KK3.size
 have HP:Hid (zce (f+1) l=some (s,l2.tail)):=by show zce (f+1) l=_;rw [zhb DT Er GW KE,HN.out];simp [zdt,t3]
 have KB3:Hid (u3.heap[w.heap.size]? = some za1):=(KK3.block w.heap.size (by omega) (by omega)).trans KB2.out;obtain ⟨h0,h1,h2,h3,h4,h5,h6⟩:=zam KB3.out
 have HF:Hid (zd4 R a cap ts w (zce (f+1) l) (zf7 (w.heap.size<=·)) (.returned (.agg #[qi s.op,.string s.mod,.string s.name,.slice a1 s.args.length c1,.slice a2 s.body.length c2,.slice a3 s.other.length c3])) (set6 u3 w.heap.size (qi s.op) (.string s.mod) (.string s.name) (.slice a1 s.args.length c1) (.slice a2 s.body.length c2) (.slice a3 s.other.length c3))):=by
  have hm:zad u2 (w4.heap.size<=·) u3 (w4.heap.size<=·):=(zad.refl u2 _).keeps KK3 (by intro k _ hk;omega);exact st_end (s:=s) HR.out HP.out (KK2'.out.trans KK3) KR3 HX.out.1 HX.out.2.1 (lo:=w4.heap.size) (HX.out.2.2.1.moves hm) (HX.out.2.2.2.1.moves hm) (HX.out.2.2.2.2.moves hm) (by omega)
 clear KK3 KR3;go_wp2_with fail;refine bodyPost_ret (v:=.agg #[qi s.op,.string s.mod,.string s.name,.slice a1 s.args.length c1,.slice a2 s.body.length c2,.slice a3 s.other.length c3]) (by simp [results,Tryz.results254,go_sem,h0,h1,h2,h3,h4,h5]) rfl HF.out
theorem z7m (R cap:Nat) (a:OA) (ts:List Tk):∀ f,StC R cap a ts f:=by
 intro f
 induction f using Nat.strongRecOn with
 | ind f ih=>
   cases f with
   | zero=>exact ⟨fun _ _ _ h=>by omega,fun _ _ _ h=>by omega⟩
   | succ f=>
     exact ⟨fun l w h hf=>zzg R cap a ts f (ih f (by omega)) l w h hf,fun l w h hf=>zv7 R cap a ts f (fun g hg=>ih g (by omega)) l w h hf⟩
def pB (l:List Tk):Option (List St × List Tk):=zbt (3*l.length+8) l
theorem z85 {l l':List Tk} {b:List St} (h:pB l=some (b,l')):l'.length<l.length:=zf9 _ _ _ _ h
theorem zqt (R cap:Nat) (a:OA) (ts l:List Tk) (w:World) (h:Rd R a cap ts w l) :
 qc 201 #[pq R 0] w (zd4 R a cap ts w (pB l) (z84 (w.heap.size<=·))):=(z7m R cap a ts _).block l w h (by omega)
def zhw (l:List Tk):List Tk:=if skB l zcu then l.tail else l
def zbw (l:List Tk):Option (De × List Tk):=
 if skB (zhw l) zpy then (match zde (zhw l).tail with
  | none=>none
  | some (n,l1)=>if skB l1 tEq then (match pNum l1.tail with | none=>none | some (k,l2)=>if skB l2 zhj then some (⟨1,n,skB l zcu,k⟩,l2.tail) else none) else none)
 else if skB (zhw l) z6y then (match zde (zhw l).tail with
  | none=>none
  | some (n,l1)=>if skB l1 zhj then some (⟨2,n,skB l zcu,0⟩,l1.tail) else none)
 else if skB (zhw l) zpz then (match zde (zhw l).tail with
  | none=>none
  | some (n,l1)=>if skB l1 tLs then (match pNum l1.tail with | none=>none | some (k,l2)=>if skB l2 tRs then (if skB l2.tail zhj then some (⟨3,n,skB l zcu,k⟩,l2.tail.tail) else none) else none) else none)
 else none
def zcp:Nat->List ByteArray->List Tk->Option (List ByteArray × List Tk)
 | 0,_,_=>none
 | f+1,A5,l=>
   if skB l z06 then (match zde l.tail with | none=>none | some (n,l1)=>zcp f (A5++[n]) l1)
   else if skB l tRp then some (A5,l.tail) else none
def zcq (t:ByteArray):Nat->List ByteArray->List Tk->Option (List ByteArray × List Tk)
 | 0,_,_=>none
 | f+1,A5,l=>
   if skB l t then (match zde l.tail with | none=>none | some (n,l1)=>if skB l1 zhj then zcq t f (A5++[n]) l1.tail else none)
   else some (A5,l)
def zhc (l:List Tk):Option (List ByteArray × List Tk):=
 if skB l tRp then some ([],l.tail) else (match zde l with | none=>none | some (n,l1)=>zcp (l1.length+1) [n] l1)
def ze8 (l:List Tk):Option (Pr × List Tk):=
 if skB (zhw l) z4h then (match zde (zhw l).tail with
  | none=>none
  | some (n,l1)=>if skB l1 tLp then (match zhc l1.tail with
    | none=>none
    | some (ps,l2)=>(match zcq zd6 (l2.length+1) [] l2 with
      | none=>none
      | some (ls,l3)=>(match pB l3 with | none=>none | some (b,l4)=>some (⟨n,skB l zcu,ps,ls,b⟩,l4)))) else none)
 else none
def zv8 (l:List Tk):Bool:=
 let t:=if skB l zcu then (l.getD 1 noTk).text else (hd l).text
 t.toList == zpy.toList||t.toList == z6y.toList||t.toList == zpz.toList
def ze9:Nat->List De->List Tk->Option (List De × List Tk)
 | 0,_,_=>none
 | f+1,A5,l=>if zv8 l then (match zbw l with | none=>none | some (d,l1)=>ze9 f (A5++[d]) l1) else some (A5,l)
def zfa:Nat->List Pr->List Tk->Option (List Pr × List Tk)
 | 0,_,_=>none
 | f+1,A5,l=>if skB l zrs then some (A5,l.tail) else (match ze8 l with | none=>none | some (p,l1)=>zfa f (A5++[p]) l1)
def zcc (l:List Tk):Option (Mo × List Tk):=
 if skB l zn2 then (match zde l.tail with
  | none=>none
  | some (n,l1)=>if skB l1 tLb then (match zcq zt0 (l1.tail.length+1) [] l1.tail with
    | none=>none
    | some (us,l2)=>(match ze9 (l2.length+1) [] l2 with
      | none=>none
      | some (ds,l3)=>(match zfa (l3.length+1) [] l3 with
        | none=>none
        | some (ps,l4)=>(match pB l4 with
          | none=>none
          | some (b,l5)=>if skB l5 tRb then some (⟨n,us,ds,ps,b⟩,l5.tail) else none)))) else none)
 else none
theorem zsv (l:List Tk):(zhw l).length<=l.length:=by
 unfold zhw;split
 . simp
 . exact vaa _
theorem zur {l l':List Tk} {d:De} (h:zbw l=some (d,l')):l'.length<l.length:=by
 have hp:=zsv l;unfold zbw at h
 split at h
 . rename_i hs
   have:=zah (by decide) hs
   split at h
   . cases h
   rename_i n l1 h1
   have:=zbk h1
   split at h
   . rename_i AB
     have:=zah (by decide) AB
     split at h
     . cases h
     rename_i k l2 h2
     have:=zxh h2
     split at h
     . rename_i Bj
       have:=zah (by decide) Bj;obtain ⟨_,rfl⟩:=vao (vab h);omega
     . cases h
   . cases h
 split at h
 . rename_i hs
   have:=zah (by decide) hs
   split at h
   . cases h
   rename_i n l1 h1
   have:=zbk h1
   split at h
   . rename_i Bj
     have:=zah (by decide) Bj;obtain ⟨_,rfl⟩:=vao (vab h);omega
   . cases h
 split at h
 . rename_i hs
   have:=zah (by decide) hs
   split at h
   . cases h
   rename_i n l1 h1
   have:=zbk h1
   split at h
   . rename_i AB
     have:=zah (by decide) AB
     split at h
     . cases h
     rename_i k l2 h2
     have:=zxh h2
     split at h
     . rename_i Bj
       have:=zah (by decide) Bj
       split at h
       . rename_i CE
         have:=zah (by decide) CE;obtain ⟨_,rfl⟩:=vao (vab h);omega
       . cases h
     . cases h
   . cases h
 . cases h
theorem znd:∀ (f:Nat) (A5:List ByteArray) (l l':List Tk) (x:List ByteArray),zcp f A5 l=some (x,l')->l'.length<=l.length
 | 0,_,_,_,_,h=>by simp [zcp] at h
 | f + 1,A5,l,l',x,h=>by
   unfold zcp at h
   split at h
   . rename_i hs
     have:=zah (by decide) hs
     split at h
     . cases h
     rename_i n l1 h1
     have:=zbk h1;have:=znd f _ _ _ _ h;omega
   split at h
   . rename_i hs
     have:=zah (by decide) hs;obtain ⟨_,rfl⟩:=vao (vab h);omega
   . cases h
theorem zus (t:ByteArray) (ht:0<t.size):∀ (f:Nat) (A5:List ByteArray) (l l':List Tk) (x:List ByteArray),zcq t f A5 l=some (x,l')->l'.length<=l.length
 | 0,_,_,_,_,h=>by simp [zcq] at h
 | f + 1,A5,l,l',x,h=>by
   unfold zcq at h
   split at h
   . rename_i hs
     have:=zah ht hs
     split at h
     . cases h
     rename_i n l1 h1
     have:=zbk h1
     split at h
     . rename_i AB
       have:=zah (by decide) AB;have:=zus t ht f _ _ _ _ h;omega
     . cases h
   . obtain ⟨_,rfl⟩:=vao (vab h)
     exact vaa _
theorem z14 {l l':List Tk} {x:List ByteArray} (h:zhc l=some (x,l')):l'.length<=l.length:=by
 unfold zhc at h
 split at h
 . rename_i hs
   have:=zah (by decide) hs;obtain ⟨_,rfl⟩:=vao (vab h);omega
 split at h
 . cases h
 rename_i n l1 h1
 have:=zbk h1;have:=znd _ _ _ _ _ h;omega
theorem zut {l l':List Tk} {p:Pr} (h:ze8 l=some (p,l')):l'.length<l.length:=by
 have hp:=zsv l;unfold ze8 at h
 split at h
 . rename_i hs
   have:=zah (by decide) hs
   split at h
   . cases h
   rename_i n l1 h1
   have:=zbk h1
   split at h
   . rename_i AB
     have:=zah (by decide) AB
     split at h
     . cases h
     rename_i ps l2 h2
     have:=z14 h2
     split at h
     . cases h
     rename_i ls l3 h3
     have:=zus _ (by decide) _ _ _ _ _ h3
     split at h
     . cases h
     rename_i b l4 h4
     have:=z85 h4;obtain ⟨_,rfl⟩:=vao (vab h);omega
   . cases h
 . cases h
theorem zou (R cap:Nat) (a:OA) (ts l:List Tk) (w:World) (h:Rd R a cap ts w l) :
 qc 198 #[pq R 0] w fun e w'=>e = .returned (.bool (zv8 l))/\qb w w':=by
 have HR:Hid (Rd R a cap ts w l):=h;have Er:=zup (hd l).kind (hd l).n (hd l).text;have GW:=zup (l.getD 1 noTk).kind (l.getD 1 noTk).n (l.getD 1 noTk).text
 have HS:Hid (skB l zcu=((hd l).text.toList == [112,117,98])):=by show skB l zcu=_;unfold skB;rw [vax zcu]
 have HD:Hid (zv8 l=((if skB l zcu then (l.getD 1 noTk).text else (hd l).text).toList == [99,111,110,115,116]||(if skB l zcu then (l.getD 1 noTk).text else (hd l).text).toList == [118,97,114]||(if skB l zcu then (l.getD 1 noTk).text else (hd l).text).toList == [97,114,114,97,121])):=by
  show zv8 l=_;unfold zv8;rw [vax zpy,vax z6y,vax zpz]
 have HG:Hid (∀ w',Rd R a cap ts w' l->qc 252 #[pq R 0,qi 1] w' fun e Az=>e = .returned (.agg #[qi (l.getD 1 noTk).kind,qi (l.getD 1 noTk).n,.string (l.getD 1 noTk).text])/\Below w'.heap.size w' Az):=fun w' h'=>zqq R cap 1 a ts l w' (by omega) h'
 clear h;go_enter Tryz.func198,Tryz.ntmps198;go_wp2_with fail;refine (zqr R cap a ts l w HR.out).mono ?_;rintro e w1 ⟨rfl,A6⟩
 by_cases hp:((hd l).text.toList == [112,117,98])=true
 . have Hv:Hid (skB l zcu=true):=HS.out.trans hp
   generalize l.getD 1 noTk=T at *;go_wp2_with fail;refine (HG.out w1 (HR.out.later A6)).mono ?_;rintro e w2 ⟨rfl,Ab⟩;go_wp2_with fail
   all_goals go_ret
   all_goals refine ⟨ret_bool ?_,A6.trans (Ab.mono A6.size)⟩
   all_goals rw [HD.out,Hv.out];simp_all
 . have GJ:((hd l).text.toList == [112,117,98])=false:=by simpa using hp
   have Hv:Hid (skB l zcu=false):=HS.out.trans GJ;clear hp;generalize hd l=T at *;go_wp2_with fail
   all_goals go_ret
   all_goals refine ⟨ret_bool ?_,A6⟩
   all_goals rw [HD.out,Hv.out];simp_all
def zzh (d:De) (_:World) (v:Value):Prop:=v = .agg #[qi d.kind,.string d.name,.bool d.pub,qi d.n]/\d.name.size<=maxLen
abbrev set4 (w:World) (b:Nat) (v0 v1 v2 v3:Value):World:=(((w.setCell (qa b 0) v0).setCell (qa b 1) v1).setCell (qa b 2) v2).setCell (qa b 3) v3
theorem Keeps.set4 {R b:Nat} {w w1:World} (h:Keeps R w w1) (hp:w.heap.size<=b) (v0 v1 v2 v3:Value):Keeps R w (set4 w1 b v0 v1 v2 v3):=(((h.set hp v0).set hp v1).set hp v2).set hp v3
theorem Rd.set4 {R cap b:Nat} {w0 w1:World} {a:OA} {ts l l0:List Tk} (h:Rd R a cap ts w1 l) (h0:Rd R a cap ts w0 l0) (hp:w0.heap.size<=b) (v0 v1 v2 v3:Value):Rd R a cap ts (set4 w1 b v0 v1 v2 v3) l:=(((h.setAbove h0 hp v0).setAbove h0 hp v1).setAbove h0 hp v2).setAbove h0 hp v3
abbrev zc6:Obj:=.cells #[qi 0,.string ⟨#[]⟩,.bool false,qi 0] 170 (0,0)
abbrev zbx (k:Int) (nm:ByteArray) (p:Bool) (n:Int):Obj:=.cells #[qi k,.string nm,.bool p,qi n] 170 (0,0)
theorem zuu (R cap:Nat) (a:OA) (ts l:List Tk) (w:World) (h:Rd R a cap ts w l) :
 qc 199 #[pq R 0] w (zd4 R a cap ts w (zbw l) zzh):=by
 have HR:Hid (Rd R a cap ts w l):=h;have Cz:=h.lt;clear h;go_enter Tryz.func199,Tryz.ntmps199;go_wp2_with fail;refine (zos R cap a ts l zcu _ (by decide) (HR.out.alloc _)).mono ?_;rintro e w1 ⟨rfl,RD,KK⟩;have F3:Hid (Rd R a cap ts w1 (zhw l)):=RD;have Fa:Hid (Keeps R w w1):=((Keeps.refl R w).alloc _).trans KK;have An:=KK.size;simp at An;have A7:Hid (w1.heap[w.heap.size]? = some zc6):=(KK.block w.heap.size (by simp) (by omega)).trans (heap_newP _ _);clear RD KK;go_wp2_with fail
 obtain ⟨w2,BJ⟩:∃ w2,w2=w1.alloc (zbx 0 ⟨#[]⟩ (skB l zcu) 0):=⟨_,rfl⟩
 have JL:Hid (Rd R a cap ts w2 (zhw l)):=by rw [BJ];exact F3.out.alloc _
 have K6:Hid (Keeps R w w2):=by rw [BJ];exact Fa.out.alloc _
 have Km:Hid (w2.heap[w.heap.size]? = some zc6):=by rw [BJ];exact zab A7.out
 have Kk:Hid (w2.heap[w1.heap.size]? = some (zbx 0 ⟨#[]⟩ (skB l zcu) 0)):=by rw [BJ];exact heap_newP _ _
 have AA:w2.heap.size=w1.heap.size+1:=by rw [BJ];simp
 rw [← BJ];clear BJ F3 Fa A7;refine (z7l R cap _ a ts (zhw l) zpy z6y zpz w2 AA.symm JL.out (by decide) (by decide) (by decide)).mono ?_;rintro e w3 ⟨KK,Gd⟩;have Bw:=KK.size;have CD:Hid (Keeps R w w3):=K6.out.trans KK;have El:Hid (w3.heap[w.heap.size]? = some zc6):=(KK.block w.heap.size (by omega) (by omega)).trans Km.out;have Ek:Hid (w3.heap[w1.heap.size]? = some (zbx 0 ⟨#[]⟩ (skB l zcu) 0)):=(KK.block w1.heap.size (by omega) (by omega)).trans Kk.out;clear KK JL K6 Km Kk
 rcases Gd with ⟨s1,s2,s3,rfl⟩ | ⟨s1,rfl,RD⟩ | ⟨s1,s2,rfl,RD⟩ | ⟨s1,s2,s3,rfl,RD⟩
 . exact ⟨rfl,CD.out,Or.inl ⟨by unfold zbw;rw [s1,s2,s3];rfl,rfl⟩⟩
 . have D8:Hid (Rd R a cap ts w3 (zhw l).tail):=RD
   clear RD;go_wp2_with fail;refine (zbv R cap a ts (zhw l).tail w3 D8.out).mono ?_;rintro e w4 ⟨KK,⟨hn,rfl⟩ | ⟨nm,l4,v,hn,rfl,⟨rfl,B5⟩,RD⟩⟩
   . exact ⟨rfl,CD.out.trans KK,Or.inl ⟨by unfold zbw;rw [if_pos s1,hn],rfl⟩⟩
   have CH:Hid (zbw l=if skB l4 tEq then (match pNum l4.tail with | none=>none | some (k,l2)=>if skB l2 zhj then some (⟨1,nm,skB l zcu,k⟩,l2.tail) else none) else none):=by show zbw l=_;unfold zbw;rw [if_pos s1,hn]<;>rfl
   clear hn;have D7:Hid (Rd R a cap ts w4 l4):=RD;have D9:Hid (Keeps R w w4):=CD.out.trans KK;have Db:Hid (w4.heap[w.heap.size]? = some zc6):=(KK.block w.heap.size (by omega) (by omega)).trans El.out;have Cp:Hid (w4.heap[w1.heap.size]? = some (zbx 0 ⟨#[]⟩ (skB l zcu) 0)):=(KK.block w1.heap.size (by omega) (by omega)).trans Ek.out;have IR:=KK.size;clear RD KK D8 CD El Ek;have Dv:Hid (Rd R a cap ts ((w4.setCell (qa w1.heap.size 1) (.string nm)).setCell (qa w1.heap.size 0) (qi 1)) l4):=((D7.out).setAbove HR.out (by show _<=w1.heap.size;omega) _).setAbove HR.out (by show _<=w1.heap.size;omega) _;have CC:Hid (Keeps R w ((w4.setCell (qa w1.heap.size 1) (.string nm)).setCell (qa w1.heap.size 0) (qi 1))):=((D9.out).set (by show _<=w1.heap.size;omega) _).set (by show _<=w1.heap.size;omega) _;have DH:Hid (((w4.setCell (qa w1.heap.size 1) (.string nm)).setCell (qa w1.heap.size 0) (qi 1)).heap[w.heap.size]? = some zc6):=(heap_set_ne (by show w.heap.size≠w1.heap.size;omega) _).trans ((heap_set_ne (by show w.heap.size≠w1.heap.size;omega) _).trans (Db.out))
   have DG:Hid (((w4.setCell (qa w1.heap.size 1) (.string nm)).setCell (qa w1.heap.size 0) (qi 1)).heap[w1.heap.size]? = some (zbx 1 nm (skB l zcu) 0)):=heap_set (heap_set (Cp.out) _) _
   have IQ:((w4.setCell (qa w1.heap.size 1) (.string nm)).setCell (qa w1.heap.size 0) (qi 1)).heap.size=w4.heap.size:=by simp only [vaq]
   obtain ⟨h0,h1,h2,h3,h4⟩:=zcj Cp.out
   have IZ:w1.heap.size<w4.heap.size:=by omega
   go_wp2_with fail;generalize (w4.setCell (qa w1.heap.size 1) (.string nm)).setCell (qa w1.heap.size 0) (qi 1)=w5 at *;clear h0 h1 h2 h3 h4 D7 D9 Db Cp;refine (zfk R cap _ a ts l4 tEq w5 (by omega) Dv.out (by decide)).mono ?_;rintro e w6 ⟨KK,⟨zs,rfl⟩ | ⟨zs,rfl,RD⟩⟩
   . exact ⟨rfl,CC.out.trans KK,Or.inl ⟨by rw [CH.out,if_neg (by simp [zs])],rfl⟩⟩
   have Dg:Hid (zbw l=(match pNum l4.tail with | none=>none | some (k,l2)=>if skB l2 zhj then some (⟨1,nm,skB l zcu,k⟩,l2.tail) else none)):=by show zbw l=_;rw [CH.out,if_pos zs]
   clear zs;have F2:Hid (Rd R a cap ts w6 l4.tail):=RD;have DA:Hid (Keeps R w w6):=CC.out.trans KK;have Fg:Hid (w6.heap[w.heap.size]? = some zc6):=(KK.block w.heap.size (by omega) (by omega)).trans DH.out;have Fd:Hid (w6.heap[w1.heap.size]? = some (zbx 1 nm (skB l zcu) 0)):=(KK.block w1.heap.size (by omega) (by omega)).trans DG.out;have Lp:=KK.size;clear RD KK Dv CC DH DG;go_wp2_with fail;refine (zg9 R cap a ts l4.tail w6 F2.out).mono ?_;rintro e w7 ⟨KK,⟨hn,rfl⟩ | ⟨num,l7,v,hn,rfl,rfl,RD⟩⟩
   . exact ⟨rfl,DA.out.trans KK,Or.inl ⟨by rw [Dg.out,hn],rfl⟩⟩
   have E0:Hid (zbw l=if skB l7 zhj then some (⟨1,nm,skB l zcu,num⟩,l7.tail) else none):=by show zbw l=_;rw [Dg.out,hn]
   clear hn;have F1:Hid (Rd R a cap ts w7 l7):=RD;have F9:Hid (Keeps R w w7):=DA.out.trans KK;have Ff:Hid (w7.heap[w.heap.size]? = some zc6):=(KK.block w.heap.size (by omega) (by omega)).trans Fg.out;have DF:Hid (w7.heap[w1.heap.size]? = some (zbx 1 nm (skB l zcu) 0)):=(KK.block w1.heap.size (by omega) (by omega)).trans Fd.out;have Ln:=KK.size;clear RD KK F2 DA Fg Fd;have FX:Hid (Rd R a cap ts (w7.setCell (qa w1.heap.size 3) (qi num)) l7):=(F1.out).setAbove HR.out (by show _<=w1.heap.size;omega) _;have Ef:Hid (Keeps R w (w7.setCell (qa w1.heap.size 3) (qi num))):=(F9.out).set (by show _<=w1.heap.size;omega) _;have G8:Hid ((w7.setCell (qa w1.heap.size 3) (qi num)).heap[w.heap.size]? = some zc6):=(heap_set_ne (by show w.heap.size≠w1.heap.size;omega) _).trans (Ff.out);have G7:Hid ((w7.setCell (qa w1.heap.size 3) (qi num)).heap[w1.heap.size]? = some (zbx 1 nm (skB l zcu) num)):=heap_set (DF.out) _
   have Lm:(w7.setCell (qa w1.heap.size 3) (qi num)).heap.size=w7.heap.size:=by simp only [vaq]
   obtain ⟨h0,h1,h2,h3,h4⟩:=zcj DF.out
   have Lz:w1.heap.size<w7.heap.size:=by omega
   go_wp2_with fail;generalize w7.setCell (qa w1.heap.size 3) (qi num)=w8 at *;clear h0 h1 h2 h3 h4 F1 F9 Ff DF;refine (zfk R cap _ a ts l7 zhj w8 (by omega) FX.out (by decide)).mono ?_;rintro e z1 ⟨ZK,⟨zs,rfl⟩ | ⟨zs,rfl,ZR⟩⟩
   . exact ⟨rfl,Ef.out.trans ZK,Or.inl ⟨by rw [E0.out,if_neg (by simp [zs])],rfl⟩⟩
   have zz:=ZK.size
   have HP:Hid (zbw l=some (⟨1,nm,skB l zcu,num⟩,l7.tail)):=by show zbw l=_;rw [E0.out,if_pos zs]
   have ZB:Hid (z1.heap[w.heap.size]? = some zc6):=(ZK.block w.heap.size (by omega) (by omega)).trans G8.out;have ZC:Hid (z1.heap[w1.heap.size]? = some (zbx 1 nm (skB l zcu) num)):=(ZK.block w1.heap.size (by omega) (by omega)).trans G7.out;obtain ⟨h0,h1,h2,h3,h4⟩:=zcj ZB.out;obtain ⟨g0,g1,g2,g3,g4⟩:=zcj ZC.out
   have HF:Hid (zd4 R a cap ts w (zbw l) zzh (.returned (.agg #[qi 1,.string nm,.bool (skB l zcu),qi num])) (set4 z1 w.heap.size (qi 1) (.string nm) (.bool (skB l zcu)) (qi num))):=
    ⟨(Ef.out.trans ZK).set4 (vaa _) _ _ _ _,Or.inr ⟨⟨1,nm,skB l zcu,num⟩,l7.tail,_,HP.out,rfl,⟨rfl,B5⟩,ZR.set4 HR.out (vaa _) _ _ _ _⟩⟩
   clear ZK ZR zs;go_wp2_with fail;refine bodyPost_ret (v:=.agg #[qi 1,.string nm,.bool (skB l zcu),qi num]) (by simp [results,Tryz.results199,go_sem,h0,h1,h2,h3]) rfl HF.out
 . have D8:Hid (Rd R a cap ts w3 (zhw l).tail):=RD
   clear RD;go_wp2_with fail;refine (zbv R cap a ts (zhw l).tail w3 D8.out).mono ?_;rintro e w4 ⟨KK,⟨hn,rfl⟩ | ⟨nm,l4,v,hn,rfl,⟨rfl,B5⟩,RD⟩⟩
   . exact ⟨rfl,CD.out.trans KK,Or.inl ⟨by unfold zbw;rw [if_neg (by simp [s1]),if_pos s2,hn],rfl⟩⟩
   have CH:Hid (zbw l=if skB l4 zhj then some (⟨2,nm,skB l zcu,0⟩,l4.tail) else none):=by show zbw l=_;unfold zbw;rw [if_neg (by simp [s1]),if_pos s2,hn]<;>rfl
   clear hn;have D7:Hid (Rd R a cap ts w4 l4):=RD;have D9:Hid (Keeps R w w4):=CD.out.trans KK;have Db:Hid (w4.heap[w.heap.size]? = some zc6):=(KK.block w.heap.size (by omega) (by omega)).trans El.out;have Cp:Hid (w4.heap[w1.heap.size]? = some (zbx 0 ⟨#[]⟩ (skB l zcu) 0)):=(KK.block w1.heap.size (by omega) (by omega)).trans Ek.out;have IR:=KK.size;clear RD KK D8 CD El Ek;have Dv:Hid (Rd R a cap ts ((w4.setCell (qa w1.heap.size 1) (.string nm)).setCell (qa w1.heap.size 0) (qi 2)) l4):=((D7.out).setAbove HR.out (by show _<=w1.heap.size;omega) _).setAbove HR.out (by show _<=w1.heap.size;omega) _;have CC:Hid (Keeps R w ((w4.setCell (qa w1.heap.size 1) (.string nm)).setCell (qa w1.heap.size 0) (qi 2))):=((D9.out).set (by show _<=w1.heap.size;omega) _).set (by show _<=w1.heap.size;omega) _;have DH:Hid (((w4.setCell (qa w1.heap.size 1) (.string nm)).setCell (qa w1.heap.size 0) (qi 2)).heap[w.heap.size]? = some zc6):=(heap_set_ne (by show w.heap.size≠w1.heap.size;omega) _).trans ((heap_set_ne (by show w.heap.size≠w1.heap.size;omega) _).trans (Db.out))
   have DG:Hid (((w4.setCell (qa w1.heap.size 1) (.string nm)).setCell (qa w1.heap.size 0) (qi 2)).heap[w1.heap.size]? = some (zbx 2 nm (skB l zcu) 0)):=heap_set (heap_set (Cp.out) _) _
   have IQ:((w4.setCell (qa w1.heap.size 1) (.string nm)).setCell (qa w1.heap.size 0) (qi 2)).heap.size=w4.heap.size:=by simp only [vaq]
   obtain ⟨h0,h1,h2,h3,h4⟩:=zcj Cp.out
   have IZ:w1.heap.size<w4.heap.size:=by omega
   go_wp2_with fail;generalize (w4.setCell (qa w1.heap.size 1) (.string nm)).setCell (qa w1.heap.size 0) (qi 2)=w5 at *;clear h0 h1 h2 h3 h4 D7 D9 Db Cp;refine (zfk R cap _ a ts l4 zhj w5 (by omega) Dv.out (by decide)).mono ?_;rintro e z1 ⟨ZK,⟨zs,rfl⟩ | ⟨zs,rfl,ZR⟩⟩
   . exact ⟨rfl,CC.out.trans ZK,Or.inl ⟨by rw [CH.out,if_neg (by simp [zs])],rfl⟩⟩
   have zz:=ZK.size
   have HP:Hid (zbw l=some (⟨2,nm,skB l zcu,0⟩,l4.tail)):=by show zbw l=_;rw [CH.out,if_pos zs]
   have ZB:Hid (z1.heap[w.heap.size]? = some zc6):=(ZK.block w.heap.size (by omega) (by omega)).trans DH.out;have ZC:Hid (z1.heap[w1.heap.size]? = some (zbx 2 nm (skB l zcu) 0)):=(ZK.block w1.heap.size (by omega) (by omega)).trans DG.out;obtain ⟨h0,h1,h2,h3,h4⟩:=zcj ZB.out;obtain ⟨g0,g1,g2,g3,g4⟩:=zcj ZC.out
   have HF:Hid (zd4 R a cap ts w (zbw l) zzh (.returned (.agg #[qi 2,.string nm,.bool (skB l zcu),qi 0])) (set4 z1 w.heap.size (qi 2) (.string nm) (.bool (skB l zcu)) (qi 0))):=
    ⟨(CC.out.trans ZK).set4 (vaa _) _ _ _ _,Or.inr ⟨⟨2,nm,skB l zcu,0⟩,l4.tail,_,HP.out,rfl,⟨rfl,B5⟩,ZR.set4 HR.out (vaa _) _ _ _ _⟩⟩
   clear ZK ZR zs;go_wp2_with fail;refine bodyPost_ret (v:=.agg #[qi 2,.string nm,.bool (skB l zcu),qi 0]) (by simp [results,Tryz.results199,go_sem,h0,h1,h2,h3]) rfl HF.out
 . have D8:Hid (Rd R a cap ts w3 (zhw l).tail):=RD
   clear RD;go_wp2_with fail;refine (zbv R cap a ts (zhw l).tail w3 D8.out).mono ?_;rintro e w4 ⟨KK,⟨hn,rfl⟩ | ⟨nm,l4,v,hn,rfl,⟨rfl,B5⟩,RD⟩⟩
   . exact ⟨rfl,CD.out.trans KK,Or.inl ⟨by unfold zbw;rw [if_neg (by simp [s1]),if_neg (by simp [s2]),if_pos s3,hn],rfl⟩⟩
   have CH:Hid (zbw l=if skB l4 tLs then (match pNum l4.tail with | none=>none | some (k,l2)=>if skB l2 tRs then (if skB l2.tail zhj then some (⟨3,nm,skB l zcu,k⟩,l2.tail.tail) else none) else none) else none):=by show zbw l=_;unfold zbw;rw [if_neg (by simp [s1]),if_neg (by simp [s2]),if_pos s3,hn]<;>rfl
   clear hn;have D7:Hid (Rd R a cap ts w4 l4):=RD;have D9:Hid (Keeps R w w4):=CD.out.trans KK;have Db:Hid (w4.heap[w.heap.size]? = some zc6):=(KK.block w.heap.size (by omega) (by omega)).trans El.out;have Cp:Hid (w4.heap[w1.heap.size]? = some (zbx 0 ⟨#[]⟩ (skB l zcu) 0)):=(KK.block w1.heap.size (by omega) (by omega)).trans Ek.out;have IR:=KK.size;clear RD KK D8 CD El Ek;have Dv:Hid (Rd R a cap ts ((w4.setCell (qa w1.heap.size 1) (.string nm)).setCell (qa w1.heap.size 0) (qi 3)) l4):=((D7.out).setAbove HR.out (by show _<=w1.heap.size;omega) _).setAbove HR.out (by show _<=w1.heap.size;omega) _;have CC:Hid (Keeps R w ((w4.setCell (qa w1.heap.size 1) (.string nm)).setCell (qa w1.heap.size 0) (qi 3))):=((D9.out).set (by show _<=w1.heap.size;omega) _).set (by show _<=w1.heap.size;omega) _;have DH:Hid (((w4.setCell (qa w1.heap.size 1) (.string nm)).setCell (qa w1.heap.size 0) (qi 3)).heap[w.heap.size]? = some zc6):=(heap_set_ne (by show w.heap.size≠w1.heap.size;omega) _).trans ((heap_set_ne (by show w.heap.size≠w1.heap.size;omega) _).trans (Db.out))
   have DG:Hid (((w4.setCell (qa w1.heap.size 1) (.string nm)).setCell (qa w1.heap.size 0) (qi 3)).heap[w1.heap.size]? = some (zbx 3 nm (skB l zcu) 0)):=heap_set (heap_set (Cp.out) _) _
   have IQ:((w4.setCell (qa w1.heap.size 1) (.string nm)).setCell (qa w1.heap.size 0) (qi 3)).heap.size=w4.heap.size:=by simp only [vaq]
   obtain ⟨h0,h1,h2,h3,h4⟩:=zcj Cp.out
   have IZ:w1.heap.size<w4.heap.size:=by omega
   go_wp2_with fail;generalize (w4.setCell (qa w1.heap.size 1) (.string nm)).setCell (qa w1.heap.size 0) (qi 3)=w5 at *;clear h0 h1 h2 h3 h4 D7 D9 Db Cp;refine (zfk R cap _ a ts l4 tLs w5 (by omega) Dv.out (by decide)).mono ?_;rintro e w6 ⟨KK,⟨zs,rfl⟩ | ⟨zs,rfl,RD⟩⟩
   . exact ⟨rfl,CC.out.trans KK,Or.inl ⟨by rw [CH.out,if_neg (by simp [zs])],rfl⟩⟩
   have Dg:Hid (zbw l=(match pNum l4.tail with | none=>none | some (k,l2)=>if skB l2 tRs then (if skB l2.tail zhj then some (⟨3,nm,skB l zcu,k⟩,l2.tail.tail) else none) else none)):=by show zbw l=_;rw [CH.out,if_pos zs]
   clear zs;have F2:Hid (Rd R a cap ts w6 l4.tail):=RD;have DA:Hid (Keeps R w w6):=CC.out.trans KK;have Fg:Hid (w6.heap[w.heap.size]? = some zc6):=(KK.block w.heap.size (by omega) (by omega)).trans DH.out;have Fd:Hid (w6.heap[w1.heap.size]? = some (zbx 3 nm (skB l zcu) 0)):=(KK.block w1.heap.size (by omega) (by omega)).trans DG.out;have Lp:=KK.size;clear RD KK Dv CC DH DG;go_wp2_with fail;refine (zg9 R cap a ts l4.tail w6 F2.out).mono ?_;rintro e w7 ⟨KK,⟨hn,rfl⟩ | ⟨num,l7,v,hn,rfl,rfl,RD⟩⟩
   . exact ⟨rfl,DA.out.trans KK,Or.inl ⟨by rw [Dg.out,hn],rfl⟩⟩
   have E0:Hid (zbw l=if skB l7 tRs then (if skB l7.tail zhj then some (⟨3,nm,skB l zcu,num⟩,l7.tail.tail) else none) else none):=by show zbw l=_;rw [Dg.out,hn]
   clear hn;have F1:Hid (Rd R a cap ts w7 l7):=RD;have F9:Hid (Keeps R w w7):=DA.out.trans KK;have Ff:Hid (w7.heap[w.heap.size]? = some zc6):=(KK.block w.heap.size (by omega) (by omega)).trans Fg.out;have DF:Hid (w7.heap[w1.heap.size]? = some (zbx 3 nm (skB l zcu) 0)):=(KK.block w1.heap.size (by omega) (by omega)).trans Fd.out;have Ln:=KK.size;clear RD KK F2 DA Fg Fd;have FX:Hid (Rd R a cap ts (w7.setCell (qa w1.heap.size 3) (qi num)) l7):=(F1.out).setAbove HR.out (by show _<=w1.heap.size;omega) _;have Ef:Hid (Keeps R w (w7.setCell (qa w1.heap.size 3) (qi num))):=(F9.out).set (by show _<=w1.heap.size;omega) _;have G8:Hid ((w7.setCell (qa w1.heap.size 3) (qi num)).heap[w.heap.size]? = some zc6):=(heap_set_ne (by show w.heap.size≠w1.heap.size;omega) _).trans (Ff.out);have G7:Hid ((w7.setCell (qa w1.heap.size 3) (qi num)).heap[w1.heap.size]? = some (zbx 3 nm (skB l zcu) num)):=heap_set (DF.out) _
   have Lm:(w7.setCell (qa w1.heap.size 3) (qi num)).heap.size=w7.heap.size:=by simp only [vaq]
   obtain ⟨h0,h1,h2,h3,h4⟩:=zcj DF.out
   have Lz:w1.heap.size<w7.heap.size:=by omega
   go_wp2_with fail;generalize w7.setCell (qa w1.heap.size 3) (qi num)=w8 at *;clear h0 h1 h2 h3 h4 F1 F9 Ff DF;refine (zfk R cap _ a ts l7 tRs w8 (by omega) FX.out (by decide)).mono ?_;rintro e w9 ⟨KK,⟨zs,rfl⟩ | ⟨zs,rfl,RD⟩⟩
   . exact ⟨rfl,Ef.out.trans KK,Or.inl ⟨by rw [E0.out,if_neg (by simp [zs])],rfl⟩⟩
   have P3:Hid (zbw l=if skB l7.tail zhj then some (⟨3,nm,skB l zcu,num⟩,l7.tail.tail) else none):=by show zbw l=_;rw [E0.out,if_pos zs]
   clear zs;have MQ:Hid (Rd R a cap ts w9 l7.tail):=RD;have K5:Hid (Keeps R w w9):=Ef.out.trans KK;have Ns:Hid (w9.heap[w.heap.size]? = some zc6):=(KK.block w.heap.size (by omega) (by omega)).trans G8.out;have Nq:Hid (w9.heap[w1.heap.size]? = some (zbx 3 nm (skB l zcu) num)):=(KK.block w1.heap.size (by omega) (by omega)).trans G7.out;have PK:=KK.size;clear RD KK FX Ef G8 G7;go_wp2_with fail;refine (zfk R cap _ a ts l7.tail zhj w9 (by omega) MQ.out (by decide)).mono ?_;rintro e z1 ⟨ZK,⟨zs,rfl⟩ | ⟨zs,rfl,ZR⟩⟩
   . exact ⟨rfl,K5.out.trans ZK,Or.inl ⟨by rw [P3.out,if_neg (by simp [zs])],rfl⟩⟩
   have zz:=ZK.size
   have HP:Hid (zbw l=some (⟨3,nm,skB l zcu,num⟩,l7.tail.tail)):=by show zbw l=_;rw [P3.out,if_pos zs]
   have ZB:Hid (z1.heap[w.heap.size]? = some zc6):=(ZK.block w.heap.size (by omega) (by omega)).trans Ns.out;have ZC:Hid (z1.heap[w1.heap.size]? = some (zbx 3 nm (skB l zcu) num)):=(ZK.block w1.heap.size (by omega) (by omega)).trans Nq.out;obtain ⟨h0,h1,h2,h3,h4⟩:=zcj ZB.out;obtain ⟨g0,g1,g2,g3,g4⟩:=zcj ZC.out
   have HF:Hid (zd4 R a cap ts w (zbw l) zzh (.returned (.agg #[qi 3,.string nm,.bool (skB l zcu),qi num])) (set4 z1 w.heap.size (qi 3) (.string nm) (.bool (skB l zcu)) (qi num))):=
    ⟨(K5.out.trans ZK).set4 (vaa _) _ _ _ _,Or.inr ⟨⟨3,nm,skB l zcu,num⟩,l7.tail.tail,_,HP.out,rfl,⟨rfl,B5⟩,ZR.set4 HR.out (vaa _) _ _ _ _⟩⟩
   clear ZK ZR zs;go_wp2_with fail;refine bodyPost_ret (v:=.agg #[qi 3,.string nm,.bool (skB l zcu),qi num]) (by simp [results,Tryz.results199,go_sem,h0,h1,h2,h3]) rfl HF.out
end Go.Proofs.YtndkhgakfodldaaGreatDoor
