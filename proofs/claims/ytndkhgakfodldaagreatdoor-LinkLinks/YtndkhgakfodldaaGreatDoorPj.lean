import Derived.Test.YtndkhgakfodldaaGreatDoorPa
namespace Go.Proofs.YtndkhgakfodldaaGreatDoor
set_option maxRecDepth 100000
set_option maxHeartbeats 3200000
open Go.RowKit Go.Shelf
theorem ztd (R cap:Nat) (a:OA) (ts:List Tk) (f:Nat) (IH:StC R cap a ts f) (l:List Tk) (w:World) (h:Rd R a cap ts w l) (hf:3*l.length<=f) :
 qc 282 #[pq R 0] w (zeg R a cap ts w (zcu f l) (zgp (w.heap.size<=·))):=by
 have HI:Hid (StC R cap a ts f):=IH;have HR:Hid (Rd R a cap ts w l):=h;have CO:=h.lt;clear IH h;go_enter Tryz.func282,Tryz.ntmps282;go_wp2_with fail;refine (ze6 R cap a ts l _ (HR.out.alloc _)).mono ?_;rintro e w1 ⟨AL,⟨hn,rfl⟩ | ⟨x,l1,v,hn,rfl,⟨a1,c1,rfl,AP,AG,hx3⟩,AY⟩⟩
 . exact ⟨rfl,((Keeps.refl R w).alloc _).trans AL,Or.inl ⟨by unfold zcu;rw [hn],rfl⟩⟩
 have Ao:=AL.size;simp at Ao;have CJ:=zpo hn;have F0:Hid (pX l=some (x,l1)):=hn
 have AF:Hid (EAt ((w1.alloc (kzE x.op x.n x.mod x.name a1 x.args.length c1))) (w.heap.size+1<=·) (some (qa w1.heap.size 0)) 1 (zbr [x])):=
  zlk (t:=174) (cap:=c1) AP AG hx3 (((zad.refl w1 _).alloc _).to aA) (heap_newP _ _) Ao
 have B3:Hid (Keeps R w w1):=((Keeps.refl R w).alloc _).trans AL;have BP:Hid (Rd R a cap ts w1 l1):=AY;have A8:Hid (w1.heap[w.heap.size]? = some za2):=(AL.block w.heap.size aA ae).trans (heap_newP _ _);clear hn AP AG hx3 AL AY;go_wp2_with fail;refine (HI.out.block l1 _ ((BP.out.alloc _).alloc _) ae).mono ?_;rintro e w2 ⟨AN,⟨hn,rfl⟩ | ⟨b,l2,v,hn,rfl,⟨a2,c2,rfl,AG⟩,An⟩⟩
 . exact ⟨rfl,((B3.out.alloc _).alloc _).trans AN,Or.inl ⟨by unfold zcu;rw [F0.out];simp only [];rw [hn],rfl⟩⟩
 have Ay:=AN.size;simp at Ay;have Ch:=zgr _ _ _ _ hn
 have BQ:Hid (zcu f l=if skB l2 ztp then (match zby f l2.tail with | none=>none | some (o,l3)=>if o.length=0 then none else some (.mk 4 ⟨#[]⟩ ⟨#[]⟩ [x] b o,l3))
  else some (.mk 4 ⟨#[]⟩ ⟨#[]⟩ [x] b [],l2)):=by show zcu f l=_;unfold zcu;rw [F0.out];simp only [];rw [hn];rfl
 have BX:Hid (Keeps R w w2):=((B3.out.alloc _).alloc _).trans AN;have Ad:Hid (w2.heap[w.heap.size]? = some za2):=(AN.block w.heap.size aF ae).trans (zab (zab A8.out))
 have Bl:Hid (w2.heap[w1.heap.size+1]? = some (.cells #[qi 4,.string ⟨#[]⟩,.string ⟨#[]⟩,.slice (some (qa w1.heap.size 0)) 1 1,qs,qs] 176 (0,0))):=(AN.block (w1.heap.size+1) aA ae).trans (by
  have e:=heap_newP (w1.alloc (kzE x.op x.n x.mod x.name a1 x.args.length c1)) (kzB 4 ⟨#[]⟩ ⟨#[]⟩ (some (qa w1.heap.size 0)) 1 1 none 0 0 none 0 0)
  simpa using e)
 obtain ⟨h0,h1,h2,h3,h4,h5,h6⟩:=zao Bl.out
 have JQ:EAt w2 (w1.heap.size+2<=·) a2 b.length (zbs b):=by simpa using AG
 -- the arguments lie below that block, the body above it
 have QR:Hid (EAt (w2.setCell ⟨w1.heap.size+1,4,none⟩ (.slice a2 b.length c2)) (fun k=>w.heap.size+1<=k/\k≠w1.heap.size+1) (some (qa w1.heap.size 0)) 1 (zbr [x])):=by
  refine AF.out.moves ⟨aF,fun k CK E9=>?_⟩
  have Nh:k<w1.heap.size+1:=by simpa using CK
  exact ⟨⟨E9,ae⟩,(heap_set_ne (by show k≠w1.heap.size+1;omega) _).trans ((AN.block k aF ae).trans ((Below.refl _ _).alloc (vaa _) _ |>.block k aF))⟩
 have Mu:Hid (EAt (w2.setCell ⟨w1.heap.size+1,4,none⟩ (.slice a2 b.length c2)) (fun k=>w.heap.size+1<=k/\k≠w1.heap.size+1) a2 b.length (zbs b)):=
  JQ.moves ⟨aA,fun k CK E9=>⟨⟨ae,ae⟩,heap_set_ne (by show k≠w1.heap.size+1;omega) _⟩⟩
 have Aq:Hid (Rd R a cap ts (w2.setCell ⟨w1.heap.size+1,4,none⟩ (.slice a2 b.length c2)) l2):=An.setAbove HR.out eK _;have Ak:Hid (Keeps R w (w2.setCell ⟨w1.heap.size+1,4,none⟩ (.slice a2 b.length c2))):=BX.out.set eK _;have Af:Hid ((w2.setCell ⟨w1.heap.size+1,4,none⟩ (.slice a2 b.length c2)).heap[w.heap.size]? = some za2):=(heap_set_ne (by show w.heap.size≠w1.heap.size+1;omega) _).trans Ad.out;have BM:Hid ((w2.setCell ⟨w1.heap.size+1,4,none⟩ (.slice a2 b.length c2)).heap[w1.heap.size+1]? = some (.cells #[qi 4,.string ⟨#[]⟩,.string ⟨#[]⟩,.slice (some (qa w1.heap.size 0)) 1 1,.slice a2 b.length c2,qs] 176 (0,0))):=heap_set Bl.out _
 have BB:(w2.setCell ⟨w1.heap.size+1,4,none⟩ (.slice a2 b.length c2)).heap.size=w2.heap.size:=bx
 clear hn AN An AG JQ AF A8 Ad B3 BX BP F0;go_wp2_with fail;generalize w2.setCell ⟨w1.heap.size+1,4,none⟩ (.slice a2 b.length c2)=w3 at *;clear h0 h1 h2 h3 h4 h5 h6 Bl
 by_cases hs:skB l2 ztp=true
 . have CC:=zaj aq hs
   refine (zbn R cap a ts l2 ztp w3 aq Aq.out hs).mono ?_;rintro e w4 ⟨rfl,AU,Az⟩;have Db:=Az.size;go_wp2_with fail;refine (HI.out.block l2.tail w4 AU ae).mono ?_;rintro e w5 ⟨Ax,⟨hn,rfl⟩ | ⟨o,l5,v,hn,rfl,⟨a5,c5,rfl,hx5⟩,Bp⟩⟩
   . exact ⟨rfl,(Ak.out.trans Az).trans Ax,Or.inl ⟨by rw [BQ.out,if_pos hs,hn],rfl⟩⟩
   have Cf:=Ax.size;have CG:Hid (Keeps R w w5):=(Ak.out.trans Az).trans Ax;have At:Hid (w5.heap[w.heap.size]? = some za2):=(Ax.block w.heap.size ae ae).trans ((Az.block w.heap.size ae ae).trans Af.out);have C5:Hid (w5.heap[w1.heap.size+1]? = some (.cells #[qi 4,.string ⟨#[]⟩,.string ⟨#[]⟩,.slice (some (qa w1.heap.size 0)) 1 1,.slice a2 b.length c2,qs] 176 (0,0))):=(Ax.block (w1.heap.size+1) ae ae).trans ((Az.block (w1.heap.size+1) ae ae).trans BM.out);have Jg:zad w3 (fun k=>w.heap.size+1<=k/\k≠w1.heap.size+1) w5 (fun k=>w.heap.size+1<=k/\k≠w1.heap.size+1):=((zad.refl w3 _).keeps Az bW).keeps Ax bW;obtain ⟨h0,h1,h2,h3,h4,h5,h6⟩:=zao At.out;obtain ⟨g0,g1,g2,g3,g4,g5,g6⟩:=zao C5.out
   by_cases ho:o.length=0
   . have HP:Hid (zcu f l=none):=by show zcu f l=_;rw [BQ.out,if_pos hs,hn];simp only [];rw [if_pos ho]
     clear hn AU Az Bp Ax Jg hx5;go_wp2_with fail;exact ⟨rfl,CG.out.set eK _,Or.inl ⟨HP.out,rfl⟩⟩
   . have HP:Hid (zcu f l=some (.mk 4 ⟨#[]⟩ ⟨#[]⟩ [x] b o,l5)):=by show zcu f l=_;rw [BQ.out,if_pos hs,hn];simp only [];rw [if_neg ho]
     have HF:Hid (zeg R a cap ts w (zcu f l) (zgp (w.heap.size<=·)) (.returned (.agg #[qi 4,.string ⟨#[]⟩,.string ⟨#[]⟩,.slice (some (qa w1.heap.size 0)) 1 1,.slice a2 b.length c2,.slice a5 o.length c5])) (set6 (w5.setCell ⟨w1.heap.size+1,5,none⟩ (.slice a5 o.length c5)) w.heap.size (qi 4) (.string ⟨#[]⟩) (.string ⟨#[]⟩) (.slice (some (qa w1.heap.size 0)) 1 1) (.slice a2 b.length c2) (.slice a5 o.length c5))):=by
      have D2:zad w5 (fun k=>w.heap.size+1<=k/\k≠w1.heap.size+1) (set6 (w5.setCell ⟨w1.heap.size+1,5,none⟩ (.slice a5 o.length c5)) w.heap.size (qi 4) (.string ⟨#[]⟩) (.string ⟨#[]⟩) (.slice (some (qa w1.heap.size 0)) 1 1) (.slice a2 b.length c2) (.slice a5 o.length c5)) (w.heap.size<=·):=
       (((zad.refl w5 (fun k=>w.heap.size+1<=k/\k≠w1.heap.size+1)).set (p:=⟨w1.heap.size+1,5,none⟩) (by intro k _ hk;exact hk.2) (.slice a5 o.length c5)).set6 (b:=w.heap.size) bW (qi 4) (.string ⟨#[]⟩) (.string ⟨#[]⟩) (.slice (some (qa w1.heap.size 0)) 1 1) (.slice a2 b.length c2) (.slice a5 o.length c5)).trans ⟨vaa _,fun k _ hk=>⟨ae,rfl⟩⟩
      have MY:zad w5 (w4.heap.size<=·) w5 (fun k=>w.heap.size+1<=k/\k≠w1.heap.size+1):=⟨vaa _,fun k _ hk=>⟨⟨ae,ae⟩,rfl⟩⟩
      exact znx (s:=.mk 4 ⟨#[]⟩ ⟨#[]⟩ [x] b o) HP.out ((CG.out.set (p:=⟨w1.heap.size+1,5,none⟩) (by show w.heap.size<=w1.heap.size+1;omega) (.slice a5 o.length c5)).set6 (b:=w.heap.size) (vaa _) _ _ _ _ _ _) ((Bp.setAbove HR.out (p:=⟨w1.heap.size+1,5,none⟩) (by show w.heap.size<=w1.heap.size+1;omega) (.slice a5 o.length c5)).set6 HR.out (b:=w.heap.size) (vaa _) _ _ _ _ _ _) (vaf _) (vaf _) (QR.out.moves (Jg.trans D2)) (Mu.out.moves (Jg.trans D2)) ((hx5.moves MY).moves D2)
     clear hn AU Az Bp Ax Jg hx5;go_wp2_with fail;refine bodyPost_ret (v:=.agg #[qi 4,.string ⟨#[]⟩,.string ⟨#[]⟩,.slice (some (qa w1.heap.size 0)) 1 1,.slice a2 b.length c2,.slice a5 o.length c5]) dJ rfl HF.out
 . refine (zb7 R cap a ts l2 ztp w3 Aq.out (by simpa using hs)).mono ?_
   rintro e w4 ⟨rfl,AU,Az⟩;have Db:=Az.size
   have HP:Hid (zcu f l=some (.mk 4 ⟨#[]⟩ ⟨#[]⟩ [x] b [],l2)):=by show zcu f l=_;rw [BQ.out,if_neg hs]
   have Ap:Hid (w4.heap[w.heap.size]? = some za2):=(Az.block w.heap.size ae ae).trans Af.out;have Df:Hid (w4.heap[w1.heap.size+1]? = some (.cells #[qi 4,.string ⟨#[]⟩,.string ⟨#[]⟩,.slice (some (qa w1.heap.size 0)) 1 1,.slice a2 b.length c2,qs] 176 (0,0))):=(Az.block (w1.heap.size+1) ae ae).trans BM.out
   have HF:Hid (zeg R a cap ts w (zcu f l) (zgp (w.heap.size<=·)) (.returned (.agg #[qi 4,.string ⟨#[]⟩,.string ⟨#[]⟩,.slice (some (qa w1.heap.size 0)) 1 1,.slice a2 b.length c2,qs])) (set6 w4 w.heap.size (qi 4) (.string ⟨#[]⟩) (.string ⟨#[]⟩) (.slice (some (qa w1.heap.size 0)) 1 1) (.slice a2 b.length c2) (qs))):=by
    have D2:zad w3 (fun k=>w.heap.size+1<=k/\k≠w1.heap.size+1) (set6 w4 w.heap.size (qi 4) (.string ⟨#[]⟩) (.string ⟨#[]⟩) (.slice (some (qa w1.heap.size 0)) 1 1) (.slice a2 b.length c2) (qs)) (w.heap.size<=·):=
     (((zad.refl w3 (fun k=>w.heap.size+1<=k/\k≠w1.heap.size+1)).keeps Az bW).set6 (b:=w.heap.size) bW (qi 4) (.string ⟨#[]⟩) (.string ⟨#[]⟩) (.slice (some (qa w1.heap.size 0)) 1 1) (.slice a2 b.length c2) (qs)).trans ⟨vaa _,fun k _ hk=>⟨ae,rfl⟩⟩
    exact znx (s:=.mk 4 ⟨#[]⟩ ⟨#[]⟩ [x] b []) HP.out ((Ak.out.trans Az).set6 (b:=w.heap.size) (vaa _) _ _ _ _ _ _) (AU.set6 HR.out (b:=w.heap.size) (vaa _) _ _ _ _ _ _) (vaf _) (vaf _) (QR.out.moves D2) (Mu.out.moves D2) (Or.inl rfl)
   obtain ⟨h0,h1,h2,h3,h4,h5,h6⟩:=zao Ap.out;obtain ⟨g0,g1,g2,g3,g4,g5,g6⟩:=zao Df.out;clear AU Az;go_wp2_with fail;refine bodyPost_ret (v:=.agg #[qi 4,.string ⟨#[]⟩,.string ⟨#[]⟩,.slice (some (qa w1.heap.size 0)) 1 1,.slice a2 b.length c2,qs]) dJ rfl HF.out
theorem zz3 (R cap:Nat) (a:OA) (ts:List Tk) (f:Nat) (IH:StC R cap a ts f) (l:List Tk) (w:World) (h:Rd R a cap ts w l) (hf:3*l.length+1<=f+1) :
 qc 254 #[pq R 0] w (zeg R a cap ts w (zcm (f+1) l) (zgp (w.heap.size<=·))):=by
 have HI:Hid (StC R cap a ts f):=IH;have HR:Hid (Rd R a cap ts w l):=h;have CO:=h.lt;clear IH h;go_enter Tryz.func254,Tryz.ntmps254;go_wp2_with fail
 obtain ⟨w0,ER⟩:∃ w0,w0=w.alloc za2:=⟨_,rfl⟩
 have IM:Hid (Rd R a cap ts w0 l):=by rw [ER];exact HR.out.alloc _
 have GL:Hid (Keeps R w w0):=by rw [ER];exact (Keeps.refl R w).alloc _
 have Aw:Hid (w0.heap[w.heap.size]? = some za2):=by rw [ER];exact heap_newP _ _
 have Bx:w.heap.size+1<=w0.heap.size:=by rw [ER];simp
 rw [← ER];clear ER
 by_cases E3:skB l tIf=true
 . have CJ:=zaj aq E3
   refine (zbn R cap a ts l tIf w0 aq IM.out E3).mono ?_;rintro e u1 ⟨rfl,KR1,KK1⟩;have MC:=KK1.size;have KB1:Hid (u1.heap[w.heap.size]? = some za2):=(KK1.block w.heap.size ae ae).trans Aw.out;go_wp2_with fail;refine (ztd R cap a ts f HI.out l.tail u1 KR1 ae).mono ?_;rintro e u2 ⟨KK2,⟨hn,rfl⟩ | ⟨s,l2,v,hn,rfl,⟨a1,c1,a2,c2,a3,c3,rfl,AP,AG,hx3,hx4,hx5⟩,KR2⟩⟩
   . exact ⟨rfl,(GL.out.trans KK1).trans KK2,Or.inl ⟨by rw [zu8 E3,hn],rfl⟩⟩
   have KB2:Hid (u2.heap[w.heap.size]? = some za2):=(KK2.block w.heap.size ae ae).trans KB1.out;obtain ⟨h0,h1,h2,h3,h4,h5,h6⟩:=zao KB2.out
   have HF:Hid (zeg R a cap ts w (zcm (f+1) l) (zgp (w.heap.size<=·)) (.returned (.agg #[qi s.op,.string s.mod,.string s.name,.slice a1 s.args.length c1,.slice a2 s.body.length c2,.slice a3 s.other.length c3])) (set6 u2 w.heap.size (qi s.op) (.string s.mod) (.string s.name) (.slice a1 s.args.length c1) (.slice a2 s.body.length c2) (.slice a3 s.other.length c3))):=
    st_end (s:=s) HR.out (by rw [zu8 E3,hn]) ((GL.out.trans KK1).trans KK2) KR2 AP AG (lo:=u1.heap.size) hx3 hx4 hx5 ae
   clear hn KK2 KR2 KK1 KR1 AP AG hx3 hx4 hx5;exact g7
 refine (zb7 R cap a ts l tIf w0 IM.out (by simpa using E3)).mono ?_;rintro e w1 ⟨rfl,AY,AL⟩;have BP:Hid (Rd R a cap ts w1 l):=AY;have B3:Hid (Keeps R w w1):=GL.out.trans AL;have A8:Hid (w1.heap[w.heap.size]? = some za2):=(AL.block w.heap.size ae ae).trans Aw.out;have Ao:=AL.size
 have Ec:skB l tIf=false:=by simpa using E3
 clear AY AL IM GL Aw E3;go_wp2_with fail
 by_cases AA:skB l zhl=true
 . have Ch:=zaj aq AA
   refine (zbn R cap a ts l zhl w1 aq BP.out AA).mono ?_;rintro e u1 ⟨rfl,KR1,KK1⟩;have MC:=KK1.size;have KB1:Hid (u1.heap[w.heap.size]? = some za2):=(KK1.block w.heap.size ae ae).trans A8.out;go_wp2_with fail;refine (ze6 R cap a ts l.tail u1 KR1).mono ?_;rintro e u2 ⟨KK2,⟨hn,rfl⟩ | ⟨x,l2,v,hn,rfl,⟨a2,c2,rfl,AP,AG,hx3⟩,KR2⟩⟩
   . exact ⟨rfl,(B3.out.trans KK1).trans KK2,Or.inl ⟨by rw [zhx Ec AA,hn],rfl⟩⟩
   have JJ:=KK2.size;have TL:=zpo hn;have KB2:Hid (u2.heap[w.heap.size]? = some za2):=(KK2.block w.heap.size ae ae).trans KB1.out;have HN:Hid (pX l.tail=some (x,l2)):=hn
   have AF:Hid (EAt (u2.alloc (kzE x.op x.n x.mod x.name a2 x.args.length c2)) (w.heap.size+1<=·) (some (qa u2.heap.size 0)) 1 (zbr [x])):=
    zlk (t:=174) (cap:=c2) AP AG hx3 (((zad.refl u2 _).alloc _).to ae) (heap_newP _ _) ae
   have KR2':Hid (Rd R a cap ts u2 l2):=KR2;have KK2':Hid (Keeps R w u2):=(B3.out.trans KK1).trans KK2;clear hn AP AG hx3 KR2 KK2 KR1 KK1 KB1;go_wp2_with fail;refine (HI.out.block l2 _ ((KR2'.out.alloc _).alloc _) ae).mono ?_;rintro e u3 ⟨KK3,⟨hn,rfl⟩ | ⟨b,l3,v,hn,rfl,⟨a3,c3,rfl,hx3⟩,KR3⟩⟩
   . exact ⟨rfl,((KK2'.out.alloc _).alloc _).trans KK3,Or.inl ⟨by rw [zhx Ec AA,HN.out];simp only [];rw [hn],rfl⟩⟩
   have J8:=KK3.size;simp at J8
   have HP:Hid (zcm (f+1) l=some (.mk 5 ⟨#[]⟩ ⟨#[]⟩ [x] b [],l3)):=by show zcm (f+1) l=_;rw [zhx Ec AA,HN.out];simp only [];rw [hn]
   have KB3:Hid (u3.heap[w.heap.size]? = some za2):=(KK3.block w.heap.size aF ae).trans (zab (zab KB2.out))
   have KC3:Hid (u3.heap[u2.heap.size+1]? = some (.cells #[qi 5,.string ⟨#[]⟩,.string ⟨#[]⟩,.slice (some (qa u2.heap.size 0)) 1 1,qs,qs] 176 (0,0))):=(KK3.block (u2.heap.size+1) aA ae).trans (by
    have e:=heap_newP (u2.alloc (kzE x.op x.n x.mod x.name a2 x.args.length c2)) (kzB 5 ⟨#[]⟩ ⟨#[]⟩ (some (qa u2.heap.size 0)) 1 1 none 0 0 none 0 0)
    simpa using e)
   obtain ⟨h0,h1,h2,h3,h4,h5,h6⟩:=zao KB3.out;obtain ⟨g0,g1,g2,g3,g4,g5,g6⟩:=zao KC3.out
   have JP:EAt u3 (u2.heap.size+2<=·) a3 b.length (zbs b):=by simpa using hx3
   have HF:Hid (zeg R a cap ts w (zcm (f+1) l) (zgp (w.heap.size<=·)) (.returned (.agg #[qi 5,.string ⟨#[]⟩,.string ⟨#[]⟩,.slice (some (qa u2.heap.size 0)) 1 1,.slice a3 b.length c3,qs])) (set6 (u3.setCell ⟨u2.heap.size+1,4,none⟩ (.slice a3 b.length c3)) w.heap.size (qi 5) (.string ⟨#[]⟩) (.string ⟨#[]⟩) (.slice (some (qa u2.heap.size 0)) 1 1) (.slice a3 b.length c3) (qs))):=by
    have D2:zad u3 (fun k=>w.heap.size+1<=k/\k≠u2.heap.size+1) (set6 (u3.setCell ⟨u2.heap.size+1,4,none⟩ (.slice a3 b.length c3)) w.heap.size (qi 5) (.string ⟨#[]⟩) (.string ⟨#[]⟩) (.slice (some (qa u2.heap.size 0)) 1 1) (.slice a3 b.length c3) (qs)) (w.heap.size<=·):=
     (((zad.refl u3 (fun k=>w.heap.size+1<=k/\k≠u2.heap.size+1)).set (p:=⟨u2.heap.size+1,4,none⟩) (by intro k _ hk;exact hk.2) (.slice a3 b.length c3)).set6 (b:=w.heap.size) bW (qi 5) (.string ⟨#[]⟩) (.string ⟨#[]⟩) (.slice (some (qa u2.heap.size 0)) 1 1) (.slice a3 b.length c3) (qs)).trans ⟨vaa _,fun k _ hk=>⟨ae,rfl⟩⟩
    have MY:zad u3 (u2.heap.size+2<=·) u3 (fun k=>w.heap.size+1<=k/\k≠u2.heap.size+1):=⟨vaa _,fun k _ hk=>⟨⟨ae,ae⟩,rfl⟩⟩
    have Jg:zad (u2.alloc (kzE x.op x.n x.mod x.name a2 x.args.length c2)) (w.heap.size+1<=·) u3 (fun k=>w.heap.size+1<=k/\k≠u2.heap.size+1):=by
     refine ⟨aF,fun k CK E9=>?_⟩
     have Nh:k<u2.heap.size+1:=by simpa using CK
     exact ⟨⟨E9,ae⟩,(KK3.block k aF ae).trans ((Below.refl _ _).alloc (vaa _) _ |>.block k aF)⟩
    exact znx (s:=.mk 5 ⟨#[]⟩ ⟨#[]⟩ [x] b []) HP.out (((((KK2'.out.alloc _).alloc _).trans KK3).set (p:=⟨u2.heap.size+1,4,none⟩) (by show w.heap.size<=u2.heap.size+1;omega) (.slice a3 b.length c3)).set6 (b:=w.heap.size) (vaa _) _ _ _ _ _ _) ((KR3.setAbove HR.out (p:=⟨u2.heap.size+1,4,none⟩) (by show w.heap.size<=u2.heap.size+1;omega) (.slice a3 b.length c3)).set6 HR.out (b:=w.heap.size) (vaa _) _ _ _ _ _ _) (vaf _) (vaf _) (AF.out.moves (Jg.trans D2)) ((JP.moves MY).moves D2) (Or.inl rfl)
   clear hn KK3 KR3 hx3 JP;go_wp2_with fail;refine bodyPost_ret (v:=.agg #[qi 5,.string ⟨#[]⟩,.string ⟨#[]⟩,.slice (some (qa u2.heap.size 0)) 1 1,.slice a3 b.length c3,qs]) bt rfl HF.out
 refine (zb7 R cap a ts l zhl w1 BP.out (by simpa using AA)).mono ?_;rintro e w2 ⟨rfl,An,AN⟩;have D7:Hid (Rd R a cap ts w2 l):=An;have BX:Hid (Keeps R w w2):=B3.out.trans AN;have Ad:Hid (w2.heap[w.heap.size]? = some za2):=(AN.block w.heap.size ae ae).trans A8.out;have Ay:=AN.size
 have EV:skB l zhl=false:=by simpa using AA
 clear An AN BP B3 A8 AA;go_wp2_with fail
 by_cases Bq:skB l zf4=true
 . have CC:=zaj aq Bq
   refine (zbn R cap a ts l zf4 w2 aq D7.out Bq).mono ?_;rintro e u1 ⟨rfl,KR1,KK1⟩;have MC:=KK1.size;have KB1:Hid (u1.heap[w.heap.size]? = some za2):=(KK1.block w.heap.size ae ae).trans Ad.out;go_wp2_with fail;refine (ze6 R cap a ts l.tail u1 KR1).mono ?_;rintro e u2 ⟨KK2,⟨hn,rfl⟩ | ⟨x,l2,v,hn,rfl,⟨a2,c2,rfl,AP,AG,hx3⟩,KR2⟩⟩
   . exact ⟨rfl,(BX.out.trans KK1).trans KK2,Or.inl ⟨by rw [zgq Ec EV Bq,hn];rfl,rfl⟩⟩
   have JJ:=KK2.size;have KB2:Hid (u2.heap[w.heap.size]? = some za2):=(KK2.block w.heap.size ae ae).trans KB1.out;have HN:Hid (pX l.tail=some (x,l2)):=hn
   have HX:Hid (x.mod.size<=maxLen/\x.name.size<=maxLen/\EAt u2 (u1.heap.size<=·) a2 x.args.length (zbr x.args)):=⟨AP,AG,hx3⟩
   have KR2':Hid (Rd R a cap ts u2 l2):=KR2;have KK2':Hid (Keeps R w u2):=(BX.out.trans KK1).trans KK2;clear hn AP AG hx3 KR2 KK2 KR1 KK1 KB1;go_wp2_with fail;refine (zll R cap a ts l2 _ (KR2'.out.alloc _) _ _ _ _ _ _ _ _ _ _ _ _).mono ?_;rintro e u3 ⟨KK3,⟨t3,rfl⟩ | ⟨t3,rfl,KR3⟩⟩
   . exact ⟨rfl,(KK2'.out.alloc _).trans KK3,Or.inl ⟨by rw [zgq Ec EV Bq,HN.out];simp [zd5,t3],rfl⟩⟩
   have J8:=KK3.size;simp at J8
   have HP:Hid (zcm (f+1) l=some (.mk 6 ⟨#[]⟩ ⟨#[]⟩ [x] [] [],l2.tail)):=by show zcm (f+1) l=_;rw [zgq Ec EV Bq,HN.out];simp [zd5,t3]
   have KB3:Hid (u3.heap[w.heap.size]? = some za2):=(KK3.block w.heap.size aF ae).trans (zab KB2.out);obtain ⟨h0,h1,h2,h3,h4,h5,h6⟩:=zao KB3.out
   have HF:Hid (zeg R a cap ts w (zcm (f+1) l) (zgp (w.heap.size<=·)) (.returned (.agg #[qi 6,.string ⟨#[]⟩,.string ⟨#[]⟩,.slice (some (qa u2.heap.size 0)) 1 1,qs,qs])) (set6 u3 w.heap.size (qi 6) (.string ⟨#[]⟩) (.string ⟨#[]⟩) (.slice (some (qa u2.heap.size 0)) 1 1) (qs) (qs))):=
    st_end (s:=.mk 6 ⟨#[]⟩ ⟨#[]⟩ [x] [] []) HR.out HP.out ((KK2'.out.alloc _).trans KK3) KR3 (vaf _) (vaf _) (lo:=u1.heap.size) (zlk (t:=174) (cap:=c2) HX.out.1 HX.out.2.1 HX.out.2.2 (((zad.refl u2 _).alloc _).keeps KK3 bW) ((KK3.block u2.heap.size aA ae).trans (heap_newP _ _)) JJ) (Or.inl rfl) (Or.inl rfl) ae
   clear KK3 KR3;go_wp2_with fail;refine bodyPost_ret (v:=.agg #[qi 6,.string ⟨#[]⟩,.string ⟨#[]⟩,.slice (some (qa u2.heap.size 0)) 1 1,qs,qs]) bt rfl HF.out
 refine (zb7 R cap a ts l zf4 w2 D7.out (by simpa using Bq)).mono ?_;rintro e w3 ⟨rfl,Aq,Ak⟩;have CP:Hid (Rd R a cap ts w3 l):=Aq;have Cc:Hid (Keeps R w w3):=BX.out.trans Ak;have Af:Hid (w3.heap[w.heap.size]? = some za2):=(Ak.block w.heap.size ae ae).trans Ad.out;have BB:=Ak.size
 have Ig:skB l zf4=false:=by simpa using Bq
 clear Aq Ak D7 BX Ad Bq;go_wp2_with fail
 by_cases CU:skB l z48=true
 . have FV:=zaj aq CU
   refine (zbn R cap a ts l z48 w3 aq CP.out CU).mono ?_;rintro e u1 ⟨rfl,KR1,KK1⟩;have MC:=KK1.size;have KB1:Hid (u1.heap[w.heap.size]? = some za2):=(KK1.block w.heap.size ae ae).trans Af.out;go_wp2_with fail;refine (ze6 R cap a ts l.tail u1 KR1).mono ?_;rintro e u2 ⟨KK2,⟨hn,rfl⟩ | ⟨x,l2,v,hn,rfl,⟨a2,c2,rfl,AP,AG,hx3⟩,KR2⟩⟩
   . exact ⟨rfl,(Cc.out.trans KK1).trans KK2,Or.inl ⟨by rw [zln Ec EV Ig CU,hn];rfl,rfl⟩⟩
   have JJ:=KK2.size;have KB2:Hid (u2.heap[w.heap.size]? = some za2):=(KK2.block w.heap.size ae ae).trans KB1.out;have HN:Hid (pX l.tail=some (x,l2)):=hn
   have HX:Hid (x.mod.size<=maxLen/\x.name.size<=maxLen/\EAt u2 (u1.heap.size<=·) a2 x.args.length (zbr x.args)):=⟨AP,AG,hx3⟩
   have KR2':Hid (Rd R a cap ts u2 l2):=KR2;have KK2':Hid (Keeps R w u2):=(Cc.out.trans KK1).trans KK2;clear hn AP AG hx3 KR2 KK2 KR1 KK1 KB1;go_wp2_with fail;refine (zll R cap a ts l2 _ (KR2'.out.alloc _) _ _ _ _ _ _ _ _ _ _ _ _).mono ?_;rintro e u3 ⟨KK3,⟨t3,rfl⟩ | ⟨t3,rfl,KR3⟩⟩
   . exact ⟨rfl,(KK2'.out.alloc _).trans KK3,Or.inl ⟨by rw [zln Ec EV Ig CU,HN.out];simp [zd5,t3],rfl⟩⟩
   have J8:=KK3.size;simp at J8
   have HP:Hid (zcm (f+1) l=some (.mk 7 ⟨#[]⟩ ⟨#[]⟩ [x] [] [],l2.tail)):=by show zcm (f+1) l=_;rw [zln Ec EV Ig CU,HN.out];simp [zd5,t3]
   have KB3:Hid (u3.heap[w.heap.size]? = some za2):=(KK3.block w.heap.size aF ae).trans (zab KB2.out);obtain ⟨h0,h1,h2,h3,h4,h5,h6⟩:=zao KB3.out
   have HF:Hid (zeg R a cap ts w (zcm (f+1) l) (zgp (w.heap.size<=·)) (.returned (.agg #[qi 7,.string ⟨#[]⟩,.string ⟨#[]⟩,.slice (some (qa u2.heap.size 0)) 1 1,qs,qs])) (set6 u3 w.heap.size (qi 7) (.string ⟨#[]⟩) (.string ⟨#[]⟩) (.slice (some (qa u2.heap.size 0)) 1 1) (qs) (qs))):=
    st_end (s:=.mk 7 ⟨#[]⟩ ⟨#[]⟩ [x] [] []) HR.out HP.out ((KK2'.out.alloc _).trans KK3) KR3 (vaf _) (vaf _) (lo:=u1.heap.size) (zlk (t:=174) (cap:=c2) HX.out.1 HX.out.2.1 HX.out.2.2 (((zad.refl u2 _).alloc _).keeps KK3 bW) ((KK3.block u2.heap.size aA ae).trans (heap_newP _ _)) JJ) (Or.inl rfl) (Or.inl rfl) ae
   clear KK3 KR3;go_wp2_with fail;refine bodyPost_ret (v:=.agg #[qi 7,.string ⟨#[]⟩,.string ⟨#[]⟩,.slice (some (qa u2.heap.size 0)) 1 1,qs,qs]) bt rfl HF.out
 refine (zb7 R cap a ts l z48 w3 CP.out (by simpa using CU)).mono ?_;rintro e w4 ⟨rfl,AU,Az⟩;have C8:Hid (Rd R a cap ts w4 l):=AU;have BR:Hid (Keeps R w w4):=Cc.out.trans Az;have Ap:Hid (w4.heap[w.heap.size]? = some za2):=(Az.block w.heap.size ae ae).trans Af.out;have Db:=Az.size
 have LQ:skB l z48=false:=by simpa using CU
 clear AU Az CP Cc Af CU;go_wp2_with fail;refine (zz1 R cap a ts l w4 C8.out).mono ?_;rintro e u2 ⟨KK2,⟨hn,rfl⟩ | ⟨s,l2,v,hn,rfl,⟨a1,c1,a2,c2,a3,c3,rfl,AP,AG,hx3,hx4,hx5⟩,KR2⟩⟩
 . exact ⟨rfl,BR.out.trans KK2,Or.inl ⟨by rw [zhy Ec EV Ig LQ,hn];rfl,rfl⟩⟩
 have JJ:=KK2.size;have KB2:Hid (u2.heap[w.heap.size]? = some za2):=(KK2.block w.heap.size ae ae).trans Ap.out;have HN:Hid (zbx l=some (s,l2)):=hn
 have HX:Hid (s.mod.size<=maxLen/\s.name.size<=maxLen/\EAt u2 (w4.heap.size<=·) a1 s.args.length (zbr s.args)/\EAt u2 (w4.heap.size<=·) a2 s.body.length (zbs s.body)/\EAt u2 (w4.heap.size<=·) a3 s.other.length (zbs s.other)):=⟨AP,AG,hx3,hx4,hx5⟩
 have KR2':Hid (Rd R a cap ts u2 l2):=KR2;have KK2':Hid (Keeps R w u2):=BR.out.trans KK2;clear hn AP AG hx3 hx4 hx5 KR2 KK2;go_wp2_with fail;refine (zll R cap a ts l2 _ KR2'.out _ _ _ _ _ _ _ _ _ _ _ _).mono ?_;rintro e u3 ⟨KK3,⟨t3,rfl⟩ | ⟨t3,rfl,KR3⟩⟩
 . exact ⟨rfl,KK2'.out.trans KK3,Or.inl ⟨by rw [zhy Ec EV Ig LQ,HN.out];simp [zd5,t3],rfl⟩⟩
 have J8:=KK3.size
 have HP:Hid (zcm (f+1) l=some (s,l2.tail)):=by show zcm (f+1) l=_;rw [zhy Ec EV Ig LQ,HN.out];simp [zd5,t3]
 have KB3:Hid (u3.heap[w.heap.size]? = some za2):=(KK3.block w.heap.size ae ae).trans KB2.out;obtain ⟨h0,h1,h2,h3,h4,h5,h6⟩:=zao KB3.out
 have HF:Hid (zeg R a cap ts w (zcm (f+1) l) (zgp (w.heap.size<=·)) (.returned (.agg #[qi s.op,.string s.mod,.string s.name,.slice a1 s.args.length c1,.slice a2 s.body.length c2,.slice a3 s.other.length c3])) (set6 u3 w.heap.size (qi s.op) (.string s.mod) (.string s.name) (.slice a1 s.args.length c1) (.slice a2 s.body.length c2) (.slice a3 s.other.length c3))):=by
  have hm:zad u2 (w4.heap.size<=·) u3 (w4.heap.size<=·):=(zad.refl u2 _).keeps KK3 bW;exact st_end (s:=s) HR.out HP.out (KK2'.out.trans KK3) KR3 HX.out.1 HX.out.2.1 (lo:=w4.heap.size) (HX.out.2.2.1.moves hm) (HX.out.2.2.2.1.moves hm) (HX.out.2.2.2.2.moves hm) ae
 clear KK3 KR3;exact g7
theorem z8j (R cap:Nat) (a:OA) (ts:List Tk):∀ f,StC R cap a ts f:=by
 intro f
 induction f using Nat.strongRecOn with
 | ind f ih=>
   cases f with
   | zero=>exact ⟨fun _ _ _ h=>ae,fun _ _ _ h=>ae⟩
   | succ f=>
     exact ⟨fun l w h hf=>zz3 R cap a ts f (ih f ae) l w h hf,fun l w h hf=>zww R cap a ts f (fun g hg=>ih g ae) l w h hf⟩
def pB (l:List Tk):Option (List St × List Tk):=zby (3*l.length+8) l
theorem z94 {l l':List Tk} {b:List St} (h:pB l=some (b,l')):l'.length<l.length:=zgr _ _ _ _ h
theorem zra (R cap:Nat) (a:OA) (ts l:List Tk) (w:World) (h:Rd R a cap ts w l) :
 qc 201 #[pq R 0] w (zeg R a cap ts w (pB l) (z93 (w.heap.size<=·))):=(z8j R cap a ts _).block l w h ae
def zii (l:List Tk):List Tk:=if skB l zc3 then l.tail else l
def zb2 (l:List Tk):Option (De × List Tk):=
 if skB (zii l) zrl then (match zdo (zii l).tail with
  | none=>none
  | some (n,l1)=>if skB l1 tEq then (match pNum l1.tail with | none=>none | some (k,l2)=>if skB l2 zir then some (⟨1,n,skB l zc3,k⟩,l2.tail) else none) else none)
 else if skB (zii l) z8u then (match zdo (zii l).tail with
  | none=>none
  | some (n,l1)=>if skB l1 zir then some (⟨2,n,skB l zc3,0⟩,l1.tail) else none)
 else if skB (zii l) zrm then (match zdo (zii l).tail with
  | none=>none
  | some (n,l1)=>if skB l1 tLs then (match pNum l1.tail with | none=>none | some (k,l2)=>if skB l2 tRs then (if skB l2.tail zir then some (⟨3,n,skB l zc3,k⟩,l2.tail.tail) else none) else none) else none)
 else none
def zcv:Nat->List ByteArray->List Tk->Option (List ByteArray × List Tk)
 | 0,_,_=>none
 | f+1,A5,l=>
   if skB l z3n then (match zdo l.tail with | none=>none | some (n,l1)=>zcv f (A5++[n]) l1)
   else if skB l tRp then some (A5,l.tail) else none
def zcw (t:ByteArray):Nat->List ByteArray->List Tk->Option (List ByteArray × List Tk)
 | 0,_,_=>none
 | f+1,A5,l=>
   if skB l t then (match zdo l.tail with | none=>none | some (n,l1)=>if skB l1 zir then zcw t f (A5++[n]) l1.tail else none)
   else some (A5,l)
def zhz (l:List Tk):Option (List ByteArray × List Tk):=
 if skB l tRp then some ([],l.tail) else (match zdo l with | none=>none | some (n,l1)=>zcv (l1.length+1) [n] l1)
def zfo (l:List Tk):Option (Pr × List Tk):=
 if skB (zii l) z6s then (match zdo (zii l).tail with
  | none=>none
  | some (n,l1)=>if skB l1 tLp then (match zhz l1.tail with
    | none=>none
    | some (ps,l2)=>(match zcw zek (l2.length+1) [] l2 with
      | none=>none
      | some (ls,l3)=>(match pB l3 with | none=>none | some (b,l4)=>some (⟨n,skB l zc3,ps,ls,b⟩,l4)))) else none)
 else none
def zwx (l:List Tk):Bool:=
 let t:=if skB l zc3 then (l.getD 1 noTk).text else (hd l).text
 t.toList == zrl.toList||t.toList == z8u.toList||t.toList == zrm.toList
def zfp:Nat->List De->List Tk->Option (List De × List Tk)
 | 0,_,_=>none
 | f+1,A5,l=>if zwx l then (match zb2 l with | none=>none | some (d,l1)=>zfp f (A5++[d]) l1) else some (A5,l)
def zfq:Nat->List Pr->List Tk->Option (List Pr × List Tk)
 | 0,_,_=>none
 | f+1,A5,l=>if skB l zto then some (A5,l.tail) else (match zfo l with | none=>none | some (p,l1)=>zfq f (A5++[p]) l1)
def zci (l:List Tk):Option (Mo × List Tk):=
 if skB l zpm then (match zdo l.tail with
  | none=>none
  | some (n,l1)=>if skB l1 tLb then (match zcw zvo (l1.tail.length+1) [] l1.tail with
    | none=>none
    | some (us,l2)=>(match zfp (l2.length+1) [] l2 with
      | none=>none
      | some (ds,l3)=>(match zfq (l3.length+1) [] l3 with
        | none=>none
        | some (ps,l4)=>(match pB l4 with
          | none=>none
          | some (b,l5)=>if skB l5 tRb then some (⟨n,us,ds,ps,b⟩,l5.tail) else none)))) else none)
 else none
theorem zte (l:List Tk):(zii l).length<=l.length:=by
 unfold zii;split
 . simp
 . exact vaa _
theorem zu9 {l l':List Tk} {d:De} (h:zb2 l=some (d,l')):l'.length<l.length:=by
 have hp:=zte l;unfold zb2 at h
 split at h
 . rename_i hs
   have:=zaj aq hs
   split at h
   . cases h
   rename_i n l1 h1
   have:=zbo h1
   split at h
   . rename_i AA
     have:=zaj aq AA
     split at h
     . cases h
     rename_i k l2 h2
     have:=z0l h2
     split at h
     . rename_i Bq
       have:=zaj aq Bq;exact gy
     . cases h
   . cases h
 split at h
 . rename_i hs
   have:=zaj aq hs
   split at h
   . cases h
   rename_i n l1 h1
   have:=zbo h1
   split at h
   . rename_i Bq
     have:=zaj aq Bq;exact gy
   . cases h
 split at h
 . rename_i hs
   have:=zaj aq hs
   split at h
   . cases h
   rename_i n l1 h1
   have:=zbo h1
   split at h
   . rename_i AA
     have:=zaj aq AA
     split at h
     . cases h
     rename_i k l2 h2
     have:=z0l h2
     split at h
     . rename_i Bq
       have:=zaj aq Bq
       split at h
       . rename_i CU
         have:=zaj aq CU;exact gy
       . cases h
     . cases h
   . cases h
 . cases h
theorem zny:∀ (f:Nat) (A5:List ByteArray) (l l':List Tk) (x:List ByteArray),zcv f A5 l=some (x,l')->l'.length<=l.length
 | 0,_,_,_,_,h=>by simp [zcv] at h
 | f + 1,A5,l,l',x,h=>by
   unfold zcv at h
   split at h
   . rename_i hs
     have:=zaj aq hs
     split at h
     . cases h
     rename_i n l1 h1
     have:=zbo h1;have:=zny f _ _ _ _ h;omega
   split at h
   . rename_i hs
     have:=zaj aq hs;obtain ⟨_,rfl⟩:=vap (vab h);omega
   . cases h
theorem zva (t:ByteArray) (ht:0<t.size):∀ (f:Nat) (A5:List ByteArray) (l l':List Tk) (x:List ByteArray),zcw t f A5 l=some (x,l')->l'.length<=l.length
 | 0,_,_,_,_,h=>by simp [zcw] at h
 | f + 1,A5,l,l',x,h=>by
   unfold zcw at h
   split at h
   . rename_i hs
     have:=zaj ht hs
     split at h
     . cases h
     rename_i n l1 h1
     have:=zbo h1
     split at h
     . rename_i AA
       have:=zaj aq AA;have:=zva t ht f _ _ _ _ h;omega
     . cases h
   . obtain ⟨_,rfl⟩:=vap (vab h)
     exact vaa _
theorem z2y {l l':List Tk} {x:List ByteArray} (h:zhz l=some (x,l')):l'.length<=l.length:=by
 unfold zhz at h
 split at h
 . rename_i hs
   have:=zaj aq hs;exact gy
 split at h
 . cases h
 rename_i n l1 h1
 have:=zbo h1;have:=zny _ _ _ _ _ h;omega
theorem zvb {l l':List Tk} {p:Pr} (h:zfo l=some (p,l')):l'.length<l.length:=by
 have hp:=zte l;unfold zfo at h
 split at h
 . rename_i hs
   have:=zaj aq hs
   split at h
   . cases h
   rename_i n l1 h1
   have:=zbo h1
   split at h
   . rename_i AA
     have:=zaj aq AA
     split at h
     . cases h
     rename_i ps l2 h2
     have:=z2y h2
     split at h
     . cases h
     rename_i ls l3 h3
     have:=zva _ aq _ _ _ _ _ h3
     split at h
     . cases h
     rename_i b l4 h4
     have:=z94 h4;exact gy
   . cases h
 . cases h
theorem zpa (R cap:Nat) (a:OA) (ts l:List Tk) (w:World) (h:Rd R a cap ts w l) :
 qc 198 #[pq R 0] w fun e w'=>e = .returned (.bool (zwx l))/\qb w w':=by
 have HR:Hid (Rd R a cap ts w l):=h;have EV:=zu7 (hd l).kind (hd l).n (hd l).text;have Ig:=zu7 (l.getD 1 noTk).kind (l.getD 1 noTk).n (l.getD 1 noTk).text
 have HS:Hid (skB l zc3=((hd l).text.toList == [112,117,98])):=by show skB l zc3=_;unfold skB;rw [vay zc3]
 have HD:Hid (zwx l=((if skB l zc3 then (l.getD 1 noTk).text else (hd l).text).toList == [99,111,110,115,116]||(if skB l zc3 then (l.getD 1 noTk).text else (hd l).text).toList == [118,97,114]||(if skB l zc3 then (l.getD 1 noTk).text else (hd l).text).toList == [97,114,114,97,121])):=by
  show zwx l=_;unfold zwx;rw [vay zrl,vay z8u,vay zrm]
 have HG:Hid (∀ w',Rd R a cap ts w' l->qc 252 #[pq R 0,qi 1] w' fun e AC=>e = .returned (.agg #[qi (l.getD 1 noTk).kind,qi (l.getD 1 noTk).n,.string (l.getD 1 noTk).text])/\Below w'.heap.size w' AC):=fun w' h'=>zq7 R cap 1 a ts l w' ae h'
 clear h;go_enter Tryz.func198,Tryz.ntmps198;go_wp2_with fail;refine (zq8 R cap a ts l w HR.out).mono ?_;rintro e w1 ⟨rfl,A6⟩
 by_cases hp:((hd l).text.toList == [112,117,98])=true
 . have IK:Hid (skB l zc3=true):=HS.out.trans hp
   generalize l.getD 1 noTk=T at *;go_wp2_with fail;refine (HG.out w1 (HR.out.later A6)).mono ?_;rintro e w2 ⟨rfl,Ab⟩;go_wp2_with fail
   all_goals go_ret
   all_goals refine ⟨ret_bool ?_,A6.trans (Ab.mono A6.size)⟩
   all_goals rw [HD.out,IK.out];simp_all
 . have I2:((hd l).text.toList == [112,117,98])=false:=by simpa using hp
   have IK:Hid (skB l zc3=false):=HS.out.trans I2;clear hp;generalize hd l=T at *;go_wp2_with fail
   all_goals go_ret
   all_goals refine ⟨ret_bool ?_,A6⟩
   all_goals rw [HD.out,IK.out];simp_all
def zz4 (d:De) (_:World) (v:Value):Prop:=v = .agg #[qi d.kind,.string d.name,.bool d.pub,qi d.n]/\d.name.size<=maxLen
abbrev set4 (w:World) (b:Nat) (v0 v1 v2 v3:Value):World:=(((w.setCell (qa b 0) v0).setCell (qa b 1) v1).setCell (qa b 2) v2).setCell (qa b 3) v3
theorem Keeps.set4 {R b:Nat} {w w1:World} (h:Keeps R w w1) (hp:w.heap.size<=b) (v0 v1 v2 v3:Value):Keeps R w (set4 w1 b v0 v1 v2 v3):=(((h.set hp v0).set hp v1).set hp v2).set hp v3
theorem Rd.set4 {R cap b:Nat} {w0 w1:World} {a:OA} {ts l l0:List Tk} (h:Rd R a cap ts w1 l) (h0:Rd R a cap ts w0 l0) (hp:w0.heap.size<=b) (v0 v1 v2 v3:Value):Rd R a cap ts (set4 w1 b v0 v1 v2 v3) l:=(((h.setAbove h0 hp v0).setAbove h0 hp v1).setAbove h0 hp v2).setAbove h0 hp v3
abbrev zdf:Obj:=.cells #[qi 0,.string ⟨#[]⟩,.bool false,qi 0] 170 (0,0)
abbrev zb3 (k:Int) (nm:ByteArray) (p:Bool) (n:Int):Obj:=.cells #[qi k,.string nm,.bool p,qi n] 170 (0,0)
theorem zvc (R cap:Nat) (a:OA) (ts l:List Tk) (w:World) (h:Rd R a cap ts w l) :
 qc 199 #[pq R 0] w (zeg R a cap ts w (zb2 l) zz4):=by
 have HR:Hid (Rd R a cap ts w l):=h;have CO:=h.lt;clear h;go_enter Tryz.func199,Tryz.ntmps199;go_wp2_with fail;refine (zo8 R cap a ts l zc3 _ aq (HR.out.alloc _)).mono ?_;rintro e w1 ⟨rfl,RD,KK⟩;have Fz:Hid (Rd R a cap ts w1 (zii l)):=RD;have FG:Hid (Keeps R w w1):=((Keeps.refl R w).alloc _).trans KK;have Ao:=KK.size;simp at Ao;have A8:Hid (w1.heap[w.heap.size]? = some zdf):=(KK.block w.heap.size aA ae).trans (heap_newP _ _);clear RD KK;go_wp2_with fail
 obtain ⟨w2,BW⟩:∃ w2,w2=w1.alloc (zb3 0 ⟨#[]⟩ (skB l zc3) 0):=⟨_,rfl⟩
 have GC:Hid (Rd R a cap ts w2 (zii l)):=by rw [BW];exact Fz.out.alloc _
 have Lb:Hid (Keeps R w w2):=by rw [BW];exact FG.out.alloc _
 have Lz:Hid (w2.heap[w.heap.size]? = some zdf):=by rw [BW];exact zab A8.out
 have Lw:Hid (w2.heap[w1.heap.size]? = some (zb3 0 ⟨#[]⟩ (skB l zc3) 0)):=by rw [BW];exact heap_newP _ _
 have Ay:w2.heap.size=w1.heap.size+1:=by rw [BW];simp
 rw [← BW];clear BW Fz FG A8;refine (z8i R cap _ a ts (zii l) zrl z8u zrm w2 Ay.symm GC.out aq aq aq).mono ?_;rintro e w3 ⟨KK,GU⟩;have BB:=KK.size;have CR:Hid (Keeps R w w3):=Lb.out.trans KK;have EP:Hid (w3.heap[w.heap.size]? = some zdf):=(KK.block w.heap.size ae ae).trans Lz.out;have EO:Hid (w3.heap[w1.heap.size]? = some (zb3 0 ⟨#[]⟩ (skB l zc3) 0)):=(KK.block w1.heap.size ae ae).trans Lw.out;clear KK GC Lb Lz Lw
 rcases GU with ⟨s1,s2,s3,rfl⟩ | ⟨s1,rfl,RD⟩ | ⟨s1,s2,rfl,RD⟩ | ⟨s1,s2,s3,rfl,RD⟩
 . exact ⟨rfl,CR.out,Or.inl ⟨by unfold zb2;rw [s1,s2,s3];rfl,rfl⟩⟩
 . have Dq:Hid (Rd R a cap ts w3 (zii l).tail):=RD
   clear RD;go_wp2_with fail;refine (zb1 R cap a ts (zii l).tail w3 Dq.out).mono ?_;rintro e w4 ⟨KK,⟨hn,rfl⟩ | ⟨nm,l4,v,hn,rfl,⟨rfl,B4⟩,RD⟩⟩
   . exact ⟨rfl,CR.out.trans KK,Or.inl ⟨by unfold zb2;rw [if_pos s1,hn],rfl⟩⟩
   have CY:Hid (zb2 l=if skB l4 tEq then (match pNum l4.tail with | none=>none | some (k,l2)=>if skB l2 zir then some (⟨1,nm,skB l zc3,k⟩,l2.tail) else none) else none):=by show zb2 l=_;unfold zb2;rw [if_pos s1,hn]<;>rfl
   clear hn;have Dp:Hid (Rd R a cap ts w4 l4):=RD;have Dr:Hid (Keeps R w w4):=CR.out.trans KK;have Du:Hid (w4.heap[w.heap.size]? = some zdf):=(KK.block w.heap.size ae ae).trans EP.out;have CH:Hid (w4.heap[w1.heap.size]? = some (zb3 0 ⟨#[]⟩ (skB l zc3) 0)):=(KK.block w1.heap.size ae ae).trans EO.out;have JM:=KK.size;clear RD KK Dq CR EP EO;have DK:Hid (Rd R a cap ts ((w4.setCell (qa w1.heap.size 1) (.string nm)).setCell (qa w1.heap.size 0) (qi 1)) l4):=((Dp.out).setAbove HR.out aU _).setAbove HR.out aU _;have CQ:Hid (Keeps R w ((w4.setCell (qa w1.heap.size 1) (.string nm)).setCell (qa w1.heap.size 0) (qi 1))):=((Dr.out).set aU _).set aU _;have DY:Hid (((w4.setCell (qa w1.heap.size 1) (.string nm)).setCell (qa w1.heap.size 0) (qi 1)).heap[w.heap.size]? = some zdf):=(heap_set_ne bg _).trans ((heap_set_ne bg _).trans (Du.out))
   have DX:Hid (((w4.setCell (qa w1.heap.size 1) (.string nm)).setCell (qa w1.heap.size 0) (qi 1)).heap[w1.heap.size]? = some (zb3 1 nm (skB l zc3) 0)):=heap_set (heap_set (CH.out) _) _
   have JL:((w4.setCell (qa w1.heap.size 1) (.string nm)).setCell (qa w1.heap.size 0) (qi 1)).heap.size=w4.heap.size:=bx
   obtain ⟨h0,h1,h2,h3,h4⟩:=zco CH.out
   have JV:w1.heap.size<w4.heap.size:=ae
   go_wp2_with fail;generalize (w4.setCell (qa w1.heap.size 1) (.string nm)).setCell (qa w1.heap.size 0) (qi 1)=w5 at *;clear h0 h1 h2 h3 h4 Dp Dr Du CH;refine (zfy R cap _ a ts l4 tEq w5 ae DK.out aq).mono ?_;rintro e w6 ⟨KK,⟨zs,rfl⟩ | ⟨zs,rfl,RD⟩⟩
   . exact ⟨rfl,CQ.out.trans KK,Or.inl ⟨eC,rfl⟩⟩
   have Dx:Hid (zb2 l=(match pNum l4.tail with | none=>none | some (k,l2)=>if skB l2 zir then some (⟨1,nm,skB l zc3,k⟩,l2.tail) else none)):=ez
   clear zs;have Fy:Hid (Rd R a cap ts w6 l4.tail):=RD;have DQ:Hid (Keeps R w w6):=CQ.out.trans KK;have FL:Hid (w6.heap[w.heap.size]? = some zdf):=(KK.block w.heap.size ae ae).trans DY.out;have FI:Hid (w6.heap[w1.heap.size]? = some (zb3 1 nm (skB l zc3) 0)):=(KK.block w1.heap.size ae ae).trans DX.out;have MJ:=KK.size;clear RD KK DK CQ DY DX;go_wp2_with fail;refine (zhw R cap a ts l4.tail w6 Fy.out).mono ?_;rintro e w7 ⟨KK,⟨hn,rfl⟩ | ⟨num,l7,v,hn,rfl,rfl,RD⟩⟩
   . exact jQ
   have Ek:Hid (zb2 l=if skB l7 zir then some (⟨1,nm,skB l zc3,num⟩,l7.tail) else none):=by show zb2 l=_;rw [Dx.out,hn]
   clear hn;have Fw:Hid (Rd R a cap ts w7 l7):=RD;have FE:Hid (Keeps R w w7):=DQ.out.trans KK;have FK:Hid (w7.heap[w.heap.size]? = some zdf):=(KK.block w.heap.size ae ae).trans FL.out;have DW:Hid (w7.heap[w1.heap.size]? = some (zb3 1 nm (skB l zc3) 0)):=(KK.block w1.heap.size ae ae).trans FI.out;have MI:=KK.size;clear RD KK Fy DQ FL FI;have GB:Hid (Rd R a cap ts (w7.setCell (qa w1.heap.size 3) (qi num)) l7):=(Fw.out).setAbove HR.out aU _;have EJ:Hid (Keeps R w (w7.setCell (qa w1.heap.size 3) (qi num))):=(FE.out).set aU _;have GP:Hid ((w7.setCell (qa w1.heap.size 3) (qi num)).heap[w.heap.size]? = some zdf):=(heap_set_ne bg _).trans (FK.out);have GO:Hid ((w7.setCell (qa w1.heap.size 3) (qi num)).heap[w1.heap.size]? = some (zb3 1 nm (skB l zc3) num)):=heap_set (DW.out) _
   have MH:(w7.setCell (qa w1.heap.size 3) (qi num)).heap.size=w7.heap.size:=bx
   obtain ⟨h0,h1,h2,h3,h4⟩:=zco DW.out
   have MP:w1.heap.size<w7.heap.size:=ae
   go_wp2_with fail;generalize w7.setCell (qa w1.heap.size 3) (qi num)=w8 at *;clear h0 h1 h2 h3 h4 Fw FE FK DW;refine (zfy R cap _ a ts l7 zir w8 ae GB.out aq).mono ?_;rintro e z1 ⟨ZK,⟨zs,rfl⟩ | ⟨zs,rfl,ZR⟩⟩
   . exact ⟨rfl,EJ.out.trans ZK,Or.inl ⟨by rw [Ek.out,if_neg eP],rfl⟩⟩
   have zz:=ZK.size
   have HP:Hid (zb2 l=some (⟨1,nm,skB l zc3,num⟩,l7.tail)):=by show zb2 l=_;rw [Ek.out,if_pos zs]
   have ZB:Hid (z1.heap[w.heap.size]? = some zdf):=(ZK.block w.heap.size ae ae).trans GP.out;have ZC:Hid (z1.heap[w1.heap.size]? = some (zb3 1 nm (skB l zc3) num)):=(ZK.block w1.heap.size ae ae).trans GO.out;obtain ⟨h0,h1,h2,h3,h4⟩:=zco ZB.out;obtain ⟨g0,g1,g2,g3,g4⟩:=zco ZC.out
   have HF:Hid (zeg R a cap ts w (zb2 l) zz4 (.returned (.agg #[qi 1,.string nm,.bool (skB l zc3),qi num])) (set4 z1 w.heap.size (qi 1) (.string nm) (.bool (skB l zc3)) (qi num))):=
    ⟨(EJ.out.trans ZK).set4 (vaa _) _ _ _ _,Or.inr ⟨⟨1,nm,skB l zc3,num⟩,l7.tail,_,HP.out,rfl,⟨rfl,B4⟩,ZR.set4 HR.out (vaa _) _ _ _ _⟩⟩
   clear ZK ZR zs;go_wp2_with fail;refine bodyPost_ret (v:=.agg #[qi 1,.string nm,.bool (skB l zc3),qi num]) cH rfl HF.out
 . have Dq:Hid (Rd R a cap ts w3 (zii l).tail):=RD
   clear RD;go_wp2_with fail;refine (zb1 R cap a ts (zii l).tail w3 Dq.out).mono ?_;rintro e w4 ⟨KK,⟨hn,rfl⟩ | ⟨nm,l4,v,hn,rfl,⟨rfl,B4⟩,RD⟩⟩
   . exact ⟨rfl,CR.out.trans KK,Or.inl ⟨by unfold zb2;rw [if_neg cM,if_pos s2,hn],rfl⟩⟩
   have CY:Hid (zb2 l=if skB l4 zir then some (⟨2,nm,skB l zc3,0⟩,l4.tail) else none):=by show zb2 l=_;unfold zb2;rw [if_neg cM,if_pos s2,hn]<;>rfl
   clear hn;have Dp:Hid (Rd R a cap ts w4 l4):=RD;have Dr:Hid (Keeps R w w4):=CR.out.trans KK;have Du:Hid (w4.heap[w.heap.size]? = some zdf):=(KK.block w.heap.size ae ae).trans EP.out;have CH:Hid (w4.heap[w1.heap.size]? = some (zb3 0 ⟨#[]⟩ (skB l zc3) 0)):=(KK.block w1.heap.size ae ae).trans EO.out;have JM:=KK.size;clear RD KK Dq CR EP EO;have DK:Hid (Rd R a cap ts ((w4.setCell (qa w1.heap.size 1) (.string nm)).setCell (qa w1.heap.size 0) (qi 2)) l4):=((Dp.out).setAbove HR.out aU _).setAbove HR.out aU _;have CQ:Hid (Keeps R w ((w4.setCell (qa w1.heap.size 1) (.string nm)).setCell (qa w1.heap.size 0) (qi 2))):=((Dr.out).set aU _).set aU _;have DY:Hid (((w4.setCell (qa w1.heap.size 1) (.string nm)).setCell (qa w1.heap.size 0) (qi 2)).heap[w.heap.size]? = some zdf):=(heap_set_ne bg _).trans ((heap_set_ne bg _).trans (Du.out))
   have DX:Hid (((w4.setCell (qa w1.heap.size 1) (.string nm)).setCell (qa w1.heap.size 0) (qi 2)).heap[w1.heap.size]? = some (zb3 2 nm (skB l zc3) 0)):=heap_set (heap_set (CH.out) _) _
   have JL:((w4.setCell (qa w1.heap.size 1) (.string nm)).setCell (qa w1.heap.size 0) (qi 2)).heap.size=w4.heap.size:=bx
   obtain ⟨h0,h1,h2,h3,h4⟩:=zco CH.out
   have JV:w1.heap.size<w4.heap.size:=ae
   go_wp2_with fail;generalize (w4.setCell (qa w1.heap.size 1) (.string nm)).setCell (qa w1.heap.size 0) (qi 2)=w5 at *;clear h0 h1 h2 h3 h4 Dp Dr Du CH;refine (zfy R cap _ a ts l4 zir w5 ae DK.out aq).mono ?_;rintro e z1 ⟨ZK,⟨zs,rfl⟩ | ⟨zs,rfl,ZR⟩⟩
   . exact ⟨rfl,CQ.out.trans ZK,Or.inl ⟨eC,rfl⟩⟩
   have zz:=ZK.size
   have HP:Hid (zb2 l=some (⟨2,nm,skB l zc3,0⟩,l4.tail)):=ez
   have ZB:Hid (z1.heap[w.heap.size]? = some zdf):=(ZK.block w.heap.size ae ae).trans DY.out;have ZC:Hid (z1.heap[w1.heap.size]? = some (zb3 2 nm (skB l zc3) 0)):=(ZK.block w1.heap.size ae ae).trans DX.out;obtain ⟨h0,h1,h2,h3,h4⟩:=zco ZB.out;obtain ⟨g0,g1,g2,g3,g4⟩:=zco ZC.out
   have HF:Hid (zeg R a cap ts w (zb2 l) zz4 (.returned (.agg #[qi 2,.string nm,.bool (skB l zc3),qi 0])) (set4 z1 w.heap.size (qi 2) (.string nm) (.bool (skB l zc3)) (qi 0))):=
    ⟨(CQ.out.trans ZK).set4 (vaa _) _ _ _ _,Or.inr ⟨⟨2,nm,skB l zc3,0⟩,l4.tail,_,HP.out,rfl,⟨rfl,B4⟩,ZR.set4 HR.out (vaa _) _ _ _ _⟩⟩
   clear ZK ZR zs;go_wp2_with fail;refine bodyPost_ret (v:=.agg #[qi 2,.string nm,.bool (skB l zc3),qi 0]) cH rfl HF.out
 . have Dq:Hid (Rd R a cap ts w3 (zii l).tail):=RD
   clear RD;go_wp2_with fail;refine (zb1 R cap a ts (zii l).tail w3 Dq.out).mono ?_;rintro e w4 ⟨KK,⟨hn,rfl⟩ | ⟨nm,l4,v,hn,rfl,⟨rfl,B4⟩,RD⟩⟩
   . exact ⟨rfl,CR.out.trans KK,Or.inl ⟨by unfold zb2;rw [if_neg cM,if_neg (by simp [s2]),if_pos s3,hn],rfl⟩⟩
   have CY:Hid (zb2 l=if skB l4 tLs then (match pNum l4.tail with | none=>none | some (k,l2)=>if skB l2 tRs then (if skB l2.tail zir then some (⟨3,nm,skB l zc3,k⟩,l2.tail.tail) else none) else none) else none):=by show zb2 l=_;unfold zb2;rw [if_neg cM,if_neg (by simp [s2]),if_pos s3,hn]<;>rfl
   clear hn;have Dp:Hid (Rd R a cap ts w4 l4):=RD;have Dr:Hid (Keeps R w w4):=CR.out.trans KK;have Du:Hid (w4.heap[w.heap.size]? = some zdf):=(KK.block w.heap.size ae ae).trans EP.out;have CH:Hid (w4.heap[w1.heap.size]? = some (zb3 0 ⟨#[]⟩ (skB l zc3) 0)):=(KK.block w1.heap.size ae ae).trans EO.out;have JM:=KK.size;clear RD KK Dq CR EP EO;have DK:Hid (Rd R a cap ts ((w4.setCell (qa w1.heap.size 1) (.string nm)).setCell (qa w1.heap.size 0) (qi 3)) l4):=((Dp.out).setAbove HR.out aU _).setAbove HR.out aU _;have CQ:Hid (Keeps R w ((w4.setCell (qa w1.heap.size 1) (.string nm)).setCell (qa w1.heap.size 0) (qi 3))):=((Dr.out).set aU _).set aU _;have DY:Hid (((w4.setCell (qa w1.heap.size 1) (.string nm)).setCell (qa w1.heap.size 0) (qi 3)).heap[w.heap.size]? = some zdf):=(heap_set_ne bg _).trans ((heap_set_ne bg _).trans (Du.out))
   have DX:Hid (((w4.setCell (qa w1.heap.size 1) (.string nm)).setCell (qa w1.heap.size 0) (qi 3)).heap[w1.heap.size]? = some (zb3 3 nm (skB l zc3) 0)):=heap_set (heap_set (CH.out) _) _
   have JL:((w4.setCell (qa w1.heap.size 1) (.string nm)).setCell (qa w1.heap.size 0) (qi 3)).heap.size=w4.heap.size:=bx
   obtain ⟨h0,h1,h2,h3,h4⟩:=zco CH.out
   have JV:w1.heap.size<w4.heap.size:=ae
   go_wp2_with fail;generalize (w4.setCell (qa w1.heap.size 1) (.string nm)).setCell (qa w1.heap.size 0) (qi 3)=w5 at *;clear h0 h1 h2 h3 h4 Dp Dr Du CH;refine (zfy R cap _ a ts l4 tLs w5 ae DK.out aq).mono ?_;rintro e w6 ⟨KK,⟨zs,rfl⟩ | ⟨zs,rfl,RD⟩⟩
   . exact ⟨rfl,CQ.out.trans KK,Or.inl ⟨eC,rfl⟩⟩
   have Dx:Hid (zb2 l=(match pNum l4.tail with | none=>none | some (k,l2)=>if skB l2 tRs then (if skB l2.tail zir then some (⟨3,nm,skB l zc3,k⟩,l2.tail.tail) else none) else none)):=ez
   clear zs;have Fy:Hid (Rd R a cap ts w6 l4.tail):=RD;have DQ:Hid (Keeps R w w6):=CQ.out.trans KK;have FL:Hid (w6.heap[w.heap.size]? = some zdf):=(KK.block w.heap.size ae ae).trans DY.out;have FI:Hid (w6.heap[w1.heap.size]? = some (zb3 3 nm (skB l zc3) 0)):=(KK.block w1.heap.size ae ae).trans DX.out;have MJ:=KK.size;clear RD KK DK CQ DY DX;go_wp2_with fail;refine (zhw R cap a ts l4.tail w6 Fy.out).mono ?_;rintro e w7 ⟨KK,⟨hn,rfl⟩ | ⟨num,l7,v,hn,rfl,rfl,RD⟩⟩
   . exact jQ
   have Ek:Hid (zb2 l=if skB l7 tRs then (if skB l7.tail zir then some (⟨3,nm,skB l zc3,num⟩,l7.tail.tail) else none) else none):=by show zb2 l=_;rw [Dx.out,hn]
   clear hn;have Fw:Hid (Rd R a cap ts w7 l7):=RD;have FE:Hid (Keeps R w w7):=DQ.out.trans KK;have FK:Hid (w7.heap[w.heap.size]? = some zdf):=(KK.block w.heap.size ae ae).trans FL.out;have DW:Hid (w7.heap[w1.heap.size]? = some (zb3 3 nm (skB l zc3) 0)):=(KK.block w1.heap.size ae ae).trans FI.out;have MI:=KK.size;clear RD KK Fy DQ FL FI;have GB:Hid (Rd R a cap ts (w7.setCell (qa w1.heap.size 3) (qi num)) l7):=(Fw.out).setAbove HR.out aU _;have EJ:Hid (Keeps R w (w7.setCell (qa w1.heap.size 3) (qi num))):=(FE.out).set aU _;have GP:Hid ((w7.setCell (qa w1.heap.size 3) (qi num)).heap[w.heap.size]? = some zdf):=(heap_set_ne bg _).trans (FK.out);have GO:Hid ((w7.setCell (qa w1.heap.size 3) (qi num)).heap[w1.heap.size]? = some (zb3 3 nm (skB l zc3) num)):=heap_set (DW.out) _
   have MH:(w7.setCell (qa w1.heap.size 3) (qi num)).heap.size=w7.heap.size:=bx
   obtain ⟨h0,h1,h2,h3,h4⟩:=zco DW.out
   have MP:w1.heap.size<w7.heap.size:=ae
   go_wp2_with fail;generalize w7.setCell (qa w1.heap.size 3) (qi num)=w8 at *;clear h0 h1 h2 h3 h4 Fw FE FK DW;refine (zfy R cap _ a ts l7 tRs w8 ae GB.out aq).mono ?_;rintro e w9 ⟨KK,⟨zs,rfl⟩ | ⟨zs,rfl,RD⟩⟩
   . exact ⟨rfl,EJ.out.trans KK,Or.inl ⟨by rw [Ek.out,if_neg eP],rfl⟩⟩
   have Qm:Hid (zb2 l=if skB l7.tail zir then some (⟨3,nm,skB l zc3,num⟩,l7.tail.tail) else none):=by show zb2 l=_;rw [Ek.out,if_pos zs]
   clear zs;have O8:Hid (Rd R a cap ts w9 l7.tail):=RD;have La:Hid (Keeps R w w9):=EJ.out.trans KK;have ON:Hid (w9.heap[w.heap.size]? = some zdf):=(KK.block w.heap.size ae ae).trans GP.out;have OM:Hid (w9.heap[w1.heap.size]? = some (zb3 3 nm (skB l zc3) num)):=(KK.block w1.heap.size ae ae).trans GO.out;have QV:=KK.size;clear RD KK GB EJ GP GO;go_wp2_with fail;refine (zfy R cap _ a ts l7.tail zir w9 ae O8.out aq).mono ?_;rintro e z1 ⟨ZK,⟨zs,rfl⟩ | ⟨zs,rfl,ZR⟩⟩
   . exact ⟨rfl,La.out.trans ZK,Or.inl ⟨by rw [Qm.out,if_neg eP],rfl⟩⟩
   have zz:=ZK.size
   have HP:Hid (zb2 l=some (⟨3,nm,skB l zc3,num⟩,l7.tail.tail)):=by show zb2 l=_;rw [Qm.out,if_pos zs]
   have ZB:Hid (z1.heap[w.heap.size]? = some zdf):=(ZK.block w.heap.size ae ae).trans ON.out;have ZC:Hid (z1.heap[w1.heap.size]? = some (zb3 3 nm (skB l zc3) num)):=(ZK.block w1.heap.size ae ae).trans OM.out;obtain ⟨h0,h1,h2,h3,h4⟩:=zco ZB.out;obtain ⟨g0,g1,g2,g3,g4⟩:=zco ZC.out
   have HF:Hid (zeg R a cap ts w (zb2 l) zz4 (.returned (.agg #[qi 3,.string nm,.bool (skB l zc3),qi num])) (set4 z1 w.heap.size (qi 3) (.string nm) (.bool (skB l zc3)) (qi num))):=
    ⟨(La.out.trans ZK).set4 (vaa _) _ _ _ _,Or.inr ⟨⟨3,nm,skB l zc3,num⟩,l7.tail.tail,_,HP.out,rfl,⟨rfl,B4⟩,ZR.set4 HR.out (vaa _) _ _ _ _⟩⟩
   clear ZK ZR zs;go_wp2_with fail;refine bodyPost_ret (v:=.agg #[qi 3,.string nm,.bool (skB l zc3),qi num]) cH rfl HF.out
end Go.Proofs.YtndkhgakfodldaaGreatDoor
