import Derived.Test.YtndkhgakfodldaaGreatDoorPa
namespace Go.Proofs.YtndkhgakfodldaaGreatDoor
set_option maxRecDepth 100000
set_option maxHeartbeats 1600000
open Go.RowKit
def z3g (A:Nat->Prop) (xs:List Ex) (w:World) (v:Value):Prop:=∃ a cap,v = .slice a xs.length cap/\EAt w A a xs.length (zbi xs)
structure ExC (R cap:Nat) (a:OA) (ts:List Tk) (f:Nat):Prop where
 expr:∀ (l:List Tk) (w:World),Rd R a cap ts w l->3*l.length+1<=f->Calls Tryz.prog 283 #[.pointer (some ⟨R,0,none⟩)] w (zda R a cap ts w (zbf f l) (zfx (w.heap.size<=·)))
 pair:∀ (l:List Tk) (w:World),Rd R a cap ts w l->3*l.length+2<=f->Calls Tryz.prog 293 #[.pointer (some ⟨R,0,none⟩)] w (zda R a cap ts w (ze2 f l) (zfx (w.heap.size<=·)))
 args:∀ (l:List Tk) (w:World),Rd R a cap ts w l->3*l.length+2<=f->Calls Tryz.prog 295 #[.pointer (some ⟨R,0,none⟩)] w (zda R a cap ts w (zdo f l) (z3g (w.heap.size<=·)))
theorem zu0 (R cap:Nat) (a:OA) (ts:List Tk) (f:Nat) (IH:ExC R cap a ts f) (l:List Tk) (w:World) (h:Rd R a cap ts w l) (hf:3*l.length+2<=f+1) :
 Calls Tryz.prog 293 #[.pointer (some ⟨R,0,none⟩)] w (zda R a cap ts w (ze2 (f+1) l) (zfx (w.heap.size<=·))):=by
 have HI:Hid (ExC R cap a ts f):=IH;have HR:Hid (Rd R a cap ts w l):=h;have hRw:=h.lt;clear IH h;go_enter Tryz.func293,Tryz.ntmps293;go_wp2_with fail;refine (HI.out.expr l _ (HR.out.alloc _) (by omega)).mono ?_;rintro e w1 ⟨HK1,⟨hn,rfl⟩ | ⟨x,l1,v,hn,rfl,⟨a1,c1,rfl,hx1,hx2,hx3⟩,HR1⟩⟩
 . exact ⟨rfl,((Keeps.refl R w).alloc _).trans HK1,Or.inl ⟨by unfold ze2;rw [hn],rfl⟩⟩
 have HN1:Hid (zbf f l=some (x,l1)):=hn
 have HX1:Hid (x.mod.size<=maxLen/\x.name.size<=maxLen/\EAt w1 ((w.heap.size+1)<=·) a1 x.args.length (zbi x.args)):=⟨hx1,hx2,by simpa using hx3⟩
 have HR1':Hid (Rd R a cap ts w1 l1):=HR1;have hlt1:=zb5 _ _ _ _ hn;have hz1:=HK1.size;simp at hz1;clear hn hx1 hx2 hx3 HR1;have HK1':Hid (Keeps R w w1):=((Keeps.refl R w).alloc _).trans HK1;have HB1:Hid (w1.heap[w.heap.size]? = some (.cells #[.int .i64 0,.int .i64 0,.string ⟨#[]⟩,.string ⟨#[]⟩,.slice none 0 0] 174 (0,0))):=(HK1.block w.heap.size (by simp) (by omega)).trans (heap_newP _ _);clear HK1;go_wp2_with fail;refine (zuy _).mono ?_;rintro e w2 ⟨b,rfl,hb1,hb2,hbc,HB2⟩;have HK2:Hid (Keeps R w1 w2):=((Keeps.refl R w1).alloc _).later HB2;have HR2:Hid (Rd R a cap ts w2 l1):=(HR1'.out.alloc _).later HB2;have HC2:Hid (w2.heap[w1.heap.size]? = some (.cells #[.int .i64 x.op,.int .i64 x.n,.string x.mod,.string x.name,.slice a1 x.args.length c1] 174 (0,0))):=(HB2.block w1.heap.size (by simp)).trans (heap_newP _ _);have hz2:=HB2.size
 simp at hz2 hb1;clear HB2;go_wp2_with fail;refine (zxl R cap b a ts l1 w2 HR2.out hb2 (by omega) hbc).mono ?_;rintro e w3 ⟨HK3,⟨ho,rfl⟩ | ⟨k,c,ho,hk9,hki,rfl,HR3⟩⟩
 . exact ⟨rfl,(HK1'.out.trans HK2.out).trans HK3,Or.inl ⟨by unfold ze2;rw [HN1.out];simp only [];rw [ho],rfl⟩⟩
 have hz3:=HK3.size;have HM:Hid (ztn l1=some k):=ho;have HKI:Hid (Lib.indexByte opSigns.data.toList c=k):=hki;have hl3:=zhf (ztq ho);have HK3':Hid (Keeps R w w3):=(HK1'.out.trans HK2.out).trans HK3;have HC3:Hid (w3.heap[w1.heap.size]? = some (.cells #[.int .i64 x.op,.int .i64 x.n,.string x.mod,.string x.name,.slice a1 x.args.length c1] 174 (0,0))):=(HK3.block w1.heap.size (by omega) (by omega)).trans HC2.out;have HV3:Hid (zag w1 (w.heap.size+1<=·) w3 (w.heap.size+1<=·)):=((zag.refl w1 _).keeps HK2.out (by intro b;omega)).keeps HK3 (by intro b;omega);clear ho hbc HC2 HR2 hki;have HR3':Hid (Rd R a cap ts w3 l1.tail):=HR3;clear HR3;go_wp2_with fail;refine (HI.out.expr l1.tail w3 HR3'.out (by omega)).mono ?_;rintro e w4 ⟨HK4,⟨hn,rfl⟩ | ⟨y,l4,v,hn,rfl,⟨a4,c4,rfl,hy1,hy2,hy3⟩,HR4⟩⟩
 . exact ⟨rfl,HK3'.out.trans HK4,Or.inl ⟨by unfold ze2;rw [HN1.out];simp only [];rw [HM.out];simp only [];rw [hn],rfl⟩⟩
 have HN4:Hid (zbf f l1.tail=some (y,l4)):=hn
 have HX4:Hid (y.mod.size<=maxLen/\y.name.size<=maxLen/\EAt w4 (w3.heap.size<=·) a4 y.args.length (zbi y.args)):=⟨hy1,hy2,hy3⟩
 have HR4':Hid (Rd R a cap ts w4 l4):=HR4;have HK4':Hid (Keeps R w w4):=HK3'.out.trans HK4;have HV4:Hid (zag w1 (w.heap.size+1<=·) w4 (w.heap.size+1<=·)):=HV3.out.keeps HK4 (by intro b;omega);have HC4:Hid (w4.heap[w1.heap.size]? = some (.cells #[.int .i64 x.op,.int .i64 x.n,.string x.mod,.string x.name,.slice a1 x.args.length c1] 174 (0,0))):=(HK4.block w1.heap.size (by omega) (by omega)).trans HC3.out;have hz4:=HK4.size;have HB4:Hid (w4.heap[w.heap.size]? = some (.cells #[.int .i64 0,.int .i64 0,.string ⟨#[]⟩,.string ⟨#[]⟩,.slice none 0 0] 174 (0,0))):=(HK4.block w.heap.size (by omega) (by omega)).trans ((HK3.block w.heap.size (by omega) (by omega)).trans ((HK2.out.block w.heap.size (by omega) (by omega)).trans HB1.out));clear hn hy1 hy2 hy3 HR4 HK4 HC3 HV3 HK3' HR3';go_wp2_with fail;refine (zeo R cap _ a ts l4 tRp _ (by simp) (HR4'.out.alloc _) (by decide)).mono ?_
 rintro e w5 ⟨HK5,⟨hs5,rfl⟩ | ⟨hs5,rfl,HR5⟩⟩
 . exact ⟨rfl,(HK4'.out.alloc _).trans HK5,Or.inl ⟨by unfold ze2;rw [HN1.out];simp only [];rw [HM.out];simp only [];rw [HN4.out];simp only [];rw [if_neg (by simp [hs5])],rfl⟩⟩
 have HP:Hid (ze2 (f+1) l=some (.mk (7+k) 0 ⟨#[]⟩ ⟨#[]⟩ [x,y],l4.tail)):=by show ze2 (f+1) l=_;unfold ze2;rw [HN1.out];simp only [];rw [HM.out];simp only [];rw [HN4.out];simp only [];rw [if_pos hs5]
 have hz5:=HK5.size;simp at hz5;have HC5:Hid (w5.heap[w1.heap.size]? = some (.cells #[.int .i64 x.op,.int .i64 x.n,.string x.mod,.string x.name,.slice a1 x.args.length c1] 174 (0,0))):=(HK5.block w1.heap.size (by simp;omega) (by omega)).trans (zae HC4.out);have HD5:Hid (w5.heap[w4.heap.size]? = some (.cells #[.int .i64 y.op,.int .i64 y.n,.string y.mod,.string y.name,.slice a4 y.args.length c4] 174 (0,0))):=(HK5.block w4.heap.size (by simp) (by omega)).trans (heap_newP _ _);have HB5:Hid (w5.heap[w.heap.size]? = some (.cells #[.int .i64 0,.int .i64 0,.string ⟨#[]⟩,.string ⟨#[]⟩,.slice none 0 0] 174 (0,0))):=(HK5.block w.heap.size (by simp;omega) (by omega)).trans (zae HB4.out);obtain ⟨f0,f1,f2,f3,f4,f5⟩:=zad HC5.out;obtain ⟨g0,g1,g2,g3,g4,g5⟩:=zad HD5.out;obtain ⟨h0,h1,h2,h3,h4,h5⟩:=zad HB5.out;have HV5:Hid (zag w1 (w.heap.size+1<=·) w5 (w.heap.size+1<=·)):=(HV4.out.alloc _).keeps HK5 (by intro b;omega)
 have HW5:Hid (zag w4 (w3.heap.size<=·) w5 (w3.heap.size<=·)):=((zag.refl w4 _).alloc _).keeps HK5 (by intro b;omega);have HR5':Hid (Rd R a cap ts w5 l4.tail):=HR5;have HK5':Hid (Keeps R w w5):=(HK4'.out.alloc _).trans HK5;clear HK5 HR5 hs5 HC4 HV4 HR4'
 have HIX:Hid (∀ w:World,Calls Tryz.prog 299 #[.string opSigns,.string ⟨#[c]⟩] w fun e w'=>e = .returned (.int .i64 k)/\w'=w):=fun w=>by rw [← HKI.out];exact Tryz.strings_Index_one opSigns c w
 have hq0:w.heap.size<w5.heap.size:=by omega
 have hq1:w1.heap.size<w5.heap.size:=by omega
 have hq4:w4.heap.size<w5.heap.size:=by omega
 clear HKI
 have hwr:IntKind.i64.wrap (7+(k:Int))=7+k:=by simp only [IntKind.wrap,IntKind.bits,IntKind.signed];simp;omega
 have FIN:∀ W:World,W=(((((w5.setCell ⟨w.heap.size,0,none⟩ (.int .i64 (7+k))).setCell ⟨w.heap.size,1,none⟩ (.int .i64 0)).setCell ⟨w.heap.size,2,none⟩ (.string ⟨#[]⟩)).setCell ⟨w.heap.size,3,none⟩ (.string ⟨#[]⟩)).setCell ⟨w.heap.size,4,none⟩ (.slice (some ⟨w5.heap.size,0,none⟩) 2 2)).alloc (.cells #[.int .i64 x.op,.int .i64 x.n,.string x.mod,.string x.name,.slice a1 x.args.length c1,.int .i64 y.op,.int .i64 y.n,.string y.mod,.string y.name,.slice a4 y.args.length c4] 174)->
  zda R a cap ts w (ze2 (f+1) l) (zfx (w.heap.size<=·)) (.returned (.agg #[.int .i64 (7+k),.int .i64 0,.string ⟨#[]⟩,.string ⟨#[]⟩,.slice (some ⟨w5.heap.size,0,none⟩) 2 2])) W.drew:=by
  rintro W rfl;refine ⟨Keeps.drew (Keeps.alloc (((((HK5'.out.set (vaa _) _).set (vaa _) _).set (vaa _) _).set (vaa _) _).set (vaa _) _) _),Or.inr ⟨_,_,_,HP.out,rfl,⟨some ⟨w5.heap.size,0,none⟩,2,rfl,vad _,vad _,?_⟩,Rd.drew (Rd.alloc (((((HR5'.out.setAbove HR.out (vaa _) _).setAbove HR.out (vaa _) _).setAbove HR.out (vaa _) _).setAbove HR.out (vaa _) _).setAbove HR.out (vaa _) _) _)⟩⟩;refine z1v (t:=174) (cap:=c1) (dap:=c4) HX1.out HX4.out (zag.drew (zag.alloc (zag.set (zag.set (zag.set (zag.set (zag.set (HV5.out.to (by omega)) ?_ _) ?_ _) ?_ _) ?_ _) ?_ _) _)) (zag.drew (zag.alloc (zag.set (zag.set (zag.set (zag.set (zag.set (HW5.out.to (by omega)) ?_ _) ?_ _) ?_ _) ?_ _) ?_ _) _)) ?_ (by omega)
  all_goals first | (intro b;simp only [];omega) | skip
  have e:=heap_newP (((((w5.setCell ⟨w.heap.size,0,none⟩ (.int .i64 (7+k))).setCell ⟨w.heap.size,1,none⟩ (.int .i64 0)).setCell ⟨w.heap.size,2,none⟩ (.string ⟨#[]⟩)).setCell ⟨w.heap.size,3,none⟩ (.string ⟨#[]⟩)).setCell ⟨w.heap.size,4,none⟩ (.slice (some ⟨w5.heap.size,0,none⟩) 2 2)) (.cells #[.int .i64 x.op,.int .i64 x.n,.string x.mod,.string x.name,.slice a1 x.args.length c1,.int .i64 y.op,.int .i64 y.n,.string y.mod,.string y.name,.slice a4 y.args.length c4] 174);simp only [van] at e;exact e
 have HFIN:Hid _:=FIN;clear FIN;go_wp2_with fail
 go_region_with (go_at_call 299;refine (HIX.out _).mono ?_;rintro e w' ⟨rfl,rfl⟩)
 all_goals go_wp2_with fail
 all_goals refine bodyPost_ret (v:=.agg #[.int .i64 (7+k),.int .i64 0,.string ⟨#[]⟩,.string ⟨#[]⟩,.slice (some ⟨w5.heap.size,0,none⟩) 2 2]) (by simp [results,Tryz.results293,go_sem,h0,h1,h2,h3,h4,hq0]) rfl ?_
 all_goals exact HFIN.out _ rfl
theorem z1w (l:List Tk) (t u:ByteArray):zh5 l [t,u]=if skB l t then some t else if skB l u then some u else none:=by
 unfold zh5;rw [vck,vck];cases skB l t<;>cases skB l u<;>rfl
theorem z1x (R cap n:Nat) (a:OA) (ts l:List Tk) (t u:ByteArray) (w:World) (hn:n=w.heap.size) (h:Rd R a cap ts w l) (ht:0<t.size) (hu:0<u.size) :
 Calls Tryz.prog 195 #[.pointer (some ⟨R,0,none⟩),.slice (some ⟨n,0,none⟩) 2 2] (w.alloc (.cells #[.string t,.string u] 9)) fun e w'=>Keeps R w w'/\((skB l t=false/\skB l u=false/\e = .panicked zai)\/(skB l t=true/\e = .returned (.string t)/\Rd R a cap ts w' l.tail)\/(skB l t=false/\skB l u=true/\e = .returned (.string u)/\Rd R a cap ts w' l.tail)):=by
 have hlt:=h.lt;subst hn;refine (zic R cap w.heap.size 2 a ts l [t,u] _ (h.alloc _) (by simp) (by omega) (by simp) (fun i hi=>?_) (fun i hi=>?_)).mono ?_
 . obtain rfl | rfl:i=0\/i=1:=by simp at hi;omega
   all_goals simp
 . obtain rfl | rfl:i=0\/i=1:=by simp at hi;omega
   . exact ht
   . exact hu
 . rintro e w' ⟨hk,hr⟩
   refine ⟨((Keeps.refl R w).alloc _).trans hk,?_⟩;rw [z1w] at hr
   cases hs:skB l t<;>cases hs2:skB l u<;>rw [hs,hs2] at hr<;>simp only [vco,if_false,if_true,Option.map_none,Option.map_some] at hr
   . rcases hr with ⟨_,rfl⟩ | ⟨x,l',v,hr,_⟩
     . exact Or.inl ⟨rfl,rfl,rfl⟩
     . cases hr
   . rcases hr with ⟨hr,_⟩ | ⟨x,l',v,hr,rfl,rfl,hR⟩
     . cases hr
     . obtain ⟨rfl,rfl⟩:=vak (vab hr)
       exact Or.inr (Or.inr ⟨rfl,rfl,rfl,hR⟩)
   all_goals
    rcases hr with ⟨hr,_⟩ | ⟨x,l',v,hr,rfl,rfl,hR⟩
    . cases hr
    . obtain ⟨rfl,rfl⟩:=vak (vab hr)
      exact Or.inr (Or.inl ⟨rfl,rfl,hR⟩)
theorem zu1 (R cap:Nat) (a:OA) (ts:List Tk) (f:Nat) (IH:∀ g,g<=f->ExC R cap a ts g) (l:List Tk) (w:World) (h:Rd R a cap ts w l) (hf:3*l.length+2<=f+1) :
 Calls Tryz.prog 295 #[.pointer (some ⟨R,0,none⟩)] w (zda R a cap ts w (zdo (f+1) l) (z3g (w.heap.size<=·))):=by
 have HI:Hid (∀ g,g<=f->ExC R cap a ts g):=IH;have HR:Hid (Rd R a cap ts w l):=h;have hRw:=h.lt
 have hlts:l.length<=4096:=by
  obtain ⟨k,_,rfl,_⟩:=h.idx;have:=h.len
  rw [vbt];omega
 clear IH h;go_enter Tryz.func295,Tryz.ntmps295;go_wp2_with fail
 by_cases hs:skB l tRp=true
 . refine (zbd R cap a ts l tRp w (by decide) HR.out hs).mono ?_
   rintro e w1 ⟨rfl,HR1,HK1⟩;go_wp2_with fail;go_ret;exact ⟨HK1,Or.inr ⟨[],l.tail,_,by unfold zdo;rw [if_pos hs],rfl,⟨none,0,rfl,Or.inl rfl⟩,HR1⟩⟩
 have hs':skB l tRp=false:=by simpa using hs
 refine (zbt R cap a ts l tRp w HR.out hs').mono ?_;rintro e w1 ⟨rfl,HR1,HK1⟩;have HR1':Hid (Rd R a cap ts w1 l):=HR1;have HK1':Hid (Keeps R w w1):=HK1;have hz1:=HK1.size;clear HR1 HK1;go_wp2_with fail;refine ((HI.out f (vaa _)).expr l w1 HR1'.out (by omega)).mono ?_;rintro e w2 ⟨HK2,⟨hn,rfl⟩ | ⟨x,l2,v,hn,rfl,⟨a2,c2,rfl,hx1,hx2,hx3⟩,HR2⟩⟩
 . exact ⟨rfl,HK1'.out.trans HK2,Or.inl ⟨by unfold zdo;rw [if_neg hs,hn],rfl⟩⟩
 have hl2:=zb5 _ _ _ _ hn
 have HP:Hid (zdo (f+1) l=zfv f [x] l2):=by show zdo (f+1) l=_;unfold zdo;rw [if_neg hs,hn]
 have HR2':Hid (Rd R a cap ts w2 l2):=HR2;have HK2':Hid (Keeps R w w2):=HK1'.out.trans HK2;have HX:Hid (zaq w2 (w1.heap.size<=·) x.ds (zep x a2 c2)):=zeq hx1 hx2 hx3;have hz2:=HK2.size;clear hn HR2 HK2 hx1 hx2 hx3 hs hs' HR1' HK1';go_wp2_with fail
 go_loopw [3] (fun v wr=>∃ (g:Nat) (acc:List Ex) (l':List Tk),g<=f/\zdo (f+1) l=zfv g acc l'/\3*l'.length+3<=g/\acc.length+l'.length<=l.length/\Row w.heap.size 174 5 wr v acc.length (zbi acc)/\Rd R a cap ts wr l'/\Keeps R w wr) (fun _ wr=>zgw R ts.length wr)
 case atStart=>
  refine ⟨f,[x],l2,vaa _,HP.out,by omega,by simp;omega,?_,HR2'.out.alloc _,HK2'.out.alloc _⟩;rw [zid];exact Row.first (cs:=#[.int .i64 x.op,.int .i64 x.n,.string x.mod,.string x.name,.slice a2 x.args.length c2]) HX.out (fun b _ h=>by omega) (by omega) rfl
 case round=>
  obtain ⟨g,acc,l',hg,hpm,hlen,hacc,hrow,hrd,hke⟩:=hrel;have HG:Hid (zdo (f+1) l=zfv g acc l'):=hpm;have HO:Hid (Row w.heap.size 174 5 wr u3 acc.length (zbi acc)):=hrow;have HD:Hid (Rd R a cap ts wr l'):=hrd;have HE:Hid (Keeps R w wr):=hke;have hzr:=hke.size
  obtain ⟨g,rfl⟩:∃ g',g=g'+1:=⟨g - 1,by omega⟩
  clear hpm hrow hrd hke HP HX;go_wp2_with fail;refine (z1x R cap _ a ts l' zwr tRp _ (by simp) HD.out (by decide) (by decide)).mono ?_;rintro e w3 ⟨HK3,⟨h1,h2,rfl⟩ | ⟨h1,rfl,HR3⟩ | ⟨h1,h2,rfl,HR3⟩⟩
  . exact ⟨rfl,HE.out.trans HK3,Or.inl ⟨by rw [HG.out];unfold zfv;rw [if_neg (by simp [h1]),if_neg (by simp [h2])],rfl⟩⟩
  . have hl3:=zaj (by decide) h1
    have hz3:=HK3.size;go_wp2_with fail;refine ((HI.out g (by omega)).expr l'.tail w3 HR3 (by omega)).mono ?_;rintro e w4 ⟨HK4,⟨hn,rfl⟩ | ⟨y,l4,v,hn,rfl,⟨a4,c4,rfl,hx1,hx2,hx3⟩,HR4⟩⟩
    . exact ⟨rfl,(HE.out.trans HK3).trans HK4,Or.inl ⟨by rw [HG.out];unfold zfv;rw [if_pos h1,hn],rfl⟩⟩
    have hl4:=zb5 _ _ _ _ hn
    have HP:Hid (zdo (f+1) l=zfv g (acc++[y]) l4):=by show zdo (f+1) l=_;rw [HG.out];unfold zfv;rw [if_pos h1,hn];cases g<;>rfl
    have HX4:Hid (zaq w4 (w3.heap.size<=·) y.ds (zep y a4 c4)):=zeq hx1 hx2 hx3;have HR4':Hid (Rd R a cap ts w4 l4):=HR4;have HK4':Hid (Keeps R w w4):=(HE.out.trans HK3).trans HK4;have HO4:Hid (Row w.heap.size 174 5 w4 u3 acc.length (zbi acc)):=(HO.out.keeps HK3 hRw).keeps HK4 hRw;have hz4:=HK4.size
    have HL:Hid (∀ k,u3.ownBlock=some k->k<w3.heap.size):=fun k hk=>((HO.out.keeps HK3 hRw).lt k hk).2
    have hle:=HD.out.left;clear hn HR3 HR4 HK3 HK4 hx1 hx2 hx3
    go_wp2_with (at_builtin;refine zbl rfl (.tmp 13) (.tmp 16) 172 rfl w.heap.size 174 _ 5 72 Tryz.underlying172 Tryz.infoP80 rfl (by decide) w4 u3 acc.length (zbi acc) y.ds rfl HO4.out _ _ rfl rfl rfl (w3.heap.size<=·) HX4.out ?_ (by omega) (by decide) (by omega) ?_)
    . intro b _ hb
      exact ⟨by omega,fun h=>by have:=HL.out b h;omega⟩
    . intro g5 c5 w5 HO5 HB5 hz5
      have HO5':Hid (Row w.heap.size 174 5 w5 (.slice (some ⟨g5,0,none⟩) (acc.length+1) c5) (acc.length+1) (zbi acc++y.ds)):=HO5;have HR5:Hid (Rd R a cap ts w5 l4):=HR4'.out.belowOf HR.out HB5;have HK5:Hid (Keeps R w w5):=HK4'.out.belowOf HB5;have hl5:=HR5.out.left;clear HO5 HB5 HO4 HR4' HK4' HX4;go_wp2_with fail;go_roundw
      case rel=>exact ⟨g,acc++[y],l4,by omega,HP.out,by omega,by simp;omega,by rw [zgf,zid,vag];exact HO5'.out,HR5.out,HK5.out⟩
      case measure=>rw [hl5,hle];omega
  . have HP:Hid (zdo (f+1) l=some (acc,l'.tail)):=by show zdo (f+1) l=_;rw [HG.out];unfold zfv;rw [if_neg (by simp [h1]),if_pos h2]
    have HO3:Hid (Row w.heap.size 174 5 w3 u3 acc.length (zbi acc)):=HO.out.keeps HK3 hRw;go_wp2_with fail;go_ret;exact ⟨HE.out.trans HK3,Or.inr ⟨acc,l'.tail,_,HP.out,rfl,HO3.out.slice,HR3⟩⟩
set_option maxHeartbeats 3200000
abbrev zb4:Obj:=.cells #[.int .i64 0,.int .i64 0,.string ⟨#[]⟩,.string ⟨#[]⟩,.slice none 0 0] 174 (0,0)
theorem zku {R cap:Nat} {a:OA} {ts l l':List Tk} {w w1:World} {r:Option (Ex × List Tk)} {x:Ex} {a1:OA} {c1:Nat} (h0:Rd R a cap ts w l) (hr:r=some (x,l')) (hk:Keeps R w w1) (hrd:Rd R a cap ts w1 l')
 (hx1:x.mod.size<=maxLen) (hx2:x.name.size<=maxLen) {lo:Nat} (hx:EAt w1 (lo<=·) a1 x.args.length (zbi x.args)) (hlo:w.heap.size<lo) :
 zda R a cap ts w r (zfx (w.heap.size<=·)) (.returned (.agg #[.int .i64 x.op,.int .i64 x.n,.string x.mod,.string x.name,.slice a1 x.args.length c1])) (set5 w1 w.heap.size (.int .i64 x.op) (.int .i64 x.n) (.string x.mod) (.string x.name) (.slice a1 x.args.length c1)):=by
 refine ⟨hk.set5 (vaa _) _ _ _ _ _,Or.inr ⟨x,l',_,hr,rfl,⟨a1,c1,rfl,hx1,hx2,?_⟩,hrd.set5 h0 (vaa _) _ _ _ _ _⟩⟩;exact hx.moves (((zag.refl w1 (lo<=·)).set5 (by intro b _ hb;omega) _ _ _ _ _).to (by omega))
theorem zz2 {R cap:Nat} {a:OA} {ts l l':List Tk} {w w1:World} {r:Option (Ex × List Tk)} {op n:Int} {mod name:ByteArray} {y:Ex} {a1:OA} {c1:Nat} (h0:Rd R a cap ts w l) (hr:r=some (.mk op n mod name [y],l')) (hk:Keeps R w w1) (hrd:Rd R a cap ts w1 l')
 (hx1:mod.size<=maxLen) (hx2:name.size<=maxLen) {lo:Nat} (hy1:y.mod.size<=maxLen) (hy2:y.name.size<=maxLen) (hy:EAt w1 (lo<=·) a1 y.args.length (zbi y.args)) (hlo:w.heap.size<lo) (hlo1:lo<=w1.heap.size) :
 zda R a cap ts w r (zfx (w.heap.size<=·)) (.returned (.agg #[.int .i64 op,.int .i64 n,.string mod,.string name,.slice (some ⟨w1.heap.size,0,none⟩) 1 1])) ((set5 w1 w.heap.size (.int .i64 op) (.int .i64 n) (.string mod) (.string name) (.slice (some ⟨w1.heap.size,0,none⟩) 1 1)).alloc (.cells #[.int .i64 y.op,.int .i64 y.n,.string y.mod,.string y.name,.slice a1 y.args.length c1] 174)):=by
 refine ⟨(hk.set5 (vaa _) _ _ _ _ _).alloc _,Or.inr ⟨.mk op n mod name [y],l',_,hr,rfl,⟨_,_,rfl,hx1,hx2,?_⟩,(hrd.set5 h0 (vaa _) _ _ _ _ _).alloc _⟩⟩;refine zi0 (t:=174) (cap:=c1) hy1 hy2 hy ((((zag.refl w1 (lo<=·)).set5 (b:=w.heap.size) (by intro b _ hb;omega) _ _ _ _ _).alloc _).to (by omega)) ?_ (by omega);have e:=heap_newP (set5 w1 w.heap.size (.int .i64 op) (.int .i64 n) (.string mod) (.string name) (.slice (some ⟨w1.heap.size,0,none⟩) 1 1)) (.cells #[.int .i64 y.op,.int .i64 y.n,.string y.mod,.string y.name,.slice a1 y.args.length c1] 174);simp only [van] at e;exact e
theorem zu2 (R cap:Nat) (a:OA) (ts:List Tk) (f:Nat) (IH:ExC R cap a ts f) (l:List Tk) (w:World) (h:Rd R a cap ts w l) (hf:3*l.length+1<=f+1) :
 Calls Tryz.prog 283 #[.pointer (some ⟨R,0,none⟩)] w (zda R a cap ts w (zbf (f+1) l) (zfx (w.heap.size<=·))):=by
 have HI:Hid (ExC R cap a ts f):=IH;have HR:Hid (Rd R a cap ts w l):=h;have hRw:=h.lt;have hf0:=zze (hd l).kind (hd l).n (hd l).text;clear IH h;go_enter Tryz.func283,Tryz.ntmps283;go_wp2_with fail;refine (znl R cap a ts l _ (HR.out.alloc _)).mono ?_;rintro e w1 ⟨rfl,hb1⟩;have HR1:Hid (Rd R a cap ts w1 l):=(HR.out.alloc _).later hb1;have HK1:Hid (Keeps R w w1):=((Keeps.refl R w).alloc _).later hb1;have HB1:Hid (w1.heap[w.heap.size]? = some zb4):=(hb1.block w.heap.size (by simp)).trans (heap_newP _ _);have hz1:=hb1.size;simp at hz1;clear hb1
 by_cases hk:(hd l).kind=2
 . have HP:Hid (zbf (f+1) l=some (.mk 1 (hd l).n ⟨#[]⟩ ⟨#[]⟩ [],l.tail)):=by show zbf (f+1) l=_;unfold zbf;rw [if_pos hk]
   have HQ:Hid (pNum l=some ((hd l).n,l.tail)):=by show pNum l=_;unfold pNum;rw [if_pos hk]
   have hf0':=zze 2 (hd l).n (hd l).text;go_wp2_with fail;refine (zf8 R cap a ts l w1 HR1.out).mono ?_;rintro e w2 ⟨HK2,⟨hn,rfl⟩ | ⟨n,l2,v,hn,rfl,rfl,HR2⟩⟩
   . rw [HQ.out] at hn;cases hn
   rw [HQ.out] at hn;obtain ⟨rfl,rfl⟩:=vak (vab hn);have HB2:Hid (w2.heap[w.heap.size]? = some zb4):=(HK2.block w.heap.size (by omega) (by omega)).trans HB1.out;obtain ⟨h0,h1,h2,h3,h4,h5⟩:=zad HB2.out;have hz2:=HK2.size
   have hq0:w.heap.size<w2.heap.size:=by omega
   have HF:Hid (zda R a cap ts w (zbf (f+1) l) (zfx (w.heap.size<=·)) (.returned (.agg #[.int .i64 1,.int .i64 (hd l).n,.string ⟨#[]⟩,.string ⟨#[]⟩,.slice none 0 0])) (set5 w2 w.heap.size (.int .i64 1) (.int .i64 (hd l).n) (.string ⟨#[]⟩) (.string ⟨#[]⟩) (.slice none 0 0))):=
    zku (x:=.mk 1 (hd l).n ⟨#[]⟩ ⟨#[]⟩ []) HR.out HP.out (HK1.out.trans HK2) HR2 (vad _) (vad _) (lo:=w2.heap.size) (Or.inl rfl) hq0
   clear hn HR2 HK2;go_wp2_with fail;refine bodyPost_ret (v:=.agg #[.int .i64 1,.int .i64 (hd l).n,.string ⟨#[]⟩,.string ⟨#[]⟩,.slice none 0 0]) (by simp [results,Tryz.results283,go_sem,h0,h1,h2,h3,h4]) rfl HF.out
 go_wp2_with fail
 by_cases hs2:skB l tIn=true
 . refine (zbd R cap a ts l tIn w1 (by decide) HR1.out hs2).mono ?_
   rintro e w2 ⟨rfl,HR2,HK2⟩;have HB2:Hid (w2.heap[w.heap.size]? = some zb4):=(HK2.block w.heap.size (by omega) (by omega)).trans HB1.out;obtain ⟨h0,h1,h2,h3,h4,h5⟩:=zad HB2.out;have hz2:=HK2.size
   have hq0:w.heap.size<w2.heap.size:=by omega
   have HF:Hid (zda R a cap ts w (zbf (f+1) l) (zfx (w.heap.size<=·)) (.returned (.agg #[.int .i64 2,.int .i64 0,.string ⟨#[]⟩,.string ⟨#[]⟩,.slice none 0 0])) (set5 w2 w.heap.size (.int .i64 2) (.int .i64 0) (.string ⟨#[]⟩) (.string ⟨#[]⟩) (.slice none 0 0))):=
    zku (x:=.mk 2 0 ⟨#[]⟩ ⟨#[]⟩ []) HR.out (by unfold zbf;rw [if_neg hk,if_pos hs2]) (HK1.out.trans HK2) HR2 (vad _) (vad _) (lo:=w2.heap.size) (Or.inl rfl) hq0
   clear HR2 HK2;go_wp2_with fail;refine bodyPost_ret (v:=.agg #[.int .i64 2,.int .i64 0,.string ⟨#[]⟩,.string ⟨#[]⟩,.slice none 0 0]) (by simp [results,Tryz.results283,go_sem,h0,h1,h2,h3,h4]) rfl HF.out
 refine (zbt R cap a ts l tIn w1 HR1.out (by simpa using hs2)).mono ?_;rintro e w2 ⟨rfl,HR2,HK2⟩;have HR2':Hid (Rd R a cap ts w2 l):=HR2;have HK2':Hid (Keeps R w w2):=HK1.out.trans HK2;have HB2:Hid (w2.heap[w.heap.size]? = some zb4):=(HK2.block w.heap.size (by omega) (by omega)).trans HB1.out;have hz2:=HK2.size;clear HR2 HK2 HR1 HK1 HB1;go_wp2_with fail
 by_cases hs3:skB l z1g=true
 . have hl3:=zaj (by decide) hs3
   refine (zbd R cap a ts l z1g w2 (by decide) HR2'.out hs3).mono ?_;rintro e w3 ⟨rfl,HR3,HK3⟩;have hz3:=HK3.size;have HB3:Hid (w3.heap[w.heap.size]? = some zb4):=(HK3.block w.heap.size (by omega) (by omega)).trans HB2.out;go_wp2_with fail;refine (HI.out.expr l.tail w3 HR3 (by omega)).mono ?_;rintro e w4 ⟨HK4,⟨hn,rfl⟩ | ⟨y,l4,v,hn,rfl,⟨a4,c4,rfl,hy1,hy2,hy3⟩,HR4⟩⟩
   . exact ⟨rfl,(HK2'.out.trans HK3).trans HK4,Or.inl ⟨by unfold zbf;rw [if_neg hk,if_neg hs2,if_pos hs3,hn],rfl⟩⟩
   have HB4:Hid (w4.heap[w.heap.size]? = some zb4):=(HK4.block w.heap.size (by omega) (by omega)).trans HB3.out;obtain ⟨h0,h1,h2,h3,h4,h5⟩:=zad HB4.out;have hz4:=HK4.size
   have hq0:w.heap.size<w4.heap.size:=by omega
   have HF:Hid (zda R a cap ts w (zbf (f+1) l) (zfx (w.heap.size<=·)) (.returned (.agg #[.int .i64 6,.int .i64 0,.string ⟨#[]⟩,.string ⟨#[]⟩,.slice (some ⟨w4.heap.size,0,none⟩) 1 1])) ((set5 w4 w.heap.size (.int .i64 6) (.int .i64 0) (.string ⟨#[]⟩) (.string ⟨#[]⟩) (.slice (some ⟨w4.heap.size,0,none⟩) 1 1)).alloc (.cells #[.int .i64 y.op,.int .i64 y.n,.string y.mod,.string y.name,.slice a4 y.args.length c4] 174))):=
    zz2 HR.out (by unfold zbf;rw [if_neg hk,if_neg hs2,if_pos hs3,hn]) ((HK2'.out.trans HK3).trans HK4) HR4 (vad _) (vad _) hy1 hy2 hy3 (by omega) hz4
   clear hn HR3 HR4 HK3 HK4 hy1 hy2 hy3;go_wp2_with fail;refine bodyPost_ret (v:=.agg #[.int .i64 6,.int .i64 0,.string ⟨#[]⟩,.string ⟨#[]⟩,.slice (some ⟨w4.heap.size,0,none⟩) 1 1]) (by simp [results,Tryz.results283,go_sem,h0,h1,h2,h3,h4,hq0]) rfl HF.out
 refine (zbt R cap a ts l z1g w2 HR2'.out (by simpa using hs3)).mono ?_;rintro e w3 ⟨rfl,HR3,HK3⟩;have HR3':Hid (Rd R a cap ts w3 l):=HR3;have HK3':Hid (Keeps R w w3):=HK2'.out.trans HK3;have HB3:Hid (w3.heap[w.heap.size]? = some zb4):=(HK3.block w.heap.size (by omega) (by omega)).trans HB2.out;have hz3:=HK3.size;clear HR3 HK3 HR2' HK2' HB2;go_wp2_with fail
 by_cases hs4:skB l tLp=true
 . have hl4:=zaj (by decide) hs4
   refine (zbd R cap a ts l tLp w3 (by decide) HR3'.out hs4).mono ?_;rintro e w4 ⟨rfl,HR4,HK4⟩;have hz4:=HK4.size;have HB4:Hid (w4.heap[w.heap.size]? = some zb4):=(HK4.block w.heap.size (by omega) (by omega)).trans HB3.out;go_wp2_with fail;refine (HI.out.pair l.tail w4 HR4 (by omega)).mono ?_;rintro e w5 ⟨HK5,⟨hn,rfl⟩ | ⟨y,l5,v,hn,rfl,⟨a5,c5,rfl,hy1,hy2,hy3⟩,HR5⟩⟩
   . exact ⟨rfl,(HK3'.out.trans HK4).trans HK5,Or.inl ⟨by unfold zbf;rw [if_neg hk,if_neg hs2,if_neg hs3,if_pos hs4,hn],rfl⟩⟩
   have HB5:Hid (w5.heap[w.heap.size]? = some zb4):=(HK5.block w.heap.size (by omega) (by omega)).trans HB4.out;obtain ⟨h0,h1,h2,h3,h4,h5⟩:=zad HB5.out;have hz5:=HK5.size
   have HF:Hid (zda R a cap ts w (zbf (f+1) l) (zfx (w.heap.size<=·)) (.returned (.agg #[.int .i64 y.op,.int .i64 y.n,.string y.mod,.string y.name,.slice a5 y.args.length c5])) (set5 w5 w.heap.size (.int .i64 y.op) (.int .i64 y.n) (.string y.mod) (.string y.name) (.slice a5 y.args.length c5))):=
    zku (x:=y) HR.out (by unfold zbf;rw [if_neg hk,if_neg hs2,if_neg hs3,if_pos hs4,hn]) ((HK3'.out.trans HK4).trans HK5) HR5 hy1 hy2 (lo:=w4.heap.size) hy3 (by omega)
   clear hn HR4 HR5 HK4 HK5 hy1 hy2 hy3;go_wp2_with fail;refine bodyPost_ret (v:=.agg #[.int .i64 y.op,.int .i64 y.n,.string y.mod,.string y.name,.slice a5 y.args.length c5]) (by simp [results,Tryz.results283,go_sem,h0,h1,h2,h3,h4]) rfl HF.out
 refine (zbt R cap a ts l tLp w3 HR3'.out (by simpa using hs4)).mono ?_;rintro e w4 ⟨rfl,HR4,HK4⟩;have HR4':Hid (Rd R a cap ts w4 l):=HR4;have HK4':Hid (Keeps R w w4):=HK3'.out.trans HK4;have HB4:Hid (w4.heap[w.heap.size]? = some zb4):=(HK4.block w.heap.size (by omega) (by omega)).trans HB3.out;have hz4:=HK4.size
 have HPX:Hid (zbf (f+1) l=match ztb l with
  | none=>none
  | some ((m,n),l1)=>
    if skB l1 tLs then (match zbf f l1.tail with | none=>none | some (x,l2)=>if skB l2 tRs then some (.mk 4 0 m n [x],l2.tail) else none)
    else if skB l1 tLp then (match zdo f l1.tail with | none=>none | some (xs,l2)=>some (.mk 5 0 m n xs,l2))
    else some (.mk 3 0 m n [],l1)):=by
  show zbf (f+1) l=_
  conv=>lhs;unfold zbf
  rw [if_neg hk,if_neg hs2,if_neg hs3,if_neg hs4]
  rfl
 clear HR4 HK4 HR3' HK3' HB3 hk hs2 hs3 hs4;go_wp2_with fail;refine (zuw R cap a ts l _ (HR4'.out.alloc _)).mono ?_;rintro e w5 ⟨HK5,⟨hn,rfl⟩ | ⟨⟨m,n⟩,l5,v,hn,rfl,⟨rfl,hm,hnn⟩,HR5⟩⟩
 . exact ⟨rfl,(HK4'.out.alloc _).trans HK5,Or.inl ⟨by rw [HPX.out,hn],rfl⟩⟩
 have hl5:=zos hn
 have HPY:Hid (zbf (f+1) l=if skB l5 tLs then (match zbf f l5.tail with | none=>none | some (x,l2)=>if skB l2 tRs then some (.mk 4 0 m n [x],l2.tail) else none)
  else if skB l5 tLp then (match zdo f l5.tail with | none=>none | some (xs,l2)=>some (.mk 5 0 m n xs,l2))
  else some (.mk 3 0 m n [],l5)):=by
  show zbf (f+1) l=_;rw [HPX.out,hn]
 have HR5':Hid (Rd R a cap ts w5 l5):=HR5;have HK5':Hid (Keeps R w w5):=(HK4'.out.alloc _).trans HK5;have HB5:Hid (w5.heap[w.heap.size]? = some zb4):=(HK5.block w.heap.size (by simp;omega) (by omega)).trans (zae HB4.out);have HC5:Hid (w5.heap[w4.heap.size]? = some (.cells #[.int .i64 3,.int .i64 0,.string ⟨#[]⟩,.string ⟨#[]⟩,.slice none 0 0] 174 (0,0))):=(HK5.block w4.heap.size (by simp) (by omega)).trans (heap_newP _ _);have hz5:=HK5.size;simp at hz5;obtain ⟨h0,h1,h2,h3,h4,h5⟩:=zad HC5.out;clear hn HR5 HK5 HPX HR4' HB4 HK4';have HR6:Hid (Rd R a cap ts ((w5.setCell ⟨w4.heap.size,2,none⟩ (.string m)).setCell ⟨w4.heap.size,3,none⟩ (.string n)) l5):=(HR5'.out.setAbove HR.out (by show _<=w4.heap.size;omega) _).setAbove HR.out (by show _<=w4.heap.size;omega) _;have HK6:Hid (Keeps R w ((w5.setCell ⟨w4.heap.size,2,none⟩ (.string m)).setCell ⟨w4.heap.size,3,none⟩ (.string n))):=(HK5'.out.set (by show _<=w4.heap.size;omega) _).set (by show _<=w4.heap.size;omega) _
 have HB6:Hid (((w5.setCell ⟨w4.heap.size,2,none⟩ (.string m)).setCell ⟨w4.heap.size,3,none⟩ (.string n)).heap[w.heap.size]? = some zb4):=(zac (by show w.heap.size≠w4.heap.size;omega) _).trans ((zac (by show w.heap.size≠w4.heap.size;omega) _).trans HB5.out);have HC6:Hid (((w5.setCell ⟨w4.heap.size,2,none⟩ (.string m)).setCell ⟨w4.heap.size,3,none⟩ (.string n)).heap[w4.heap.size]? = some (.cells #[.int .i64 3,.int .i64 0,.string m,.string n,.slice none 0 0] 174 (0,0))):=zaf (zaf HC5.out _) _
 have hz6:((w5.setCell ⟨w4.heap.size,2,none⟩ (.string m)).setCell ⟨w4.heap.size,3,none⟩ (.string n)).heap.size=w5.heap.size:=by simp only [van]
 clear HR5' HK5' HB5;go_wp2_with fail;generalize (w5.setCell ⟨w4.heap.size,2,none⟩ (.string m)).setCell ⟨w4.heap.size,3,none⟩ (.string n)=w6 at *;clear h0 h1 h2 h3 h4 h5 HC5
 by_cases hs7:skB l5 tLs=true
 . have hl7:=zaj (by decide) hs7
   refine (zbd R cap a ts l5 tLs w6 (by decide) HR6.out hs7).mono ?_;rintro e w7 ⟨rfl,HR7,HK7⟩;have hz7:=HK7.size;have HB7:Hid (w7.heap[w.heap.size]? = some zb4):=(HK7.block w.heap.size (by omega) (by omega)).trans HB6.out;have HC7:Hid (w7.heap[w4.heap.size]? = some (.cells #[.int .i64 3,.int .i64 0,.string m,.string n,.slice none 0 0] 174 (0,0))):=(HK7.block w4.heap.size (by omega) (by omega)).trans HC6.out;obtain ⟨h0,h1,h2,h3,h4,h5⟩:=zad HC7.out;have HR8:Hid (Rd R a cap ts (w7.setCell ⟨w4.heap.size,0,none⟩ (.int .i64 4)) l5.tail):=HR7.setAbove HR.out (by show _<=w4.heap.size;omega) _;have HK8:Hid (Keeps R w (w7.setCell ⟨w4.heap.size,0,none⟩ (.int .i64 4))):=(HK6.out.trans HK7).set (by show _<=w4.heap.size;omega) _;have HB8:Hid ((w7.setCell ⟨w4.heap.size,0,none⟩ (.int .i64 4)).heap[w.heap.size]? = some zb4):=(zac (by show w.heap.size≠w4.heap.size;omega) _).trans HB7.out
   have HC8:Hid ((w7.setCell ⟨w4.heap.size,0,none⟩ (.int .i64 4)).heap[w4.heap.size]? = some (.cells #[.int .i64 4,.int .i64 0,.string m,.string n,.slice none 0 0] 174 (0,0))):=zaf HC7.out _
   have hz8:(w7.setCell ⟨w4.heap.size,0,none⟩ (.int .i64 4)).heap.size=w7.heap.size:=by simp only [van]
   clear HR7 HK7 HB7 HR6 HK6 HB6 HC6;go_wp2_with fail;generalize w7.setCell ⟨w4.heap.size,0,none⟩ (.int .i64 4)=w8 at *;clear h0 h1 h2 h3 h4 h5 HC7;refine (HI.out.expr l5.tail w8 HR8.out (by omega)).mono ?_;rintro e w9 ⟨HK9,⟨hn,rfl⟩ | ⟨y,l9,v,hn,rfl,⟨a9,c9,rfl,hy1,hy2,hy3⟩,HR9⟩⟩
   . exact ⟨rfl,HK8.out.trans HK9,Or.inl ⟨by rw [HPY.out,if_pos hs7,hn],rfl⟩⟩
   have hz9:=HK9.size;have HB9:Hid (w9.heap[w.heap.size]? = some zb4):=(HK9.block w.heap.size (by omega) (by omega)).trans HB8.out;have HC9:Hid (w9.heap[w4.heap.size]? = some (.cells #[.int .i64 4,.int .i64 0,.string m,.string n,.slice none 0 0] 174 (0,0))):=(HK9.block w4.heap.size (by omega) (by omega)).trans HC8.out;obtain ⟨h0,h1,h2,h3,h4,h5⟩:=zad HC9.out
   have hq4:w4.heap.size<w9.heap.size:=by omega
   have HN9:Hid (zbf f l5.tail=some (y,l9)):=hn
   have HY9:Hid (y.mod.size<=maxLen/\y.name.size<=maxLen/\EAt w9 (w8.heap.size<=·) a9 y.args.length (zbi y.args)):=⟨hy1,hy2,hy3⟩
   have HR9':Hid (Rd R a cap ts w9 l9):=HR9;have HK9':Hid (Keeps R w w9):=HK8.out.trans HK9;clear hn HR9 HK9 hy1 hy2 hy3 HB8 HC8 HR8 HK8;go_wp2_with fail;refine (zeo R cap _ a ts l9 tRs _ (by simp) ((HR9'.out.setAbove HR.out (by show _<=w4.heap.size;omega) _).alloc _) (by decide)).mono ?_;rintro e w10 ⟨HK10,⟨hs5,rfl⟩ | ⟨hs5,rfl,HR10⟩⟩
   . exact ⟨rfl,((HK9'.out.set (by show _<=w4.heap.size;omega) _).alloc _).trans HK10,Or.inl ⟨by rw [HPY.out,if_pos hs7,HN9.out];simp [hs5],rfl⟩⟩
   have HP:Hid (zbf (f+1) l=some (.mk 4 0 m n [y],l9.tail)):=by show zbf (f+1) l=_;rw [HPY.out,if_pos hs7,HN9.out];simp [hs5]
   have hz10:=HK10.size;simp at hz10;have HB10:Hid (w10.heap[w.heap.size]? = some zb4):=(HK10.block w.heap.size (by simp;omega) (by omega)).trans (zae ((zac (by show w.heap.size≠w4.heap.size;omega) _).trans HB9.out));have HC10:Hid (w10.heap[w4.heap.size]? = some (.cells #[.int .i64 4,.int .i64 0,.string m,.string n,.slice (some ⟨w9.heap.size,0,none⟩) 1 1] 174 (0,0))):=(HK10.block w4.heap.size (by simp;omega) (by omega)).trans (zae (zaf HC9.out _))
   have HD10:Hid (w10.heap[w9.heap.size]? = some (.cells #[.int .i64 y.op,.int .i64 y.n,.string y.mod,.string y.name,.slice a9 y.args.length c9] 174 (0,0))):=(HK10.block w9.heap.size (by simp) (by omega)).trans (by
    have e:=heap_newP (w9.setCell ⟨w4.heap.size,4,none⟩ (.slice (some ⟨w9.heap.size,0,none⟩) 1 1)) (.cells #[.int .i64 y.op,.int .i64 y.n,.string y.mod,.string y.name,.slice a9 y.args.length c9] 174);simp only [van] at e
    exact e)
   have HM10:zag w9 (w8.heap.size<=·) w10 (w8.heap.size<=·):=(((zag.refl w9 _).set (by intro b _ hb;show b≠w4.heap.size;omega) _).alloc _).keeps HK10 (by intro b _ hb;omega)
   have HF:Hid (zda R a cap ts w (zbf (f+1) l) (zfx (w.heap.size<=·)) (.returned (.agg #[.int .i64 4,.int .i64 0,.string m,.string n,.slice (some ⟨w9.heap.size,0,none⟩) 1 1])) (set5 w10 w.heap.size (.int .i64 4) (.int .i64 0) (.string m) (.string n) (.slice (some ⟨w9.heap.size,0,none⟩) 1 1))):=
    zku (x:=.mk 4 0 m n [y]) HR.out HP.out (((HK9'.out.set (by show _<=w4.heap.size;omega) _).alloc _).trans HK10) HR10 hm hnn (lo:=w8.heap.size) (zi0 HY9.out.1 HY9.out.2.1 HY9.out.2.2 HM10 HD10.out (by omega)) (by omega)
   obtain ⟨h0,h1,h2,h3,h4,h5⟩:=zad HB10.out;obtain ⟨g0,g1,g2,g3,g4,g5⟩:=zad HC10.out;clear HK10 HR10 HM10;go_wp2_with fail;refine bodyPost_ret (v:=.agg #[.int .i64 4,.int .i64 0,.string m,.string n,.slice (some ⟨w9.heap.size,0,none⟩) 1 1]) (by simp [results,Tryz.results283,go_sem,h0,h1,h2,h3,h4]) rfl HF.out
 refine (zbt R cap a ts l5 tLs w6 HR6.out (by simpa using hs7)).mono ?_;rintro e w7 ⟨rfl,HR7,HK7⟩;have hz7:=HK7.size;have HR7':Hid (Rd R a cap ts w7 l5):=HR7;have HK7':Hid (Keeps R w w7):=HK6.out.trans HK7;have HB7:Hid (w7.heap[w.heap.size]? = some zb4):=(HK7.block w.heap.size (by omega) (by omega)).trans HB6.out;have HC7:Hid (w7.heap[w4.heap.size]? = some (.cells #[.int .i64 3,.int .i64 0,.string m,.string n,.slice none 0 0] 174 (0,0))):=(HK7.block w4.heap.size (by omega) (by omega)).trans HC6.out;clear HR7 HK7 HR6 HK6 HB6 HC6;go_wp2_with fail
 by_cases hs8:skB l5 tLp=true
 . have hl8:=zaj (by decide) hs8
   refine (zbd R cap a ts l5 tLp w7 (by decide) HR7'.out hs8).mono ?_;rintro e w8 ⟨rfl,HR8,HK8⟩;have hz8:=HK8.size;have HB8:Hid (w8.heap[w.heap.size]? = some zb4):=(HK8.block w.heap.size (by omega) (by omega)).trans HB7.out;have HC8:Hid (w8.heap[w4.heap.size]? = some (.cells #[.int .i64 3,.int .i64 0,.string m,.string n,.slice none 0 0] 174 (0,0))):=(HK8.block w4.heap.size (by omega) (by omega)).trans HC7.out;obtain ⟨h0,h1,h2,h3,h4,h5⟩:=zad HC8.out;have HR9:Hid (Rd R a cap ts (w8.setCell ⟨w4.heap.size,0,none⟩ (.int .i64 5)) l5.tail):=HR8.setAbove HR.out (by show _<=w4.heap.size;omega) _;have HK9:Hid (Keeps R w (w8.setCell ⟨w4.heap.size,0,none⟩ (.int .i64 5))):=(HK7'.out.trans HK8).set (by show _<=w4.heap.size;omega) _;have HB9:Hid ((w8.setCell ⟨w4.heap.size,0,none⟩ (.int .i64 5)).heap[w.heap.size]? = some zb4):=(zac (by show w.heap.size≠w4.heap.size;omega) _).trans HB8.out
   have HC9:Hid ((w8.setCell ⟨w4.heap.size,0,none⟩ (.int .i64 5)).heap[w4.heap.size]? = some (.cells #[.int .i64 5,.int .i64 0,.string m,.string n,.slice none 0 0] 174 (0,0))):=zaf HC8.out _
   have hz9:(w8.setCell ⟨w4.heap.size,0,none⟩ (.int .i64 5)).heap.size=w8.heap.size:=by simp only [van]
   clear HR8 HK8 HB8 HR7' HK7' HB7 HC7;go_wp2_with fail;generalize w8.setCell ⟨w4.heap.size,0,none⟩ (.int .i64 5)=w9 at *;clear h0 h1 h2 h3 h4 h5 HC8;refine (HI.out.args l5.tail w9 HR9.out (by omega)).mono ?_;rintro e w10 ⟨HK10,⟨hn,rfl⟩ | ⟨xs,l10,v,hn,rfl,⟨a10,c10,rfl,hx10⟩,HR10⟩⟩
   . exact ⟨rfl,HK9.out.trans HK10,Or.inl ⟨by rw [HPY.out,if_neg hs7,if_pos hs8,hn],rfl⟩⟩
   have hz10:=HK10.size
   have HP:Hid (zbf (f+1) l=some (.mk 5 0 m n xs,l10)):=by show zbf (f+1) l=_;rw [HPY.out,if_neg hs7,if_pos hs8,hn]
   have HB10:Hid (w10.heap[w.heap.size]? = some zb4):=(HK10.block w.heap.size (by omega) (by omega)).trans HB9.out;have HC10:Hid (w10.heap[w4.heap.size]? = some (.cells #[.int .i64 5,.int .i64 0,.string m,.string n,.slice none 0 0] 174 (0,0))):=(HK10.block w4.heap.size (by omega) (by omega)).trans HC9.out
   have HF:Hid (zda R a cap ts w (zbf (f+1) l) (zfx (w.heap.size<=·)) (.returned (.agg #[.int .i64 5,.int .i64 0,.string m,.string n,.slice a10 xs.length c10])) (set5 (w10.setCell ⟨w4.heap.size,4,none⟩ (.slice a10 xs.length c10)) w.heap.size (.int .i64 5) (.int .i64 0) (.string m) (.string n) (.slice a10 xs.length c10))):=
    zku (x:=.mk 5 0 m n xs) HR.out HP.out ((HK9.out.trans HK10).set (by show _<=w4.heap.size;omega) _) (HR10.setAbove HR.out (by show _<=w4.heap.size;omega) _) hm hnn (lo:=w9.heap.size) (hx10.moves ((zag.refl w10 _).set (by intro b _ hb;show b≠w4.heap.size;omega) _)) (by omega)
   obtain ⟨h0,h1,h2,h3,h4,h5⟩:=zad HB10.out;obtain ⟨g0,g1,g2,g3,g4,g5⟩:=zad HC10.out
   have hne:w.heap.size≠w4.heap.size:=by omega
   clear HK10 HR10 hn;go_wp2_with fail;refine bodyPost_ret (v:=.agg #[.int .i64 5,.int .i64 0,.string m,.string n,.slice a10 xs.length c10]) (by simp [results,Tryz.results283,go_sem,h0,h1,h2,h3,h4]) rfl HF.out
 refine (zbt R cap a ts l5 tLp w7 HR7'.out (by simpa using hs8)).mono ?_;rintro e w8 ⟨rfl,HR8,HK8⟩;have hz8:=HK8.size;have HB8:Hid (w8.heap[w.heap.size]? = some zb4):=(HK8.block w.heap.size (by omega) (by omega)).trans HB7.out;have HC8:Hid (w8.heap[w4.heap.size]? = some (.cells #[.int .i64 3,.int .i64 0,.string m,.string n,.slice none 0 0] 174 (0,0))):=(HK8.block w4.heap.size (by omega) (by omega)).trans HC7.out
 have HF:Hid (zda R a cap ts w (zbf (f+1) l) (zfx (w.heap.size<=·)) (.returned (.agg #[.int .i64 3,.int .i64 0,.string m,.string n,.slice none 0 0])) (set5 w8 w.heap.size (.int .i64 3) (.int .i64 0) (.string m) (.string n) (.slice none 0 0))):=
  zku (x:=.mk 3 0 m n []) HR.out (by rw [HPY.out,if_neg hs7,if_neg hs8]) (HK7'.out.trans HK8) HR8 hm hnn (lo:=w8.heap.size) (Or.inl rfl) (by omega)
 obtain ⟨h0,h1,h2,h3,h4,h5⟩:=zad HB8.out;obtain ⟨g0,g1,g2,g3,g4,g5⟩:=zad HC8.out;clear HK8 HR8;go_wp2_with fail;refine bodyPost_ret (v:=.agg #[.int .i64 3,.int .i64 0,.string m,.string n,.slice none 0 0]) (by simp [results,Tryz.results283,go_sem,h0,h1,h2,h3,h4]) rfl HF.out
theorem zzf (R cap:Nat) (a:OA) (ts:List Tk):∀ f,ExC R cap a ts f:=by
 intro f
 induction f using Nat.strongRecOn with
 | ind f ih=>
   cases f with
   | zero=>exact ⟨fun _ _ _ h=>by omega,fun _ _ _ h=>by omega,fun _ _ _ h=>by omega⟩
   | succ f=>
     exact ⟨fun l w h hf=>zu2 R cap a ts f (ih f (by omega)) l w h hf,fun l w h hf=>zu0 R cap a ts f (ih f (by omega)) l w h hf,fun l w h hf=>zu1 R cap a ts f (fun g hg=>ih g (by omega)) l w h hf⟩
theorem zd1 (R cap:Nat) (a:OA) (ts l:List Tk) (w:World) (h:Rd R a cap ts w l) :
 Calls Tryz.prog 283 #[.pointer (some ⟨R,0,none⟩)] w (zda R a cap ts w (pX l) (zfx (w.heap.size<=·))):=(zzf R cap a ts _).expr l w h (by omega)
theorem zxm (R cap:Nat) (a:OA) (ts l:List Tk) (w:World) (h:Rd R a cap ts w l) :
 Calls Tryz.prog 295 #[.pointer (some ⟨R,0,none⟩)] w (zda R a cap ts w (pAs l) (z3g (w.heap.size<=·))):=(zzf R cap a ts _).args l w h (by omega)
end Go.Proofs.YtndkhgakfodldaaGreatDoor
