import Derived.Test.YtndkhgakfodldaaGreatDoorDq
namespace Go.Proofs.YtndkhgakfodldaaGreatDoor
set_option maxRecDepth 100000
set_option maxHeartbeats 3200000
open Go.RowKit Go.Shelf
set_option linter.unusedSimpArgs false
set_option linter.unusedVariables false
theorem z22 {n B base:Nat} {cx:Cx} {K:Wk} {c:Ca} {loc:List Int} {ret:Int} {vo:Value} {s:Sw} {w:World} {k:Nat} {nn m at_:Int} {args:List Nd} {body other:List Ac} {a1:OA} {k1:Nat} {a2:OA} {k2:Nat} {a3:OA} {k3:Nat} (hV:∀ y ∈ args,NdV n B base cx K 6 y) (h:Cn n w B base cx K vo s c loc ret) (hD:DAt w (·<base) a1 args.length (zcl args)) (hN:∀ y ∈ args,okN cx c.u loc.length K.cd 6 y) (hl:args.length=1) (hm:m = -1) (h0:0<=at_) (h1:at_<loc.length) :
 Calls Tryz.prog 208 #[.pointer (some ⟨c.C,0,none⟩),.agg #[.int .i64 1,.int .i64 nn,.int .i64 m,.int .i64 at_,.slice a1 args.length k1,.slice a2 body.length k2,.slice a3 other.length k3]] w fun e w'=>Sa zf4 n B base cx K c w vo (aN (En cx n) (Wn cx n) cx c.u (k+1) ⟨1,nn,m,at_,args,body,other⟩ ⟨loc,ret⟩ s) e w':=by
 have HC:=hid (h.below (al1 w (.cells #[.int .i64 1,.int .i64 nn,.int .i64 m,.int .i64 at_,.slice a1 args.length k1,.slice a2 body.length k2,.slice a3 other.length k3] 109)));have HV:=hid (zwv (op:=1) (nn:=nn) (k1:=k1) (body:=body) (other:=other) (a2:=a2) (k2:=k2) (a3:=a3) (k3:=k3) hV HC.out (hD.later (al1 w _)) hN hl hm h0 h1);have HR:Hid (aN (En cx n) (Wn cx n) cx c.u (k+1) ⟨1,nn,m,at_,args,body,other⟩ ⟨loc,ret⟩ s=zwc (vN (En cx n) cx c.u loc 6 (argN args 0)) cx c.u m at_ ⟨loc,ret⟩ s):=rfl
 have HQ:Hid (∀ b s',zwc (vN (En cx n) cx c.u loc 6 (argN args 0)) cx c.u m at_ ⟨loc,ret⟩ s = .ok b s'->b.1=false):=fun b s' e=>by
  unfold zwc at e
  revert e
  cases vN (En cx n) cx c.u loc 6 (argN args 0) s with
  | stop e t=>intro e;cases e
  | ok v t=>
    intro e;have e:ite (m = -1) (Rr.ok (false,_) _) (Rr.ok (false,_) _)=Rr.ok b s':=e
    split at e<;>(cases e;rfl)
 clear h hV hD hN hl hm h0 h1;go_enter Tryz.func208,Tryz.ntmps208;go_wp2_with fail;refine HV.out.mono ?_;rintro e w1 ⟨vo1,hg,⟨k',s',hr,rfl,hw⟩ | ⟨⟨db,dl,dr⟩,s',hr,rfl,hw⟩⟩
 . exact ⟨rfl,Sa.no ((Fm.below (al1 w _)).gm.trans hg) (HR.out.trans hr) hw⟩
 . obtain rfl:db=false:=HQ.out _ _ hr
   have HE:=hid (Sa.ok (rep:=zf4) ((Fm.below (al1 w _)).gm.trans hg) (HR.out.trans hr) hw);clear hg hr hw;unfold z2r;go_wp2_with fail
   go_returns
   exact HE.out
theorem z23 {n B base:Nat} {cx:Cx} {K:Wk} {c:Ca} {loc:List Int} {ret:Int} {vo:Value} {s:Sw} {w:World} {k:Nat} {nn m at_:Int} {args:List Nd} {body other:List Ac} {a1:OA} {k1:Nat} {a2:OA} {k2:Nat} {a3:OA} {k3:Nat} (hV:∀ y ∈ args,NdV n B base cx K 6 y) (h:Cn n w B base cx K vo s c loc ret) (hD:DAt w (·<base) a1 args.length (zcl args)) (hN:∀ y ∈ args,okN cx c.u loc.length K.cd 6 y) (hl:args.length=1) (hm:m≠-1) (hp:zol cx c.u K.cd m at_ 1) :
 Calls Tryz.prog 208 #[.pointer (some ⟨c.C,0,none⟩),.agg #[.int .i64 1,.int .i64 nn,.int .i64 m,.int .i64 at_,.slice a1 args.length k1,.slice a2 body.length k2,.slice a3 other.length k3]] w fun e w'=>Sa zf4 n B base cx K c w vo (aN (En cx n) (Wn cx n) cx c.u (k+1) ⟨1,nn,m,at_,args,body,other⟩ ⟨loc,ret⟩ s) e w':=by
 have HC:=hid (h.below (al1 w (.cells #[.int .i64 1,.int .i64 nn,.int .i64 m,.int .i64 at_,.slice a1 args.length k1,.slice a2 body.length k2,.slice a3 other.length k3] 109)));have HV:=hid (zww (op:=1) (nn:=nn) (k1:=k1) (body:=body) (other:=other) (a2:=a2) (k2:=k2) (a3:=a3) (k3:=k3) hV HC.out (hD.later (al1 w _)) hN hl hm hp);have HR:Hid (aN (En cx n) (Wn cx n) cx c.u (k+1) ⟨1,nn,m,at_,args,body,other⟩ ⟨loc,ret⟩ s=zwc (vN (En cx n) cx c.u loc 6 (argN args 0)) cx c.u m at_ ⟨loc,ret⟩ s):=rfl
 have HQ:Hid (∀ b s',zwc (vN (En cx n) cx c.u loc 6 (argN args 0)) cx c.u m at_ ⟨loc,ret⟩ s = .ok b s'->b.1=false):=fun b s' e=>by
  unfold zwc at e
  revert e
  cases vN (En cx n) cx c.u loc 6 (argN args 0) s with
  | stop e t=>intro e;cases e
  | ok v t=>
    intro e;have e:ite (m = -1) (Rr.ok (false,_) _) (Rr.ok (false,_) _)=Rr.ok b s':=e
    split at e<;>(cases e;rfl)
 clear h hV hD hN hl hm hp;go_enter Tryz.func208,Tryz.ntmps208;go_wp2_with fail;refine HV.out.mono ?_;rintro e w1 ⟨vo1,hg,⟨k',s',hr,rfl,hw⟩ | ⟨⟨db,dl,dr⟩,s',hr,rfl,hw⟩⟩
 . exact ⟨rfl,Sa.no ((Fm.below (al1 w _)).gm.trans hg) (HR.out.trans hr) hw⟩
 . obtain rfl:db=false:=HQ.out _ _ hr
   have HE:=hid (Sa.ok (rep:=zf4) ((Fm.below (al1 w _)).gm.trans hg) (HR.out.trans hr) hw);clear hg hr hw;unfold z2r;go_wp2_with fail
   go_returns
   exact HE.out
theorem z38 {n B base:Nat} {cx:Cx} {K:Wk} {c:Ca} {loc:List Int} {ret:Int} {vo:Value} {s:Sw} {w:World} {k:Nat} {nn m at_:Int} {args:List Nd} {body other:List Ac} {a1:OA} {k1:Nat} {a2:OA} {k2:Nat} {a3:OA} {k3:Nat} (hV:∀ y ∈ args,NdV n B base cx K 6 y) (h:Cn n w B base cx K vo s c loc ret) (hD:DAt w (·<base) a1 args.length (zcl args)) (hN:∀ y ∈ args,okN cx c.u loc.length K.cd 6 y) (hE:EnV n B base cx K) (hU:okU cx K.cd) (hp:zwd cx c.u args.length m at_) :
 Calls Tryz.prog 208 #[.pointer (some ⟨c.C,0,none⟩),.agg #[.int .i64 3,.int .i64 nn,.int .i64 m,.int .i64 at_,.slice a1 args.length k1,.slice a2 body.length k2,.slice a3 other.length k3]] w fun e w'=>Sa zf4 n B base cx K c w vo (aN (En cx n) (Wn cx n) cx c.u (k+1) ⟨3,nn,m,at_,args,body,other⟩ ⟨loc,ret⟩ s) e w':=by
 have HC:=hid (h.below (al1 w (.cells #[.int .i64 3,.int .i64 nn,.int .i64 m,.int .i64 at_,.slice a1 args.length k1,.slice a2 body.length k2,.slice a3 other.length k3] 109)));have HV:=hid (zm5 (k1:=k1) hV hE hU HC.out (hD.later (al1 w _)) hN hp);have hk:Kp (pcallS (En cx n) cx c.u (vN (En cx n) cx c.u loc 6) m at_ args):=zij (zkd cx.lim cx.lim) (n:=0) (zd3 cx n).ent cx cx.lim c.u (f:=vN (En cx n) cx c.u loc 6) (fun x=>zd4 cx n c.u loc 6 x) m at_ args
 have hFr:aN (En cx n) (Wn cx n) cx c.u (k+1) ⟨3,nn,m,at_,args,body,other⟩ ⟨loc,ret⟩ s=(pcallS (En cx n) cx c.u (vN (En cx n) cx c.u loc 6) m at_ args s).bind fun _ s=>.ok (false,⟨loc,ret⟩) s:=rfl
 rw [hFr];generalize pcallS (En cx n) cx c.u (vN (En cx n) cx c.u loc 6) m at_ args=F0 at *;clear h hV hD hN hE hU hp hFr;go_enter Tryz.func208,Tryz.ntmps208;go_wp2_with fail;refine HV.out.mono ?_;intro e w1 hS
 rcases HC.out.step hk hS with ⟨k',s',vo1,hr,rfl,hf,hw⟩ | ⟨v,s1,vo1,hr,rfl,hf,hw⟩
 . exact ⟨rfl,Sa.no ((Fm.below (al1 w _)).trans hf).gm (za7 hr) hw⟩
 . have HE:=hid (Sa.ok (rep:=zf4) ((Fm.below (al1 w _)).trans hf).gm (zay (f:=fun _ s=>Rr.ok (false,Fr.mk loc ret) s) hr) hw)
   clear hr hf hw hS;unfold zdw;go_wp2_with fail
   go_returns
   exact HE.out
theorem z39 {n B base:Nat} {cx:Cx} {K:Wk} {c:Ca} {loc:List Int} {ret:Int} {vo:Value} {s:Sw} {w:World} {k:Nat} {nn m at_:Int} {args:List Nd} {body other:List Ac} {a1:OA} {k1:Nat} {a2:OA} {k2:Nat} {a3:OA} {k3:Nat} (hV:∀ y ∈ args,NdV n B base cx K 6 y) (h:Cn n w B base cx K vo s c loc ret) (hD:DAt w (·<base) a1 args.length (zcl args)) (hN:∀ y ∈ args,okN cx c.u loc.length K.cd 6 y) (hW:∀ w:World,Cn n w B base cx K vo s c loc ret->DAt w (·<base) a1 args.length (zcl args)->DAt w (·<base) a2 body.length (zcg body)->Calls Tryz.prog 265 #[.pointer (some ⟨c.C,0,none⟩),.agg #[.int .i64 5,.int .i64 nn,.int .i64 m,.int .i64 at_,.slice a1 args.length k1,.slice a2 body.length k2,.slice a3 other.length k3]] w fun e w'=>Sa zf4 n B base cx K c w vo (Wn cx n c.u (argN args 0) body ⟨loc,ret⟩ s) e w') (hD2:DAt w (·<base) a2 body.length (zcg body)) :
 Calls Tryz.prog 208 #[.pointer (some ⟨c.C,0,none⟩),.agg #[.int .i64 5,.int .i64 nn,.int .i64 m,.int .i64 at_,.slice a1 args.length k1,.slice a2 body.length k2,.slice a3 other.length k3]] w fun e w'=>Sa zf4 n B base cx K c w vo (aN (En cx n) (Wn cx n) cx c.u (k+1) ⟨5,nn,m,at_,args,body,other⟩ ⟨loc,ret⟩ s) e w':=by
 have HC:=hid (h.below (al1 w (.cells #[.int .i64 5,.int .i64 nn,.int .i64 m,.int .i64 at_,.slice a1 args.length k1,.slice a2 body.length k2,.slice a3 other.length k3] 109)));have HV:=hid (hW _ HC.out (hD.later (al1 w _)) (hD2.later (al1 w _)));have HR:Hid (aN (En cx n) (Wn cx n) cx c.u (k+1) ⟨5,nn,m,at_,args,body,other⟩ ⟨loc,ret⟩ s=Wn cx n c.u (argN args 0) body ⟨loc,ret⟩ s):=rfl;clear h hV hD hN hW hD2;go_enter Tryz.func208,Tryz.ntmps208;go_wp2_with fail;refine HV.out.mono ?_;rintro e w1 ⟨vo1,hg,⟨k',s',hr,rfl,hw⟩ | ⟨⟨db,dl,dr⟩,s',hr,rfl,hw⟩⟩
 . exact ⟨rfl,Sa.no ((Fm.below (al1 w _)).gm.trans hg) (HR.out.trans hr) hw⟩
 . have HE:=hid (Sa.ok (rep:=zf4) ((Fm.below (al1 w _)).gm.trans hg) (HR.out.trans hr) hw)
   clear hg hr hw;unfold zf4;go_wp2_with fail
   go_returns
   exact HE.out
theorem z4a {n B base:Nat} {cx:Cx} {K:Wk} {c:Ca} {loc:List Int} {ret:Int} {vo:Value} {s:Sw} {w:World} {k:Nat} {nn m at_:Int} {args:List Nd} {body other:List Ac} {a1:OA} {k1:Nat} {a2:OA} {k2:Nat} {a3:OA} {k3:Nat} (hV:∀ y ∈ args,NdV n B base cx K 6 y) (h:Cn n w B base cx K vo s c loc ret) (hD:DAt w (·<base) a1 args.length (zcl args)) (hN:∀ y ∈ args,okN cx c.u loc.length K.cd 6 y) (hl:args.length=1) (hB:BlV n B base cx K k body) (hO:BlV n B base cx K k other) (hb2:∀ x ∈ body,okA cx c.u loc.length K.cd k x) (ho2:∀ x ∈ other,okA cx c.u loc.length K.cd k x) (hD2:DAt w (·<base) a2 body.length (zcg body)) (hD3:DAt w (·<base) a3 other.length (zcg other)) :
 Calls Tryz.prog 208 #[.pointer (some ⟨c.C,0,none⟩),.agg #[.int .i64 4,.int .i64 nn,.int .i64 m,.int .i64 at_,.slice a1 args.length k1,.slice a2 body.length k2,.slice a3 other.length k3]] w fun e w'=>Sa zf4 n B base cx K c w vo (aN (En cx n) (Wn cx n) cx c.u (k+1) ⟨4,nn,m,at_,args,body,other⟩ ⟨loc,ret⟩ s) e w':=by
 obtain ⟨b,off,ay,ky,rfl,hb,hbz,dY,cY⟩:=zc3 hD 0 (by omega);obtain ⟨y0,y1,y2,y3,y4⟩:=cY w rfl;simp only [vbh,vbl] at y0 y1 y2 y3 y4 cY
 have hl0:0<args.length:=by omega
 have HC:=hid (h.below (al1 w (.cells #[.int .i64 4,.int .i64 nn,.int .i64 m,.int .i64 at_,.slice (some ⟨b,off,none⟩) args.length k1,.slice a2 body.length k2,.slice a3 other.length k3] 109)));have HV:=hid (zdr (a1:=ay) (k1:=ky) (hV _ (zak (i:=0) (by omega))) HC.out (dY.later (al1 w _)) (hN _ (zak (by omega))));have hk:=zem (zd4 cx n c.u loc 6 (argN args 0));have HB:=hid (fun vo' w1 (hf:Fm B K.D vo vo' (w.alloc (.cells #[.int .i64 4,.int .i64 nn,.int .i64 m,.int .i64 at_,.slice (some ⟨b,off,none⟩) args.length k1,.slice a2 body.length k2,.slice a3 other.length k3] 109)) w1)=>(HC.out.keepS hf (b:=w.heap.size) (x:=(.cells #[.int .i64 4,.int .i64 nn,.int .i64 m,.int .i64 at_,.slice (some ⟨b,off,none⟩) args.length k1,.slice a2 body.length k2,.slice a3 other.length k3] 109)) (heap_alloc_new w _) h.new.1 h.new.2).1);have H2:=hid (fun vo' s' w1 (hf:Fm B K.D vo vo' (w.alloc (.cells #[.int .i64 4,.int .i64 nn,.int .i64 m,.int .i64 at_,.slice (some ⟨b,off,none⟩) args.length k1,.slice a2 body.length k2,.slice a3 other.length k3] 109)) w1) (hc:Cn n w1 B base cx K vo' s' c loc ret)=>hB c loc ret vo' s' a2 k2 w1 hc (HC.out.dat hf (hD2.later (al1 w _))) hb2)
 have H3:=hid (fun vo' s' w1 (hf:Fm B K.D vo vo' (w.alloc (.cells #[.int .i64 4,.int .i64 nn,.int .i64 m,.int .i64 at_,.slice (some ⟨b,off,none⟩) args.length k1,.slice a2 body.length k2,.slice a3 other.length k3] 109)) w1) (hc:Cn n w1 B base cx K vo' s' c loc ret)=>hO c loc ret vo' s' a3 k3 w1 hc (HC.out.dat hf (hD3.later (al1 w _))) ho2)
 have hFr:aN (En cx n) (Wn cx n) cx c.u (k+1) ⟨4,nn,m,at_,args,body,other⟩ ⟨loc,ret⟩ s=(holdS (vN (En cx n) cx c.u loc 6 (argN args 0)) s).bind fun b s=>if b=true then bN (aN (En cx n) (Wn cx n) cx c.u k) body ⟨loc,ret⟩ s else bN (aN (En cx n) (Wn cx n) cx c.u k) other ⟨loc,ret⟩ s:=by
  show (vN (En cx n) cx c.u loc 6 (argN args 0) s).bind _=((vN (En cx n) cx c.u loc 6 (argN args 0) s).bind _).bind _
  cases vN (En cx n) cx c.u loc 6 (argN args 0) s with
  | ok a t=>
    show ite (a=0) _ _=ite ((a != 0)=true) _ _
    by_cases ha:a=0
    . rw [if_pos ha,if_neg (by simp [ha])];rfl
    . rw [if_neg ha,if_pos (by simp [ha])];rfl
  | stop e t=>rfl
 rw [hFr]
 obtain ⟨R0,hR0⟩:∃ R0,R0=(holdS (vN (En cx n) cx c.u loc 6 (argN args 0)) s).bind fun b s=>if b=true then bN (aN (En cx n) (Wn cx n) cx c.u k) body ⟨loc,ret⟩ s else bN (aN (En cx n) (Wn cx n) cx c.u k) other ⟨loc,ret⟩ s:=⟨_,rfl⟩
 have HR0:=hid hR0;rw [← hR0];generalize holdS (vN (En cx n) cx c.u loc 6 (argN args 0))=F0 at *;generalize argN args 0=y at *;clear h hV hD hN dY cY hl hb hB hO hb2 ho2 hD2 hD3 hFr hR0;go_enter Tryz.func208,Tryz.ntmps208;go_wp2_with fail;refine HV.out.mono ?_;intro e w1 hS
 rcases HC.out.step hk hS with ⟨k',s',vo1,hr,rfl,hf,hw⟩ | ⟨v,s1,vo1,hr,rfl,hf,hw⟩
 . exact ⟨rfl,Sa.no ((Fm.below (al1 w _)).trans hf).gm (HR0.out.trans (za7 hr)) hw⟩
 . have HF:=hid (((Fm.below (al1 w _)).trans hf).gm (X:=Xc c))
   have HR:=hid (HR0.out.trans (zay hr));obtain ⟨x0,x1,x2,x3,x4,x5,x6,xz⟩:=zbe (HB.out _ _ hf);have H4:=hid (H2.out _ _ _ hf hw);have H5:=hid (H3.out _ _ _ hf hw);clear hr hf hw hS HB H2 H3;unfold zw7
   cases v with
   | true=>
     go_wp2_with fail;refine H4.out.mono ?_;rintro e w2 ⟨vo2,hg,⟨k',s2,hr,rfl,hw⟩ | ⟨⟨db,dl,dr⟩,s2,hr,rfl,hw⟩⟩
     . exact ⟨rfl,Sa.no (HF.out.trans hg) (HR.out.trans ((if_pos (by trivial)).trans hr)) hw⟩
     . have HE:=hid (Sa.ok (rep:=zf4) (HF.out.trans hg) (HR.out.trans ((if_pos (by trivial)).trans hr)) hw)
       clear hg hr hw x0 x1 x2 x3 x4 x5 x6 xz;unfold zf4;go_wp2_with fail
       go_returns
       exact HE.out
   | false=>
     go_wp2_with fail;refine H5.out.mono ?_;rintro e w2 ⟨vo2,hg,⟨k',s2,hr,rfl,hw⟩ | ⟨⟨db,dl,dr⟩,s2,hr,rfl,hw⟩⟩
     . exact ⟨rfl,Sa.no (HF.out.trans hg) (HR.out.trans ((if_neg (by simp)).trans hr)) hw⟩
     . have HE:=hid (Sa.ok (rep:=zf4) (HF.out.trans hg) (HR.out.trans ((if_neg (by simp)).trans hr)) hw)
       clear hg hr hw x0 x1 x2 x3 x4 x5 x6 xz;unfold zf4;go_wp2_with fail
       go_returns
       exact HE.out
theorem z4b {n B base:Nat} {cx:Cx} {K:Wk} {c:Ca} {loc:List Int} {ret:Int} {vo:Value} {s:Sw} {w:World} {k:Nat} {nn m at_:Int} {args:List Nd} {body other:List Ac} {a1:OA} {k1:Nat} {a2:OA} {k2:Nat} {a3:OA} {k3:Nat} (hV:∀ y ∈ args,NdV n B base cx K 6 y) (h:Cn n w B base cx K vo s c loc ret) (hD:DAt w (·<base) a1 args.length (zcl args)) (hN:∀ y ∈ args,okN cx c.u loc.length K.cd 6 y) (hl:args.length=1) :
 Calls Tryz.prog 208 #[.pointer (some ⟨c.C,0,none⟩),.agg #[.int .i64 6,.int .i64 nn,.int .i64 m,.int .i64 at_,.slice a1 args.length k1,.slice a2 body.length k2,.slice a3 other.length k3]] w fun e w'=>Sa zf4 n B base cx K c w vo (aN (En cx n) (Wn cx n) cx c.u (k+1) ⟨6,nn,m,at_,args,body,other⟩ ⟨loc,ret⟩ s) e w':=by
 obtain ⟨b,off,ay,ky,rfl,hb,hbz,dY,cY⟩:=zc3 hD 0 (by omega);obtain ⟨y0,y1,y2,y3,y4⟩:=cY w rfl;simp only [vbh,vbl] at y0 y1 y2 y3 y4 cY
 have hl0:0<args.length:=by omega
 have HC:=hid (h.below (al1 w (.cells #[.int .i64 6,.int .i64 nn,.int .i64 m,.int .i64 at_,.slice (some ⟨b,off,none⟩) args.length k1,.slice a2 body.length k2,.slice a3 other.length k3] 109)));have HV:=hid (hV _ (zak (i:=0) (by omega)) c loc ret vo s ay ky _ HC.out (dY.later (al1 w _)) (hN _ (zak (by omega))));have hk:=zd4 cx n c.u loc 6 (argN args 0)
 have hFr:aN (En cx n) (Wn cx n) cx c.u (k+1) ⟨6,nn,m,at_,args,body,other⟩ ⟨loc,ret⟩ s=(vN (En cx n) cx c.u loc 6 (argN args 0) s).bind fun v s=>.ok (true,⟨loc,v⟩) s:=rfl
 rw [hFr];generalize vN (En cx n) cx c.u loc 6 (argN args 0)=F0 at *;generalize argN args 0=y at *;clear h hV hD hN dY cY hl hb hFr;go_enter Tryz.func208,Tryz.ntmps208;go_wp2_with fail;refine HV.out.mono ?_;intro e w1 hS
 rcases HC.out.step hk hS with ⟨k',s',vo1,hr,rfl,hf,hw⟩ | ⟨v,s1,vo1,hr,rfl,hf,hw⟩
 . exact ⟨rfl,Sa.no ((Fm.below (al1 w _)).trans hf).gm (za7 hr) hw⟩
 . have HE:=hid (Sa.ok (rep:=zf4) (((Fm.below (al1 w _)).trans hf).gm.trans (hw.setR v).2) (zay (f:=fun v s=>Rr.ok (true,Fr.mk loc v) s) hr) (hw.setR v).1)
   obtain ⟨p0,p1,p2,p3,pz,pf⟩:=za2 hw.cl;clear hr hf hw hS y0 y1 y2 y3 y4;unfold zdw;go_wp2_with fail
   go_returns
   exact HE.out
theorem z4c {n B base:Nat} {cx:Cx} {K:Wk} {c:Ca} {loc:List Int} {ret:Int} {vo:Value} {s:Sw} {w:World} {k:Nat} {nn m at_:Int} {args:List Nd} {body other:List Ac} {a1:OA} {k1:Nat} {a2:OA} {k2:Nat} {a3:OA} {k3:Nat} (hV:∀ y ∈ args,NdV n B base cx K 6 y) (h:Cn n w B base cx K vo s c loc ret) (hD:DAt w (·<base) a1 args.length (zcl args)) (hN:∀ y ∈ args,okN cx c.u loc.length K.cd 6 y) (hl:args.length=1) :
 Calls Tryz.prog 208 #[.pointer (some ⟨c.C,0,none⟩),.agg #[.int .i64 7,.int .i64 nn,.int .i64 m,.int .i64 at_,.slice a1 args.length k1,.slice a2 body.length k2,.slice a3 other.length k3]] w fun e w'=>Sa zf4 n B base cx K c w vo (aN (En cx n) (Wn cx n) cx c.u (k+1) ⟨7,nn,m,at_,args,body,other⟩ ⟨loc,ret⟩ s) e w':=by
 obtain ⟨b,off,ay,ky,rfl,hb,hbz,dY,cY⟩:=zc3 hD 0 (by omega);obtain ⟨y0,y1,y2,y3,y4⟩:=cY w rfl;simp only [vbh,vbl] at y0 y1 y2 y3 y4 cY
 have hl0:0<args.length:=by omega
 have HC:=hid (h.below (al1 w (.cells #[.int .i64 7,.int .i64 nn,.int .i64 m,.int .i64 at_,.slice (some ⟨b,off,none⟩) args.length k1,.slice a2 body.length k2,.slice a3 other.length k3] 109)));have hb0:=hb;have hS0:=h.new;have HW0:=hid (h.below (thenB (al1 w (.cells #[.int .i64 7,.int .i64 nn,.int .i64 m,.int .i64 at_,.slice (some ⟨b,off,none⟩) args.length k1,.slice a2 body.length k2,.slice a3 other.length k3] 109)) (bdrew _)));have HV:=hid (hV _ (zak (i:=0) (by omega)) c loc ret vo s ay ky _ HW0.out (dY.later (thenB (al1 w (.cells #[.int .i64 7,.int .i64 nn,.int .i64 m,.int .i64 at_,.slice (some ⟨b,off,none⟩) args.length k1,.slice a2 body.length k2,.slice a3 other.length k3] 109)) (bdrew _))) (hN _ (zak (by omega))));have hk:=zd4 cx n c.u loc 6 (argN args 0)
 have HS:Hid (∀ vo' s' W,Fm B K.D vo vo' (w.alloc (.cells #[.int .i64 7,.int .i64 nn,.int .i64 m,.int .i64 at_,.slice (some ⟨b,off,none⟩) args.length k1,.slice a2 body.length k2,.slice a3 other.length k3] 109)) W->Cn n W B base cx K vo' s' c loc ret->W.cell? ⟨c.C,0,none⟩=some (.pointer (some ⟨B,0,none⟩))/\W.cell? ⟨w.heap.size,4,none⟩=some (.slice (some ⟨b,off,none⟩) args.length k1)/\W.cell? ⟨b,off,none⟩=some (.int .i64 (argN args 0).op)/\W.cell? ⟨b,off+1,none⟩=some (.int .i64 (argN args 0).n)/\W.cell? ⟨b,off+2,none⟩=some (.int .i64 (argN args 0).m)/\W.cell? ⟨b,off+3,none⟩=some (.int .i64 (argN args 0).at_)/\W.cell? ⟨b,off+4,none⟩=some (.slice ay (argN args 0).args.length ky)):=fun vo' s' W hf hc=>by
  obtain ⟨x0,x1,x2,x3,x4,x5,x6, -⟩:=zbe (HC.out.keepS hf (b:=w.heap.size) (x:=(.cells #[.int .i64 7,.int .i64 nn,.int .i64 m,.int .i64 at_,.slice (some ⟨b,off,none⟩) args.length k1,.slice a2 body.length k2,.slice a3 other.length k3] 109)) (heap_alloc_new w _) hS0.1 hS0.2).1;obtain ⟨z0,z1,z2,z3,z4⟩:=cY W ((HC.out.keepB hf hb0 (by simp;omega)).trans ((al1 w (.cells #[.int .i64 7,.int .i64 nn,.int .i64 m,.int .i64 at_,.slice (some ⟨b,off,none⟩) args.length k1,.slice a2 body.length k2,.slice a3 other.length k3] 109)).block b hbz));obtain ⟨p0, -⟩:=za2 hc.cl;exact ⟨p0,x4,z0,z1,z2,z3,z4⟩
 have hFr:aN (En cx n) (Wn cx n) cx c.u (k+1) ⟨7,nn,m,at_,args,body,other⟩ ⟨loc,ret⟩ s=(vN (En cx n) cx c.u loc 6 (argN args 0) s).bind fun v s=>(zhc v s).bind fun _ s=>.ok (false,⟨loc,ret⟩) s:=rfl
 rw [hFr]
 obtain ⟨R0,hR0⟩:∃ R0:Rr (Bool × Fr),R0=(vN (En cx n) cx c.u loc 6 (argN args 0) s).bind fun v s=>(zhc v s).bind fun _ s=>.ok (false,⟨loc,ret⟩) s:=⟨_,rfl⟩
 have HR0:=hid hR0;rw [← hR0];generalize vN (En cx n) cx c.u loc 6 (argN args 0)=F0 at *;generalize argN args 0=y at *;clear h hV hD hN dY cY hl hb hFr hR0;go_enter Tryz.func208,Tryz.ntmps208;go_upto_region 19 with fail
 go_region_held (fun W=>W.cell? ⟨c.C,0,none⟩=some (.pointer (some ⟨B,0,none⟩))/\W.cell? ⟨w.heap.size,4,none⟩=some (.slice (some ⟨b,off,none⟩) args.length k1)/\W.cell? ⟨b,off,none⟩=some (.int .i64 y.op)/\W.cell? ⟨b,off+1,none⟩=some (.int .i64 y.n)/\W.cell? ⟨b,off+2,none⟩=some (.int .i64 y.m)/\W.cell? ⟨b,off+3,none⟩=some (.int .i64 y.at_)/\W.cell? ⟨b,off+4,none⟩=some (.slice ay y.args.length ky)) (first | exact HS.out _ _ _ (Fm.below (bdrew _)) HW0.out | exact HS3.out | exact HS2.out)
  (first
    | (go_at_call 262;refine HV.out.mono ?_;intro e w1 hS;rcases HW0.out.step hk hS with ⟨k',s',vo1,hr,rfl,hf,hw⟩ | ⟨v,s1,vo1,hr,rfl,hf,hw⟩;(exact ⟨rfl,Sa.no ((Fm.below (thenB (al1 w _) (bdrew _))).trans hf).gm (HR0.out.trans (za7 hr)) hw⟩);(have HS2:=hid (HS.out _ _ _ ((Fm.below (bdrew _)).trans hf) hw);have HF2:=hid ((Fm.below (bdrew _)).trans hf);have HR2:=hid (HR0.out.trans (zay hr));have HW2:=hid hw;clear hr hf hw hS;unfold zdw))
    | (go_at_call 266;refine (zw6 B base cx K _ _ _ _ HW2.out.wd).mono ?_;intro e w2 hS;rcases HW2.out.step (kp_tell _) hS with ⟨k',s',vo2,hr,rfl,hf,hw⟩ | ⟨v',s2,vo2,hr,rfl,hf,hw⟩;(exact ⟨rfl,Sa.no ((Fm.below (al1 w _)).trans (HF2.out.trans hf)).gm (HR2.out.trans (za7 hr)) hw⟩);(have HS3:=hid (HS.out _ _ _ (HF2.out.trans hf) hw);have HF3:=hid ((Fm.below (al1 w _)).trans (HF2.out.trans hf));have HR3:=hid (HR2.out.trans (zay hr));have HW3:=hid hw;clear hr hf hw hS;unfold z2j)))
 all_goals
  go_wp2_with fail
  go_returns
  exact Sa.ok (rep:=zf4) HF3.out.gm HR3.out HW3.out
theorem z4d {n B base:Nat} {cx:Cx} {K:Wk} {c:Ca} {loc:List Int} {ret:Int} {vo:Value} {s:Sw} {w:World} {k:Nat} {nn m at_:Int} {args:List Nd} {body other:List Ac} {a1:OA} {k1:Nat} {a2:OA} {k2:Nat} {a3:OA} {k3:Nat} (hV:∀ y ∈ args,NdV n B base cx K 6 y) (h:Cn n w B base cx K vo s c loc ret) (hD:DAt w (·<base) a1 args.length (zcl args)) (hN:∀ y ∈ args,okN cx c.u loc.length K.cd 6 y) (hl:args.length=2) (hz:1<=nn) (hp:zol cx c.u K.cd m at_ nn) :
 Calls Tryz.prog 208 #[.pointer (some ⟨c.C,0,none⟩),.agg #[.int .i64 2,.int .i64 nn,.int .i64 m,.int .i64 at_,.slice a1 args.length k1,.slice a2 body.length k2,.slice a3 other.length k3]] w fun e w'=>Sa zf4 n B base cx K c w vo (aN (En cx n) (Wn cx n) cx c.u (k+1) ⟨2,nn,m,at_,args,body,other⟩ ⟨loc,ret⟩ s) e w':=by
 obtain ⟨b,off,ay,ky,rfl,hb,hbz,dY,cY⟩:=zc3 hD 0 (by omega);obtain ⟨y0,y1,y2,y3,y4⟩:=cY w rfl;simp only [vbh,vbl] at y0 y1 y2 y3 y4 cY
 have hl0:0<args.length:=by omega
 have HC:=hid (h.below (al1 w (.cells #[.int .i64 2,.int .i64 nn,.int .i64 m,.int .i64 at_,.slice (some ⟨b,off,none⟩) args.length k1,.slice a2 body.length k2,.slice a3 other.length k3] 109)));obtain ⟨b',off',az,kz,he, -, -,dZ,cZ⟩:=zc3 hD 1 (by omega);cases he;simp only [vdo] at cZ
 have hl1:1<args.length:=by omega
 have hb0:=hb;have hS0:=h.new;have HW0:=hid (h.below (thenB (al1 w (.cells #[.int .i64 2,.int .i64 nn,.int .i64 m,.int .i64 at_,.slice (some ⟨b,off,none⟩) args.length k1,.slice a2 body.length k2,.slice a3 other.length k3] 109)) (bdrew _)));have HV:=hid (zio (a1:=ay) (k1:=ky) (hV _ (zak (i:=0) (by omega))) HW0.out (dY.later (thenB (al1 w (.cells #[.int .i64 2,.int .i64 nn,.int .i64 m,.int .i64 at_,.slice (some ⟨b,off,none⟩) args.length k1,.slice a2 body.length k2,.slice a3 other.length k3] 109)) (bdrew _))) (hN _ (zak (by omega))) hz hp);have HV2:=hid (fun vo' s' w' (hC:Cn n w' B base cx K vo' s' c loc ret) dZ=>hV _ (zak (i:=1) (by omega)) c loc ret vo' s' az kz w' hC dZ (hN _ (zak (by omega))));have HDz:=hid (fun vo' w1 (hf:Fm B K.D vo vo' (w.alloc (.cells #[.int .i64 2,.int .i64 nn,.int .i64 m,.int .i64 at_,.slice (some ⟨b,off,none⟩) args.length k1,.slice a2 body.length k2,.slice a3 other.length k3] 109)) w1)=>HC.out.dat hf (dZ.later (al1 w _)))
 have hk:Kp (elmS (vN (En cx n) cx c.u loc 6 (argN args 0)) (plcS cx c.u m at_) nn):=zmt (zkd cx.lim cx.lim) (n:=0) (f:=vN (En cx n) cx c.u loc 6 (argN args 0)) (zd4 cx n c.u loc 6 (argN args 0)) _ _;have hk2:=zd4 cx n c.u loc 6 (argN args 1)
 have HS:Hid (∀ vo' s' W,Fm B K.D vo vo' (w.alloc (.cells #[.int .i64 2,.int .i64 nn,.int .i64 m,.int .i64 at_,.slice (some ⟨b,off,none⟩) args.length k1,.slice a2 body.length k2,.slice a3 other.length k3] 109)) W->Cn n W B base cx K vo' s' c loc ret->W.cell? ⟨w.heap.size,1,none⟩=some (.int .i64 nn)/\W.cell? ⟨w.heap.size,2,none⟩=some (.int .i64 m)/\W.cell? ⟨w.heap.size,3,none⟩=some (.int .i64 at_)/\W.cell? ⟨w.heap.size,4,none⟩=some (.slice (some ⟨b,off,none⟩) args.length k1)/\W.cell? ⟨b,off,none⟩=some (.int .i64 (argN args 0).op)/\W.cell? ⟨b,off+1,none⟩=some (.int .i64 (argN args 0).n)/\W.cell? ⟨b,off+2,none⟩=some (.int .i64 (argN args 0).m)/\W.cell? ⟨b,off+3,none⟩=some (.int .i64 (argN args 0).at_)/\W.cell? ⟨b,off+4,none⟩=some (.slice ay (argN args 0).args.length ky)):=fun vo' s' W hf hc=>by
  obtain ⟨x0,x1,x2,x3,x4,x5,x6, -⟩:=zbe (HC.out.keepS hf (b:=w.heap.size) (x:=(.cells #[.int .i64 2,.int .i64 nn,.int .i64 m,.int .i64 at_,.slice (some ⟨b,off,none⟩) args.length k1,.slice a2 body.length k2,.slice a3 other.length k3] 109)) (heap_alloc_new w _) hS0.1 hS0.2).1;obtain ⟨z0,z1,z2,z3,z4⟩:=cY W ((HC.out.keepB hf hb0 (by simp;omega)).trans ((al1 w (.cells #[.int .i64 2,.int .i64 nn,.int .i64 m,.int .i64 at_,.slice (some ⟨b,off,none⟩) args.length k1,.slice a2 body.length k2,.slice a3 other.length k3] 109)).block b hbz));obtain ⟨p0, -⟩:=za2 hc.cl;exact ⟨x1,x2,x3,x4,z0,z1,z2,z3,z4⟩
 have HT:Hid (∀ vo' s' W,Fm B K.D vo vo' (w.alloc (.cells #[.int .i64 2,.int .i64 nn,.int .i64 m,.int .i64 at_,.slice (some ⟨b,off,none⟩) args.length k1,.slice a2 body.length k2,.slice a3 other.length k3] 109)) W->Cn n W B base cx K vo' s' c loc ret->W.cell? ⟨c.C,0,none⟩=some (.pointer (some ⟨B,0,none⟩))/\W.cell? ⟨B,3,none⟩=some (.slice (some ⟨K.D,0,none⟩) K.cd K.cd)/\W.cell? ⟨w.heap.size,4,none⟩=some (.slice (some ⟨b,off,none⟩) args.length k1)/\W.cell? ⟨b,off+5,none⟩=some (.int .i64 (argN args 1).op)/\W.cell? ⟨b,off+5+1,none⟩=some (.int .i64 (argN args 1).n)/\W.cell? ⟨b,off+5+2,none⟩=some (.int .i64 (argN args 1).m)/\W.cell? ⟨b,off+5+3,none⟩=some (.int .i64 (argN args 1).at_)/\W.cell? ⟨b,off+5+4,none⟩=some (.slice az (argN args 1).args.length kz)):=fun vo' s' W hf hc=>by
  obtain ⟨x0,x1,x2,x3,x4,x5,x6, -⟩:=zbe (HC.out.keepS hf (b:=w.heap.size) (x:=(.cells #[.int .i64 2,.int .i64 nn,.int .i64 m,.int .i64 at_,.slice (some ⟨b,off,none⟩) args.length k1,.slice a2 body.length k2,.slice a3 other.length k3] 109)) (heap_alloc_new w _) hS0.1 hS0.2).1;obtain ⟨z0,z1,z2,z3,z4⟩:=cZ W ((HC.out.keepB hf hb0 (by simp;omega)).trans ((al1 w (.cells #[.int .i64 2,.int .i64 nn,.int .i64 m,.int .i64 at_,.slice (some ⟨b,off,none⟩) args.length k1,.slice a2 body.length k2,.slice a3 other.length k3] 109)).block b hbz));obtain ⟨p0, -⟩:=za2 hc.cl;exact ⟨p0,hc.wd.top.1,x4,z0,z1,z2,z3,z4⟩
 have hFr:aN (En cx n) (Wn cx n) cx c.u (k+1) ⟨2,nn,m,at_,args,body,other⟩ ⟨loc,ret⟩ s=(elmS (vN (En cx n) cx c.u loc 6 (argN args 0)) (plcS cx c.u m at_) nn s).bind fun p s=>(vN (En cx n) cx c.u loc 6 (argN args 1) s).bind fun v s=>.ok (false,⟨loc,ret⟩) { s with data:=s.data.set p.toNat v }:=rfl
 rw [hFr]
 obtain ⟨R0,hR0⟩:∃ R0:Rr (Bool × Fr),R0=(elmS (vN (En cx n) cx c.u loc 6 (argN args 0)) (plcS cx c.u m at_) nn s).bind fun p s=>(vN (En cx n) cx c.u loc 6 (argN args 1) s).bind fun v s=>.ok (false,⟨loc,ret⟩) { s with data:=s.data.set p.toNat v }:=⟨_,rfl⟩
 have HR0:=hid hR0;rw [← hR0]
 have HEl:Hid (∀ p s',elmS (vN (En cx n) cx c.u loc 6 (argN args 0)) (plcS cx c.u m at_) nn s = .ok p s'->0<=p/\p<K.cd):=fun p s' e=>by
  have hq:=hp.plc;unfold elmS at e
  revert e
  cases vN (En cx n) cx c.u loc 6 (argN args 0) s with
  | stop e t=>intro e;cases e
  | ok v t=>
    intro e;have e:ite (v<0\/nn<=v) (Rr.stop 2 t) (Rr.ok (plcS cx c.u m at_+v) t) = .ok p s':=e
    split at e
    . cases e
    . cases e
      omega
 generalize elmS (vN (En cx n) cx c.u loc 6 (argN args 0)) (plcS cx c.u m at_) nn=F0 at *;generalize vN (En cx n) cx c.u loc 6 (argN args 1)=F1 at *;generalize argN args 1=z at *;generalize argN args 0=y at *;clear h hV hD hN dY cY hl hb hFr hR0 hz hp dZ cZ y0 y1 y2 y3 y4;go_enter Tryz.func208,Tryz.ntmps208;go_upto_region 5 with fail
 go_region_held (fun W=>W.cell? ⟨w.heap.size,1,none⟩=some (.int .i64 nn)/\W.cell? ⟨w.heap.size,2,none⟩=some (.int .i64 m)/\W.cell? ⟨w.heap.size,3,none⟩=some (.int .i64 at_)/\W.cell? ⟨w.heap.size,4,none⟩=some (.slice (some ⟨b,off,none⟩) args.length k1)/\W.cell? ⟨b,off,none⟩=some (.int .i64 y.op)/\W.cell? ⟨b,off+1,none⟩=some (.int .i64 y.n)/\W.cell? ⟨b,off+2,none⟩=some (.int .i64 y.m)/\W.cell? ⟨b,off+3,none⟩=some (.int .i64 y.at_)/\W.cell? ⟨b,off+4,none⟩=some (.slice ay y.args.length ky)) (first | exact HS.out _ _ _ (Fm.below (bdrew _)) HW0.out | exact HS2.out)
  (first
    | (go_at_call 261;refine HV.out.mono ?_;intro e w1 hS;rcases HW0.out.step hk hS with ⟨k',s',vo1,hr,rfl,hf,hw⟩ | ⟨p,s1,vo1,hr,rfl,hf,hw⟩;(exact ⟨rfl,Sa.no ((Fm.below (thenB (al1 w _) (bdrew _))).trans hf).gm (HR0.out.trans (za7 hr)) hw⟩);(have HS2:=hid (HS.out _ _ _ ((Fm.below (bdrew _)).trans hf) hw);have HF2:=hid ((Fm.below (bdrew _)).trans hf);have HR2:=hid (HR0.out.trans (zay hr));have HW2:=hid hw;have hpr:=HEl.out _ _ hr;clear hr hf hw hS;unfold zdw)))
 obtain ⟨i,rfl⟩:∃ i:Nat,p=i:=⟨p.toNat,by omega⟩
 have hi:i<K.cd:=by omega
 have HW3:=hid (HW2.out.below (bdrew w1));have HV3:=hid (HV2.out _ _ _ HW3.out ((HDz.out _ _ HF2.out).later (bdrew w1)));have HT2:=hid (HT.out _ _ _ (HF2.out.trans (Fm.below (bdrew w1))) HW3.out)
 have m1:K.D≠c.C:=fun e=>HW2.out.ne.2.1 e.symm
 have m2:K.D≠B:=fun e=>HW2.out.wd.ro.BD e.symm
 have m3:K.D≠w.heap.size:=fun e=>by have:=HC.out.wd.ro.DS;have:=hS0.1;omega
 have m4:K.D≠b:=fun e=>by have:=HC.out.wd.ro.lD;omega
 have HA:=hid HT;have HG:=hid HF2;clear hpr HS HS2 HV HV2 HDz HT hb0 hS0;go_wp2_with fail
 go_region_held (fun W=>W.cell? ⟨c.C,0,none⟩=some (.pointer (some ⟨B,0,none⟩))/\W.cell? ⟨B,3,none⟩=some (.slice (some ⟨K.D,0,none⟩) K.cd K.cd)/\W.cell? ⟨w.heap.size,4,none⟩=some (.slice (some ⟨b,off,none⟩) args.length k1)/\W.cell? ⟨b,off+5,none⟩=some (.int .i64 z.op)/\W.cell? ⟨b,off+5+1,none⟩=some (.int .i64 z.n)/\W.cell? ⟨b,off+5+2,none⟩=some (.int .i64 z.m)/\W.cell? ⟨b,off+5+3,none⟩=some (.int .i64 z.at_)/\W.cell? ⟨b,off+5+4,none⟩=some (.slice az z.args.length kz)) (first | exact HT2.out | exact HT3.out | go_keep)
  (first
    | (go_at_call 262;refine HV3.out.mono ?_;intro e w2 hS;rcases HW3.out.step hk2 hS with ⟨k',s',vo2,hr,rfl,hf,hw⟩ | ⟨v,s2,vo2,hr,rfl,hf,hw⟩;(exact ⟨rfl,Sa.no ((Fm.below (al1 w _)).trans (HF2.out.trans ((Fm.below (bdrew w1)).trans hf))).gm (HR2.out.trans (za7 hr)) hw⟩);(have hT3:=HA.out.out _ _ _ (HF2.out.trans ((Fm.below (bdrew w1)).trans hf)) hw;have HT3:=hid hT3;obtain ⟨r0,r1,r2,r3,r4,r5,r6,r7⟩:=hT3;have HF4:=hid ((Fm.below (al1 w _)).trans (HF2.out.trans ((Fm.below (bdrew w1)).trans hf)));have HR4:=hid (HR2.out.trans (zay hr));have HW4:=hid hw;have hcl:=hw.wd.cell i (by rw [← hw.wd.cd];exact hi);have hfz:∀ j,w2.frozen? ⟨K.D,j,none⟩=false:=(fun j=>vef hw.wd.data j);clear hr hf hw hS;unfold zdw)))
 go_wp2_with fail
 go_returns
 exact Sa.ok (rep:=zf4) (HF4.out.trans (HW4.out.setD i v).2).gm HR4.out (HW4.out.setD i v).1
set_option maxHeartbeats 6400000
theorem zib {cx:Cx} {u nl sz:Nat}:∀ (k:Nat) (a:Ac),okA cx u nl sz k a->okA cx u nl sz (k+1) a
 | 0,a,h=>h.elim
 | k+1,a,h=>by
   unfold okA at h ⊢;obtain ⟨h1,h2⟩:=h;refine ⟨h1,?_⟩
   rcases h2 with h2 | h2 | h2 | ⟨e,h2,h3,h4⟩ | ⟨e,h2,h3⟩ | h2 | h2
   . exact Or.inl h2
   . exact Or.inr (Or.inl h2)
   . exact Or.inr (Or.inr (Or.inl h2))
   . exact Or.inr (Or.inr (Or.inr (Or.inl ⟨e,h2,fun b hb=>zib k b (h3 b hb),fun b hb=>zib k b (h4 b hb)⟩)))
   . exact Or.inr (Or.inr (Or.inr (Or.inr (Or.inl ⟨e,h2,fun b hb=>zib k b (h3 b hb)⟩))))
   . exact Or.inr (Or.inr (Or.inr (Or.inr (Or.inr (Or.inl h2)))))
   . exact Or.inr (Or.inr (Or.inr (Or.inr (Or.inr (Or.inr h2)))))
theorem z1j {cx:Cx} {u nl sz k:Nat} {l:List Ac} (hk:k+1<=6) (h:∀ b ∈ l,okA cx u nl sz k b):∀ b ∈ l,okA cx u nl sz 6 b:=fun b hb=>by
 have:∀ d,okA cx u nl sz (k+d) b:=fun d=>by
  induction d with
  | zero=>exact h b hb
  | succ d ih=>exact zib _ _ ih
 have e:=this (6 - k);rw [show k+(6 - k)=6 from by omega] at e;exact e
theorem zy7 {n B base:Nat} {cx:Cx} {K:Wk} (hE:EnV n B base cx K) (hU:okU cx K.cd) (hV:∀ m≤n,∀ y,NdV m B base cx K 6 y) (hB:∀ m<n,∀ l,BlV m B base cx K 6 l):∀ (k:Nat) (a:Ac),k<=6->AcV n B base cx K k a
 | 0,a,_=>fun c loc ret vo s a1 k1 a2 k2 a3 k3 w h hD hD2 hD3 hN=>hN.elim
 | k+1,⟨op,nn,m,at_,args,body,other⟩,hk=>fun c loc ret vo s a1 k1 a2 k2 a3 k3 w h hD hD2 hD3 hN=>by
   have ih:∀ l,BlV n B base cx K k l:=fun l=>zki (fun x _=>zy7 hE hU hV hB k x (by omega))
   have hv:∀ y ∈ args,NdV n B base cx K 6 y:=fun y _=>hV n (vaa _) y
   unfold okA at hN;have hD:DAt w (·<base) a1 args.length (zcl args):=hD;have hD2:DAt w (·<base) a2 body.length (zcg body):=hD2;have hD3:DAt w (·<base) a3 other.length (zcg other):=hD3;obtain ⟨hA,hN⟩:=hN;have hA:∀ y ∈ args,okN cx c.u loc.length K.cd 6 y:=hA
   rcases hN with ⟨(rfl:op=1),h1,⟨h2,h3,h4⟩ | ⟨h2,h3⟩⟩ | ⟨(rfl:op=2),h1,h2,h3⟩ | ⟨(rfl:op=3),h1⟩ | ⟨(rfl:op=4),h1,h2,h3⟩ | ⟨(rfl:op=5),h1,h2⟩ | ⟨(rfl:op=6),h1⟩ | ⟨(rfl:op=7),h1⟩
   . exact z22 hv h hD hA h1 h2 h3 h4
   . exact z23 hv h hD hA h1 h2 h3
   . exact z4d hv h hD hA h1 h2 h3
   . exact z38 hv h hD hA hE hU h1
   . exact z4a hv h hD hA h1 (ih body) (ih other) h2 h3 hD2 hD3
   . exact z39 hv h hD hA (fun w' hc d1 d2=>ztt (k:=k) (fun m hm y _=>hV m hm y) (fun m hm=>hB m hm body) hc d1 d2 hA h1 (z1j hk h2)) hD2
   . exact z4b hv h hD hA h1
   . exact z4c hv h hD hA h1
theorem z24 (cx:Cx) (n u k:Nat) (l:List Ac) (c:Fr):Cq (bN (aN (En cx n) (Wn cx n) cx u k) l c):=zjo (zyx cx.lim cx.lim) (n:=0) (zoi (zyx cx.lim cx.lim) (zmv cx n).ent cx cx.lim (zmv cx n).whl u k) l c
theorem z1k (cx:Cx) (n u:Nat) (body:List Ac) (loc:List Int) (s:Sw):En cx (n+1) u body loc s=(zd8 cx.lim s).bind fun _ s=>if s.calls=24 then .stop 4 s else (bN (aN (En cx n) (Wn cx n) cx u 6) body ⟨loc,0⟩ { s with calls:=s.calls+1 }).bind fun d s=>.ok d.2.ret { s with calls:=s.calls - 1 }:=by
 unfold En Wn;rw [zlh]
 rfl
theorem Wd.call {n B base:Nat} {cx:Cx} {K:Wk} {vo:Value} {s:Sw} {w:World} {lv:Value} {L u:Nat} {loc:List Int} (h:Wd w B base cx K vo s 0) (hf:cx.lim+1<=s.ticks+n) (hL:Lo w lv L loc) (hS:K.S<=L) (hO:loc=[]\/vo.ownBlock≠some L) :
 ∃ c:Ca,c.C=w.heap.size/\c.u=u/\c.lv=lv/\(c.L=c.C\/c.L=L)/\Cn n (w.alloc (.cells #[.pointer (some ⟨B,0,none⟩),.int .i64 u,lv,.int .i64 0] 257)) B base cx K vo s c loc 0:=by
 have hz:=h.ro.zS
 have ho:vo.ownBlock≠some w.heap.size:=fun e=>by have:=(h.out.lt _ e).2;omega
 have hcl:Cl (w.alloc (.cells #[.pointer (some ⟨B,0,none⟩),.int .i64 u,lv,.int .i64 0] 257)) B w.heap.size u lv 0:=heap_alloc_new w _
 have hlo:Lo (w.alloc (.cells #[.pointer (some ⟨B,0,none⟩),.int .i64 u,lv,.int .i64 0] 257)) lv L loc:=hL.moves (by
  rcases hL.lt with e | e
  . exact Or.inl e
  . exact Or.inr ((al1 w _).block L e))
 by_cases hl:loc=[]
 . subst hl
   refine ⟨⟨w.heap.size,u,lv,w.heap.size⟩,rfl,rfl,rfl,Or.inl rfl,h.below (al1 w _),hcl,?_,hz,ho,hz,by simp,Or.inl rfl,hf⟩;obtain ⟨a,e⟩:=hL.len;exact Or.inl ⟨rfl,a,e⟩
 . have hlt:=hL.lt.resolve_left hl
   exact ⟨⟨w.heap.size,u,lv,L⟩,rfl,rfl,rfl,Or.inr rfl,h.below (al1 w _),hcl,hlo,hz,ho,hS,by simp;omega,Or.inr ⟨by show L≠w.heap.size;omega,hO.resolve_left hl⟩,hf⟩
theorem Gm.drop {B Dd L z:Nat} {c:Ca} {vo vo':Value} {w w' w0:World} (h:Gm B Dd (Xc c) vo vo' w w') (h1:c.C=z) (h2:c.L=c.C\/c.L=L) (h3:w0.heap.size<=z):Gm B Dd (fun b=>b=L\/w0.heap.size<=b) vo vo' w w':=h.mono (fun b e=>by
 rcases e with e | e
 . exact Or.inr (by omega)
 . rcases h2 with e' | e'
   . exact Or.inr (by omega)
   . exact Or.inl (by omega))
theorem Gm.lop {B Dd L:Nat} {vo vo':Value} {w w':World} (h:Gm B Dd (fun b=>b=L\/w.heap.size<=b) vo vo' w w'):Gm B Dd (·=L) vo vo' w w':=⟨h.os,h.tape,h.output,h.size,fun b h1 h2 h3 h4 h5=>h.block b h1 h2 h3 (fun e=>by rcases e with e | e;exact h4 e;omega) h5,h.own⟩
theorem zt0 {n B base:Nat} {cx:Cx} {K:Wk} (hB:∀ l,BlV n B base cx K 6 l):EnV (n+1) B base cx K:=by
 intro u body ab kb lv L loc vo s w hw hfu hLo hLS hLO hu hD hN;obtain ⟨la,rfl⟩:=hLo.len;rw [z1k]
 obtain ⟨R0,hR0⟩:∃ R0:Rr Int,R0=(zd8 cx.lim s).bind fun _ s=>if s.calls=24 then .stop 4 s else (bN (aN (En cx n) (Wn cx n) cx u 6) body ⟨loc,0⟩ { s with calls:=s.calls+1 }).bind fun d s=>.ok d.2.ret { s with calls:=s.calls - 1 }:=⟨_,rfl⟩
 have HR0:=hid hR0;rw [← hR0];have HT:=hid (zrk B base cx K vo s w hw);have HB:=hid hB;have HD:=hid hD;have HN:=hid hN;have HLo:=hid hLo;have HW0:=hid hw;have HLO:=hid hLO;have hfu':=hid hfu;have hLS':=hid hLS;clear hw hfu hLo hLO hu hD hN hB hR0 hLS;go_enter Tryz.func125,Tryz.ntmps125;go_wp2_with fail;refine HT.out.mono ?_;rintro e w1 ⟨vo1,hf,hx⟩
 rcases hx.symm with ⟨k',s1,hr,rfl,hw1⟩ | ⟨a,s1,hr,rfl,hw1⟩
 . exact ⟨rfl,vo1,hf.gm,Or.inr ⟨k',s1,HR0.out.trans (za7 hr),rfl,hw1⟩⟩
 . have hlow:w.heap.size<=w1.heap.size:=hf.size
   have ht:s1.ticks=s.ticks+1:=by
    by_cases hl:s.ticks=cx.lim
    . rw [zev hl] at hr;cases hr
    . rw [zgi hl] at hr;cases hr;rfl
   have HF:=hid hf;have HR:=hid (HR0.out.trans (zay hr));have HW1:=hid hw1;obtain ⟨ai,ci,hb, -, -⟩:=hw1.blk;obtain ⟨q0,q1,q2,q3,q4,q5,q6,q7,q8,q9,qz,qf⟩:=zbr hb;have hcl:=hw1.cl;clear hx hr hf hw1 hb;unfold z2j
   by_cases hc:s1.calls=24
   . have hb1:((s1.calls:Int) == 24)=true:=by rw [hc];rfl
     have HS:=hid (zft B base cx K vo1 s1 4 w1 HW1.out);have HR2:=hid (HR.out.trans (if_pos hc));clear hc;go_wp2_with fail;refine HS.out.mono ?_;rintro e w2 ⟨rfl,hg,hw⟩;exact ⟨rfl,vo1,(HF.out.trans (Fm.grown hg)).gm,Or.inr ⟨4,s1,HR2.out,rfl,hw⟩⟩
   . have hb1:((s1.calls:Int) == 24)=false:=by rw [beq_eq_false_iff_ne];omega
     have HR2:=hid (HR.out.trans (if_neg hc));have HP:=hid (HW1.out.put (i:=8) (u:=.int .i64 ((s1.calls:Int)+1)) (s':={ s1 with calls:=s1.calls+1 }) (e':=0) (fun _ _=>rfl) rfl rfl rfl HW1.out.tl (by show s1.calls+1<=24;omega))
     have hL1:Lo (w1.setCell ⟨B,8,none⟩ (.int .i64 ((s1.calls:Int)+1))) (.slice la loc.length loc.length) L loc:=HLo.out.moves (by
      rcases HLo.out.lt with e | e
      . exact Or.inl e
      . rcases HLO.out with e' | e'
        . exact Or.inl e'
        . have h1:=HW0.out.ro.BS
          have h2:=HW0.out.ro.DS;have h3:=hLS'.out
          exact Or.inr ((zac (by show L≠B;omega) _).trans (HF.out.block L e (by omega) (by omega) e')))
     have hO1:loc=[]\/vo1.ownBlock≠some L:=by
      rcases HLo.out.lt with e | e
      . exact Or.inl e
      . rcases HLO.out with e' | e'
        . exact Or.inl e'
        . exact Or.inr (fun x=>e' (HF.out.own L x e))
     obtain ⟨c,hcC,hcu,hcv,hcL,hCn⟩:=HP.out.call (n:=n) (u:=u) (by show cx.lim+1<=s1.ticks+n;rw [ht];have:=hfu'.out;omega) hL1 hLS'.out hO1;simp only [van] at hcC;have HG1:=hid ((HF.out.trans (Fm.grown (zdn (B:=B) (i:=8) (u:=.int .i64 ((s1.calls:Int)+1))))).trans (Fm.below (D:=K.D) (B:=B) (al1 (w1.setCell ⟨B,8,none⟩ (.int .i64 ((s1.calls:Int)+1))) (.cells #[.pointer (some ⟨B,0,none⟩),.int .i64 u,.slice la loc.length loc.length,.int .i64 0] 257))));have hd1:DAt ((w1.setCell ⟨B,8,none⟩ (.int .i64 ((s1.calls:Int)+1))).alloc (.cells #[.pointer (some ⟨B,0,none⟩),.int .i64 u,.slice la loc.length loc.length,.int .i64 0] 257)) (·<base) ab body.length (zcg body):=HD.out.fm HG1.out HW0.out.ro.lB HW0.out.ro.lD (fun k e=>by have:=(HW0.out.out.lt k e).1;have:=HW0.out.ro.BS;have:=HW0.out.ro.lB;omega);have HBl:=HB.out body c loc 0 vo1 { s1 with calls:=s1.calls+1 } ab kb _ hCn hd1 (by rw [hcu];exact HN.out)
     rw [hcC,hcu] at HBl;have HX:=hid HBl;have HCn:=hid hCn;have HC:=hid (And.intro hcC hcL)
     have hwr:wrap64 ((s1.calls:Int)+1)=(s1.calls:Int)+1:=by unfold wrap64;omega
     clear HBl hCn hd1 hO1 hL1 hcv hcu hc;go_wp2_with fail;refine HX.out.mono ?_;rintro e w4 ⟨vo4,hg,⟨k',s4,hr,rfl,hw⟩ | ⟨⟨db,dl,dr⟩,s4,hr,rfl,hw⟩⟩
     . exact ⟨rfl,vo4,(HG1.out.gm.trans (Gm.drop (L:=L) hg HC.out.1 HC.out.2 hlow)).lop,Or.inr ⟨k',s4,HR2.out.trans (za7 hr),rfl,hw⟩⟩
     . have HG4:=hid (HG1.out.gm.trans (Gm.drop (L:=L) hg HC.out.1 HC.out.2 hlow))
       have hcq:=z24 cx n u 6 body ⟨loc,0⟩ _ _ _ hr;have hcq:s4.calls=s1.calls+1:=hcq;have HR4:=hid (HR2.out.trans (zay hr));have HP4:=hid (hw.wd.put (i:=8) (u:=.int .i64 (s1.calls:Int)) (s':={ s4 with calls:=s4.calls - 1 }) (e':=0) (fun _ _=>by rw [hcq,Nat.add_sub_cancel];rfl) rfl rfl rfl hw.wd.tl (by show s4.calls - 1<=24;omega));have hC4:=hw.cl;rw [HC.out.1] at hC4;obtain ⟨p0,p1,p2,p3,pz,pf⟩:=za2 hC4;obtain ⟨ai4,ci4,hb4, -, -⟩:=hw.wd.blk;obtain ⟨r0,r1,r2,r3,r4,r5,r6,r7,r8,r9,rz,rf⟩:=zbr hb4
       have r8':w4.cell? ⟨B,8,none⟩=some (.int .i64 ((s1.calls:Int)+1)):=by rw [r8,hcq];rfl
       have m1:B≠w1.heap.size:=by omega
       clear hg hr hw hC4 hb4 r8 hcq r0 r1 r2 r3 r4 r5 r6 r7 r9 q0 q1 q2 q3 q4 q5 q6 q7 q8 q9 qf p0 p1 p2;unfold zf4;go_wp2_with fail
       go_returns
       exact ⟨vo4,(HG4.out.trans (Fm.grown zdn).gm).lop,Or.inl ⟨dr,_,HR4.out,rfl,HP4.out⟩⟩
theorem zy8 {B base:Nat} {cx:Cx} {K:Wk} (hU:okU cx K.cd):∀ n,(∀ m≤n,EnV m B base cx K)/\∀ m≤n,∀ l,BlV m B base cx K 6 l
 | 0 =>by
   have e0:EnV 0 B base cx K:=fun u body ab kb lv L loc vo s w hw hfu=>absurd hfu (by have:=hw.tl;omega)
   refine ⟨fun m hm=>?_,fun m hm l=>?_⟩
   . obtain rfl:m=0:=by omega
     exact e0
   . obtain rfl:m=0:=by omega
     exact fun c loc ret vo s a ka w h=>absurd h.fu (by have:=h.wd.tl;omega)
 | n + 1=>by
   obtain ⟨h1,h2⟩:=zy8 hU n
   have e1:∀ m≤n+1,EnV m B base cx K:=fun m hm=>by
    by_cases hl:m<=n
    . exact h1 m hl
    . obtain rfl:m=n+1:=by omega
      exact zt0 (h2 n (vaa _))
   refine ⟨e1,fun m hm l=>?_⟩
   by_cases hl:m<=n
   . exact h2 m hl l
   . obtain rfl:m=n+1:=by omega
     exact zki (fun x _=>zy7 (e1 _ (vaa _)) hU (fun m hm y=>zy5 (e1 m hm) hU 6 y) (fun m hm l=>h2 m (by omega) l) 6 x (vaa _))
theorem zw1 {B base:Nat} {cx:Cx} {K:Wk} (hU:okU cx K.cd) (n:Nat):EnV n B base cx K:=(zy8 hU n).1 n (vaa _)
def noneO (w:World) (b:Nat):World:=((((((((w.alloc zC).setCell ⟨b,0,none⟩ (.string ⟨#[]⟩)).setCell ⟨b,1,none⟩ (.slice none 0 0)).setCell ⟨b,2,none⟩ (.int .i64 0)).setCell ⟨b,3,none⟩ (.slice none 0 0)).setCell ⟨b,4,none⟩ (.slice none 0 0)).setCell ⟨b,5,none⟩ (.slice none 0 0)).setCell ⟨b,6,none⟩ (.int .i64 0)).setCell ⟨b+1,0,none⟩ (.bool false)
def z25 (w:World) (b:Nat) (x0 x1 x2 x3 x4 x5 x6:Value):World:=(((((((w.setCell ⟨b,0,none⟩ (x0)).setCell ⟨b,1,none⟩ (x1)).setCell ⟨b,2,none⟩ (x2)).setCell ⟨b,3,none⟩ (x3)).setCell ⟨b,4,none⟩ (x4)).setCell ⟨b,5,none⟩ (x5)).setCell ⟨b,6,none⟩ (x6))
theorem z26 {w:World} {b:Nat} {y0 y1 y2 y3 y4 y5 y6:Value} {t:TypeId} {f:Nat × Nat} (h:w.heap[b]? = some (.cells #[y0,y1,y2,y3,y4,y5,y6] t f)) (x0 x1 x2 x3 x4 x5 x6:Value):(z25 w b x0 x1 x2 x3 x4 x5 x6).heap[b]? = some (.cells #[x0,x1,x2,x3,x4,x5,x6] t f):=by
 have h0:(w.setCell ⟨b,0,none⟩ x0).heap[b]? = some (.cells #[x0,y1,y2,y3,y4,y5,y6] t f):=zaf h x0;have h1:((w.setCell ⟨b,0,none⟩ x0).setCell ⟨b,1,none⟩ x1).heap[b]? = some (.cells #[x0,x1,y2,y3,y4,y5,y6] t f):=zaf h0 x1;have h2:(((w.setCell ⟨b,0,none⟩ x0).setCell ⟨b,1,none⟩ x1).setCell ⟨b,2,none⟩ x2).heap[b]? = some (.cells #[x0,x1,x2,y3,y4,y5,y6] t f):=zaf h1 x2;have h3:((((w.setCell ⟨b,0,none⟩ x0).setCell ⟨b,1,none⟩ x1).setCell ⟨b,2,none⟩ x2).setCell ⟨b,3,none⟩ x3).heap[b]? = some (.cells #[x0,x1,x2,x3,y4,y5,y6] t f):=zaf h2 x3;have h4:(((((w.setCell ⟨b,0,none⟩ x0).setCell ⟨b,1,none⟩ x1).setCell ⟨b,2,none⟩ x2).setCell ⟨b,3,none⟩ x3).setCell ⟨b,4,none⟩ x4).heap[b]? = some (.cells #[x0,x1,x2,x3,x4,y5,y6] t f):=zaf h3 x4;have h5:((((((w.setCell ⟨b,0,none⟩ x0).setCell ⟨b,1,none⟩ x1).setCell ⟨b,2,none⟩ x2).setCell ⟨b,3,none⟩ x3).setCell ⟨b,4,none⟩ x4).setCell ⟨b,5,none⟩ x5).heap[b]? = some (.cells #[x0,x1,x2,x3,x4,x5,y6] t f):=zaf h4 x5
 have h6:(((((((w.setCell ⟨b,0,none⟩ x0).setCell ⟨b,1,none⟩ x1).setCell ⟨b,2,none⟩ x2).setCell ⟨b,3,none⟩ x3).setCell ⟨b,4,none⟩ x4).setCell ⟨b,5,none⟩ x5).setCell ⟨b,6,none⟩ x6).heap[b]? = some (.cells #[x0,x1,x2,x3,x4,x5,x6] t f):=zaf h5 x6;exact h6
theorem zw2 {w:World} {b k:Nat} (hn:k≠b) (x0 x1 x2 x3 x4 x5 x6:Value):(z25 w b x0 x1 x2 x3 x4 x5 x6).heap[k]? = w.heap[k]?:=
 (zac hn _).trans ((zac hn _).trans ((zac hn _).trans ((zac hn _).trans ((zac hn _).trans ((zac hn _).trans (zac hn _))))))
theorem zry {B:Nat} {w w':World} {b:Nat} (h:Below B w w') (hb:B<=b) (x0 x1 x2 x3 x4 x5 x6:Value):Below B w (z25 w' b x0 x1 x2 x3 x4 x5 x6):=
 (((((((h.setCell (p:=⟨b,0,none⟩) hb _).setCell (p:=⟨b,1,none⟩) hb _).setCell (p:=⟨b,2,none⟩) hb _).setCell (p:=⟨b,3,none⟩) hb _).setCell (p:=⟨b,4,none⟩) hb _).setCell (p:=⟨b,5,none⟩) hb _).setCell (p:=⟨b,6,none⟩) hb _)
theorem zlo (b:Nat) (x0 x1 x2 x3 x4 x5 x6:Value) (y:Bool) (u:TypeId) (pv:Value) (w:World) (hX:w.heap[b]? = some (.cells #[x0,x1,x2,x3,x4,x5,x6] 62 (0,0))) (hK:w.heap[b+1]? = some (.cells #[.bool y] 4 (0,0))) :
 CallsD Tryz.prog 136 #[.pointer (some ⟨b,0,none⟩),.pointer (some ⟨b+1,0,none⟩)] (.panicking [{ v:=.iface u pv,recovered:=false }]) w fun e u' w'=>
  e = .returned (.tuple #[])/\u' = .panicking [{ v:=.iface u pv,recovered:=true }]/\w'=noneO w b:=by
 have hX1:=zae (o:=.cells #[.string ⟨#[]⟩,.slice none 0 0,.int .i64 0,.slice none 0 0,.slice none 0 0,.slice none 0 0,.int .i64 0] 62) hX;have hK1:=zae (o:=.cells #[.string ⟨#[]⟩,.slice none 0 0,.int .i64 0,.slice none 0 0,.slice none 0 0,.slice none 0 0,.int .i64 0] 62) hK;obtain ⟨a0,a1,a2,a3,a4,a5,a6,az⟩:=zds hX1
 have afz:∀ j,(w.alloc zC).frozen? ⟨b,j,none⟩=false:=fun j=>vef hX1 j
 have k0:(w.alloc zC).cell? ⟨b+1,0,none⟩=some (.bool y):=by rw [vee hK1];rfl
 have kf:(w.alloc zC).frozen? ⟨b+1,0,none⟩=false:=vef hK1 0;obtain ⟨n0,n1,n2,n3,n4,n5,n6,nz⟩:=zds (heap_newP w zC);have hE:noneO w b=((((((((w.alloc zC).setCell ⟨b,0,none⟩ (.string ⟨#[]⟩)).setCell ⟨b,1,none⟩ (.slice none 0 0)).setCell ⟨b,2,none⟩ (.int .i64 0)).setCell ⟨b,3,none⟩ (.slice none 0 0)).setCell ⟨b,4,none⟩ (.slice none 0 0)).setCell ⟨b,5,none⟩ (.slice none 0 0)).setCell ⟨b,6,none⟩ (.int .i64 0)).setCell ⟨b+1,0,none⟩ (.bool false):=rfl;rw [hE];clear hX hK hX1 hK1 hE
 refine callsD_of_wpS Tryz.func136 rfl fun c₀ cs hu=>?_
 apply wpS_seq
 apply wpS_region
 simp [wpOpsS,go_sem,recoverD,hu,Tryz.ntmps136,Exit.thenS];refine wpS_cond (t:=true) (by simp [Act.eval,Array.replicate]) ?_;simp only [if_true]
 apply wpS_seq
 apply wpS_region
 simp [wpOpsS,go_sem,Exit.thenS]
 apply wpS_region
 simp [wpOpsS,go_sem,n0,n1,n2,n3,n4,n5,n6,a0,a1,a2,a3,a4,a5,a6,afz,k0,kf,bodyPostS,results,Tryz.results136]
theorem caught (u:TypeId) (pv:Value) (w W:World) (x0 x1 x2 x3 x4 x5 x6:Value) (y:Bool) (hX:W.heap[w.heap.size]? = some (.cells #[x0,x1,x2,x3,x4,x5,x6] 62 (0,0))) (hK:W.heap[w.heap.size+1]? = some (.cells #[.bool y] 4 (0,0))) (hB:Below w.heap.size w W) {R:Ending->World->Prop} (t:Array Value)
 (h4:t.getD 4 undef = .pointer (some ⟨w.heap.size,0,none⟩)) (h5:t.getD 5 undef = .pointer (some ⟨w.heap.size+1,0,none⟩))
 (hR:∀ W',Below w.heap.size w W'->R (.returned (.tuple #[zV,.bool false])) W') :
 Leaves Tryz.prog Tryz.f95 t R [{ target:=Target.fn (Fn.func 136) #[Value.pointer (some ⟨w.heap.size,0,none⟩),Value.pointer (some ⟨w.heap.size+1,0,none⟩)],args:=#[] }] (.panicking [{ v:=.iface u pv,recovered:=false }]) W:=by
 refine leaves_cons (f:=136) (args:=#[.pointer (some ⟨w.heap.size,0,none⟩),.pointer (some ⟨w.heap.size+1,0,none⟩)]) (by simp) (by simp [go_sem]) ?_;refine (zlo w.heap.size x0 x1 x2 x3 x4 x5 x6 y u pv W hX hK).mono ?_;rintro e u' w'' ⟨rfl,rfl,rfl⟩;have hX1:=z26 (zae (o:=.cells #[.string ⟨#[]⟩,.slice none 0 0,.int .i64 0,.slice none 0 0,.slice none 0 0,.slice none 0 0,.int .i64 0] 62) hX) (.string ⟨#[]⟩) (.slice none 0 0) (.int .i64 0) (.slice none 0 0) (.slice none 0 0) (.slice none 0 0) (.int .i64 0);have hX2:(noneO W w.heap.size).heap[w.heap.size]? = some (zC):=(zac (p:=⟨w.heap.size+1,0,none⟩) (by show w.heap.size≠w.heap.size+1;omega) _).trans hX1;have hK2:(noneO W w.heap.size).heap[w.heap.size+1]? = some (.cells #[.bool false] 4 (0,0)):=zaf ((zw2 (by omega) _ _ _ _ _ _ _).trans (zae (o:=.cells #[.string ⟨#[]⟩,.slice none 0 0,.int .i64 0,.slice none 0 0,.slice none 0 0,.slice none 0 0,.int .i64 0] 62) hK)) _
 have hb:Below w.heap.size w (noneO W w.heap.size):=(zry (hB.alloc hB.size _) (vaa _) _ _ _ _ _ _ _).setCell (p:=⟨w.heap.size+1,0,none⟩) (vda _) _;obtain ⟨c0,c1,c2,c3,c4,c5,c6,_⟩:=zds hX2
 have k0:(noneO W w.heap.size).cell? ⟨w.heap.size+1,0,none⟩=some (.bool false):=by rw [vee hK2];rfl
 generalize noneO W w.heap.size=X at *
 have h4':t[4]?.getD undef = .pointer (some ⟨w.heap.size,0,none⟩):=by simpa using h4
 have h5':t[5]?.getD undef = .pointer (some ⟨w.heap.size+1,0,none⟩):=by simpa using h5
 refine ⟨.tuple #[zV,.bool false],?_,hR X hb⟩;simp [results,Tryz.results95,go_sem,h4',h5',c0,c1,c2,c3,c4,c5,c6,k0]
theorem zt1 (u:TypeId) (pv:Value) (w:World) :
 CallsD Tryz.prog 124 #[] (.panicking [{ v:=.iface u pv,recovered:=false }]) w fun e u' w'=>e = .returned (.tuple #[])/\u' = .panicking [{ v:=.iface u pv,recovered:=true }]/\w'=w:=by
 refine callsD_of_wpS Tryz.func124 rfl fun c₀ cs hu=>?_
 apply wpS_region
 simp [wpOpsS,go_sem,recoverD,hu,Tryz.ntmps124,Exit.thenS,bodyPostS,results,Tryz.results124]
theorem zw3 (w:World) :
 CallsD Tryz.prog 124 #[] .returning w fun e u' w'=>e = .returned (.tuple #[])/\u' = .returning/\w'=w:=by
 refine callsD_of_wpS Tryz.func124 rfl fun c₀ cs hu=>?_
 apply wpS_region
 cases c₀
 simp_all [wpOpsS,go_sem,recoverD,hu,Tryz.ntmps124,Exit.thenS,bodyPostS,results,Tryz.results124]
theorem zrz (u:TypeId) (pv:Value) (W:World) {R:Ending->World->Prop} (t:Array Value) (hR:R (.returned (.tuple #[])) W) :
 Leaves Tryz.prog Tryz.f74 t R [{ target:=Target.fn (Fn.func 124) #[],args:=#[] }] (.panicking [{ v:=.iface u pv,recovered:=false }]) W:=by
 refine leaves_cons (f:=124) (args:=#[]) (by simp) (by simp [go_sem]) ?_;refine (zt1 u pv W).mono ?_;rintro e u' w'' ⟨rfl,rfl,rfl⟩;exact ⟨.tuple #[],by simp [results,Tryz.results74,go_sem],hR⟩
theorem zt2 (W:World) {R:Ending->World->Prop} (t:Array Value) (hR:R (.returned (.tuple #[])) W) :
 Leaves Tryz.prog Tryz.f74 t R [{ target:=Target.fn (Fn.func 124) #[],args:=#[] }] .returning W:=by
 refine leaves_cons (f:=124) (args:=#[]) (by simp) (by simp [go_sem]) ?_;refine (zw3 W).mono ?_;rintro e u' w'' ⟨rfl,rfl,rfl⟩;exact ⟨.tuple #[],by simp [results,Tryz.results74,go_sem],hR⟩
def Rr.en {α:Type}:Rr α->Int
 | .ok _ _=>0
 | .stop e _=>e
def zipU (l:List Un):List (Nat × Un):=(List.range l.length).zip l
theorem zt3 (l:List Un) (j:Nat) (h:j<l.length):(zipU l).drop j=(j,l[j]) :: (zipU l).drop (j+1):=by
 have hl:j<(zipU l).length:=by simp [zipU,h]
 rw [vca hl];simp [zipU]
theorem zw4 (l:List Un):(zipU l).drop l.length=[]:=vcg (by simp [zipU])
theorem zt4 {n B base:Nat} {cx:Cx} {K:Wk} {vo:Value} {s:Sw} {w:World} (hE:EnV n B base cx K) (hU:okU cx K.cd) (h:Wd w B base cx K vo s 0) (hf:cx.lim+1<=s.ticks+n) (hz:0<cx.us.length) :
 Calls Tryz.prog 74 #[.pointer (some ⟨B,0,none⟩)] w fun e w'=>e = .returned (.tuple #[])/\∃ vo',Fm B K.D vo vo' w w'/\Wd w' B base cx K vo' (mainsS (En cx n) (zipU cx.us) s).st (mainsS (En cx n) (zipU cx.us) s).en:=by
 obtain ⟨ai,ci,hb, -, -⟩:=h.blk;obtain ⟨q0,q1,q2,q3,q4,q5,q6,q7,q8,q9,qz,qf⟩:=zbr hb;have hbd:=h.ro.us.bound;obtain ⟨b0,o0,_,_,_,_,_,_,hb0, -⟩:=h.ro.us.un 0 hz;rw [hb0] at q0;have HB0:=hid hb0;clear hb0 hz q1 q2 q3 q4 q5 q6 q7 q8 q9;have HW:=hid h;have HE:=hid hE;have HU:=hid hU;have HF:=hid hf
 obtain ⟨R0,hR0⟩:∃ R0,R0=mainsS (En cx n) (zipU cx.us) s:=⟨_,rfl⟩
 have HR0:=hid hR0;rw [← hR0];clear h hE hU hf hb hR0;go_enter_defers Tryz.func74,Tryz.ntmps74;go_wp2_with fail
 go_loopw [9] (fun i wr=>∃ j:Nat,j<=cx.us.length/\i = .int .i64 j/\∃ vo' s',Fm B K.D vo vo' w wr/\Wd wr B base cx K vo' s' 0/\cx.lim+1<=s'.ticks+n/\R0=mainsS (En cx n) ((zipU cx.us).drop j) s') (fun i _=>cx.us.length - (intOf i).toNat)
 case atStart=>exact ⟨0,vad _,rfl,vo,s,Fm.refl _ _ _ _,HW.out,HF.out,HR0.out⟩
 case round=>
  obtain ⟨j,hj,rfl,vo1,s1,hf1,hw1,ht1,hr1⟩:=hrel;have H124:=hid hf1;have HW1:=hid hw1
  by_cases hlt:j<cx.us.length
  . obtain ⟨b,off,u1,v1,u2,v2,u3,v3,hb,hx⟩:=hw1.ro.us.un j hlt
    obtain ⟨hbl,x0,x1,x2,x3,x4,_,_,d3,_,_⟩:=hx;rw [HB0.out] at hb;cases hb;have HC:=hid (fun o=>HE.out j cx.us[j].main u3 v3 (.slice none 0 0) (wr.alloc o).heap.size [] vo1 s1 (wr.alloc o) (hw1.below (al1 wr o)) ht1 (Or.inl ⟨rfl,_,rfl⟩) (vav hw1.ro.zS (al1 wr o).size) (Or.inl rfl) hlt (d3.later (al1 wr o)) ((HU.out j hlt).1))
    have HR:Hid (R0=(En cx n j cx.us[j].main [] s1).bind fun _ s=>mainsS (En cx n) ((zipU cx.us).drop (j+1)) s):=by
     show _=_;rw [hr1,zt3 cx.us j hlt]
     rfl
    have hkp:zh4 s1 (En cx n j cx.us[j].main [] s1).st:=(zd3 cx n).ent j cx.us[j].main [] s1;clear hf1 hw1 hr1 d3;generalize cx.us[j]=x at *;go_wp2_with fail;refine (HC.out _).mono ?_;rintro e w2 ⟨vo2,hg,hx⟩;have HG:=hid (((H124.out.trans (Fm.below (al1 wr _))).gm.trans hg).fm (fun b e=>by rw [show b=_ from e];exact vav H124.out.size (al1 wr _).size))
    rcases hx.symm with ⟨k',s2,hr,rfl,hw2⟩ | ⟨v,s2,hr,rfl,hw2⟩
    . refine zrz _ _ _ _ ⟨rfl,vo2,HG.out,?_⟩
      rw [HR.out,za7 hr];exact hw2
    . have HR2:=hid (HR.out.trans (zay hr))
      have HW2:=hid hw2
      have ht2:s1.ticks<=s2.ticks:=by
       have:=hkp.2.2.2;rw [hr] at this;exact this
      clear hg hx hr hw2 x0 x1 x2 x3 x4;unfold zdw;go_wp2_with fail;go_roundw
      case rel=>exact ⟨j+1,by omega,by go_num,vo2,s2,HG.out,HW2.out,by omega,HR2.out⟩
      case measure=>simp [intOf];omega
  . obtain rfl:j=cx.us.length:=by omega
    have HR:Hid (R0 = .ok () s1):=by
     show _=_;rw [hr1,zw4]
     rfl
    clear hf1 hw1 hr1;go_wp2_with fail;refine zt2 _ _ ⟨rfl,vo1,H124.out,?_⟩;rw [HR.out];exact HW1.out
end Go.Proofs.YtndkhgakfodldaaGreatDoor

namespace Go.Proofs.YtndkhgakfodldaaGreatDoor
set_option linter.unusedSimpArgs false
set_option linter.unusedVariables false
theorem zy9 {cx:Cx} {u nl sz:Nat} {c:Ck} (hn:∀ m a n,numB c m a n=true->zol cx u sz m a n) (hp:∀ m a (k:Nat),zom c m a k=true->zwd cx u k m a) (hl:c.locals=nl):∀ (k:Nat) (l:List Nd),zj9 c k l=true->∀ x ∈ l,okN cx u nl sz k x
 | 0,l,h,x,hx=>by
   have:l.length=0:=of_decide_eq_true h;rw [vam this] at hx;cases hx
 | k + 1,l,h,x,hx=>by
   unfold zj9 at h;have h1:=vas.1 h x hx;rw [vae] at h1;have ih:=zy9 hn hp hl k x.args h1.2;have ha:=h1.1;unfold za5 at ha;unfold okN
   by_cases o3:x.op=3
   . rw [if_pos o3] at ha
     simp only [vae] at ha;exact Or.inr (Or.inr (Or.inr (Or.inl ⟨o3,hn _ _ _ ha.2.2⟩)))
   rw [if_neg o3] at ha
   by_cases o4:x.op=4
   . rw [if_pos o4] at ha
     unfold zsz at ha;simp only [vae,decide_eq_true_eq] at ha;exact Or.inr (Or.inr (Or.inr (Or.inr (Or.inl ⟨o4,ha.2.1.1,hn _ _ _ ha.2.2,ha.1,ih⟩))))
   rw [if_neg o4] at ha
   by_cases o5:x.op=5
   . rw [if_pos o5] at ha
     simp only [vae] at ha;exact Or.inr (Or.inr (Or.inr (Or.inr (Or.inr (Or.inl ⟨o5,hp _ _ _ ha.2,ih⟩)))))
   rw [if_neg o5] at ha
   by_cases o16:x.op=16
   . rw [if_pos o16] at ha
     unfold zwg at ha;simp only [vae,decide_eq_true_eq] at ha;exact Or.inr (Or.inr (Or.inl ⟨o16,ha.2.2.2.1,by rw [← hl];exact ha.2.2.2.2⟩))
   rw [if_neg o16] at ha
   by_cases o1:x.op=1
   . exact Or.inl o1
   rw [if_neg o1] at ha;unfold argsOf at ha;simp only [vae,decide_eq_true_eq] at ha;have h2:=ha.1
   split at h2
   . rename_i h3;exact Or.inr (Or.inl h3)
   . split at h2
     . rename_i h3;exact Or.inr (Or.inr (Or.inr (Or.inr (Or.inr (Or.inr (Or.inl ⟨h3,by omega,ih⟩))))))
     . split at h2
       . rename_i h3;exact Or.inr (Or.inr (Or.inr (Or.inr (Or.inr (Or.inr (Or.inr ⟨h3.1,h3.2,by omega,ih⟩))))))
       . omega
theorem zna {cx:Cx} {u nl sz:Nat} {c:Ck} (hn:∀ m a n,numB c m a n=true->zol cx u sz m a n) (hp:∀ m a (k:Nat),zom c m a k=true->zwd cx u k m a) (hl:c.locals=nl):∀ (k:Nat) (l:List Ac),zgh c k l=true->∀ x ∈ l,okA cx u nl sz k x
 | 0,l,h,x,hx=>by cases h
 | k + 1,l,h,a,hx=>by
   unfold zgh at h;rw [vae] at h;have h1:=vas.1 h.2 a hx;simp only [vae] at h1;obtain ⟨ha,hna,hin⟩:=h1;unfold okA;refine ⟨zy9 hn hp hl 6 a.args hna,?_⟩;unfold zb2 at ha
   by_cases o1:a.op=1
   . rw [if_pos o1] at ha
     simp only [vae,decide_eq_true_eq] at ha;refine Or.inl ⟨o1,ha.1,?_⟩;have h2:=ha.2.2
     split at h2
     . rename_i hm
       unfold zwg at h2;have:=of_decide_eq_true h2;exact Or.inl ⟨hm,this.1,by rw [← hl];exact this.2⟩
     . rename_i hm
       exact Or.inr ⟨hm,hn _ _ _ h2⟩
   rw [if_neg o1] at ha
   by_cases o2:a.op=2
   . rw [if_pos o2] at ha
     unfold zsz at ha;simp only [vae,decide_eq_true_eq] at ha;exact Or.inr (Or.inl ⟨o2,ha.1,ha.2.1.1,hn _ _ _ ha.2.2⟩)
   rw [if_neg o2] at ha
   by_cases o3:a.op=3
   . rw [if_pos o3] at ha
     simp only [vae] at ha;exact Or.inr (Or.inr (Or.inl ⟨o3,hp _ _ _ ha.2⟩))
   rw [if_neg o3] at ha
   split at ha
   . rename_i h47
     simp only [vae,decide_eq_true_eq] at ha
     by_cases o4:a.op=4
     . rw [if_pos o4,vae] at hin
       exact Or.inr (Or.inr (Or.inr (Or.inl ⟨o4,ha.1,zna hn hp hl k a.body hin.1,zna hn hp hl k a.other hin.2⟩)))
     rw [if_neg o4] at hin
     by_cases o5:a.op=5
     . rw [if_pos o5,vae] at hin
       exact Or.inr (Or.inr (Or.inr (Or.inr (Or.inl ⟨o5,ha.1,zna hn hp hl k a.body hin.1⟩))))
     by_cases o6:a.op=6
     . exact Or.inr (Or.inr (Or.inr (Or.inr (Or.inr (Or.inl ⟨o6,ha.1⟩)))))
     . exact Or.inr (Or.inr (Or.inr (Or.inr (Or.inr (Or.inr ⟨by omega,ha.1⟩)))))
   . cases ha
end Go.Proofs.YtndkhgakfodldaaGreatDoor
