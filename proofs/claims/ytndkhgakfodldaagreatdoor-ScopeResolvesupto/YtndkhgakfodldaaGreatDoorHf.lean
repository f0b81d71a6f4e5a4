import Derived.Test.YtndkhgakfodldaaGreatDoorUi
namespace Go.Proofs.YtndkhgakfodldaaGreatDoor
set_option maxRecDepth 100000
set_option maxHeartbeats 1600000
open Go.RowKit Go.Maps Go.WideMaps
set_option linter.unusedSimpArgs false
set_option linter.unusedVariables false
theorem tkh {P:Program} {ops:Array Oper} {Q:Exit->Act->World->Prop} {md:Region.Mode} {S:World->Prop} (i:Nat) {oi:Oper} (v:Value) {fuel:Nat} {listed:Array Bool} {a:Act} {w:World} (hi:ops[i]? = some oi)
 (hc:(Region.noSelect ops&&(Region.free md ops listed i&&((Region.ready md ops listed).contains i&&Region.wanted oi (yielded ops a.tmps))))=true)
 (hQ:∀ c a w,Q (.panic c) (a.put oi.dst v) w->Q (.panic c) a w) (hy:∀ w,S w->(execOp a.eval oi).run P w = .ok (.value v) w) (hS:S w)
 (h:wpAnyH P md ops Q S fuel (listed.setIfInBounds i true) (a.put oi.dst v) w):wpAnyH P md ops Q S (fuel+1) listed a w:=by
 simp only [van] at hc;exact wpAnyH_take hi hc.1 hc.2.1 hc.2.2.1 hQ (Or.inl ⟨hc.2.2.2,hy⟩) hS h
theorem EAt.place {w:World} {A:Nat->Prop} {a:OA} {n:Nat} {ds:List D} (h:EAt w A a n ds) (hn:0<n):∃ b off,a=some ⟨b,off,none⟩/\b<w.heap.size/\∀ (j:Nat) (d:D),ds[j]? = some d->∃ v,w.cell? ⟨b,off+j,none⟩=some v/\zez w A d v:=by
 rcases h with h | ⟨b,off,cs,ha,_,hb,hc,hx⟩
 . omega
 . refine ⟨b,off,ha,hb,fun j d hj=>?_⟩
   obtain ⟨v,hv,hd⟩:=hx.get j d hj;exact ⟨v,hc j v hv,hd⟩
theorem EAt.nd {w:World} {A:Nat->Prop} {a:OA} {l:List Nd} (h:EAt w A a l.length (ze0 l)) (i:Nat) (hi:i<l.length):∃ b off a1 k1,a=some ⟨b,off,none⟩/\b<w.heap.size/\w.cell? ⟨b,off+i*5,none⟩=some (.int .i64 l[i].op)/\w.cell? ⟨b,off+i*5+1,none⟩=some (.int .i64 l[i].n)/\w.cell? ⟨b,off+i*5+2,none⟩=some (.int .i64 l[i].m)/\w.cell? ⟨b,off+i*5+3,none⟩=some (.int .i64 l[i].at_)/\w.cell? ⟨b,off+i*5+4,none⟩=some (.slice a1 l[i].args.length k1)/\EAt w A a1 l[i].args.length (ze0 l[i].args):=by
 obtain ⟨b,off,ha,hb,hc⟩:=h.place (by omega);generalize hx:l[i]=x;obtain ⟨op,n,m,at_,args⟩:=x
 have g:∀ j d,j<5->(Nd.mk op n m at_ args).ds[j]? = some d->∃ v,w.cell? ⟨b,off+i*5+j,none⟩=some v/\zez w A d v:=fun j d hj hd=>by
  rw [vbj];exact hc (i*5+j) d ((zm7 l i hi j hj).trans (by rw [hx];exact hd))
 obtain ⟨v0,q0,d0⟩:=g 0 (.int op) (by omega) (by simp [Nd.ds]);obtain ⟨v1,q1,d1⟩:=g 1 (.int n) (by omega) (by simp [Nd.ds]);obtain ⟨v2,q2,d2⟩:=g 2 (.int m) (by omega) (by simp [Nd.ds]);obtain ⟨v3,q3,d3⟩:=g 3 (.int at_) (by omega) (by simp [Nd.ds]);obtain ⟨v4,q4,d4⟩:=g 4 (.list args.length (ze0 args)) (by omega) (by simp [Nd.ds]);obtain rfl:=zdf d0;obtain rfl:=zdf d1;obtain rfl:=zdf d2;obtain rfl:=zdf d3;obtain ⟨a1,k1,rfl,h1⟩:=zhk d4;exact ⟨b,off,a1,k1,ha,hb,q0,q1,q2,q3,q4,h1⟩
theorem EAt.ac {w:World} {A:Nat->Prop} {a:OA} {l:List Ac} (h:EAt w A a l.length (zc2 l)) (i:Nat) (hi:i<l.length):∃ b off a1 k1 a2 k2 a3 k3,a=some ⟨b,off,none⟩/\b<w.heap.size/\w.cell? ⟨b,off+i*7,none⟩=some (.int .i64 l[i].op)/\w.cell? ⟨b,off+i*7+1,none⟩=some (.int .i64 l[i].n)/\w.cell? ⟨b,off+i*7+2,none⟩=some (.int .i64 l[i].m)/\w.cell? ⟨b,off+i*7+3,none⟩=some (.int .i64 l[i].at_)/\w.cell? ⟨b,off+i*7+4,none⟩=some (.slice a1 l[i].args.length k1)/\w.cell? ⟨b,off+i*7+5,none⟩=some (.slice a2 l[i].body.length k2)/\w.cell? ⟨b,off+i*7+6,none⟩=some (.slice a3 l[i].other.length k3)/\
 EAt w A a1 l[i].args.length (ze0 l[i].args)/\EAt w A a2 l[i].body.length (zc2 l[i].body)/\EAt w A a3 l[i].other.length (zc2 l[i].other):=by
 obtain ⟨b,off,ha,hb,hc⟩:=h.place (by omega);generalize hx:l[i]=x;obtain ⟨op,n,m,at_,args,body,other⟩:=x
 have g:∀ j d,j<7->(Ac.mk op n m at_ args body other).ds[j]? = some d->∃ v,w.cell? ⟨b,off+i*7+j,none⟩=some v/\zez w A d v:=fun j d hj hd=>by
  rw [vbj];exact hc (i*7+j) d ((zm8 l i hi j hj).trans (by rw [hx];exact hd))
 obtain ⟨v0,q0,d0⟩:=g 0 (.int op) (by omega) (by simp [Ac.ds]);obtain ⟨v1,q1,d1⟩:=g 1 (.int n) (by omega) (by simp [Ac.ds]);obtain ⟨v2,q2,d2⟩:=g 2 (.int m) (by omega) (by simp [Ac.ds]);obtain ⟨v3,q3,d3⟩:=g 3 (.int at_) (by omega) (by simp [Ac.ds]);obtain ⟨v4,q4,d4⟩:=g 4 (.list args.length (ze0 args)) (by omega) (by simp [Ac.ds]);obtain ⟨v5,q5,d5⟩:=g 5 (.list body.length (zc2 body)) (by omega) (by simp [Ac.ds]);obtain ⟨v6,q6,d6⟩:=g 6 (.list other.length (zc2 other)) (by omega) (by simp [Ac.ds]);obtain rfl:=zdf d0;obtain rfl:=zdf d1;obtain rfl:=zdf d2;obtain rfl:=zdf d3;obtain ⟨a1,k1,rfl,h1⟩:=zhk d4;obtain ⟨a2,k2,rfl,h2⟩:=zhk d5;obtain ⟨a3,k3,rfl,h3⟩:=zhk d6;exact ⟨b,off,a1,k1,a2,k2,a3,k3,ha,hb,q0,q1,q2,q3,q4,q5,q6,h1,h2,h3⟩
mutual
def Nd.few:Nd->Prop
 | .mk _ _ _ _ l=>l.length<=5000/\zed l
def zed:List Nd->Prop
 | []=>True
 | x :: r=>x.few/\zed r
end
mutual
def Ac.few:Ac->Prop
 | .mk _ _ _ _ l b o=>(l.length<=5000/\zed l)/\(b.length<=5000/\zcl b)/\o.length<=5000/\zcl o
def zcl:List Ac->Prop
 | []=>True
 | x :: r=>x.few/\zcl r
end
theorem zk7:∀ {l:List Nd} {x:Nd},zed l->x ∈ l->x.few
 | y :: r,x,h,hx=>by
   unfold zed at h
   rcases vbo.1 hx with rfl | hx
   . exact h.1
   . exact zk7 h.2 hx
theorem zk8:∀ {l:List Ac} {x:Ac},zcl l->x ∈ l->x.few
 | y :: r,x,h,hx=>by
   unfold zcl at h
   rcases vbo.1 hx with rfl | hx
   . exact h.1
   . exact zk8 h.2 hx
theorem Nd.few_args {x:Nd} (h:x.few):x.args.length<=5000/\zed x.args:=by cases x;unfold Nd.few at h;exact h
theorem Ac.few_parts {x:Ac} (h:x.few):(x.args.length<=5000/\zed x.args)/\(x.body.length<=5000/\zcl x.body)/\x.other.length<=5000/\zcl x.other:=by cases x;unfold Ac.few at h;exact h
theorem zr4 {l:List Nd} {x:Nd} (h:x ∈ l):SizeOf.sizeOf x.args<SizeOf.sizeOf l:=by
 have h1:=List.sizeOf_lt_of_mem h;obtain ⟨op,n,m,at_,args⟩:=x;have h2:SizeOf.sizeOf (Nd.mk op n m at_ args)=1+SizeOf.sizeOf op+SizeOf.sizeOf n+SizeOf.sizeOf m+SizeOf.sizeOf at_+SizeOf.sizeOf args:=Nd.mk.sizeOf_spec ..;show SizeOf.sizeOf args<SizeOf.sizeOf l;omega
theorem bdN {B:Nat} {a w:World} (h:Below B a w) (m:Nat):Below B a (w.drewN m):=⟨h.os,h.tape,h.output,h.size,h.block⟩
theorem zo5 (w:World):w=w.drewN 0:=rfl
theorem zgz:∀ (n:Nat) (l:List Nd) (A A':Nat->Prop) (a a':OA) (cap cap':Nat) (w:World),SizeOf.sizeOf l<n->l.length<=5000->zed l->EAt w A a l.length (ze0 l)->EAt w A' a' l.length (ze0 l)->
 Calls Tryz.prog 123 #[.slice a l.length cap,.slice a' l.length cap'] w fun e w'=>e = .returned (.bool true)/\∃ m,w'=w.drewN m
 | 0,l,A,A',a,a',cap,cap',w,hn,_,_,_,_=>absurd hn (vdc _)
 | n+1,l,A,A',a,a',cap,cap',w,hn,hbd,hfw,hD,hD'=>by
   have HFw:=hid (fun (j:Nat) (h:j<l.length)=>Nd.few_args (zk7 hfw (vah h)));have HI:=hid (fun (j:Nat) (h:j<l.length) (A A':Nat->Prop) (a a':OA) (cap cap':Nat) (w:World)=>zgz n l[j].args A A' a a' cap cap' w (vai (zr4 (vah h)) (vdo hn)) (HFw.out j h).1 (HFw.out j h).2);have HD:=hid hD;have HD':=hid hD';clear hD hD' hn hfw;go_enter Tryz.func123,Tryz.ntmps123;go_wp2_with fail
   go_loopw [5] (fun i wr=>∃ k d:Nat,k<=l.length/\i = .int .i64 k/\wr=w.drewN d) (fun i _=>l.length - (intOf i).toNat)
   case atStart=>exact ⟨0,0,vad _,rfl,zo5 _⟩
   case round=>
    obtain ⟨j,d,hj,rfl,hd⟩:=hrel;have HE:=hid hd
    have hb:Below w.heap.size w wr:=by rw [hd];exact bdN (Below.refl _ _) _
    clear hd
    by_cases hlt:j<l.length
    . obtain ⟨b,off,aa,cp,rfl,hbl,x0,x1,x2,x3,x4,hargs⟩:=(HD.out.later hb).nd j hlt
      obtain ⟨b',off',aa',cp',rfl,hbl',y0,y1,y2,y3,y4,hargs'⟩:=(HD'.out.later hb).nd j hlt;have HC:=hid (fun (k:Nat)=>HI.out j hlt A A' aa aa' cp cp' (wr.drewN k) (hargs.later (bdN (Below.refl _ _) _)) (hargs'.later (bdN (Below.refl _ _) _)));have hal:=(HFw.out j hlt).1;clear hargs hargs' HI hb HFw;generalize l[j]=x at *;obtain ⟨op,nn,m,at_,args⟩:=x;simp only [Nd.op,Nd.n,Nd.m,Nd.at_,Nd.args] at x0 x1 x2 x3 x4 y0 y1 y2 y3 y4 HC hal;go_wp2_with fail
      go_quiet ((go_at_call 123;exact Calls.quiet_of (HC.out _)))
      go_wp2_with fail;go_roundw
      case rel=>exact ⟨j+1,_,by omega,by go_num,by rw [HE.out,vei]⟩
      case measure=>simp [intOf];omega
    . obtain rfl:j=l.length:=by omega
      go_wp2_with fail;go_ret;exact ⟨rfl,d,HE.out⟩
set_option maxHeartbeats 12800000
theorem zjd {l:List Ac} {x:Ac} (h:x ∈ l):SizeOf.sizeOf x.body<SizeOf.sizeOf l/\SizeOf.sizeOf x.other<SizeOf.sizeOf l:=by
 have h1:=List.sizeOf_lt_of_mem h;obtain ⟨op,n,m,at_,args,body,other⟩:=x;have h2:SizeOf.sizeOf (Ac.mk op n m at_ args body other)=1+SizeOf.sizeOf op+SizeOf.sizeOf n+SizeOf.sizeOf m+SizeOf.sizeOf at_+SizeOf.sizeOf args+SizeOf.sizeOf body+SizeOf.sizeOf other:=Ac.mk.sizeOf_spec ..;show SizeOf.sizeOf body<SizeOf.sizeOf l/\SizeOf.sizeOf other<SizeOf.sizeOf l;omega
def znn (n:Nat):Prop:=∀ (l:List Ac) (A A':Nat->Prop) (a a':OA) (cap cap':Nat) (w:World),SizeOf.sizeOf l<n->l.length<=5000->zcl l->EAt w A a l.length (zc2 l)->EAt w A' a' l.length (zc2 l)->
    Calls Tryz.prog 68 #[.slice a l.length cap,.slice a' l.length cap'] w fun e w'=>e = .returned (.bool true)/\∃ m,w'=w.drewN m
theorem zmc (n:Nat) (IH:znn n) (l:List Ac) (A A':Nat->Prop) (a a':OA) (cap cap':Nat) (w:World) (hn:SizeOf.sizeOf l<n+1) (hbd:l.length<=5000) (hfw:zcl l) (hD:EAt w A a l.length (zc2 l)) (hD':EAt w A' a' l.length (zc2 l)) :
 Calls Tryz.prog 68 #[.slice a l.length cap,.slice a' l.length cap'] w fun e w'=>e = .returned (.bool true)/\∃ m,w'=w.drewN m:=by
 have HFw:=hid (fun (j:Nat) (h:j<l.length)=>Ac.few_parts (zk8 hfw (vah h)));have HI:=hid (fun (j:Nat) (h:j<l.length) (A A':Nat->Prop) (a a':OA) (cap cap':Nat) (w:World)=>IH l[j].body A A' a a' cap cap' w (vai (zjd (vah h)).1 (vdo hn)) (HFw.out j h).2.1.1 (HFw.out j h).2.1.2);have HO:=hid (fun (j:Nat) (h:j<l.length) (A A':Nat->Prop) (a a':OA) (cap cap':Nat) (w:World)=>IH l[j].other A A' a a' cap cap' w (vai (zjd (vah h)).2 (vdo hn)) (HFw.out j h).2.2.1 (HFw.out j h).2.2.2);have HD:=hid hD;have HD':=hid hD';clear hD hD' hn hfw IH;go_enter Tryz.func68,Tryz.ntmps68;go_wp2_with fail
 go_loopw [5] (fun i wr=>∃ k d:Nat,k<=l.length/\i = .int .i64 k/\wr=w.drewN d) (fun i _=>l.length - (intOf i).toNat)
 case atStart=>exact ⟨0,0,vad _,rfl,zo5 _⟩
 case round=>
  obtain ⟨j,d,hj,rfl,hd⟩:=hrel;have HE:=hid hd
  have hb:Below w.heap.size w wr:=by rw [hd];exact bdN (Below.refl _ _) _
  clear hd
  by_cases hlt:j<l.length
  . obtain ⟨b,off,a1,k1,a2,k2,a3,k3,rfl,hbl,x0,x1,x2,x3,x4,x5,x6,h1,h2,h3⟩:=(HD.out.later hb).ac j hlt
    obtain ⟨b',off',a1',k1',a2',k2',a3',k3',rfl,hbl',y0,y1,y2,y3,y4,y5,y6,h1',h2',h3'⟩:=(HD'.out.later hb).ac j hlt;have HC1:=hid (fun (k:Nat)=>zgz _ l[j].args A A' a1 a1' k1 k1' (wr.drewN k) (vda _) (HFw.out j hlt).1.1 (HFw.out j hlt).1.2 (h1.later (bdN (Below.refl _ _) _)) (h1'.later (bdN (Below.refl _ _) _)));have HC2:=hid (fun (k:Nat)=>HI.out j hlt A A' a2 a2' k2 k2' (wr.drewN k) (h2.later (bdN (Below.refl _ _) _)) (h2'.later (bdN (Below.refl _ _) _)));have HC3:=hid (fun (k:Nat)=>HO.out j hlt A A' a3 a3' k3 k3' (wr.drewN k) (h3.later (bdN (Below.refl _ _) _)) (h3'.later (bdN (Below.refl _ _) _)));have hal1:=(HFw.out j hlt).1.1;have hal2:=(HFw.out j hlt).2.1.1;have hal3:=(HFw.out j hlt).2.2.1;clear h1 h2 h3 h1' h2' h3' HI HO hb HFw;generalize l[j]=x at *;obtain ⟨op,nn,m,at_,args,body,other⟩:=x;simp only [Ac.op,Ac.n,Ac.m,Ac.at_,Ac.args,Ac.body,Ac.other] at x0 x1 x2 x3 x4 x5 x6 y0 y1 y2 y3 y4 y5 y6 HC1 HC2 HC3 hal1 hal2 hal3
    have HS:Hid (∀ k,(wr.drewN k).cell? ⟨b,off+j*7,none⟩=some (.int .i64 op)/\(wr.drewN k).cell? ⟨b,off+j*7+1,none⟩=some (.int .i64 nn)/\(wr.drewN k).cell? ⟨b,off+j*7+2,none⟩=some (.int .i64 m)/\(wr.drewN k).cell? ⟨b,off+j*7+3,none⟩=some (.int .i64 at_)/\(wr.drewN k).cell? ⟨b,off+j*7+4,none⟩=some (.slice a1 args.length k1)/\(wr.drewN k).cell? ⟨b,off+j*7+5,none⟩=some (.slice a2 body.length k2)/\(wr.drewN k).cell? ⟨b,off+j*7+6,none⟩=some (.slice a3 other.length k3)/\(wr.drewN k).cell? ⟨b',off'+j*7,none⟩=some (.int .i64 op)/\(wr.drewN k).cell? ⟨b',off'+j*7+1,none⟩=some (.int .i64 nn)/\(wr.drewN k).cell? ⟨b',off'+j*7+2,none⟩=some (.int .i64 m)/\(wr.drewN k).cell? ⟨b',off'+j*7+3,none⟩=some (.int .i64 at_)/\(wr.drewN k).cell? ⟨b',off'+j*7+4,none⟩=some (.slice a1' args.length k1')/\(wr.drewN k).cell? ⟨b',off'+j*7+5,none⟩=some (.slice a2' body.length k2')/\(wr.drewN k).cell? ⟨b',off'+j*7+6,none⟩=some (.slice a3' other.length k3')):=fun k=>⟨x0,x1,x2,x3,x4,x5,x6,y0,y1,y2,y3,y4,y5,y6⟩
    clear x0 x1 x2 x3 x4 x5 x6 y0 y1 y2 y3 y4 y5 y6;obtain ⟨x0,x1,x2,x3,x4,x5,x6,y0,y1,y2,y3,y4,y5,y6⟩:=HS.out 0
    replace x0:wr.cell? _=_:=x0
    replace x1:wr.cell? _=_:=x1
    replace x2:wr.cell? _=_:=x2
    replace x3:wr.cell? _=_:=x3
    replace x4:wr.cell? _=_:=x4
    replace x5:wr.cell? _=_:=x5
    replace x6:wr.cell? _=_:=x6
    replace y0:wr.cell? _=_:=y0
    replace y1:wr.cell? _=_:=y1
    replace y2:wr.cell? _=_:=y2
    replace y3:wr.cell? _=_:=y3
    replace y4:wr.cell? _=_:=y4
    replace y5:wr.cell? _=_:=y5
    replace y6:wr.cell? _=_:=y6
    clear HS
    as_aux_lemma=>
     go_wp2_with fail
     go_quiet ((first | (go_at_call 123;exact Calls.quiet_of (HC1.out _)) | (go_at_call 68;first | (with_reducible exact Calls.quiet_of (HC2.out _)) | (with_reducible exact Calls.quiet_of (HC3.out _)))))
     as_aux_lemma=>
      go_wp2_with fail;go_roundw
      case rel=>exact ⟨j+1,_,by omega,by go_num,by rw [HE.out,vei]⟩
      case measure=>simp [intOf];omega
  . obtain rfl:j=l.length:=by omega
    go_wp2_with fail;go_ret;exact ⟨rfl,d,HE.out⟩
theorem zie:∀ n:Nat,znn n
 | 0=>fun _ _ _ _ _ _ _ _ hn _ _ _ _=>absurd hn (vdc _)
 | n+1=>fun l A A' a a' cap cap' w hn hbd hfw hD hD'=>zmc n (zie n) l A A' a a' cap cap' w hn hbd hfw hD hD'
theorem zif (n:Nat) (l:List Ac) (A A':Nat->Prop) (a a':OA) (cap cap':Nat) (w:World) (hn:SizeOf.sizeOf l<n) (hbd:l.length<=5000) (hfw:zcl l) (hD:EAt w A a l.length (zc2 l)) (hD':EAt w A' a' l.length (zc2 l)) :
 Calls Tryz.prog 68 #[.slice a l.length cap,.slice a' l.length cap'] w fun e w'=>e = .returned (.bool true)/\∃ m,w'=w.drewN m:=zie n l A A' a a' cap cap' w hn hbd hfw hD hD'
end Go.Proofs.YtndkhgakfodldaaGreatDoor
