import Derived.Test.YtndkhgakfodldaaGreatDoorId
namespace Go.Proofs.YtndkhgakfodldaaGreatDoor
set_option maxRecDepth 100000
open Go.RowKit Go.Shelf
set_option linter.unusedSimpArgs false
set_option linter.unusedVariables false
structure Gm (B D:Nat) (X:Nat->Prop) (vo vo':Value) (w w':World):Prop where
 os:w'.os=w.os
 tape:w'.tape=w.tape
 output:w'.output=w.output
 size:w.heap.size<=w'.heap.size
 block:∀ b,b<w.heap.size->b≠B->b≠D->¬ X b->vo.ownBlock≠some b->w'.heap[b]? = w.heap[b]?
 own:∀ k,vo'.ownBlock=some k->k<w.heap.size->vo.ownBlock=some k
theorem Fm.gm {B D:Nat} {X:Nat->Prop} {vo vo':Value} {w w':World} (h:Fm B D vo vo' w w'):Gm B D X vo vo' w w':=⟨h.os,h.tape,h.output,h.size,fun b h1 h2 h3 _ h5=>h.block b h1 h2 h3 h5,h.own⟩
theorem Gm.fm {B D:Nat} {X:Nat->Prop} {vo vo':Value} {w w':World} (h:Gm B D X vo vo' w w') (hx:∀ b,X b->w.heap.size<=b):Fm B D vo vo' w w':=⟨h.os,h.tape,h.output,h.size,fun b h1 h2 h3 h5=>h.block b h1 h2 h3 (fun x=>by have:=hx b x;omega) h5,h.own⟩
theorem Gm.trans {B D:Nat} {X:Nat->Prop} {v1 v2 v3:Value} {a b c:World} (h:Gm B D X v1 v2 a b) (k:Gm B D X v2 v3 b c):Gm B D X v1 v3 a c:=
 ⟨k.os.trans h.os,k.tape.trans h.tape,k.output.trans h.output,vav h.size k.size,fun x hx h1 h2 h4 h3=>(k.block x (vac hx h.size) h1 h2 h4 (fun e=>h3 (h.own x e hx))).trans (h.block x hx h1 h2 h4 h3),fun x e hx=>h.own x (k.own x e (vac hx h.size)) hx⟩
theorem Gm.cell {B D b i:Nat} {X:Nat->Prop} {vo:Value} {w:World} {u:Value} (hx:X b):Gm B D X vo vo w (w.setCell ⟨b,i,none⟩ u):=⟨rfl,rfl,rfl,by simp,fun k _ _ _ h4 _=>zac (fun e=>h4 (by rw [show k=b from e];exact hx)) u,fun _ h _=>h⟩
theorem Gm.mono {B D:Nat} {X Y:Nat->Prop} {vo vo':Value} {w w':World} (h:Gm B D X vo vo' w w') (hx:∀ b,X b->Y b):Gm B D Y vo vo' w w':=⟨h.os,h.tape,h.output,h.size,fun b h1 h2 h3 h4 h5=>h.block b h1 h2 h3 (fun x=>h4 (hx b x)) h5,h.own⟩
def Sx {α:Type} (rep:α->Value) (B base:Nat) (cx:Cx) (K:Wk) (X:Nat->Prop) (w:World) (vo:Value) (r:Rr α) (e:Ending) (w':World):Prop:=
 ∃ vo',Gm B K.D X vo vo' w w'/\((∃ a s,r = .ok a s/\e = .returned (rep a)/\Wd w' B base cx K vo' s 0)\/(∃ c s,r = .stop c s/\e = .panicked (z0u c)/\Wd w' B base cx K vo' s c))
def EnV (n B base:Nat) (cx:Cx) (K:Wk):Prop:=∀ (u:Nat) (body:List Ac) (ab:OA) (kb:Nat) (lv:Value) (L:Nat) (loc:List Int) (vo:Value) (s:Sw) (w:World),Wd w B base cx K vo s 0->cx.lim+1<=s.ticks+n->Lo w lv L loc->K.S<=L->(loc=[]\/vo.ownBlock≠some L)->u<cx.us.length->DAt w (·<base) ab body.length (zcg body)->(∀ a ∈ body,okA cx u loc.length K.cd 6 a)->
 Calls Tryz.prog 125 #[.pointer (some ⟨B,0,none⟩),.int .i64 u,.slice ab body.length kb,lv] w fun e w'=>Sx zdw B base cx K (·=L) w vo (En cx n u body loc s) e w'
theorem Wd.far {w:World} {B base:Nat} {cx:Cx} {K:Wk} {vo:Value} {s:Sw} {e:Int} (h:Wd w B base cx K vo s e) {L i:Nat} (hL:K.S<=L) (ho:vo.ownBlock≠some L) (u:Value):Wd (w.setCell ⟨L,i,none⟩ u) B base cx K vo s e:=by
 obtain ⟨ai,ci,hB,hi,hc⟩:=h.blk;have h1:=h.ro.BS;have h2:=h.ro.DS;have h3:=h.ro.lB;exact ⟨⟨ai,ci,(zac (by show B≠L;omega) u).trans hB,hi.moves ⟨by simp,fun b _ hl=>⟨hl,zac (by show b≠L;omega) u⟩⟩,hc⟩,(zac (by show K.D≠L;omega) u).trans h.data,zbg h.out (fun k hk=>zac (fun e=>ho (by rw [hk];exact congrArg some e)) u),h.ro.moves (by simp) (fun b hb _ _=>zac (by show b≠L;omega) u),h.cd,h.dl,h.tl,h.tm,h.cl,h.ol⟩
theorem zll (f:Nd->Sw->Rr Int):∀ (a b:List Nd) (s:Sw),zdd f (a++b) s=(zdd f a s).bind fun vs s=>(zdd f b s).bind fun us s=>.ok (vs++us) s
 | [],b,s=>by
   show zdd f b s=(zdd f b s).bind fun us s=>.ok us s
   cases zdd f b s<;>rfl
 | x :: r,b,s=>by
   show (f x s).bind _=((f x s).bind _).bind _
   cases f x s with
   | stop e t=>rfl
   | ok v t=>
     show (zdd f (r++b) t).bind _=((zdd f r t).bind _).bind _;rw [zll f r b t]
     cases zdd f r t with
     | stop e t=>rfl
     | ok vs t=>
       show ((zdd f b t).bind _).bind _=(zdd f b t).bind _
       cases zdd f b t<;>rfl
theorem zwt (f:Nd->Sw->Rr Int) (x:Nd) (s:Sw):zdd f [x] s=(f x s).bind fun v s=>.ok [v] s:=rfl
theorem zm3 {f:Nd->Sw->Rr Int} {l:List Nd} {s t t':Sw} {vs:List Int} {v:Int} {j:Nat} (hj:j<l.length) (h:zdd f (l.take j) s = .ok vs t) (hv:f l[j] t = .ok v t'):zdd f (l.take (j+1)) s = .ok (vs++[v]) t':=by
 rw [vaf hj,zll,h];show (zdd f [l[j]] t).bind _=_;rw [zwt,hv]
 rfl
theorem ztr {f:Nd->Sw->Rr Int} {l:List Nd} {s t t':Sw} {vs:List Int} {e:Int} {j:Nat} (hj:j<l.length) (h:zdd f (l.take j) s = .ok vs t) (hv:f l[j] t = .stop e t'):zdd f l s = .stop e t':=by
 have:zdd f l s=zdd f (l.take j++l[j] :: l.drop (j+1)) s:=by rw [← vca hj,vde]
 rw [this,zll,h];show ((f l[j] t).bind _).bind _=_;rw [hv]
 rfl
theorem zwu (vs:List Int) (n:Nat) (v:Int) (h:vs.length<n):(zdm vs n).set vs.length v=zdm (vs++[v]) n:=by
 unfold zdm;rw [List.set_append_right _ _ (vaa _),Nat.sub_self,vbf,vag,vbg,show n - vs.length=(n - (vs.length+1))+1 from by omega,List.replicate_succ,vap,vcz]
 rfl
theorem zql (vs:List Int) (n:Nat) (h:vs.length<=n):(zdm vs n).length=n:=by
 unfold zdm;rw [vag,List.length_replicate,vbf];omega
theorem zts (d:Nat):madeCells #[.int .i64 0] d=(intV (zdm [] d)).toArray:=by
 apply Array.ext'
 apply List.ext_getElem?
 intro i
 by_cases h:i<d
 . simp [zdm,madeCells,intV,h,Nat.mod_one]
 . simp [zdm,madeCells,intV,h]
theorem zm4 (d:Nat) (hd:d<=512) (w:World):(Instr.makeSlice 49 (.int .i64 (d:Int)) (.int .i64 (d:Int))).run Tryz.prog w = .ok (.slice (some ⟨w.heap.size,0,none⟩) d d) (w.alloc (.cells (intV (zdm [] d)).toArray 3)):=by
 obtain ⟨i0,hi,hz0,hz1,hz2⟩:=info_parts Tryz.infoI;have:=run_make (P:=Tryz.prog) w 49 3 i0 _ Tryz.underlying49 hi hz0 .i64 .i64 (d:Int) (d:Int) (by omega) (by omega) (by rw [hz2];omega) (by omega);rw [this,hz1,vea,vbf,← zts]
 rfl
set_option maxHeartbeats 6400000
structure Pc (n B base:Nat) (cx:Cx) (K:Wk) (vo0:Value) (w0:World) (c:Ca) (loc:List Int) (ret:Int) (L Pb:Nat) (px:Obj) (nl:Nat) (F:Nd->Sw->Rr Int) (args:List Nd) (s0:Sw) (j:Nat) (wr:World) (vo:Value) (s:Sw) (vs:List Int):Prop where
 cn:Cn n wr B base cx K vo s c loc ret
 fm:Fm B K.D vo0 vo w0 wr
 lo:wr.heap[L]? = some (.cells (intV (zdm vs nl)).toArray 3 (0,0))
 pb:wr.heap[Pb]? = some px
 lO:vo.ownBlock≠some L
 pO:vo.ownBlock≠some Pb
 vl:vs.length=j
 ar:zdd F (args.take j) s0 = .ok vs s
theorem Pc.alloc {n B base:Nat} {cx:Cx} {K:Wk} {vo0:Value} {w0:World} {c:Ca} {loc:List Int} {ret:Int} {L Pb:Nat} {px:Obj} {nl:Nat} {F:Nd->Sw->Rr Int} {args:List Nd} {s0:Sw} {j:Nat} {wr:World} {vo:Value} {s:Sw} {vs:List Int} (h:Pc n B base cx K vo0 w0 c loc ret L Pb px nl F args s0 j wr vo s vs) (o:Obj):Pc n B base cx K vo0 w0 c loc ret L Pb px nl F args s0 j (wr.alloc o) vo s vs:=
 ⟨h.cn.below (al1 wr o),h.fm.trans (Fm.below (al1 wr o)),((al1 wr o).block _ (zab h.lo)).trans h.lo,((al1 wr o).block _ (zab h.pb)).trans h.pb,h.lO,h.pO,h.vl,h.ar⟩
theorem Pc.next {n B base:Nat} {cx:Cx} {K:Wk} {vo0:Value} {w0:World} {c:Ca} {loc:List Int} {ret:Int} {L Pb:Nat} {px:Obj} {nl:Nat} {F:Nd->Sw->Rr Int} {args:List Nd} {s0:Sw} {j:Nat} {wr w1:World} {vo vo1:Value} {s s1:Sw} {vs:List Int} {v:Int} (h:Pc n B base cx K vo0 w0 c loc ret L Pb px nl F args s0 j wr vo s vs) (hf:Fm B K.D vo vo1 wr w1) (hc:Cn n w1 B base cx K vo1 s1 c loc ret) (hj:j<args.length) (hn:j<nl) (hr:F args[j] s = .ok v s1) (hL:K.S<=L) (hL0:w0.heap.size<=L) (hP:K.S<=Pb) (hLP:L≠Pb) (hLC:c.C≠L) (hLL:loc=[]\/c.L≠L) :
 w1.heap[L]? = some (.cells (intV (zdm vs nl)).toArray 3 (0,0))/\Pc n B base cx K vo0 w0 c loc ret L Pb px nl F args s0 (j+1) (w1.setCell ⟨L,j,none⟩ (.int .i64 v)) vo1 s1 (vs++[v]):=by
 obtain ⟨k1,k2⟩:=h.cn.keepS hf h.lo hL h.lO;obtain ⟨k3,k4⟩:=h.cn.keepS hf h.pb hP h.pO;refine ⟨k1,?_,?_,?_,?_,k2,k4,by rw [vag,h.vl];rfl,zm3 hj h.ar hr⟩
 . refine ⟨hc.wd.far hL k2 _,(zac (by show c.C≠L;exact hLC) _).trans hc.cl,hc.lo.moves ?_,hc.cS,hc.cO,hc.lS,by simpa using hc.lz,hc.la,hc.fu⟩
   rcases hLL with e | e
   . exact Or.inl e
   . exact Or.inr (zac e _)
 . have g:Gm B K.D (·=L) vo0 vo1 w0 (w1.setCell ⟨L,j,none⟩ (.int .i64 v)):=(h.fm.trans hf).gm.trans (Gm.cell rfl)
   exact g.fm (fun b e=>by rw [show b=L from e];exact hL0)
 . rw [zaf k1,vai]
   have e:(intV (zdm vs nl)).set j (.int .i64 v)=intV (zdm (vs++[v]) nl):=by
    rw [← zwu vs nl v (by rw [h.vl];exact hn),h.vl];simp [intV,vec]
   rw [e]
 . exact (zac (by show Pb≠L;exact fun e=>hLP e.symm) _).trans k3
theorem zwd.who {cx:Cx} {u k:Nat} {m at_:Int} (h:zwd cx u k m at_):∃ (uu pp:Nat) (h1:u<cx.near.length) (h2:m.toNat<cx.near[u].length) (h3:uu<cx.us.length) (h4:pp<cx.us[uu].parts.length),0<=m/\at_=pp/\cx.near[u][m.toNat]=uu/\zzn cx u m=uu/\zoh cx u m at_=cx.us[uu].parts[pp]/\cx.us[uu].parts[pp].params=k:=by
 obtain ⟨hm,ha,h1,h2,h3,h4,h5⟩:=h
 have e:zzn cx u m=cx.near[u][m.toNat]:=by
  unfold zzn;rw [var,var,vaj h1,vba,vaj h2,vba]
 refine ⟨_,at_.toNat,h1,h2,h3,h4,hm,by omega,rfl,e,?_,h5⟩;unfold zoh;rw [e,vaj h3];show (cx.us[cx.near[u][m.toNat]]).parts.getD _ _=_;rw [var,vaj h4,vba]
theorem zm5 {n B base:Nat} {cx:Cx} {K:Wk} {k:Nat} {m at_:Int} {args:List Nd} {c:Ca} {loc:List Int} {ret:Int} {vo:Value} {s:Sw} {a1:OA} {k1:Nat} {w:World} (hV:∀ y ∈ args,NdV n B base cx K k y) (hE:EnV n B base cx K) (hU:okU cx K.cd) (h:Cn n w B base cx K vo s c loc ret) (hD:DAt w (·<base) a1 args.length (zcl args)) (hN:∀ y ∈ args,okN cx c.u loc.length K.cd k y) (hp:zwd cx c.u args.length m at_) :
 Calls Tryz.prog 263 #[.pointer (some ⟨c.C,0,none⟩),.int .i64 m,.int .i64 at_,.slice a1 args.length k1] w fun e w'=>Sr zdw B base cx K w vo (pcallS (En cx n) cx c.u (vN (En cx n) cx c.u loc k) m at_ args s) e w':=by
 obtain ⟨uu,pp,n1,n2,n3,n4,hm,rfl,hnr,hwho,hpt,hpar⟩:=hp.who
 obtain ⟨mm,rfl⟩:∃ i:Nat,m=i:=⟨m.toNat,by omega⟩
 have n2':mm<cx.near[c.u].length:=by simpa using n2
 have hnr':cx.near[c.u][mm]=uu:=by simpa using hnr
 have hP:=(hU uu n3).2 _ (vah n4);unfold pcallS;rw [hwho,hpt];obtain ⟨ai,ci,hb, -, -⟩:=h.wd.blk;obtain ⟨q0,q1,q2,q3,q4,q5,q6,q7,q8,q9,qz,qf⟩:=zbr hb;obtain ⟨p0,p1,p2,p3,pz,pf⟩:=za2 h.cl;obtain ⟨b1,o1,r1,t1,hb1,hz1,c1,hd1⟩:=h.wd.ro.near.row c.u n1
 have hln:(natI cx.near[c.u]).length=cx.near[c.u].length:=by simp [natI]
 have hd1':=hd1;rw [← hln] at hd1';obtain ⟨b2,o2,rfl,hz2,c2, -⟩:=hd1'.num mm (by rw [hln];exact n2')
 have e2:(natI cx.near[c.u])[mm]'(by rw [hln];exact n2')=(uu:Int):=by simp [natI,hnr']
 rw [e2] at c2;obtain ⟨b3,o3,u1,v1,u2,v2,u3,v3,hb3,hu⟩:=h.wd.ro.us.un uu n3;obtain ⟨b4,o4,u4,v4,hb4,hpa⟩:=hu.parts'.pt pp n4;have hbd1:=h.wd.ro.near.bound;have hbd2:=hd1'.bound;have hbd3:=h.wd.ro.us.bound;have hbd4:=hu.parts'.bound;have hbd5:=hD.bound;have hbd6:=hpa.body'.bound;obtain ⟨y0,y1,y2,y3,y4,y5,y6⟩:=hpa;obtain ⟨z0,z1,z2,z3,z4,z5,z6,z7,z8,z9,z10⟩:=hu;rw [hb1] at q1;rw [hb3] at q0;rw [hb4] at z4;rw [hln] at hbd2;generalize cx.us[uu].parts[pp]=PP at *
 obtain ⟨nl,hnl⟩:∃ nl:Nat,PP.params+PP.locals=nl:=⟨(PP.params+PP.locals).toNat,by omega⟩
 rw [hnl] at hP ⊢
 have hk:=fun j (hj:j<args.length)=>zd4 cx n c.u loc k args[j]
 have hnl2:nl<=16:=by omega
 have hnl3:args.length<=nl:=by omega
 have hwr:wrap64 (PP.params+PP.locals)=(nl:Int):=by rw [hnl];unfold wrap64;omega
 have hmk:=zm4 nl (by omega);have hnew:=h.new;have HC:=hid h;have HD:=hid hD;have HV:=hid hV;have HN:=hid hN;have HE:=hid (fun lv L loc' vo s w h1 h2 h3 h4 h5 h6 h7=>hE uu PP.body u4 v4 lv L loc' vo s w h1 h2 h3 h4 h5 n3 h6 h7);have HB:=hid y4;have HP:=hid hP;have hCz:=zab h.cl;have hLz:=h.lz;clear h hD hV hN hE hb hU hp hd1 hd1' z6 z7 z8 hP y4 hln e2 hnr hnr' hwho hpt n2 hm z1 z2 z3 z5 z9 z10 y5 y6 q2 q3 q4 q5 q6 q7 q8 q9 qf p2 p3 pf hb1 hb3 hb4;have HPar:=hid hpar;have HNl:=hid hnl;clear hpar hnl;generalize cx.near[c.u].length=ln1 at *;generalize cx.us[uu].parts.length=ln2 at *;go_enter Tryz.func263,Tryz.ntmps263;go_wp2_with fail
 go_quiet ((fail))
 obtain ⟨W,hWe,hWb,hWs,g0,g1,g2,g3,g4,g5,gB,gC,g6,g7⟩:∃ W,w.drewN nq=W/\Hid (Below w.heap.size w W)/\Hid (W.heap.size=w.heap.size)/\W.cell? ⟨c.C,0,none⟩=some (.pointer (some ⟨B,0,none⟩))/\W.cell? ⟨B,0,none⟩=some (.slice (some ⟨b3,o3,none⟩) cx.us.length K.cu)/\W.cell? ⟨b3,o3+uu*5+3,none⟩=some (.slice (some ⟨b4,o4,none⟩) ln2 v2)/\W.cell? ⟨b4,o4+pp*3,none⟩=some (.int .i64 PP.params)/\W.cell? ⟨b4,o4+pp*3+1,none⟩=some (.int .i64 PP.locals)/\W.cell? ⟨b4,o4+pp*3+2,none⟩=some (.slice u4 PP.body.length v4)/\B<W.heap.size/\c.C<W.heap.size/\b3<W.heap.size/\b4<W.heap.size:=⟨_,rfl,hid (bd w nq),hid rfl,p0,q0,z4,y1,y2,y3,qz,pz,z0,y0⟩
 rw [hWe];clear hWe p0 p1 q0 q1 c1 c2 z4 y1 y2 y3 qz pz z0 y0 hz1 hz2
 have HSt:Hid (Pc n B base cx K vo w c loc ret (W.heap.size+1) W.heap.size (.cells #[.int .i64 PP.params,.int .i64 PP.locals,.slice u4 PP.body.length v4] 106) nl (vN (En cx n) cx c.u loc k) args s 0 ((W.alloc (.cells #[.int .i64 PP.params,.int .i64 PP.locals,.slice u4 PP.body.length v4] 106)).alloc (.cells (intV (zdm [] (nl:Int))).toArray 3)) vo s []):=by
  have hB2:Below w.heap.size w ((W.alloc (.cells #[.int .i64 PP.params,.int .i64 PP.locals,.slice u4 PP.body.length v4] 106)).alloc (.cells (intV (zdm [] (nl:Int))).toArray 3)):=thenB hWb.out (thenB (al1 W _) (al1 _ _));have e:(W.alloc (.cells #[.int .i64 PP.params,.int .i64 PP.locals,.slice u4 PP.body.length v4] 106)).heap.size=W.heap.size+1:=vdq ..;refine ⟨HC.out.below hB2,Fm.below hB2,?_,?_,fun h=>?_,fun h=>?_,rfl,rfl⟩
  . rw [← e]
    exact heap_alloc_new _ _
  . exact ((al1 (W.alloc (.cells #[.int .i64 PP.params,.int .i64 PP.locals,.slice u4 PP.body.length v4] 106)) _).block W.heap.size (by rw [e];omega)).trans (heap_alloc_new _ _)
  . have:=(HC.out.wd.out.lt _ h).2
    have:=hWs.out;omega
  . have:=(HC.out.wd.out.lt _ h).2
    have:=hWs.out;omega
 have hS1:K.S<=W.heap.size:=by rw [hWs.out];exact hnew.1
 have hS2:w.heap.size<=W.heap.size+1:=by rw [hWs.out];omega
 have hCW:c.C≠W.heap.size+1:=by rw [hWs.out];omega
 have hLW:loc=[]\/c.L≠W.heap.size+1:=Or.inr (by rw [hWs.out];omega);have HNum:=hid (And.intro hS1 (And.intro hS2 (And.intro hCW hLW)));clear hS1 hS2 hCW hLW hnew hCz hLz;go_wp2_with fail;simp only [hwr];clear g0 g1 g2 g3 g4 g5 gB gC g6 g7 hwr hmk
 go_loopw [52] (fun i wr=>∃ j:Nat,j<=args.length/\i = .int .i64 j/\∃ vo' s' vs,Pc n B base cx K vo w c loc ret (W.heap.size+1) W.heap.size (.cells #[.int .i64 PP.params,.int .i64 PP.locals,.slice u4 PP.body.length v4] 106) nl (vN (En cx n) cx c.u loc k) args s j wr vo' s' vs) (fun i _=>args.length - (intOf i).toNat)
 case atStart=>exact ⟨0,vad _,rfl,vo,s,[],HSt.out⟩
 case round=>
  obtain ⟨j,hj,rfl,vo1,s1,vs,hpc⟩:=hrel;have H1:=hid hpc
  by_cases hlt:j<args.length
  . obtain ⟨b,off,ay,ky,rfl,hb,hbz,dY,cY⟩:=zc3 (HC.out.dat hpc.fm HD.out) j hlt
    obtain ⟨x0,x1,x2,x3,x4⟩:=cY wr rfl;have hY:=HV.out _ (zak hlt);have hO:=HN.out _ (zak hlt);rw [zms args j hlt] at dY x0 x1 x2 x3 x4 hY hO;have HY:=hid (fun o=>hY c loc ret vo1 s1 ay ky _ (hpc.cn.below (al1 wr o)) (dY.later (al1 wr o)) hO);have HR:=hid (fun v s'=>zm3 (f:=vN (En cx n) cx c.u loc k) (v:=v) (t':=s') hlt hpc.ar);have HQ:=hid (fun e s'=>ztr (f:=vN (En cx n) cx c.u loc k) (e:=e) (t':=s') hlt hpc.ar);have hkj:=hk j hlt
    have hjn:j<nl:=by omega
    have HNx:=hid (fun o w1 vo2 s2 v hf hc hr=>(hpc.alloc o).next (w1:=w1) (vo1:=vo2) (s1:=s2) (v:=v) hf hc hlt hjn hr (Nat.le_succ_of_le HNum.out.1) HNum.out.2.1 HNum.out.1 (Nat.succ_ne_self _) HNum.out.2.2.1 HNum.out.2.2.2);have hfl:=zql vs nl (by rw [hpc.vl];omega);clear hpc dY cY hY hO;generalize args[j]=x at *;go_wp2_with fail;refine (HY.out _).mono ?_;intro e w1 hS
    rcases (H1.out.alloc _).cn.step hkj hS with ⟨k',s',vo2,hr,rfl,hf,hw⟩ | ⟨v,s2,vo2,hr,rfl,hf,hw⟩
    . exact ⟨rfl,Sr.no ((H1.out.alloc _).fm.trans hf) (za7 (HQ.out _ _ hr)) hw⟩
    . obtain ⟨hL1,hN1⟩:=HNx.out _ _ _ _ _ hf hw hr
      have HN1:=hid hN1
      have hcl:w1.cell? ⟨W.heap.size+1,j,none⟩=some (.int .i64 ((zdm vs nl).getD j 0)):=by
       rw [vee hL1,vcp];simp [intV,hfl,hjn]
      have hfz:∀ i,w1.frozen? ⟨W.heap.size+1,i,none⟩=false:=fun i=>vef hL1 i
      clear hr hf hw hS hN1 hL1 x0 x1 x2 x3 x4;unfold zdw;go_wp2_with fail;go_roundw
      case rel=>exact ⟨j+1,by omega,by go_num,vo2,s2,vs++[v],HN1.out⟩
      case measure=>simp [intOf];omega
  . obtain rfl:j=args.length:=by omega
    have har:=hpc.ar;rw [vaz] at har;have hfl:=zql vs nl (by rw [hpc.vl];omega);have hcd:=hpc.cn.below (bdrew wr);have HEn:=hid (HE.out (.slice (some ⟨W.heap.size+1,0,none⟩) nl nl) (W.heap.size+1) (zdm vs nl) vo1 s1 wr.drew hcd.wd hcd.fu (Or.inr ⟨by rw [hfl],hpc.lo⟩) (Nat.le_succ_of_le HNum.out.1) (Or.inr hpc.lO) ((HC.out.dat hpc.fm HB.out).later (bdrew wr)) (by rw [hfl];exact HP.out.2.2.2));have HF:=hid (hpc.fm.trans (Fm.below (bdrew wr)));have HR:=hid (zay (f:=fun vs s=>En cx n uu PP.body (zdm vs (nl:Int)) s) har);obtain ⟨p0,p1,p2,p3,pz,pf⟩:=za2 hpc.cn.cl;obtain ⟨x0,x1,x2,xz⟩:=zg7 hpc.pb
    have HK:Hid (∀ V vo2,Gm B K.D (·=W.heap.size+1) vo1 vo2 wr.drew V->V.cell? ⟨c.C,0,none⟩=some (.pointer (some ⟨B,0,none⟩))/\V.cell? ⟨W.heap.size,2,none⟩=some (.slice u4 PP.body.length v4)):=fun V vo2 hg=>by
     have m1:=hcd.ne;have m2:=hcd.wd.ro.BS;have m3:=hcd.wd.ro.DS;have m4:=HNum.out.1;obtain ⟨t0, -⟩:=za2 ((hg.block c.C (zab hcd.cl) m1.1 m1.2.1 HNum.out.2.2.1 hcd.cO).trans hcd.cl);obtain ⟨-, -,t2, -⟩:=zg7 ((hg.block W.heap.size (zab hpc.pb) (by omega) (by omega) (by show ¬ W.heap.size=W.heap.size+1;omega) hpc.pO).trans hpc.pb);exact ⟨t0,t2⟩
    clear hpc har hcd;go_wp2_with fail
    go_region_held (fun V=>V.cell? ⟨c.C,0,none⟩=some (.pointer (some ⟨B,0,none⟩))/\V.cell? ⟨W.heap.size,2,none⟩=some (.slice u4 PP.body.length v4)) (first | exact HS2.out | go_keep)
     (first | (go_at_call 125;refine HEn.out.mono ?_;rintro e w1 ⟨vo2,hg,hx⟩;have HG:=hid ((HF.out.gm.trans hg).fm (fun b e=>by rw [show b=W.heap.size+1 from e];exact HNum.out.2.1));rcases hx.symm with ⟨k',s2,hr,rfl,hw⟩ | ⟨v,s2,hr,rfl,hw⟩;(exact ⟨rfl,Sr.no HG.out (HR.out.trans hr) hw⟩);(have HR2:=hid (HR.out.trans hr);have HW:=hid hw;have HS2:=hid (HK.out _ _ hg);clear hg hx hr hw;unfold zdw)))
    all_goals
     go_wp2_with fail
     go_returns
     exact Sr.ok (rep:=zdw) HG.out HR2.out HW.out
set_option maxHeartbeats 3200000
theorem tkn {P:Program} {ops:Array Oper} {Q:Exit->Act->World->Prop} {md:Region.Mode} {S:World->Prop} (i:Nat) {oi:Oper} (v:Value) {fuel:Nat} {listed:Array Bool} {a:Act} {w:World} (hi:ops[i]? = some oi)
 (hc:(Region.noSelect ops&&(Region.free md ops listed i&&((Region.ready md ops listed).contains i&&Region.wanted oi (yielded ops a.tmps))))=true)
 (hQ:∀ c a w,Q (.panic c) (a.put oi.dst v) w->Q (.panic c) a w) (hy:∀ w,S w->(execOp a.eval oi).run P w = .ok (.value v) w) (hS:S w)
 (h:wpAnyH P md ops Q S fuel (listed.setIfInBounds i true) (a.put oi.dst v) w):wpAnyH P md ops Q S (fuel+1) listed a w:=by
 simp only [vae] at hc;exact wpAnyH_take hi hc.1 hc.2.1 hc.2.2.1 hQ (Or.inl ⟨hc.2.2.2,hy⟩) hS h
theorem z35 {n B base:Nat} {cx:Cx} {K:Wk} {k:Nat} {nn m at_:Int} {args:List Nd} {c:Ca} {loc:List Int} {ret:Int} {vo:Value} {s:Sw} {a1:OA} {k1:Nat} {w:World} (hV:∀ y ∈ args,NdV n B base cx K k y) (h:Cn n w B base cx K vo s c loc ret) (hD:DAt w (·<base) a1 args.length (zcl args)) (hN:∀ y ∈ args,okN cx c.u loc.length K.cd k y) (hl:args.length=1) (hz:1<=nn) (hp:zol cx c.u K.cd m at_ nn) :
 Calls Tryz.prog 262 #[.pointer (some ⟨c.C,0,none⟩),.agg #[.int .i64 4,.int .i64 nn,.int .i64 m,.int .i64 at_,.slice a1 args.length k1]] w fun e w'=>Sr zdw B base cx K w vo (vN (En cx n) cx c.u loc (k+1) ⟨4,nn,m,at_,args⟩ s) e w':=by
 obtain ⟨b,off,ay,ky,rfl,hb,hbz,dY,cY⟩:=zc3 hD 0 (by omega);obtain ⟨y0,y1,y2,y3,y4⟩:=cY w rfl;simp only [vbh,vbl] at y0 y1 y2 y3 y4
 have hl0:0<args.length:=by omega
 have HC:=hid (h.below (al1 w (.cells #[.int .i64 4,.int .i64 nn,.int .i64 m,.int .i64 at_,.slice (some ⟨b,off,none⟩) args.length k1] 253)));have HV:=hid (fun w' (hW:Cn n w' B base cx K vo s c loc ret) dY=>zio (a1:=ay) (k1:=ky) (hV _ (zak (i:=0) (by omega))) hW dY (hN _ (zak (by omega))) hz hp);have hk:Kp (elmS (vN (En cx n) cx c.u loc k (argN args 0)) (plcS cx c.u m at_) nn):=zmt (zkd cx.lim cx.lim) (n:=0) (f:=vN (En cx n) cx c.u loc k (argN args 0)) (zd4 cx n c.u loc k (argN args 0)) _ _;have hb0:=hb;have hS0:=h.new
 have HS:Hid (∀ vo' W,Fm B K.D vo vo' (w.alloc (.cells #[.int .i64 4,.int .i64 nn,.int .i64 m,.int .i64 at_,.slice (some ⟨b,off,none⟩) args.length k1] 253)) W->Cn n W B base cx K vo' s c loc ret\/(∃ s',Cn n W B base cx K vo' s' c loc ret)->W.cell? ⟨c.C,0,none⟩=some (.pointer (some ⟨B,0,none⟩))/\W.cell? ⟨B,3,none⟩=some (.slice (some ⟨K.D,0,none⟩) K.cd K.cd)/\W.cell? ⟨w.heap.size,1,none⟩=some (.int .i64 nn)/\W.cell? ⟨w.heap.size,2,none⟩=some (.int .i64 m)/\W.cell? ⟨w.heap.size,3,none⟩=some (.int .i64 at_)/\W.cell? ⟨w.heap.size,4,none⟩=some (.slice (some ⟨b,off,none⟩) args.length k1)/\W.cell? ⟨b,off,none⟩=some (.int .i64 (argN args 0).op)/\W.cell? ⟨b,off+1,none⟩=some (.int .i64 (argN args 0).n)/\W.cell? ⟨b,off+2,none⟩=some (.int .i64 (argN args 0).m)/\W.cell? ⟨b,off+3,none⟩=some (.int .i64 (argN args 0).at_)/\W.cell? ⟨b,off+4,none⟩=some (.slice ay (argN args 0).args.length ky)):=fun vo' W hf hc=>by
  obtain ⟨s',hc⟩:∃ s',Cn n W B base cx K vo' s' c loc ret:=by
   rcases hc with hc | hc
   . exact ⟨_,hc⟩
   . exact hc
  obtain ⟨x0,x1,x2,x3,x4, -⟩:=zad (HC.out.keepS hf (b:=w.heap.size) (x:=(.cells #[.int .i64 4,.int .i64 nn,.int .i64 m,.int .i64 at_,.slice (some ⟨b,off,none⟩) args.length k1] 253)) (heap_alloc_new w _) hS0.1 hS0.2).1;obtain ⟨z0,z1,z2,z3,z4⟩:=cY W ((HC.out.keepB hf hb0 (by simp;omega)).trans ((al1 w (.cells #[.int .i64 4,.int .i64 nn,.int .i64 m,.int .i64 at_,.slice (some ⟨b,off,none⟩) args.length k1] 253)).block b hbz));obtain ⟨p0, -⟩:=za2 hc.cl;simp only [vbh,vbl] at z0 z1 z2 z3 z4;exact ⟨p0,hc.wd.top.1,x1,x2,x3,x4,z0,z1,z2,z3,z4⟩
 have HD:=hid (dY.later (thenB (al1 w (.cells #[.int .i64 4,.int .i64 nn,.int .i64 m,.int .i64 at_,.slice (some ⟨b,off,none⟩) args.length k1] 253)) (bdrew _)));have HW0:=hid (h.below (thenB (al1 w (.cells #[.int .i64 4,.int .i64 nn,.int .i64 m,.int .i64 at_,.slice (some ⟨b,off,none⟩) args.length k1] 253)) (bdrew _)))
 have hFr:vN (En cx n) cx c.u loc (k+1) ⟨4,nn,m,at_,args⟩ s=(elmS (vN (En cx n) cx c.u loc k (argN args 0)) (plcS cx c.u m at_) nn s).bind fun p s=>.ok (s.data.getD p.toNat 0) s:=rfl
 rw [hFr]
 have HEl:Hid (∀ p s',elmS (vN (En cx n) cx c.u loc k (argN args 0)) (plcS cx c.u m at_) nn s = .ok p s'->0<=p/\p<K.cd):=fun p s' e=>by
  have hq:=hp.plc;unfold elmS at e
  revert e
  cases vN (En cx n) cx c.u loc k (argN args 0) s with
  | stop e t=>intro e;cases e
  | ok v t=>
    intro e;have e:ite (v<0\/nn<=v) (Rr.stop 2 t) (Rr.ok (plcS cx c.u m at_+v) t) = .ok p s':=e
    split at e
    . cases e
    . cases e
      omega
 generalize elmS (vN (En cx n) cx c.u loc k (argN args 0)) (plcS cx c.u m at_) nn=F0 at *;generalize argN args 0=y at *;clear h hV hD hN dY cY hl hb hFr hz hp y0 y1 y2 y3 y4;go_enter Tryz.func262,Tryz.ntmps262;go_upto_region 11 with fail;refine wp_region_held_drew (S:=(fun W=>W.cell? ⟨c.C,0,none⟩=some (.pointer (some ⟨B,0,none⟩))/\W.cell? ⟨B,3,none⟩=some (.slice (some ⟨K.D,0,none⟩) K.cd K.cd)/\W.cell? ⟨w.heap.size,1,none⟩=some (.int .i64 nn)/\W.cell? ⟨w.heap.size,2,none⟩=some (.int .i64 m)/\W.cell? ⟨w.heap.size,3,none⟩=some (.int .i64 at_)/\W.cell? ⟨w.heap.size,4,none⟩=some (.slice (some ⟨b,off,none⟩) args.length k1)/\W.cell? ⟨b,off,none⟩=some (.int .i64 y.op)/\W.cell? ⟨b,off+1,none⟩=some (.int .i64 y.n)/\W.cell? ⟨b,off+2,none⟩=some (.int .i64 y.m)/\W.cell? ⟨b,off+3,none⟩=some (.int .i64 y.at_)/\W.cell? ⟨b,off+4,none⟩=some (.slice ay y.args.length ky))) (by kernel_rfl) (HS.out _ _ (Fm.below (bdrew _)) (Or.inl HW0.out)) (fun hHeld=>?_)
 refine tkn 0 (.pointer (some ⟨c.C,0,none⟩)) rfl (by kernel_rfl) (fun _ _ _ h=>h) (fun W hW=>by kernel_rfl) hHeld ?_;refine tkn 1 (.pointer (some ⟨c.C,0,none⟩)) rfl (by kernel_rfl) (fun _ _ _ h=>h) (fun W hW=>by kernel_rfl) hHeld ?_;refine tkn 2 (.pointer (some ⟨c.C,0,none⟩)) rfl (by kernel_rfl) (fun _ _ _ h=>h) (fun W hW=>by kernel_rfl) hHeld ?_;refine tkn 3 (.pointer (some ⟨B,0,none⟩)) rfl (by kernel_rfl) (fun _ _ _ h=>h) (fun W hW=>by obtain ⟨s0,s1,s2,s3,s4,s5,t0,t1,t2,t3,t4⟩:=hW;go_simp) hHeld ?_;refine tkn 4 (.pointer (some ⟨B,0,none⟩)) rfl (by kernel_rfl) (fun _ _ _ h=>h) (fun W hW=>by kernel_rfl) hHeld ?_;refine tkn 5 (.pointer (some ⟨B,3,none⟩)) rfl (by kernel_rfl) (fun _ _ _ h=>h) (fun W hW=>by kernel_rfl) hHeld ?_;refine tkn 6 (.slice (some ⟨K.D,0,none⟩) K.cd K.cd) rfl (by kernel_rfl) (fun _ _ _ h=>h) (fun W hW=>by obtain ⟨s0,s1,s2,s3,s4,s5,t0,t1,t2,t3,t4⟩:=hW;go_simp) hHeld ?_
 refine tkn 7 (.pointer (some ⟨c.C,0,none⟩)) rfl (by kernel_rfl) (fun _ _ _ h=>h) (fun W hW=>by kernel_rfl) hHeld ?_;refine tkn 8 (.pointer (some ⟨w.heap.size,1,none⟩)) rfl (by kernel_rfl) (fun _ _ _ h=>h) (fun W hW=>by kernel_rfl) hHeld ?_;refine tkn 9 (.int .i64 nn) rfl (by kernel_rfl) (fun _ _ _ h=>h) (fun W hW=>by obtain ⟨s0,s1,s2,s3,s4,s5,t0,t1,t2,t3,t4⟩:=hW;go_simp) hHeld ?_;refine tkn 10 (.pointer (some ⟨w.heap.size,2,none⟩)) rfl (by kernel_rfl) (fun _ _ _ h=>h) (fun W hW=>by kernel_rfl) hHeld ?_;refine tkn 11 (.int .i64 m) rfl (by kernel_rfl) (fun _ _ _ h=>h) (fun W hW=>by obtain ⟨s0,s1,s2,s3,s4,s5,t0,t1,t2,t3,t4⟩:=hW;go_simp) hHeld ?_;refine tkn 12 (.pointer (some ⟨w.heap.size,3,none⟩)) rfl (by kernel_rfl) (fun _ _ _ h=>h) (fun W hW=>by kernel_rfl) hHeld ?_;refine tkn 13 (.int .i64 at_) rfl (by kernel_rfl) (fun _ _ _ h=>h) (fun W hW=>by obtain ⟨s0,s1,s2,s3,s4,s5,t0,t1,t2,t3,t4⟩:=hW;go_simp) hHeld ?_
 refine tkn 14 (.pointer (some ⟨w.heap.size,4,none⟩)) rfl (by kernel_rfl) (fun _ _ _ h=>h) (fun W hW=>by kernel_rfl) hHeld ?_;refine tkn 15 (.slice (some ⟨b,off,none⟩) args.length k1) rfl (by kernel_rfl) (fun _ _ _ h=>h) (fun W hW=>by obtain ⟨s0,s1,s2,s3,s4,s5,t0,t1,t2,t3,t4⟩:=hW;go_simp) hHeld ?_;refine tkn 16 (.pointer (some ⟨b,off,none⟩)) rfl (by kernel_rfl) (fun _ _ _ h=>h) (fun W hW=>by obtain ⟨s0,s1,s2,s3,s4,s5,t0,t1,t2,t3,t4⟩:=hW;go_simp) hHeld ?_;refine tkn 17 (.agg (ndA y ay ky)) rfl (by kernel_rfl) (fun _ _ _ h=>h) (fun W hW=>by obtain ⟨s0,s1,s2,s3,s4,s5,t0,t1,t2,t3,t4⟩:=hW;go_simp) hHeld ?_;refine wpAnyH_ready (rs:=[18]) (by kernel_rfl) (by simp) ?_;refine AllReadyH.cons rfl (fun Kq hK=>?_) AllReadyH.nil;go_simp
 go_wp2_with (go_at_call 261;refine (HV.out _ HW0.out HD.out).mono ?_;intro e w1 hS;rcases HW0.out.step hk hS with ⟨k',s',vo1,hr,rfl,hf,hw⟩ | ⟨p,s1,vo1,hr,rfl,hf,hw⟩;(exact ⟨rfl,Sr.no ((Fm.below (thenB (al1 w _) (bdrew _))).trans hf) (za7 hr) hw⟩))
 refine hK.out _ _ (HS.out _ _ ((Fm.below (bdrew _)).trans hf) (Or.inr ⟨_,hw⟩)) (fun hHeld=>?_);clear hK Kq;have hpr:=HEl.out _ _ hr
 obtain ⟨i,rfl⟩:∃ i:Nat,p=i:=⟨p.toNat,by omega⟩
 have hi:i<K.cd:=by omega
 have hcl:=hw.wd.cell i (by rw [← hw.wd.cd];exact hi);have HE:=hid (Sr.ok (rep:=zdw) ((Fm.below (thenB (al1 w _) (bdrew _))).trans hf) (zay (f:=fun p s=>.ok (s.data.getD p.toNat 0) s) hr) hw.wd);rw [vbf] at HE;generalize s1.data.getD i 0=v at *;clear hr hf hw hS hpr;unfold zdw;refine tkn 19 (.pointer (some ⟨K.D,i,none⟩)) rfl (by kernel_rfl) (fun _ _ _ h=>h) (fun W hW=>by go_simp) hHeld ?_;refine wpAnyH_ready (rs:=[20]) (by kernel_rfl) (by simp) ?_;refine AllReadyH.cons rfl (fun Kq hK=>?_) AllReadyH.nil;go_simp;refine hK.out _ _ hHeld (fun hHeld=>?_);clear hK Kq;refine tkn 21 (.int .i64 v) rfl (by kernel_rfl) (fun _ _ _ h=>h) (fun W hW=>by kernel_rfl) hHeld ?_;refine wpAnyH_done (by kernel_rfl) ?_ _;go_wp2_with fail
 go_returns
 exact HE.out
theorem z36 {n B base:Nat} {cx:Cx} {K:Wk} {k:Nat} {nn m at_:Int} {args:List Nd} {c:Ca} {loc:List Int} {ret:Int} {vo:Value} {s:Sw} {a1:OA} {k1:Nat} {w:World} (hV:∀ y ∈ args,NdV n B base cx K k y) (h:Cn n w B base cx K vo s c loc ret) (hD:DAt w (·<base) a1 args.length (zcl args)) (hN:∀ y ∈ args,okN cx c.u loc.length K.cd k y) (hE:EnV n B base cx K) (hU:okU cx K.cd) (hp:zwd cx c.u args.length m at_) :
 Calls Tryz.prog 262 #[.pointer (some ⟨c.C,0,none⟩),.agg #[.int .i64 5,.int .i64 nn,.int .i64 m,.int .i64 at_,.slice a1 args.length k1]] w fun e w'=>Sr zdw B base cx K w vo (vN (En cx n) cx c.u loc (k+1) ⟨5,nn,m,at_,args⟩ s) e w':=by
 have HC:=hid (h.below (al1 w (.cells #[.int .i64 5,.int .i64 nn,.int .i64 m,.int .i64 at_,.slice a1 args.length k1] 253)));have HV:=hid (zm5 (k1:=k1) hV hE hU HC.out (hD.later (al1 w _)) hN hp);have hk:Kp (pcallS (En cx n) cx c.u (vN (En cx n) cx c.u loc k) m at_ args):=zij (zkd cx.lim cx.lim) (n:=0) (zd3 cx n).ent cx cx.lim c.u (f:=vN (En cx n) cx c.u loc k) (fun x=>zd4 cx n c.u loc k x) m at_ args;have hFr:vN (En cx n) cx c.u loc (k+1) ⟨5,nn,m,at_,args⟩ s=pcallS (En cx n) cx c.u (vN (En cx n) cx c.u loc k) m at_ args s:=rfl;rw [hFr];generalize pcallS (En cx n) cx c.u (vN (En cx n) cx c.u loc k) m at_ args=F0 at *;clear h hV hD hN hE hU hp hFr;go_enter Tryz.func262,Tryz.ntmps262;go_wp2_with fail;refine HV.out.mono ?_;intro e w1 hS
 rcases HC.out.step hk hS with ⟨k',s',vo',hr,rfl,hf,hw⟩ | ⟨v,s',vo',hr,rfl,hf,hw⟩
 . exact ⟨rfl,Sr.no ((Fm.below (al1 w _)).trans hf) hr hw⟩
 . have HE:=hid (Sr.ok (rep:=zdw) ((Fm.below (al1 w _)).trans hf) hr hw.wd)
   clear hr hf hw hS;unfold zdw;go_wp2_with fail
   go_returns
   exact HE.out
theorem zy5 {n B base:Nat} {cx:Cx} {K:Wk} (hE:EnV n B base cx K) (hU:okU cx K.cd):∀ (k:Nat) (x:Nd),NdV n B base cx K k x
 | 0,x=>fun c loc ret vo s a1 k1 w h hD hN=>hN.elim
 | k + 1,⟨op,nn,m,at_,args⟩=>fun c loc ret vo s a1 k1 w h hD hN=>by
   have ih:∀ y ∈ args,NdV n B base cx K k y:=fun y _=>zy5 hE hU k y
   unfold okN at hN;have hD:DAt w (·<base) a1 args.length (zcl args):=hD
   rcases hN with (rfl:op=1) | (rfl:op=2) | ⟨(rfl:op=16),h1,h2⟩ | ⟨(rfl:op=3),h1⟩ | ⟨(rfl:op=4),h1,h2,h3,h4⟩ | ⟨(rfl:op=5),h1,h2⟩ | ⟨(rfl:op=6),h1,h2⟩ | ⟨(h1:7<=op),(h2:op<=15),h3,h4⟩
   . exact z4e h
   . exact z4f h
   . exact z27 h h1 h2
   . exact z4g h h1
   . exact z35 ih h hD h4 h3 h1 h2
   . exact z36 ih h hD h2 hE hU h1
   . exact z4h ih h hD h2 h1
   . by_cases h7:op=7
     . subst h7;exact z4i ih h hD h4 h3
     . by_cases h8:op=8
       . subst h8;exact z4j ih h hD h4 h3
       . exact z4k ih h hD h4 h3 (by show 9<=op;omega) h2
abbrev Wn (cx:Cx) (n:Nat):Whl:=(lvp cx n).whl
abbrev acA (x:Ac) (a1:OA) (k1:Nat) (a2:OA) (k2:Nat) (a3:OA) (k3:Nat):Array Value:=#[.int .i64 x.op,.int .i64 x.n,.int .i64 x.m,.int .i64 x.at_,.slice a1 x.args.length k1,.slice a2 x.body.length k2,.slice a3 x.other.length k3]
def Xc (c:Ca) (b:Nat):Prop:=b=c.C\/b=c.L
def zf4 (d:Bool × Fr):Value:=.bool d.1
def z2r (_:Bool × Fr):Value:=.tuple #[]
def Sa (rep:Bool × Fr->Value) (n B base:Nat) (cx:Cx) (K:Wk) (c:Ca) (w:World) (vo:Value) (r:Rr (Bool × Fr)) (e:Ending) (w':World):Prop:=
 ∃ vo',Gm B K.D (Xc c) vo vo' w w'/\((∃ k s,r = .stop k s/\e = .panicked (z0u k)/\Wd w' B base cx K vo' s k)\/(∃ d s,r = .ok d s/\e = .returned (rep d)/\Cn n w' B base cx K vo' s c d.2.loc d.2.ret))
theorem Sa.ok {rep:Bool × Fr->Value} {n B base:Nat} {cx:Cx} {K:Wk} {c:Ca} {w w':World} {vo vo':Value} {r:Rr (Bool × Fr)} {b:Bool} {loc:List Int} {ret:Int} {s:Sw} (hf:Gm B K.D (Xc c) vo vo' w w') (hr:r = .ok (b,⟨loc,ret⟩) s) (hw:Cn n w' B base cx K vo' s c loc ret):Sa rep n B base cx K c w vo r (.returned (rep (b,⟨loc,ret⟩))) w':=⟨vo',hf,Or.inr ⟨_,s,hr,rfl,hw⟩⟩
theorem Sa.no {rep:Bool × Fr->Value} {n B base:Nat} {cx:Cx} {K:Wk} {c:Ca} {w w':World} {vo vo':Value} {r:Rr (Bool × Fr)} {k:Int} {s:Sw} (hf:Gm B K.D (Xc c) vo vo' w w') (hr:r = .stop k s) (hw:Wd w' B base cx K vo' s k):Sa rep n B base cx K c w vo r (.panicked (z0u k)) w':=⟨vo',hf,Or.inl ⟨k,s,hr,rfl,hw⟩⟩
theorem Cn.gmB {n:Nat} {w w':World} {B base:Nat} {cx:Cx} {K:Wk} {vo vo':Value} {s:Sw} {c:Ca} {loc:List Int} {ret:Int} (h:Cn n w B base cx K vo s c loc ret) (hf:Gm B K.D (Xc c) vo vo' w w') {b:Nat} (hb:b<base) (hz:b<w.heap.size):w'.heap[b]? = w.heap[b]?:=by
 have h1:=h.wd.ro.lB;have h2:=h.wd.ro.lD;have h3:=h.wd.ro.BS;have h4:=h.cS;have h5:=h.lS;exact hf.block b hz (by omega) (by omega) (fun e=>by rcases e with e | e<;>omega) (fun e=>by have:=(h.wd.out.lt b e).1;omega)
theorem Cn.gdat {n:Nat} {w w':World} {B base:Nat} {cx:Cx} {K:Wk} {vo vo':Value} {s:Sw} {c:Ca} {loc:List Int} {ret:Int} {a:OA} {m:Nat} {l:List D} (h:Cn n w B base cx K vo s c loc ret) (hf:Gm B K.D (Xc c) vo vo' w w') (hd:DAt w (·<base) a m l):DAt w' (·<base) a m l:=
 hd.moves ⟨hf.size,fun b hb hl=>⟨hl,h.gmB hf hl hb⟩⟩
theorem Cn.gkeep {n:Nat} {w w':World} {B base:Nat} {cx:Cx} {K:Wk} {vo vo':Value} {s:Sw} {c:Ca} {loc:List Int} {ret:Int} (h:Cn n w B base cx K vo s c loc ret) (hf:Gm B K.D (Xc c) vo vo' w w') {b:Nat} {x:Obj} (hb:w.heap[b]? = some x) (hS:K.S<=b) (ho:vo.ownBlock≠some b) (hc:b≠c.C) (hl:b≠c.L):w'.heap[b]? = some x/\vo'.ownBlock≠some b:=by
 have h1:=h.wd.ro.BS;have h2:=h.wd.ro.DS;exact ⟨(hf.block b (zab hb) (by omega) (by omega) (fun e=>by rcases e with e | e<;>omega) ho).trans hb,fun e=>ho (hf.own b e (zab hb))⟩
theorem Cn.len {n n':Nat} {w w':World} {B base:Nat} {cx:Cx} {K:Wk} {vo vo':Value} {s s':Sw} {c:Ca} {loc loc':List Int} {ret ret':Int} (h:Cn n w B base cx K vo s c loc ret) (h':Cn n' w' B base cx K vo' s' c loc' ret'):loc'.length=loc.length:=by
 obtain ⟨a,e⟩:=h.lo.len;obtain ⟨a',e'⟩:=h'.lo.len;rw [e] at e';simp only [Value.slice.injEq] at e';exact e'.2.1.symm
theorem Cn.setD {n:Nat} {w:World} {B base:Nat} {cx:Cx} {K:Wk} {vo:Value} {s:Sw} {c:Ca} {loc:List Int} {ret:Int} (h:Cn n w B base cx K vo s c loc ret) (i:Nat) (v:Int):Cn n (w.setCell ⟨K.D,i,none⟩ (.int .i64 v)) B base cx K vo { s with data:=s.data.set i v } c loc ret/\Fm B K.D vo vo w (w.setCell ⟨K.D,i,none⟩ (.int .i64 v)):=by
 have hf:Fm B K.D vo vo w (w.setCell ⟨K.D,i,none⟩ (.int .i64 v)):=⟨rfl,rfl,rfl,by simp,fun b _ _ h2 _=>zac h2 _,fun _ h _=>h⟩
 obtain ⟨ai,ci,hB,hi,hc⟩:=h.wd.blk;have h1:=h.wd.ro.BD;have h2:=h.wd.ro.lD;refine ⟨h.on hf ?_ (vaa _),hf⟩;refine ⟨⟨ai,ci,?_,hi.moves ⟨by simp,fun b _ hl=>⟨hl,zac (by show b≠K.D;omega) _⟩⟩,hc⟩,?_,zbg h.wd.out (fun k hk=>zac (fun e=>h.wd.oD (by rw [hk];exact congrArg some e)) _),h.wd.ro.moves (by simp) (fun b _ _ hn=>zac (by show b≠K.D;exact hn) _),?_,?_,h.wd.tl,h.wd.tm,h.wd.cl,h.wd.ol⟩
 . refine (zac (by show B≠K.D;exact h1) _).trans (hB.trans ?_)
   show some (Obj.cells (wC cx K ai ci vo s 0) _ _)=some (Obj.cells (wC cx K ai ci vo { s with data:=s.data.set i v } 0) _ _);unfold wC;simp only [vcq]
 . rw [zaf h.wd.data,vai]
   simp [intV,vec]
 . show K.cd=(s.data.set i v).length
   rw [vcq];exact h.wd.cd
 . show (s.data.set i v).length<=512
   rw [vcq];exact h.wd.dl
theorem Cn.setL {n:Nat} {w:World} {B base:Nat} {cx:Cx} {K:Wk} {vo:Value} {s:Sw} {c:Ca} {loc:List Int} {ret:Int} (h:Cn n w B base cx K vo s c loc ret) (i:Nat) (hi:i<loc.length) (v:Int):Cn n (w.setCell ⟨c.L,i,none⟩ (.int .i64 v)) B base cx K vo s c (loc.set i v) ret/\Gm B K.D (Xc c) vo vo w (w.setCell ⟨c.L,i,none⟩ (.int .i64 v)):=by
 have hne:loc≠[]:=fun e=>by rw [e] at hi;simp at hi
 obtain ⟨h2,h3⟩:=h.la.resolve_left hne;refine ⟨⟨h.wd.far h.lS h3 _,(zac (by show c.C≠c.L;exact fun e=>h2 e.symm) _).trans h.cl,?_,h.cS,h.cO,h.lS,by simpa using h.lz,Or.inr ⟨h2,h3⟩,h.fu⟩,Gm.cell (Or.inr rfl)⟩
 rcases h.lo with ⟨e,_⟩ | ⟨e1,e2⟩
 . exact absurd e hne
 . refine Or.inr ⟨by rw [vcq];exact e1,?_⟩
   rw [zaf e2,vai];simp [intV,vec]
theorem Cn.setR {n:Nat} {w:World} {B base:Nat} {cx:Cx} {K:Wk} {vo:Value} {s:Sw} {c:Ca} {loc:List Int} {ret:Int} (h:Cn n w B base cx K vo s c loc ret) (v:Int):Cn n (w.setCell ⟨c.C,3,none⟩ (.int .i64 v)) B base cx K vo s c loc v/\Gm B K.D (Xc c) vo vo w (w.setCell ⟨c.C,3,none⟩ (.int .i64 v)):=by
 refine ⟨⟨h.wd.far h.cS h.cO _,?_,h.lo.moves ?_,h.cS,h.cO,h.lS,by simpa using h.lz,h.la,h.fu⟩,Gm.cell (Or.inl rfl)⟩
 . unfold Cl
   rw [zaf h.cl]
   rfl
 . rcases h.la with e | ⟨e,_⟩
   . exact Or.inl e
   . exact Or.inr (zac e _)
def zwc (F:Sw->Rr Int) (cx:Cx) (u:Nat) (m at_:Int) (c:Fr) (s:Sw):Rr (Bool × Fr):=(F s).bind fun v s=>if m = -1 then .ok (false,{ c with loc:=c.loc.set at_.toNat v }) s else .ok (false,c) { s with data:=s.data.set (plcS cx u m at_).toNat v }
theorem zwv {n B base:Nat} {cx:Cx} {K:Wk} {c:Ca} {loc:List Int} {ret:Int} {vo:Value} {s:Sw} {w:World} {op nn m at_:Int} {args:List Nd} {body other:List Ac} {a1:OA} {k1:Nat} {a2:OA} {k2:Nat} {a3:OA} {k3:Nat} (hV:∀ y ∈ args,NdV n B base cx K 6 y) (h:Cn n w B base cx K vo s c loc ret) (hD:DAt w (·<base) a1 args.length (zcl args)) (hN:∀ y ∈ args,okN cx c.u loc.length K.cd 6 y) (hl:args.length=1) (hm:m = -1) (h0:0<=at_) (h1:at_<loc.length) :
 Calls Tryz.prog 260 #[.pointer (some ⟨c.C,0,none⟩),.agg #[.int .i64 op,.int .i64 nn,.int .i64 m,.int .i64 at_,.slice a1 args.length k1,.slice a2 body.length k2,.slice a3 other.length k3]] w fun e w'=>Sa z2r n B base cx K c w vo (zwc (vN (En cx n) cx c.u loc 6 (argN args 0)) cx c.u m at_ ⟨loc,ret⟩ s) e w':=by
 subst hm
 obtain ⟨i,rfl⟩:∃ i:Nat,at_=i:=⟨at_.toNat,by omega⟩
 have hi:i<loc.length:=by omega
 have hLz:=h.lz;clear h0 h1;obtain ⟨b,off,ay,ky,rfl,hb,hbz,dY,cY⟩:=zc3 hD 0 (by omega);obtain ⟨y0,y1,y2,y3,y4⟩:=cY w rfl;simp only [vbh,vbl] at y0 y1 y2 y3 y4 cY
 have hl0:0<args.length:=by omega
 have HC:=hid (h.below (al1 w (.cells #[.int .i64 op,.int .i64 nn,.int .i64 (-1),.int .i64 (i:Int),.slice (some ⟨b,off,none⟩) args.length k1,.slice a2 body.length k2,.slice a3 other.length k3] 109)));have HV:=hid (hV _ (zak (i:=0) (by omega)) c loc ret vo s ay ky _ (h.below (al1 w (.cells #[.int .i64 op,.int .i64 nn,.int .i64 (-1),.int .i64 (i:Int),.slice (some ⟨b,off,none⟩) args.length k1,.slice a2 body.length k2,.slice a3 other.length k3] 109))) (dY.later (al1 w _)) (hN _ (zak (by omega))));have hk:=zd4 cx n c.u loc 6 (argN args 0);have HB:=hid (fun vo' w1 (hf:Fm B K.D vo vo' (w.alloc (.cells #[.int .i64 op,.int .i64 nn,.int .i64 (-1),.int .i64 (i:Int),.slice (some ⟨b,off,none⟩) args.length k1,.slice a2 body.length k2,.slice a3 other.length k3] 109)) w1)=>(HC.out.keepS hf (b:=w.heap.size) (x:=(.cells #[.int .i64 op,.int .i64 nn,.int .i64 (-1),.int .i64 (i:Int),.slice (some ⟨b,off,none⟩) args.length k1,.slice a2 body.length k2,.slice a3 other.length k3] 109)) (heap_alloc_new w _) h.new.1 h.new.2).1)
 generalize vN (En cx n) cx c.u loc 6 (argN args 0)=F0 at *;generalize argN args 0=y at *;clear h hV hD hN dY cY hl hb;go_enter Tryz.func260,Tryz.ntmps260;go_wp2_with fail;refine HV.out.mono ?_;intro e w1 hS
 rcases HC.out.step hk hS with ⟨k',s',vo1,hr,rfl,hf,hw⟩ | ⟨v,s1,vo1,hr,rfl,hf,hw⟩
 . exact ⟨rfl,Sa.no ((Fm.below (al1 w _)).trans hf).gm (za7 hr) hw⟩
 . have HF:=hid (((Fm.below (al1 w _)).trans hf).gm (X:=Xc c))
   have HW:=hid hw;obtain ⟨x0,x1,x2,x3,x4,x5,x6,xz⟩:=zbe (HB.out _ _ hf);unfold zdw;have HR:Hid (zwc F0 cx c.u (-1) (i:Int) ⟨loc,ret⟩ s = .ok (false,⟨loc.set i v,ret⟩) s1):=(zay hr).trans (if_pos rfl);obtain ⟨hlv,hL,hcl⟩:=hw.lo.cell i hi;have hC:=hw.cl;rw [hlv] at hC;obtain ⟨p0,p1,p2,p3,pz,pf⟩:=za2 hC
   have hfz:∀ j,w1.frozen? ⟨c.L,j,none⟩=false:=by
    rcases hw.lo with ⟨e,_⟩ | ⟨_,e2⟩
    . rw [e] at hi;simp at hi
    . exact fun j=>vef e2 j
   have HE:=hid (fun W (hW:Below w1.heap.size w1 W)=>(hw.below hW).setL i hi v)
   have m1:c.L≠c.C:=by
    rcases hw.la with e | e
    . rw [e] at hi;simp at hi
    . exact e.1
   have m2:c.L≠w.heap.size:=fun e=>by have:=hLz;omega
   clear hr hf hw hS HV HB hC hlv p0 p1 p3 x0 x1 x4 x5 x6 xz HW;generalize loc.length=ln at *;go_wp2_with fail
   go_region_held (fun W=>W.cell? ⟨c.C,2,none⟩=some (.slice (some ⟨c.L,0,none⟩) ln ln)/\W.cell? ⟨w.heap.size,3,none⟩=some (.int .i64 i)) (go_keep) (fail)
   go_wp2_with fail;go_end0;exact Sa.ok (HF.out.trans ((Fm.below (bdrew w1)).gm.trans (HE.out _ (bdrew w1)).2)) HR.out (HE.out _ (bdrew w1)).1
theorem zww {n B base:Nat} {cx:Cx} {K:Wk} {c:Ca} {loc:List Int} {ret:Int} {vo:Value} {s:Sw} {w:World} {op nn m at_:Int} {args:List Nd} {body other:List Ac} {a1:OA} {k1:Nat} {a2:OA} {k2:Nat} {a3:OA} {k3:Nat} (hV:∀ y ∈ args,NdV n B base cx K 6 y) (h:Cn n w B base cx K vo s c loc ret) (hD:DAt w (·<base) a1 args.length (zcl args)) (hN:∀ y ∈ args,okN cx c.u loc.length K.cd 6 y) (hl:args.length=1) (hm:m≠-1) (hp:zol cx c.u K.cd m at_ 1) :
 Calls Tryz.prog 260 #[.pointer (some ⟨c.C,0,none⟩),.agg #[.int .i64 op,.int .i64 nn,.int .i64 m,.int .i64 at_,.slice a1 args.length k1,.slice a2 body.length k2,.slice a3 other.length k3]] w fun e w'=>Sa z2r n B base cx K c w vo (zwc (vN (En cx n) cx c.u loc 6 (argN args 0)) cx c.u m at_ ⟨loc,ret⟩ s) e w':=by
 have hm':(m == -1)=false:=beq_eq_false_iff_ne.2 hm;have hq:=hp.plc;have hcd:=h.wd.cd;have hdl:=h.wd.dl;have HP:=hid hp;have HM:=hid hm;have hS0:=h.new.1;clear hp hm;obtain ⟨b,off,ay,ky,rfl,hb,hbz,dY,cY⟩:=zc3 hD 0 (by omega);obtain ⟨y0,y1,y2,y3,y4⟩:=cY w rfl;simp only [vbh,vbl] at y0 y1 y2 y3 y4 cY
 have hl0:0<args.length:=by omega
 have HC:=hid (h.below (al1 w (.cells #[.int .i64 op,.int .i64 nn,.int .i64 m,.int .i64 at_,.slice (some ⟨b,off,none⟩) args.length k1,.slice a2 body.length k2,.slice a3 other.length k3] 109)));have HV:=hid (hV _ (zak (i:=0) (by omega)) c loc ret vo s ay ky _ (h.below (al1 w (.cells #[.int .i64 op,.int .i64 nn,.int .i64 m,.int .i64 at_,.slice (some ⟨b,off,none⟩) args.length k1,.slice a2 body.length k2,.slice a3 other.length k3] 109))) (dY.later (al1 w _)) (hN _ (zak (by omega))));have hk:=zd4 cx n c.u loc 6 (argN args 0);have HB:=hid (fun vo' w1 (hf:Fm B K.D vo vo' (w.alloc (.cells #[.int .i64 op,.int .i64 nn,.int .i64 m,.int .i64 at_,.slice (some ⟨b,off,none⟩) args.length k1,.slice a2 body.length k2,.slice a3 other.length k3] 109)) w1)=>(HC.out.keepS hf (b:=w.heap.size) (x:=(.cells #[.int .i64 op,.int .i64 nn,.int .i64 m,.int .i64 at_,.slice (some ⟨b,off,none⟩) args.length k1,.slice a2 body.length k2,.slice a3 other.length k3] 109)) (heap_alloc_new w _) h.new.1 h.new.2).1)
 generalize vN (En cx n) cx c.u loc 6 (argN args 0)=F0 at *;generalize argN args 0=y at *;clear h hV hD hN dY cY hl hb;go_enter Tryz.func260,Tryz.ntmps260;go_wp2_with fail;refine HV.out.mono ?_;intro e w1 hS
 rcases HC.out.step hk hS with ⟨k',s',vo1,hr,rfl,hf,hw⟩ | ⟨v,s1,vo1,hr,rfl,hf,hw⟩
 . exact ⟨rfl,Sa.no ((Fm.below (al1 w _)).trans hf).gm (za7 hr) hw⟩
 . have HF:=hid (((Fm.below (al1 w _)).trans hf).gm (X:=Xc c))
   have HW:=hid hw;obtain ⟨x0,x1,x2,x3,x4,x5,x6,xz⟩:=zbe (HB.out _ _ hf);unfold zdw;have HR:Hid (zwc F0 cx c.u m at_ ⟨loc,ret⟩ s = .ok (false,⟨loc,ret⟩) { s1 with data:=s1.data.set (plcS cx c.u m at_).toNat v }):=(zay hr).trans (if_neg HM.out);have HPl:=hid (zlp (hw.below (bdrew w1)).wd (hw.below (bdrew w1)).cl HP.out (by omega));obtain ⟨p0,p1,p2,p3,pz,pf⟩:=za2 hw.cl;obtain ⟨q3,qz,dz⟩:=hw.wd.top;have hcd1:=hw.wd.cd;have hcl:=hw.wd.cell (plcS cx c.u m at_).toNat (by omega)
   have hfz:∀ j,w1.frozen? ⟨K.D,j,none⟩=false:=fun j=>vef hw.wd.data j
   have hne:=hw.ne
   have m1:K.D≠c.C:=fun e=>hne.2.1 e.symm
   have m2:K.D≠B:=fun e=>hw.wd.ro.BD e.symm
   have m3:K.D≠w.heap.size:=fun e=>by have:=HC.out.wd.ro.DS;have:=hS0;omega
   have HE:=hid (fun W (hW:Below w1.heap.size w1 W)=>(hw.below hW).setD (plcS cx c.u m at_).toNat v);clear hr hf hw hS HV HB hne hcd1 p1 p2 p3 x0 x1 x4 x5 x6 xz;generalize plcS cx c.u m at_=p at *
   obtain ⟨i,rfl⟩:∃ i:Nat,p=i:=⟨p.toNat,by omega⟩
   rw [vbf] at HR hcl HE
   have hi:i<K.cd:=by omega
   clear hq hcd hdl;generalize K.cd=cd at *;go_wp2_with fail
   go_region_held (fun W=>W.cell? ⟨c.C,0,none⟩=some (.pointer (some ⟨B,0,none⟩))/\W.cell? ⟨B,3,none⟩=some (.slice (some ⟨K.D,0,none⟩) cd cd)/\W.cell? ⟨w.heap.size,2,none⟩=some (.int .i64 m)/\W.cell? ⟨w.heap.size,3,none⟩=some (.int .i64 at_)) (go_keep) (first | (go_at_call 289;refine HPl.out.mono ?_;rintro e w' ⟨rfl,q,rfl⟩))
   go_wp2_with fail;go_end0;exact Sa.ok (HF.out.trans ((Fm.below (bd w1 _)).gm.trans (HE.out _ (bd w1 _)).2.gm)) HR.out (HE.out _ (bd w1 _)).1
set_option maxHeartbeats 6400000
def AcV (n B base:Nat) (cx:Cx) (K:Wk) (k:Nat) (a:Ac):Prop:=∀ (c:Ca) (loc:List Int) (ret:Int) (vo:Value) (s:Sw) (a1:OA) (k1:Nat) (a2:OA) (k2:Nat) (a3:OA) (k3:Nat) (w:World),Cn n w B base cx K vo s c loc ret->DAt w (·<base) a1 a.args.length (zcl a.args)->DAt w (·<base) a2 a.body.length (zcg a.body)->DAt w (·<base) a3 a.other.length (zcg a.other)->okA cx c.u loc.length K.cd k a->
 Calls Tryz.prog 208 #[.pointer (some ⟨c.C,0,none⟩),.agg (acA a a1 k1 a2 k2 a3 k3)] w fun e w'=>Sa zf4 n B base cx K c w vo (aN (En cx n) (Wn cx n) cx c.u k a ⟨loc,ret⟩ s) e w'
def BlV (n B base:Nat) (cx:Cx) (K:Wk) (k:Nat) (l:List Ac):Prop:=∀ (c:Ca) (loc:List Int) (ret:Int) (vo:Value) (s:Sw) (a:OA) (ka:Nat) (w:World),Cn n w B base cx K vo s c loc ret->DAt w (·<base) a l.length (zcg l)->(∀ x ∈ l,okA cx c.u loc.length K.cd k x)->
 Calls Tryz.prog 168 #[.pointer (some ⟨c.C,0,none⟩),.slice a l.length ka] w fun e w'=>Sa zf4 n B base cx K c w vo (bN (aN (En cx n) (Wn cx n) cx c.u k) l ⟨loc,ret⟩ s) e w'
theorem Gm.refl (B D:Nat) (X:Nat->Prop) (vo:Value) (w:World):Gm B D X vo vo w w:=(Fm.refl B D vo w).gm
theorem zki {n B base:Nat} {cx:Cx} {K:Wk} {k:Nat} {l:List Ac} (hA:∀ x ∈ l,AcV n B base cx K k x):BlV n B base cx K k l:=by
 intro c loc ret vo s a ka w h hD hN;have hbd:=hD.bound;have HD:=hid hD;have HC0:=hid h;have HA:=hid hA;have HN:=hid hN
 obtain ⟨R0,hR0⟩:∃ R0,R0=bN (aN (En cx n) (Wn cx n) cx c.u k) l ⟨loc,ret⟩ s:=⟨_,rfl⟩
 have HR0:=hid hR0;rw [← hR0];clear hD h hA hN hR0;go_enter Tryz.func168,Tryz.ntmps168;go_wp2_with fail
 go_loopw [9] (fun i wr=>∃ j:Nat,j<=l.length/\i = .int .i64 j/\∃ vo' s' loc' ret',Gm B K.D (Xc c) vo vo' w wr/\Cn n wr B base cx K vo' s' c loc' ret'/\R0=bN (aN (En cx n) (Wn cx n) cx c.u k) (l.drop j) ⟨loc',ret'⟩ s') (fun i _=>l.length - (intOf i).toNat)
 case atStart=>exact ⟨0,vad _,rfl,vo,s,loc,ret,Gm.refl _ _ _ _ _,HC0.out,HR0.out⟩
 case round=>
  obtain ⟨j,hj,rfl,vo1,s1,loc1,ret1,hg,hc,hr⟩:=hrel;have HG:=hid hg;have HW:=hid hc
  by_cases hlt:j<l.length
  . obtain ⟨b,off,u1,v1,u2,v2,u3,v3,rfl,hx⟩:=(HC0.out.gdat hg HD.out).ac j hlt
    obtain ⟨hbl,x0,x1,x2,x3,x4,x5,x6,d1,d2,d3,_,_,_,_⟩:=hx;have HY:=hid (fun o=>HA.out l[j] (vah hlt) c loc1 ret1 vo1 s1 u1 v1 u2 v2 u3 v3 _ (hc.below (al1 wr o)) (d1.later (al1 wr o)) (d2.later (al1 wr o)) (d3.later (al1 wr o)) (by rw [HC0.out.len hc];exact HN.out _ (vah hlt)))
    have HR:Hid (R0=(aN (En cx n) (Wn cx n) cx c.u k l[j] ⟨loc1,ret1⟩ s1).bind fun d s=>if d.1=true then .ok (true,d.2) s else bN (aN (En cx n) (Wn cx n) cx c.u k) (l.drop (j+1)) d.2 s):=by
     show _=_;rw [hr,vca hlt]
     rfl
    clear hg hc hr d1 d2 d3;generalize l[j]=x at *;go_wp2_with fail;refine (HY.out _).mono ?_;rintro e w1 ⟨vo2,hg2,⟨k',s',hr',rfl,hw⟩ | ⟨⟨db,dl,dr⟩,s',hr',rfl,hw⟩⟩
    . exact ⟨rfl,Sa.no (HG.out.trans ((Fm.below (al1 wr _)).gm.trans hg2)) (HR.out.trans (za7 hr')) hw⟩
    . have HG2:=hid (HG.out.trans ((Fm.below (al1 wr _)).gm.trans hg2))
      have HR2:=hid (HR.out.trans (zay hr'));have HW2:=hid hw;clear hg2 hr' hw x0 x1 x2 x3 x4 x5 x6;unfold zf4
      cases db with
      | true=>
        go_wp2_with fail
        go_returns
        exact Sa.ok (rep:=zf4) HG2.out (HR2.out.trans (if_pos (by trivial))) HW2.out
      | false=>
        go_wp2_with fail;go_roundw
        case rel=>exact ⟨j+1,by omega,by go_num,vo2,s',dl,dr,HG2.out,HW2.out,HR2.out.trans (if_neg (by simp))⟩
        case measure=>simp [intOf];omega
  . obtain rfl:j=l.length:=by omega
    have HR:Hid (R0 = .ok (false,⟨loc1,ret1⟩) s1):=by
     show _=_;rw [hr,List.drop_length]
     rfl
    clear hg hc hr;go_wp2_with fail
    go_returns
    exact Sa.ok (rep:=zf4) HG.out HR.out HW.out
theorem Cn.up {n m:Nat} {w:World} {B base:Nat} {cx:Cx} {K:Wk} {vo:Value} {s:Sw} {c:Ca} {loc:List Int} {ret:Int} (h:Cn m w B base cx K vo s c loc ret) (hm:m<=n):Cn n w B base cx K vo s c loc ret:=⟨h.wd,h.cl,h.lo,h.cS,h.cO,h.lS,h.lz,h.la,vav h.fu (Nat.add_le_add_left hm _)⟩
def z2z (B:Nat) (w:World):Nat:=match w.cell? ⟨B,7,none⟩ with
 | some (.int _ t)=>t.toNat
 | _=>0
theorem Wd.tk {w:World} {B base:Nat} {cx:Cx} {K:Wk} {vo:Value} {s:Sw} {e:Int} (h:Wd w B base cx K vo s e):z2z B w=s.ticks:=by
 obtain ⟨ai,ci,hb, -, -⟩:=h.blk;obtain ⟨q0,q1,q2,q3,q4,q5,q6,q7, -⟩:=zbr hb;unfold z2z;rw [q7];exact vbf _
theorem zwx (lim:Nat):Kp (zd8 lim):=fun s=>by
 by_cases hl:s.ticks=lim
 . rw [zev hl];exact zh4.refl s
 . rw [zgi hl];exact ⟨vdg _,rfl,id,vda _⟩
theorem z20 (cx:Cx) (n u k:Nat) (l:List Ac) (c:Fr):Kp (bN (aN (En cx n) (Wn cx n) cx u k) l c):=zjo (zkd cx.lim cx.lim) (zoi (zkd cx.lim cx.lim) (zd3 cx n).ent cx cx.lim (zd3 cx n).whl u k) l c
theorem z1i (cx:Cx) (n u:Nat) (x:Nd) (body:List Ac) (c:Fr) (s:Sw):Wn cx (n+1) u x body c s=(holdS (vN (En cx (n+1)) cx u c.loc 6 x) s).bind fun b s=>if b=true then (zd8 cx.lim s).bind fun _ s=>(bN (aN (En cx n) (Wn cx n) cx u 6) body c s).bind fun d s=>if d.1=true then .ok (true,d.2) s else Wn cx n u x body d.2 s else .ok (false,c) s:=by
 have e:Wn cx (n+1) u x body c s=(vN (En cx (n+1)) cx u c.loc 6 x s).bind fun v s=>if v=0 then .ok (false,c) s else (zd8 cx.lim s).bind fun _ s=>(bN (aN (En cx n) (Wn cx n) cx u 6) body c s).bind fun d s=>if d.1=true then .ok (true,d.2) s else Wn cx n u x body d.2 s:=by
  unfold Wn En;rw [zlh]
  rfl
 rw [e];unfold holdS
 cases vN (En cx (n+1)) cx u c.loc 6 x s with
 | stop e t=>rfl
 | ok v t=>
   show ite (v=0) _ _=ite ((v != 0)=true) _ _
   by_cases hv:v=0
   . rw [if_pos hv,if_neg (by simp [hv])]
   . rw [if_neg hv,if_pos (by simp [hv])]
theorem Cn.down {n:Nat} {w w':World} {B base:Nat} {cx:Cx} {K:Wk} {vo vo':Value} {s s':Sw} {c:Ca} {loc:List Int} {ret:Int} {a:Unit} (h:Cn (n+1) w B base cx K vo s c loc ret) (h':Cn (n+1) w' B base cx K vo' s' c loc ret) (hr:zd8 cx.lim s = .ok a s'):Cn n w' B base cx K vo' s' c loc ret/\s'.ticks=s.ticks+1:=by
 have h1:=h.fu
 have e:s'.ticks=s.ticks+1:=by
  by_cases hl:s.ticks=cx.lim
  . rw [zev hl] at hr;cases hr
  . rw [zgi hl] at hr;cases hr;rfl
 exact ⟨⟨h'.wd,h'.cl,h'.lo,h'.cS,h'.cO,h'.lS,h'.lz,h'.la,by omega⟩,e⟩
theorem ztt {n B base:Nat} {cx:Cx} {K:Wk} {c:Ca} {loc:List Int} {ret:Int} {vo:Value} {s:Sw} {w:World} {op nn m at_:Int} {args:List Nd} {body other:List Ac} {a1:OA} {k1:Nat} {a2:OA} {k2:Nat} {a3:OA} {k3:Nat} {k:Nat} (hV:∀ m≤n,∀ y ∈ args,NdV m B base cx K 6 y) (hB:∀ m<n,BlV m B base cx K 6 body) (h:Cn n w B base cx K vo s c loc ret) (hD:DAt w (·<base) a1 args.length (zcl args)) (hD2:DAt w (·<base) a2 body.length (zcg body)) (hN:∀ y ∈ args,okN cx c.u loc.length K.cd 6 y) (hl:args.length=1) (hO:∀ x ∈ body,okA cx c.u loc.length K.cd 6 x) :
 Calls Tryz.prog 265 #[.pointer (some ⟨c.C,0,none⟩),.agg #[.int .i64 op,.int .i64 nn,.int .i64 m,.int .i64 at_,.slice a1 args.length k1,.slice a2 body.length k2,.slice a3 other.length k3]] w fun e w'=>Sa zf4 n B base cx K c w vo (Wn cx n c.u (argN args 0) body ⟨loc,ret⟩ s) e w':=by
 obtain ⟨b,off,ay,ky,rfl,hb,hbz,dY,cY⟩:=zc3 hD 0 (by omega);obtain ⟨y0,y1,y2,y3,y4⟩:=cY w rfl;simp only [vbh,vbl] at y0 y1 y2 y3 y4 cY
 have hl0:0<args.length:=by omega
 have HC:=hid (h.below (al1 w (.cells #[.int .i64 op,.int .i64 nn,.int .i64 m,.int .i64 at_,.slice (some ⟨b,off,none⟩) args.length k1,.slice a2 body.length k2,.slice a3 other.length k3] 109)));have HC0:=hid h;have HV:=hid (fun m (hm:m<=n) loc' (hll:loc'.length=loc.length) ret' vo' s' w' (hc:Cn m w' B base cx K vo' s' c loc' ret') dY=>zdr (a1:=ay) (k1:=ky) (hV m hm _ (zak (i:=0) (by omega))) hc dY (by rw [hll];exact hN _ (zak (by omega))));have HB:=hid (fun m (hm:m<n) loc' (hll:loc'.length=loc.length) ret' vo' s' w' (hc:Cn m w' B base cx K vo' s' c loc' ret') d2=>hB m hm c loc' ret' vo' s' a2 k2 w' hc d2 (by rw [hll];exact hO))
 have HX:Hid (∀ vo' wr,Gm B K.D (Xc c) vo vo' (w.alloc (.cells #[.int .i64 op,.int .i64 nn,.int .i64 m,.int .i64 at_,.slice (some ⟨b,off,none⟩) args.length k1,.slice a2 body.length k2,.slice a3 other.length k3] 109)) wr->wr.heap[w.heap.size]? = some (.cells #[.int .i64 op,.int .i64 nn,.int .i64 m,.int .i64 at_,.slice (some ⟨b,off,none⟩) args.length k1,.slice a2 body.length k2,.slice a3 other.length k3] 109)/\vo'.ownBlock≠some w.heap.size/\z3w wr b off (argN args 0) ay ky/\DAt wr (·<base) ay (argN args 0).args.length (zcl (argN args 0).args)/\DAt wr (·<base) a2 body.length (zcg body)):=fun vo' wr hg=>by
  have h1:=zab h.cl;have h2:=h.lz;obtain ⟨k1,k2⟩:=HC.out.gkeep hg (b:=w.heap.size) (x:=(.cells #[.int .i64 op,.int .i64 nn,.int .i64 m,.int .i64 at_,.slice (some ⟨b,off,none⟩) args.length k1,.slice a2 body.length k2,.slice a3 other.length k3] 109)) (heap_alloc_new w _) h.new.1 h.new.2 (by omega) (by omega);exact ⟨k1,k2,cY wr ((HC.out.gmB hg hb (by simp;omega)).trans ((al1 w _).block b hbz)),HC.out.gdat hg (dY.later (al1 w _)),HC.out.gdat hg (hD2.later (al1 w _))⟩
 have hK:∀ m loc',Kp (holdS (vN (En cx m) cx c.u loc' 6 (argN args 0))):=fun m loc'=>zem (zd4 cx m c.u loc' 6 (argN args 0))
 obtain ⟨R0,hR0⟩:∃ R0,R0=Wn cx n c.u (argN args 0) body ⟨loc,ret⟩ s:=⟨_,rfl⟩
 have HR0:=hid hR0;rw [← hR0];generalize argN args 0=y at *;clear h hV hB hD hD2 hN dY cY hl hb hO hR0 y0 y1 y2 y3 y4;go_enter Tryz.func265,Tryz.ntmps265;go_wp2_with fail
 go_loopw [] (fun wr=>∃ q vo' s' loc' ret',q<=n/\Gm B K.D (Xc c) vo vo' (w.alloc (.cells #[.int .i64 op,.int .i64 nn,.int .i64 m,.int .i64 at_,.slice (some ⟨b,off,none⟩) args.length k1,.slice a2 body.length k2,.slice a3 other.length k3] 109)) wr/\Cn q wr B base cx K vo' s' c loc' ret'/\R0=Wn cx q c.u y body ⟨loc',ret'⟩ s') (fun wr=>cx.lim - z2z B wr)
 case atStart=>exact ⟨n,vo,s,loc,ret,vaa _,Gm.refl _ _ _ _ _,HC.out,HR0.out⟩
 case round =>
  obtain ⟨m1,vo1,s1,loc1,ret1,hm1,hg,hc,hr⟩:=hrel
  cases m1 with
  | zero=>exact absurd hc.fu (by have:=hc.wd.tl;omega)
  | succ m0=>
  have HG:=hid hg;have HW:=hid hc;obtain ⟨hX1,hX2,⟨y0,y1,y2,y3,y4⟩,dy,d2⟩:=HX.out _ _ hg;obtain ⟨x0,x1,x2,x3,x4,x5,x6,xz⟩:=zbe hX1;have HH:=hid (HV.out (m0+1) hm1 loc1 (HC0.out.len hc) ret1 vo1 s1 wr hc dy);have HR:=hid (hr.trans (z1i ..));have hk:=hK (m0+1) loc1;clear hg hc hr dy d2 hX1 hX2;generalize holdS (vN (En cx (m0+1)) cx c.u loc1 6 y)=F0 at *;go_wp2_with fail;refine HH.out.mono ?_;intro e w1 hS
  rcases HW.out.step hk hS with ⟨k',s',vo2,hr,rfl,hf,hw⟩ | ⟨v,s2,vo2,hr,rfl,hf,hw⟩
  . exact ⟨rfl,Sa.no ((Fm.below (al1 w _)).gm.trans (HG.out.trans hf.gm)) (HR.out.trans (za7 hr)) hw⟩
  . have HG2 :=hid (HG.out.trans hf.gm)
    have HR2:=hid (HR.out.trans (zay hr));have HW2:=hid hw
    have ht2:s1.ticks<=s2.ticks:=by
     have:=(hk s1).2.2.2;rw [hr] at this;exact this
    obtain ⟨p0,p1,p2,p3,pz,pf⟩:=za2 hw.cl;clear hr hf hw hS y0 y1 y2 y3 y4 x0 x1 x2 x3 x4 x5 x6 xz;unfold zw7
    cases v with
    | false=>
      go_wp2_with fail
      go_returns
      exact Sa.ok (rep:=zf4) ((Fm.below (al1 w _)).gm.trans HG2.out) (HR2.out.trans (if_neg (by simp))) (HW2.out.up hm1)
    | true =>
      have HT:=hid (zrk B base cx K vo2 s2 w1 HW2.out.wd);go_wp2_with fail;refine HT.out.mono ?_;intro e w2 hS
      rcases HW2.out.step (zwx _) hS with ⟨k',s',vo3,hr,rfl,hf,hw⟩ | ⟨v,s3,vo3,hr,rfl,hf,hw⟩
      . exact ⟨rfl,Sa.no ((Fm.below (al1 w _)).gm.trans (HG2.out.trans hf.gm)) (HR2.out.trans ((if_pos (by trivial)).trans (za7 hr))) hw⟩
      . obtain ⟨hw',ht3⟩:=HW2.out.down hw hr
        have HG3:=hid (HG2.out.trans hf.gm);have HR3:=hid (HR2.out.trans ((if_pos (by trivial)).trans (zay hr)));have HW3:=hid hw';obtain ⟨hX1,hX2, -, -,d2⟩:=HX.out _ _ HG3.out;obtain ⟨x0,x1,x2,x3,x4,x5,x6,xz⟩:=zbe hX1;have HBl:=hid (HB.out m0 (by omega) loc1 (HC0.out.len hw') ret1 vo3 s3 w2 hw' d2);clear hr hf hw hw' hS d2 hX1 hX2 p0 p1 p2 p3 pz pf;unfold z2j;go_wp2_with fail;refine HBl.out.mono ?_;rintro e w3 ⟨vo4,hg4,⟨k',s',hr',rfl,hw⟩ | ⟨⟨db,dl,dr⟩,s4,hr',rfl,hw⟩⟩
        . exact ⟨rfl,Sa.no ((Fm.below (al1 w _)).gm.trans (HG3.out.trans hg4)) (HR3.out.trans (za7 hr')) hw⟩
        . have HG4:=hid (HG3.out.trans hg4)
          have HR4:=hid (HR3.out.trans (zay hr'));have HW4:=hid hw
          have ht4:s3.ticks<=s4.ticks:=by
           have:=(z20 cx m0 c.u 6 body ⟨loc1,ret1⟩ s3).2.2.2;rw [hr'] at this;exact this
          clear hg4 hr' hw x0 x1 x2 x3 x4 x5 x6 xz;unfold zf4
          cases db with
          | true=>
            go_wp2_with fail
            go_returns
            exact Sa.ok (rep:=zf4) ((Fm.below (al1 w _)).gm.trans HG4.out) (HR4.out.trans (if_pos (by trivial))) (HW4.out.up (by omega))
          | false=>
            go_wp2_with fail;go_roundw
            case rel=>exact ⟨m0,vo4,s4,dl,dr,by omega,HG4.out,HW4.out,HR4.out.trans (if_neg (by simp))⟩
            case measure=>
             rw [HW4.out.wd.tk,HW.out.wd.tk];have:=HW4.out.wd.tl;omega
end Go.Proofs.YtndkhgakfodldaaGreatDoor
