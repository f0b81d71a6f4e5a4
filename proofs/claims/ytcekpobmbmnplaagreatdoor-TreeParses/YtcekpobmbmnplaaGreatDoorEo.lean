/-
  The document's own reader in memory: an element that is set.
-/
import Derived.Test.YtcekpobmbmnplaaGreatDoorEl
import Derived.Test.YtcekpobmbmnplaaGreatDoorEm
import Derived.Test.YtcekpobmbmnplaaGreatDoorEn
namespace Go.Proofs.YtcekpobmbmnplaaGreatDoor
set_option maxRecDepth 100000
set_option maxHeartbeats 1600000
open Go.RowKit Go.Shelf
section
variable {P:Program} {ops:Array Oper} {o:Oper} {a:Act} {w:World} {K:Act->World->Prop} {Q:Exit->Act->World->Prop} {E:Prop}
theorem zsj (f:FuncId) (x y:Operand) (ty tz:TypeId) (ho:o.op = .call { callee:=.value (.func f),args:=#[x,y],argTypes:=#[ty,tz] })
 (hen:Enters P f) (v:Value) (hx:a.eval x=v) (u:Value) (hy:a.eval y=u):(execOp a.eval o).run P w = .ok (.enter f #[v,u]) w:=by
 have h:=hen #[v,u] w;have hf:a.eval (.func f) = .func (.func f) #[] #[]:=rfl;simp [execOp,ho,resolve,invoke,hx,hy,hf,h,Deferred.ofValue]
theorem zpf (hgd:o.guard=none) (f:FuncId) (x y:Operand) (ty tz:TypeId) (ho:o.op = .call { callee:=.value (.func f),args:=#[x,y],argTypes:=#[ty,tz] })
 (hen:Enters P f) (v:Value) (hx:a.eval x=v) (u:Value) (hy:a.eval y=u) {R:Value->World->Prop} (hC:Calls P f #[v,u] w fun e w'=>∃ z,e = .returned z/\R z w')
 (h:∀ z w',R z w'->K (a.put o.dst z) w'):if Region.wanted o (yielded ops a.tmps)=true then Oper.wp P o a w K Q else E:=by
 have hw:Region.wanted o (yielded ops a.tmps)=true:=by simp [Region.wanted,hgd]
 rw [if_pos hw];unfold Oper.wp;rw [zsj f x y ty tz ho hen v hx u hy,Oper.upon_enter];refine hC.mono ?_;rintro e w' ⟨z,rfl,hR⟩;exact h z w' hR
end
theorem z0z:Enters Tryz.prog 120:=enters_of Tryz.func120 (by kernel_rfl) rfl
theorem zw9 (R B:Nat) (Bk:List Tk->List St × List Tk) (d:Int) (l:List Tk) (w:World) (h:Ez R B w l) (n0:skB l tIf=false) (n1:skB l tWhile=false) (n2:skB l tReturn=false) (n3:skB l tOut=false) (c0:skB (eRef l).2 tLp=false) (c1:skB (eRef l).2 tLs=true) :
 Calls Tryz.prog 94 #[.pointer (some ⟨R,0,none⟩),.int .i64 d] w (zcd R B w (eStmt Bk l) (zde (w.heap.size<=·))):=by
 have HX:Hid (eStmt Bk l=(.mk 2 (eRef l).1.1 (eRef l).1.2 [(eExpr 7 (eRef l).2.tail).1,(eExpr 7 (eTk (eTk (eExpr 7 (eRef l).2.tail).2 tRs) tEq)).1] [] [],eTk (eExpr 7 (eTk (eTk (eExpr 7 (eRef l).2.tail).2 tRs) tEq)).2 tSem)):=by
  show eStmt Bk l=_;unfold eStmt;rw [if_neg (by rw [n0];decide),if_neg (by rw [n1];decide),if_neg (by rw [n2];decide),if_neg (by rw [n3];decide),if_neg (by rw [c0];decide),if_pos c1]
 have HQ0:=hid c0;clear c0;have HQ1:=hid c1;clear c1;have hRw:=h.lt;have HY:=hid h;clear h;go_enter Tryz.func94,Tryz.ntmps94;go_wp2_with fail;refine (za2 R B l tIf _ (HY.out.alloc _) (by decide) n0).mono ?_;rintro e v0 ⟨rfl,H,K⟩;have HA0:=hid H;have HKv0:=hid (((Keeps.refl R w).alloc _).trans K);have HBv0:Hid (v0.heap[w.heap.size]? = some zah):=(K.block w.heap.size (by simp) (by omega)).trans (heap_newP _ _);have hv0:=K.size;simp at hv0;clear H K;go_wp2_with fail;refine (za2 R B l tWhile v0 HA0.out (by decide) n1).mono ?_;rintro e v1 ⟨rfl,H,K⟩;have HA1:=hid H;have HKv1:=hid (HKv0.out.trans K);have HBv1:Hid (v1.heap[w.heap.size]? = some zah):=(K.block w.heap.size (by omega) (by omega)).trans HBv0.out;have hv1:=Nat.le_trans hv0 K.size;clear H K HA0 HKv0 HBv0 hv0;go_wp2_with fail;refine (za2 R B l tReturn v1 HA1.out (by decide) n2).mono ?_
 rintro e v2 ⟨rfl,H,K⟩;have HA2:=hid H;have HKv2:=hid (HKv1.out.trans K);have HBv2:Hid (v2.heap[w.heap.size]? = some zah):=(K.block w.heap.size (by omega) (by omega)).trans HBv1.out;have hv2:=Nat.le_trans hv1 K.size;clear H K HA1 HKv1 HBv1 hv1;go_wp2_with fail;refine (za2 R B l tOut v2 HA2.out (by decide) n3).mono ?_;rintro e v3 ⟨rfl,H,K⟩;have HA3:=hid H;have HKv3:=hid (HKv2.out.trans K);have HBv3:Hid (v3.heap[w.heap.size]? = some zah):=(K.block w.heap.size (by omega) (by omega)).trans HBv2.out;have hv3:=Nat.le_trans hv2 K.size;clear H K HA2 HKv2 HBv2 hv2;go_wp2_with fail;clear n0 n1 n2 n3;refine (zgv R B l _ (HA3.out.alloc _)).mono ?_;generalize eRef l=q at *;obtain ⟨⟨m,nm⟩,l5⟩:=q
 try simp only [] at HX
 rintro e w5 ⟨rfl,H5,K5,hm,hn⟩
 try simp only [] at hm hn
 have HB5:w5.heap[w.heap.size]? = some zah:=(K5.block w.heap.size (by simp;omega) (by omega)).trans (zai HBv3.out);have HC5:w5.heap[v3.heap.size]? = some zah:=(K5.block v3.heap.size (by simp) (by omega)).trans (heap_newP _ _);have hz5:=K5.size;simp at hz5;obtain ⟨h0,h1,h2,h3,h4,h5,h6⟩:=zal HC5;have HR6:Hid (Ez R B ((w5.setCell ⟨v3.heap.size,1,none⟩ (.string m)).setCell ⟨v3.heap.size,2,none⟩ (.string nm)) l5):=(H5.setAbove HY.out (by show _<=v3.heap.size;omega) _).setAbove HY.out (by show _<=v3.heap.size;omega) _;have HK6:Hid (Keeps R w ((w5.setCell ⟨v3.heap.size,1,none⟩ (.string m)).setCell ⟨v3.heap.size,2,none⟩ (.string nm))):=((((HKv3.out.alloc _).trans K5)).set (by show _<=v3.heap.size;omega) _).set (by show _<=v3.heap.size;omega) _;have HB6:Hid (((w5.setCell ⟨v3.heap.size,1,none⟩ (.string m)).setCell ⟨v3.heap.size,2,none⟩ (.string nm)).heap[w.heap.size]? = some zah):=(zag (by show w.heap.size≠v3.heap.size;omega) _).trans ((zag (by show w.heap.size≠v3.heap.size;omega) _).trans HB5)
 have HC6:Hid (((w5.setCell ⟨v3.heap.size,1,none⟩ (.string m)).setCell ⟨v3.heap.size,2,none⟩ (.string nm)).heap[v3.heap.size]? = some (.cells #[.int .i64 0,.string m,.string nm,.slice none 0 0,.slice none 0 0,.slice none 0 0] 47 (0,0))):=zan (zan HC5 _) _
 have hz6:((w5.setCell ⟨v3.heap.size,1,none⟩ (.string m)).setCell ⟨v3.heap.size,2,none⟩ (.string nm)).heap.size=w5.heap.size:=by simp only [World.size_setCell]
 clear H5 K5 HB5 HC5 HA3 HKv3 HBv3;go_wp2_with fail;generalize ((w5.setCell ⟨v3.heap.size,1,none⟩ (.string m)).setCell ⟨v3.heap.size,2,none⟩ (.string nm))=w6 at *;clear h0 h1 h2 h3 h4 h5 h6;refine (za2 R B l5 tLp w6 HR6.out (by decide) HQ0.out).mono ?_;rintro e w7 ⟨rfl,H,K⟩;have hz7:=K.size;have HR7:=hid H;have HK7:=hid (HK6.out.trans K);have HB7:Hid (w7.heap[w.heap.size]? = some zah):=(K.block w.heap.size (by omega) (by omega)).trans HB6.out;have HC7:Hid (w7.heap[v3.heap.size]? = some (.cells #[.int .i64 0,.string m,.string nm,.slice none 0 0,.slice none 0 0,.slice none 0 0] 47 (0,0))):=(K.block v3.heap.size (by omega) (by omega)).trans HC6.out;clear H K HR6 HK6 HB6 HC6;go_wp2_with fail;refine (zbj R B l5 tLs w7 HR7.out (by decide) HQ1.out).mono ?_;rintro e w8 ⟨rfl,H,K⟩;have hz8:=K.size;have HR8:=hid H;have HK8:=hid (HK7.out.trans K)
 have HB8:Hid (w8.heap[w.heap.size]? = some zah):=(K.block w.heap.size (by omega) (by omega)).trans HB7.out;have HC8:Hid (w8.heap[v3.heap.size]? = some (.cells #[.int .i64 0,.string m,.string nm,.slice none 0 0,.slice none 0 0,.slice none 0 0] 47 (0,0))):=(K.block v3.heap.size (by omega) (by omega)).trans HC7.out;clear H K HR7 HK7 HB7 HC7;obtain ⟨h0,h1,h2,h3,h4,h5,h6⟩:=zal HC8.out;have HR9:Hid (Ez R B (w8.setCell ⟨v3.heap.size,0,none⟩ (.int .i64 2)) l5.tail):=HR8.out.setAbove HY.out (by show _<=v3.heap.size;omega) _;have HK9:Hid (Keeps R w (w8.setCell ⟨v3.heap.size,0,none⟩ (.int .i64 2))):=HK8.out.set (by show _<=v3.heap.size;omega) _;have HB9:Hid ((w8.setCell ⟨v3.heap.size,0,none⟩ (.int .i64 2)).heap[w.heap.size]? = some zah):=(zag (by show w.heap.size≠v3.heap.size;omega) _).trans HB8.out;have HC9:Hid ((w8.setCell ⟨v3.heap.size,0,none⟩ (.int .i64 2)).heap[v3.heap.size]? = some (.cells #[.int .i64 2,.string m,.string nm,.slice none 0 0,.slice none 0 0,.slice none 0 0] 47 (0,0))):=zan HC8.out _
 have hz9:(w8.setCell ⟨v3.heap.size,0,none⟩ (.int .i64 2)).heap.size=w8.heap.size:=by simp only [World.size_setCell]
 clear HR8 HK8 HB8 HC8;go_wp2_with fail;generalize (w8.setCell ⟨v3.heap.size,0,none⟩ (.int .i64 2))=w9 at *;clear h0 h1 h2 h3 h4 h5 h6;refine (zc8 R B l5.tail w9 HR9.out).mono ?_;generalize eExpr 7 l5.tail=q at *;obtain ⟨x,l10⟩:=q
 try simp only [] at HX
 rintro e w10 ⟨K,v,rfl,⟨a10,c10,rfl,hx1,hx2,hx3⟩,H⟩;have hz10:=K.size;have HM:=hid (⟨hx1,hx2⟩:x.mod.size<=maxLen/\x.name.size<=maxLen);have HR11:Hid (Ez R B (w10.alloc (.cells #[.int .i64 x.op,.int .i64 x.n,.string x.mod,.string x.name,.slice a10 x.args.length c10] 76 (0,0))) l10):=H.alloc _;have HK11:Hid (Keeps R w (w10.alloc (.cells #[.int .i64 x.op,.int .i64 x.n,.string x.mod,.string x.name,.slice a10 x.args.length c10] 76 (0,0)))):=(HK9.out.trans K).alloc _;have HB11:Hid ((w10.alloc (.cells #[.int .i64 x.op,.int .i64 x.n,.string x.mod,.string x.name,.slice a10 x.args.length c10] 76 (0,0))).heap[w.heap.size]? = some zah):=zai ((K.block w.heap.size (by omega) (by omega)).trans HB9.out);have HC11:Hid ((w10.alloc (.cells #[.int .i64 x.op,.int .i64 x.n,.string x.mod,.string x.name,.slice a10 x.args.length c10] 76 (0,0))).heap[v3.heap.size]? = some (.cells #[.int .i64 2,.string m,.string nm,.slice none 0 0,.slice none 0 0,.slice none 0 0] 47 (0,0))):=zai ((K.block v3.heap.size (by omega) (by omega)).trans HC9.out)
 have HI11:Hid ((w10.alloc (.cells #[.int .i64 x.op,.int .i64 x.n,.string x.mod,.string x.name,.slice a10 x.args.length c10] 76 (0,0))).heap[w10.heap.size]? = some (.cells #[.int .i64 x.op,.int .i64 x.n,.string x.mod,.string x.name,.slice a10 x.args.length c10] 76 (0,0))):=heap_newP _ _;have HXx11:Hid (EAt (w10.alloc (.cells #[.int .i64 x.op,.int .i64 x.n,.string x.mod,.string x.name,.slice a10 x.args.length c10] 76 (0,0))) (ziv (w.heap.size+1) v3.heap.size) a10 x.args.length (zaw x.args)):=(EAt.weak hx3 (A':=ziv (w.heap.size+1) v3.heap.size) (by intro b h1 h2;exact ⟨by omega,by omega⟩)).moves ((Moves.refl w10 _).alloc _)
 have hz11:(w10.alloc (.cells #[.int .i64 x.op,.int .i64 x.n,.string x.mod,.string x.name,.slice a10 x.args.length c10] 76 (0,0))).heap.size=w10.heap.size+1:=by simp only [World.size_alloc]
 clear H K hx1 hx2 hx3 HR9 HK9 HB9 HC9;go_wp2_with fail;generalize (w10.alloc (.cells #[.int .i64 x.op,.int .i64 x.n,.string x.mod,.string x.name,.slice a10 x.args.length c10] 76 (0,0)))=w11 at *;refine (zaj R B l10 tRs w11 HR11.out (by decide)).mono ?_;rintro e w12 ⟨rfl,H,K⟩;have hz12:=K.size;have HR12:=hid H;have HK12:=hid (HK11.out.trans K);have HB12:Hid (w12.heap[w.heap.size]? = some zah):=(K.block w.heap.size (by omega) (by omega)).trans HB11.out;have HC12:Hid (w12.heap[v3.heap.size]? = some (.cells #[.int .i64 2,.string m,.string nm,.slice none 0 0,.slice none 0 0,.slice none 0 0] 47 (0,0))):=(K.block v3.heap.size (by omega) (by omega)).trans HC11.out;have HI12:Hid (w12.heap[w10.heap.size]? = some (.cells #[.int .i64 x.op,.int .i64 x.n,.string x.mod,.string x.name,.slice a10 x.args.length c10] 76 (0,0))):=(K.block w10.heap.size (by omega) (by omega)).trans HI11.out
 have HXx12:=hid (EAt.keeps HXx11.out K (by intro b hb;have:=hb.1;omega));clear H K HI11 HXx11 HR11 HK11 HB11 HC11;go_wp2_with fail;refine (zaj R B (eTk l10 tRs) tEq w12 HR12.out (by decide)).mono ?_;rintro e w13 ⟨rfl,H,K⟩;have hz13:=K.size;have HR13:=hid H;have HK13:=hid (HK12.out.trans K);have HB13:Hid (w13.heap[w.heap.size]? = some zah):=(K.block w.heap.size (by omega) (by omega)).trans HB12.out;have HC13:Hid (w13.heap[v3.heap.size]? = some (.cells #[.int .i64 2,.string m,.string nm,.slice none 0 0,.slice none 0 0,.slice none 0 0] 47 (0,0))):=(K.block v3.heap.size (by omega) (by omega)).trans HC12.out;have HI13:Hid (w13.heap[w10.heap.size]? = some (.cells #[.int .i64 x.op,.int .i64 x.n,.string x.mod,.string x.name,.slice a10 x.args.length c10] 76 (0,0))):=(K.block w10.heap.size (by omega) (by omega)).trans HI12.out;have HXx13:=hid (EAt.keeps HXx12.out K (by intro b hb;have:=hb.1;omega))
 clear H K HI12 HXx12 HR12 HK12 HB12 HC12
 have HE:Hid (∀ w',Ez R B w' (eTk (eTk l10 tRs) tEq)->Calls Tryz.prog 120 #[.pointer (some ⟨R,0,none⟩),.int .i64 1] w' fun e w''=>∃ u,e = .returned u/\(Keeps R w' w''/\zdd (w'.heap.size<=·) (eExpr 7 (eTk (eTk l10 tRs) tEq)).1 w'' u/\Ez R B w'' (eExpr 7 (eTk (eTk l10 tRs) tEq)).2)):=fun w' h'=>by
  refine (zc8 R B _ w' h').mono ?_;rintro e w'' ⟨hk,u,rfl,hr,hd⟩;exact ⟨u,rfl,hk,hr,hd⟩
 generalize eExpr 7 (eTk (eTk l10 tRs) tEq)=q at *;obtain ⟨y,l14⟩:=q
 try simp only [] at HX HE
 obtain ⟨h0,h1,h2,h3,h4,h5,h6⟩:=zal HC13.out;obtain ⟨k0,k1,k2,k3,k4,k5⟩:=zaf HI13.out;go_wp2_with fail
 go_region_law (first
  | (refine zpf (by rfl) 120 _ _ _ _ (by rfl) z0z _ (by rfl) _ (by rfl) (HE.out _ HR13.out.drew) ?_
     rintro u14 w14 ⟨K14,⟨a14,c14,rfl,hy1,hy2,hy3⟩,HR14⟩;have hz14:w13.heap.size<=w14.heap.size:=K14.size
     have hq14:v3.heap.size<w14.heap.size:=by omega
     have hqi:w10.heap.size<w14.heap.size:=by omega
     have HC14:Hid (w14.heap[v3.heap.size]? = some (.cells #[.int .i64 2,.string m,.string nm,.slice none 0 0,.slice none 0 0,.slice none 0 0] 47 (0,0))):=(K14.block v3.heap.size (show v3.heap.size<w13.heap.size by omega) (by omega)).trans HC13.out;have HB14:Hid (w14.heap[w.heap.size]? = some zah):=(K14.block w.heap.size (show w.heap.size<w13.heap.size by omega) (by omega)).trans HB13.out;have HI14:Hid (w14.heap[w10.heap.size]? = some (.cells #[.int .i64 x.op,.int .i64 x.n,.string x.mod,.string x.name,.slice a10 x.args.length c10] 76 (0,0))):=(K14.block w10.heap.size (show w10.heap.size<w13.heap.size by omega) (by omega)).trans HI13.out;have HXx14:Hid (EAt w14 (ziv (w.heap.size+1) v3.heap.size) a10 x.args.length (zaw x.args)):=EAt.keeps HXx13.out ((Keeps.refl R w13).drew.trans K14) (by intro b hb;have:=hb.1;omega);obtain ⟨m0,m1,m2,m3,m4,m5⟩:=zaf HI14.out
     obtain ⟨p0,p1,p2,p3,p4,p5,p6⟩:=zal HC14.out))
 all_goals
  have HR15:Hid (Ez R B ((w14.setCell ⟨v3.heap.size,3,none⟩ (.slice (some ⟨w14.heap.size,0,none⟩) 2 2)).alloc (.cells #[.int .i64 x.op,.int .i64 x.n,.string x.mod,.string x.name,.slice a10 x.args.length c10,.int .i64 y.op,.int .i64 y.n,.string y.mod,.string y.name,.slice a14 y.args.length c14] 76 (0,0))) l14):=(HR14.setAbove HY.out (by show _<=v3.heap.size;omega) _).alloc _;have HK15:Hid (Keeps R w ((w14.setCell ⟨v3.heap.size,3,none⟩ (.slice (some ⟨w14.heap.size,0,none⟩) 2 2)).alloc (.cells #[.int .i64 x.op,.int .i64 x.n,.string x.mod,.string x.name,.slice a10 x.args.length c10,.int .i64 y.op,.int .i64 y.n,.string y.mod,.string y.name,.slice a14 y.args.length c14] 76 (0,0)))):=((HK13.out.drew.trans K14).set (by show _<=v3.heap.size;omega) _).alloc _;have HB15:Hid (((w14.setCell ⟨v3.heap.size,3,none⟩ (.slice (some ⟨w14.heap.size,0,none⟩) 2 2)).alloc (.cells #[.int .i64 x.op,.int .i64 x.n,.string x.mod,.string x.name,.slice a10 x.args.length c10,.int .i64 y.op,.int .i64 y.n,.string y.mod,.string y.name,.slice a14 y.args.length c14] 76 (0,0))).heap[w.heap.size]? = some zah):=zai ((zag (by show w.heap.size≠v3.heap.size;omega) _).trans HB14.out)
  have HC15:Hid (((w14.setCell ⟨v3.heap.size,3,none⟩ (.slice (some ⟨w14.heap.size,0,none⟩) 2 2)).alloc (.cells #[.int .i64 x.op,.int .i64 x.n,.string x.mod,.string x.name,.slice a10 x.args.length c10,.int .i64 y.op,.int .i64 y.n,.string y.mod,.string y.name,.slice a14 y.args.length c14] 76 (0,0))).heap[v3.heap.size]? = some (.cells #[.int .i64 2,.string m,.string nm,.slice (some ⟨w14.heap.size,0,none⟩) 2 2,.slice none 0 0,.slice none 0 0] 47 (0,0))):=zai (zan HC14.out _)
  have HD15:((w14.setCell ⟨v3.heap.size,3,none⟩ (.slice (some ⟨w14.heap.size,0,none⟩) 2 2)).alloc (.cells #[.int .i64 x.op,.int .i64 x.n,.string x.mod,.string x.name,.slice a10 x.args.length c10,.int .i64 y.op,.int .i64 y.n,.string y.mod,.string y.name,.slice a14 y.args.length c14] 76 (0,0))).heap[w14.heap.size]? = some (.cells #[.int .i64 x.op,.int .i64 x.n,.string x.mod,.string x.name,.slice a10 x.args.length c10,.int .i64 y.op,.int .i64 y.n,.string y.mod,.string y.name,.slice a14 y.args.length c14] 76 (0,0)):=by
   have e:=heap_newP (w14.setCell ⟨v3.heap.size,3,none⟩ (.slice (some ⟨w14.heap.size,0,none⟩) 2 2)) (.cells #[.int .i64 x.op,.int .i64 x.n,.string x.mod,.string x.name,.slice a10 x.args.length c10,.int .i64 y.op,.int .i64 y.n,.string y.mod,.string y.name,.slice a14 y.args.length c14] 76 (0,0));simp only [World.size_setCell] at e;exact e
  have HXa:Hid (EAt ((w14.setCell ⟨v3.heap.size,3,none⟩ (.slice (some ⟨w14.heap.size,0,none⟩) 2 2)).alloc (.cells #[.int .i64 x.op,.int .i64 x.n,.string x.mod,.string x.name,.slice a10 x.args.length c10,.int .i64 y.op,.int .i64 y.n,.string y.mod,.string y.name,.slice a14 y.args.length c14] 76 (0,0))) (ziv (w.heap.size+1) v3.heap.size) (some ⟨w14.heap.size,0,none⟩) 2 (zaw [x,y])):=
   zuy (t:=76) (cap:=c10) (dap:=c14) ⟨HM.out.1,HM.out.2,HXx14.out⟩ ⟨hy1,hy2,EAt.weak hy3 (A':=ziv (w.heap.size+1) v3.heap.size) (by intro b h1 h2;exact ⟨by have:w13.heap.size<=b:=h2;omega,by have:w13.heap.size<=b:=h2;omega⟩)⟩ (((Moves.refl w14 _).set (by intro b _ hb;exact hb.2) _).alloc _) (((Moves.refl w14 _).set (by intro b _ hb;exact hb.2) _).alloc _) HD15 ⟨by omega,by omega⟩
  have hz15:((w14.setCell ⟨v3.heap.size,3,none⟩ (.slice (some ⟨w14.heap.size,0,none⟩) 2 2)).alloc (.cells #[.int .i64 x.op,.int .i64 x.n,.string x.mod,.string x.name,.slice a10 x.args.length c10,.int .i64 y.op,.int .i64 y.n,.string y.mod,.string y.name,.slice a14 y.args.length c14] 76 (0,0))).heap.size=w14.heap.size+1:=by simp only [World.size_alloc,World.size_setCell]
  clear HD15 K14 hy1 hy2 hy3 HR14 HC14 HB14 HI14 HXx14 HE HR13 HK13 HB13 HC13 HI13 HXx13;go_wp2_with fail;generalize ((w14.setCell ⟨v3.heap.size,3,none⟩ (.slice (some ⟨w14.heap.size,0,none⟩) 2 2)).alloc (.cells #[.int .i64 x.op,.int .i64 x.n,.string x.mod,.string x.name,.slice a10 x.args.length c10,.int .i64 y.op,.int .i64 y.n,.string y.mod,.string y.name,.slice a14 y.args.length c14] 76 (0,0)))=w15 at *;clear h0 h1 h2 h3 h4 h5 h6 m0 m1 m2 m3 m4 m5 p0 p1 p2 p3 p4 p5 p6 k0 k1 k2 k3 k4 k5;refine (zaj R B l14 tSem w15 HR15.out (by decide)).mono ?_;rintro e w16 ⟨rfl,H,K⟩;have hz16:=K.size;have HB16:Hid (w16.heap[w.heap.size]? = some zah):=(K.block w.heap.size (by omega) (by omega)).trans HB15.out;have HC16:Hid (w16.heap[v3.heap.size]? = some (.cells #[.int .i64 2,.string m,.string nm,.slice (some ⟨w14.heap.size,0,none⟩) 2 2,.slice none 0 0,.slice none 0 0] 47 (0,0))):=(K.block v3.heap.size (by omega) (by omega)).trans HC15.out
  have HF:Hid (zcd R B w (eStmt Bk l) (zde (w.heap.size<=·)) (.returned (.agg #[.int .i64 2,.string m,.string nm,.slice (some ⟨w14.heap.size,0,none⟩) 2 2,.slice none 0 0,.slice none 0 0])) (set6 w16 w.heap.size (.int .i64 2) (.string m) (.string nm) (.slice (some ⟨w14.heap.size,0,none⟩) 2 2) (.slice none 0 0) (.slice none 0 0))):=
   zi4 (s:=.mk 2 m nm [x,y] [] []) HY.out HX.out (HK15.out.trans K) H hm hn (A:=ziv (w.heap.size+1) v3.heap.size) (EAt.keeps HXa.out K (by intro b hb;have:=hb.1;omega)) (Or.inl rfl) (Or.inl rfl) (by intro b hb;have:=hb.1;omega)
  obtain ⟨h0,h1,h2,h3,h4,h5,h6⟩:=zal HB16.out;obtain ⟨g0,g1,g2,g3,g4,g5,g6⟩:=zal HC16.out
  have hne:w.heap.size≠v3.heap.size:=by omega
  clear H K HR15 HK15 HB15 HC15 HXa;go_wp2_with fail;refine bodyPost_ret (v:=.agg #[.int .i64 2,.string m,.string nm,.slice (some ⟨w14.heap.size,0,none⟩) 2 2,.slice none 0 0,.slice none 0 0]) (by simp [results,Tryz.results94,go_sem,h0,h1,h2,h3,h4,h5]) rfl HF.out
end Go.Proofs.YtcekpobmbmnplaaGreatDoor

namespace Go.Proofs.YtcekpobmbmnplaaGreatDoor
set_option maxRecDepth 100000
set_option maxHeartbeats 1600000
open Go.RowKit Go.Shelf
theorem zpg (R B:Nat) (Bk:List Tk->List St × List Tk) (d:Int) (hwr:IntKind.i64.wrap (d+1)=d+1) (HBk:Hid (∀ l w,Ez R B w l->Calls Tryz.prog 55 #[.pointer (some ⟨R,0,none⟩),.int .i64 (d+1)] w (zcd R B w (Bk l) (zwj (w.heap.size<=·))))) (l:List Tk) (w:World) (h:Ez R B w l) :
 Calls Tryz.prog 94 #[.pointer (some ⟨R,0,none⟩),.int .i64 d] w (zcd R B w (eStmt Bk l) (zde (w.heap.size<=·))):=by
 cases n0:skB l tIf with
 | true=>
   cases he:skB (Bk (eExpr 7 l.tail).2).2 tElse with
   | true=>exact ztw R B Bk d hwr HBk l w h n0 he
   | false=>exact zy7 R B Bk d hwr HBk l w h n0 he
 | false =>
   cases n1:skB l tWhile with
   | true=>exact zsi R B Bk d hwr HBk l w h n0 n1
   | false =>
     cases n2:skB l tReturn with
     | true=>exact zpe R B Bk d l w h n0 n1 n2
     | false=>
       cases n3:skB l tOut with
       | true=>exact zw7 R B Bk d l w h n0 n1 n2 n3
       | false=>
         cases c0:skB (eRef l).2 tLp with
         | true=>exact zy8 R B Bk d l w h n0 n1 n2 n3 c0
         | false=>
           cases c1:skB (eRef l).2 tLs with
           | true=>exact zw9 R B Bk d l w h n0 n1 n2 n3 c0 c1
           | false=>exact zw8 R B Bk d l w h n0 n1 n2 n3 c0 c1
def BlE (R B k:Nat):Prop:=∀ (l:List Tk) (w:World) (d:Int),d=7 - (k:Int)->Ez R B w l->Calls Tryz.prog 55 #[.pointer (some ⟨R,0,none⟩),.int .i64 d] w (zcd R B w (eBlock k l) (zwj (w.heap.size<=·)))
theorem zsk (R B:Nat):BlE R B 0:=by
 intro l w d hd h
 have hd':d=7:=by simpa using hd
 subst hd';have HY:=hid h;clear h hd;go_enter Tryz.func55,Tryz.ntmps55;go_wp2_with fail;go_ret;exact ⟨Keeps.refl _ _,_,rfl,⟨none,0,rfl,Or.inl rfl⟩,HY.out⟩
theorem zmm (R B k:Nat) (hk:k<7) (IH:BlE R B k):BlE R B (k+1):=by
 intro l w d hd h
 have hd6:¬ (6<d):=by omega
 have hwr:IntKind.i64.wrap (d+1)=d+1:=by simp only [IntKind.wrap,IntKind.bits,IntKind.signed];simp;omega
 have HS:=hid (zpg R B (eBlock k) d hwr (fun l w h=>IH l w (d+1) (by omega) h));have HY:=hid h;have hRw:=h.lt;clear IH h hd hk hwr;go_enter Tryz.func55,Tryz.ntmps55;go_wp2_with fail
 cases hs:skB l tLb with
 | false=>
   have HE:Hid (eBlock (k+1) l=([],l)):=by show eBlock (k+1) l=_;rw [eBlock,if_neg (by rw [hs];decide)]
   refine (za2 R B l tLb w HY.out (by decide) hs).mono ?_;rintro e w1 ⟨rfl,H1,K1⟩;have HR1:=hid H1;have HK1:=hid K1;clear H1 K1 hs;go_wp2_with fail;go_ret;exact ⟨HK1.out,_,rfl,by rw [HE.out];exact ⟨none,0,rfl,Or.inl rfl⟩,by rw [HE.out];exact HR1.out⟩
 | true =>
   have HE:Hid (eBlock (k+1) l=zdx (eStmt (eBlock k)) 11 [] l.tail):=by show eBlock (k+1) l=_;rw [eBlock,if_pos hs]
   refine (zbj R B l tLb w HY.out (by decide) hs).mono ?_;rintro e w1 ⟨rfl,H1,K1⟩;have HR1:=hid H1;have HK1:=hid K1;have hz1:=K1.size;clear H1 K1 hs;generalize eStmt (eBlock k)=S at *;go_wp2_with fail
   go_loopw [5,6] (fun v _ wr=>∃ (j:Nat) (acc:List St) (l':List Tk),acc.length+j=11/\eBlock (k+1) l=zdx S j acc l'/\Row w.heap.size 47 6 wr v acc.length (za0 acc)/\Ez R B wr l'/\Keeps R w wr) (fun v _ _=>12 - z0x v)
   case atStart=>
    exact ⟨11,[],l.tail,rfl,HE.out,Row.nil _ _ _ _,HR1.out,HK1.out⟩
   case round=>
    obtain ⟨j,acc,l',hj,hpm,hrow,hez,hke⟩:=hrel;obtain ⟨a5,c5,rfl,hea⟩:=hrow.slice;have HG:=hid hpm;have HO:=hid hrow;have HD:=hid hez;have HK:=hid hke;have hzr:=hke.size;have HJ:=hid hj;clear hpm hrow hez hke hea HE HR1 HK1 hj;go_wp2_with fail
    cases hs:skB l' tRb with
    | true=>
      have HG2:Hid (eBlock (k+1) l=(acc,l'.tail)):=by
       show eBlock (k+1) l=_;rw [HG.out]
       cases j<;>rw [zdx,if_pos hs]
      refine (zbj R B l' tRb wr HD.out (by decide) hs).mono ?_;rintro e w2 ⟨rfl,h2,K2⟩;have H2:=hid h2;have HK2:=hid (HK.out.trans K2);have HA2:=hid (HO.out.keeps K2 hRw).slice;clear h2 K2 hs;go_wp2_with fail;go_ret;exact ⟨HK2.out,_,rfl,by rw [HG2.out];exact HA2.out,by rw [HG2.out];exact H2.out⟩
    | false=>
    refine (za2 R B l' tRb wr HD.out (by decide) hs).mono ?_;rintro e w2 ⟨rfl,h2,K2⟩;have H2:=hid h2;have HK2:=hid (HK.out.trans K2);have HO2:=hid (HO.out.keeps K2 hRw);have hz2:=K2.size;have hR2:=h2.lt;obtain ⟨aT,capT,hT⟩:=h2
    have hc0:w2.cell? ⟨R,0,none⟩=some (.slice aT l'.length capT):=by rw [Lib.cell_of_heap hT.blk];rfl
    clear hT K2 HK HO HD;have HSB:=hid hs;clear hs
    by_cases hl0:l'.length=0
    . have HG2:Hid (eBlock (k+1) l=(acc,l')):=by
       show eBlock (k+1) l=_;rw [HG.out]
       cases j<;>rw [zdx,if_neg (by rw [HSB.out];decide)]
       rw [if_pos hl0]
      rw [hl0] at hc0;have HA2:=hid HO2.out.slice;clear hl0;go_wp2_with fail;go_ret;exact ⟨HK2.out,_,rfl,by rw [HG2.out];exact HA2.out,by rw [HG2.out];exact H2.out⟩
    have hlp:(0:Int)<(l'.length:Int):=by omega
    cases j with
    | zero=>
      have HG2:Hid (eBlock (k+1) l=(acc,l')):=by
       show eBlock (k+1) l=_;rw [HG.out,zdx,if_neg (by rw [HSB.out];decide)]
      have HA2:=hid HO2.out.slice
      have hal:¬ ((acc.length:Int)<=10):=by have:=HJ.out;omega
      go_wp2_with fail;go_ret;exact ⟨HK2.out,_,rfl,by rw [HG2.out];exact HA2.out,by rw [HG2.out];exact H2.out⟩
    | succ j=>
    have hal:(acc.length:Int)<=10:=by have:=HJ.out;omega
    have hal':acc.length<=10:=by omega
    have HG3:Hid (eBlock (k+1) l=if (S l').2.length=l'.length then (acc++[(S l').1],(S l').2) else zdx S j (acc++[(S l').1]) (S l').2):=by
     show eBlock (k+1) l=_;rw [HG.out,zdx,if_neg (by rw [HSB.out];decide),if_neg hl0]
    clear HG HSB hl0;go_wp2_with fail;refine (HS.out l' w2 H2.out).mono ?_;generalize S l'=q at *;obtain ⟨s,l4⟩:=q
    try simp only [] at HG3
    rintro e w4 ⟨K4,v,rfl,⟨a1,c1,a2,c2,a3,c3,rfl,hx1,hx2,hx3,hx4,hx5⟩,H4⟩
    try simp only [] at H4
    have HX4:Hid (zbg w4 (w2.heap.size<=·) s.ds (zpy s a1 c1 a2 c2 a3 c3)):=zrd hx1 hx2 hx3 hx4 hx5;have HR4:=hid H4;have HK4:=hid (HK2.out.trans K4);have HO4:=hid (HO2.out.keeps K4 hRw);have hz4:=K4.size;have HL:=hid (fun k hk=>(HO2.out.lt k hk).2);clear K4 H4 hx1 hx2 hx3 hx4 hx5 hc0 H2 HK2 HO2;generalize hv:Value.slice a5 acc.length c5=v5 at *;clear hv
    go_wp2_with (at_builtin;refine zdz rfl (.tmp 35) (.tmp 39) 25 rfl w.heap.size 47 _ 6 112 Tryz.underlying25 Tryz.infoP48 rfl (by decide) w4 v5 acc.length (za0 acc) s.ds rfl HO4.out _ _ rfl rfl rfl (w2.heap.size<=·) HX4.out ?_ (by omega) (by decide) (by omega) ?_)
    . intro b _ hb
      exact ⟨by omega,fun h=>by have:=HL.out b h;omega⟩
    . intro g5 c5' w5 HO5 HB5 hz5
      have HO5':=hid HO5;have HR5:=hid (HR4.out.belowOf HB5 hRw (by have:=HY.out.low;omega));have HK5:=hid (HK4.out.belowOf HB5);have hR5:=HR5.out.lt;obtain ⟨aU,capU,hU⟩:=HR5.out
      have hc5:w5.cell? ⟨R,0,none⟩=some (.slice aU l4.length capU):=by rw [Lib.cell_of_heap hU.blk];rfl
      clear hU HO5 HB5 HO4 HR4 HK4 HX4 HL
      by_cases hle:l4.length=l'.length
      . have HG4:=hid (HG3.out.trans (if_pos hle))
        have hlb:((l4.length:Int) == (l'.length:Int))=true:=by simp [hle]
        have HA5:=hid HO5'.out.slice;clear HG3 hle;go_wp2_with fail;go_ret;exact ⟨HK5.out,_,rfl,by rw [HG4.out];simp only [zwj,zed,zio,List.length_append,List.length_singleton];exact HA5.out,by rw [HG4.out];exact HR5.out⟩
      . have HG4:=hid (HG3.out.trans (if_neg hle))
        have hlb:((l4.length:Int) == (l'.length:Int))=false:=by simp;omega
        clear HG3 hle;go_wp2_with fail;go_roundw
        case rel=>exact ⟨j,acc++[s],l4,by have:=HJ.out;simp;omega,HG4.out,by rw [zed,zio,List.length_append];exact HO5'.out,HR5.out,HK5.out⟩
        case measure=>have:=HJ.out;simp [z0x];omega
theorem zn4 (R B:Nat):∀ k,k<=7->BlE R B k
 | 0,_=>zsk R B
 | k+1,h=>zmm R B k (by omega) (zn4 R B k (by omega))
theorem zi5 (R B:Nat) (l:List Tk) (w:World) (h:Ez R B w l):Calls Tryz.prog 55 #[.pointer (some ⟨R,0,none⟩),.int .i64 1] w (zcd R B w (eBlock 6 l) (zwj (w.heap.size<=·))):=
 zn4 R B 6 (by omega) l w 1 (by omega) h
end Go.Proofs.YtcekpobmbmnplaaGreatDoor
