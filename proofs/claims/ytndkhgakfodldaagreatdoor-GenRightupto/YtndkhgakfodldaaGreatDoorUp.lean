/-
  Package scope: a procedure is resolved.
-/
import Derived.Test.YtndkhgakfodldaaGreatDoorUn
import Derived.Test.YtndkhgakfodldaaGreatDoorUi
namespace Go.Proofs.YtndkhgakfodldaaGreatDoor
set_option maxRecDepth 100000
set_option maxHeartbeats 8000000
open Go.RowKit Go.Maps Go.WideMaps
set_option linter.unusedSimpArgs false
def Pr.own (p:Pr):List ByteArray:=p.params++p.locals
def partM (K:Kn) (p:Pr):Except Int Pt:=if Fx.dupB (Fx.lists p.own) then .error 6 else bindE (rsSs K (locL p.own) p.body) fun b=>.ok ⟨p.params.length,p.locals.length,b⟩
def partEnd (lo:Nat) (r:Except Int Pt) (e:Ending) (w:World):Prop:=
 match r with
 | .error c=>∃ x y a k cp,e = .returned (.tuple #[.agg #[.int .i64 x,.int .i64 y,.slice a k cp],.int .i64 c])/\c≠0
 | .ok t=>∃ a cp,e = .returned (.tuple #[.agg #[.int .i64 t.params,.int .i64 t.locals,.slice a t.body.length cp],.int .i64 0])/\EAt w (lo<=·) a t.body.length (acsD t.body)
theorem isTwice_strV {w:World} {B n:Nat} {v:Value} {l:List ByteArray} (hn:n=l.length) (h:w.ownsRow B 9 1 v n (strV l)) (hl:l.length<=1000000) (hf:∀ s ∈ l,s.size<=maxLen) :
 Calls Tryz.prog 59 #[v] w fun e w'=>e = .returned (.bool (Fx.dupB (Fx.lists l)))/\Below w.heap.size w w':=by
 subst hn;obtain ⟨a,c,rfl,hS⟩:=strV_own h;exact Fx.isTwice_any a c _ w hS hl hf
theorem cell_new (W:World) (cs:Array Value) (t:TypeId) (n i:Nat) (v:Value) (hn:n=W.heap.size) (hv:cs[i]? = some v):(W.alloc (.cells cs t)).cell? ⟨n,i,none⟩=some v:=by
 subst hn;rw [Lib.cell_of_heap (heap_newP _ _)];exact hv
theorem bset3 {B b:Nat} {a w:World} (h:Below B a w) (hb:B<=b) (v0 v1 v2:Value):Below B a (((w.setCell ⟨b,0,none⟩ v0).setCell ⟨b,1,none⟩ v1).setCell ⟨b,2,none⟩ v2):=
 ((h.setCell (p:=⟨b,0,none⟩) hb _).setCell (p:=⟨b,1,none⟩) hb _).setCell (p:=⟨b,2,none⟩) hb _
theorem Moves.set3 {w w1:World} {A A':Nat->Prop} {b:Nat} (h:Moves w A w1 A') (hp:∀ k,k<w.heap.size->A k->k≠b) (v0 v1 v2:Value):Moves w A (((w1.setCell ⟨b,0,none⟩ v0).setCell ⟨b,1,none⟩ v1).setCell ⟨b,2,none⟩ v2) A':=
 ((h.set (p:=⟨b,0,none⟩) hp v0).set (p:=⟨b,1,none⟩) hp v1).set (p:=⟨b,2,none⟩) hp v2
theorem cellsOf3 {w:World} {b:Nat} {x0 x1 x2:Value} {t:TypeId} (h:w.heap[b]? = some (.cells #[x0,x1,x2] t (0,0))) :
 w.cell? ⟨b,0,none⟩=some x0/\w.cell? ⟨b,1,none⟩=some x1/\w.cell? ⟨b,2,none⟩=some x2/\∀ i,w.frozen? ⟨b,i,none⟩=false:=by
 refine ⟨?_,?_,?_,fun i=>Lib.frozen_of_heap h i⟩<;>(rw [Lib.cell_of_heap h];rfl)
theorem Keeps.below {R B:Nat} {w0 w w':World} (h:Below B w0 w) (hk:Keeps R w w') (hR:B<=R) (hB:B<=w.heap.size):Below B w0 w':=
 h.trans ⟨hk.os,hk.tape,hk.output,hk.size,fun k h1=>hk.block k (by omega) (by omega)⟩
theorem part_any (K:Kn) (kb:Nat) (p:Pr) (q1:Option Addr) (d1:Nat) (q2:Option Addr) (d2:Nat) (q3:Option Addr) (d3:Nat) (w:World) (hK:KnAt w (.map (some kb)) K) (h1:DAt w Tt q1 p.params.length (strsD p.params)) (h2:DAt w Tt q2 p.locals.length (strsD p.locals)) (h3:DAt w Tt q3 p.body.length (stsD p.body)) (hp3:p.params.length<=3) (hl4:p.locals.length<=4) (hmany:stMany 6 p.body=false) :
 Calls Tryz.prog 120 #[.agg #[.map (some kb)],.agg #[.string p.name,.bool p.pub,.slice q1 p.params.length d1,.slice q2 p.locals.length d2,.slice q3 p.body.length d3]] w fun e w'=>partEnd w.heap.size (partM K p) e w'/\Below w.heap.size w w':=by
 have HK:=hid hK;have HD3:=hid h3;have HAc:=hid (acts_any 6 p.body hmany)
 have hs:∀ s ∈ p.own,s.size<=maxLen:=fun s hs=>(List.mem_append.1 hs).elim ((strs_at h1).2 s) ((strs_at h2).2 s)
 have hol:p.own.length=p.params.length+p.locals.length:=by unfold Pr.own;rw [List.length_append]
 have HS:=hid hs;have HOl:=hid hol;have hB4:Below w.heap.size w ((((w.alloc (.cells #[.map (some kb)] 189)).alloc (.cells #[.string p.name,.bool p.pub,.slice q1 p.params.length d1,.slice q2 p.locals.length d2,.slice q3 p.body.length d3] 118)).alloc (.cells #[.int .i64 0,.int .i64 0,.slice none 0 0] 106)).alloc (.cells #[.slice q1 p.params.length d1,.slice q2 p.locals.length d2] 22)):=thenB (bl3 w _ _ _) (al1 _ _);have HC:=hid (concat_any p.params p.locals q1 d1 q2 d2 (w.heap.size+3) ((((w.alloc (.cells #[.map (some kb)] 189)).alloc (.cells #[.string p.name,.bool p.pub,.slice q1 p.params.length d1,.slice q2 p.locals.length d2,.slice q3 p.body.length d3] 118)).alloc (.cells #[.int .i64 0,.int .i64 0,.slice none 0 0] 106)).alloc (.cells #[.slice q1 p.params.length d1,.slice q2 p.locals.length d2] 22)) (by simp) (cell_new _ _ _ _ 0 _ (by simp) rfl) (cell_new _ _ _ _ 1 _ (by simp) rfl) ((strs_at h1).1.later hB4) ((strs_at h2).1.later hB4) (by omega) (by omega))
 have HB4:=hid hB4;clear hK h1 h2 h3 hmany hs hol hB4
 obtain ⟨r,hr⟩:∃ r,r=partM K p:=⟨_,rfl⟩
 rw [← hr];have HR:=hid hr;clear hr;go_enter Tryz.func120,Tryz.ntmps120;go_wp2_with fail;refine HC.out.mono ?_;rintro e w1 ⟨v1,rfl,ho1,hb1⟩;have HB1:=hid (thenB HB4.out hb1);have hz1:=hb1.size;simp at hz1;obtain ⟨q0,qp,qr⟩:=kept3 (thenB (al1 _ _) hb1);have P0:=hid q0;have P1:=hid qp;have P2:=hid qr;obtain ⟨x0,x1,x2,x3,x4,xf⟩:=cellsOf5 qp;obtain ⟨r0,r1,r2,rf⟩:=cellsOf3 qr
 have k0:w1.cell? ⟨w.heap.size,0,none⟩=some (.map (some kb)):=by rw [Lib.cell_of_heap q0];rfl
 have HO1:Hid (w1.ownsRow ((((w.alloc (.cells #[.map (some kb)] 189)).alloc (.cells #[.string p.name,.bool p.pub,.slice q1 p.params.length d1,.slice q2 p.locals.length d2,.slice q3 p.body.length d3] 118)).alloc (.cells #[.int .i64 0,.int .i64 0,.slice none 0 0] 106)).alloc (.cells #[.slice q1 p.params.length d1,.slice q2 p.locals.length d2] 22)).heap.size 9 1 v1 (p.params.length+p.locals.length) (strV p.own)):=ho1;have HC2:=hid (isTwice_strV HOl.out.symm HO1.out (by rw [HOl.out];omega) HS.out);clear hb1 HC ho1 q0 qp qr
 cases hd:Fx.dupB (Fx.lists p.own) with
 | true=>
   have HR2:Hid (r = .error 6):=HR.out.trans (by unfold partM;rw [hd];rfl);rw [hd] at HC2;clear hd;go_wp2_with fail;refine HC2.out.mono ?_;rintro e w2 ⟨rfl,hb2⟩;have HB2:=hid (thenB HB1.out hb2);have q2':=(hb2.block _ (lt_of_heap P2.out)).trans P2.out;have hlt2:=lt_of_heap q2';clear r0 r1 r2 rf;obtain ⟨r0,r1,r2,rf⟩:=cellsOf3 q2';clear hb2 q2';go_wp2_with fail;refine bodyPost_ret (v:=.tuple #[.agg #[.int .i64 0,.int .i64 0,.slice none 0 0],.int .i64 6]) (by simp [results,Tryz.results120,go_sem,r0,r1,r2,hlt2]) rfl ⟨by rw [HR2.out];exact ⟨0,0,none,0,0,rfl,by decide⟩,?_⟩;exact bset3 HB2.out (by omega) _ _ _
 | false=>
   have HR2:Hid (r=bindE (rsSs K (locL p.own) p.body) fun b=>.ok ⟨p.params.length,p.locals.length,b⟩):=HR.out.trans (by unfold partM;rw [hd];rfl);rw [hd] at HC2;clear hd HR;go_wp2_with fail;refine HC2.out.mono ?_;rintro e w2 ⟨rfl,hb2⟩;have HB2:=hid (thenB HB1.out hb2);have hz2:=hb2.size;have P0':=hid ((hb2.block _ (lt_of_heap P0.out)).trans P0.out);have P1':=hid ((hb2.block _ (lt_of_heap P1.out)).trans P1.out);have P2':=hid ((hb2.block _ (lt_of_heap P2.out)).trans P2.out);have HO2:=hid (Fx.ownsRow_later HO1.out hb2);clear x0 x1 x2 x3 x4 xf r0 r1 r2 rf k0 HO1 HC2 P0 P1 P2
   have k0:w2.cell? ⟨w.heap.size,0,none⟩=some (.map (some kb)):=by rw [Lib.cell_of_heap P0'.out];rfl
   have hl0:=lt_of_heap P0'.out;have hl1:=lt_of_heap P1'.out;have hl2:=lt_of_heap P2'.out;obtain ⟨av,cv,rfl,hSt⟩:=strV_own (l:=p.own) (by rw [HOl.out];exact HO2.out);have HSt:=hid hSt;have hmm:=@run_makeMap Tryz.prog;have HLm0:=hid ((LmAt.made w2).later (al1 _ (.cells #[.map (some kb),.map (some w2.heap.size)] 195)));clear hb2 hSt HO2;rw [HOl.out];go_wp2_with fail
   go_loopw [8,9,26] (fun _ _ i wr=>∃ j:Nat,j<=p.params.length+p.locals.length/\i = .int .i64 j/\LmAt wr w2.heap.size j (locL (p.own.take j))/\Keeps w2.heap.size ((w2.alloc (.map #[] 0)).alloc (.cells #[.map (some kb),.map (some w2.heap.size)] 195)) wr) (fun _ _ i _=>p.params.length+p.locals.length - (intOf i).toNat)
   case atStart=>exact ⟨0,Nat.zero_le _,rfl,HLm0.out,Keeps.refl _ _⟩
   case round=>
    clear HLm0 hmm k0;obtain ⟨j,hj,rfl,hlm,hke⟩:=hrel;have HLm:=hid hlm;have HE:=hid hke;have hzr:=hke.size;simp at hzr;have b0:wr.heap[w2.heap.size+1]? = some (.cells #[.map (some kb),.map (some w2.heap.size)] 195):=(hke.block _ (by simp) (by omega)).trans (by simpa using heap_newP (w2.alloc (.map #[] 0)) (.cells #[.map (some kb),.map (some w2.heap.size)] 195));have HQb:=hid b0;obtain ⟨y0,y1,yf⟩:=cellsOf2 b0;have hyl:=lt_of_heap b0;clear hlm hke b0
    by_cases hlt0:j<p.params.length+p.locals.length
    . have hlt:j<p.own.length:=by rw [HOl.out];exact hlt0
      obtain ⟨b,off,rfl,hbl,c0⟩:=HSt.out.place hlt;have d0:=(HE.out.cell (off:=off+j) (by simp;omega) (by omega)).trans (((bl2 w2 (.map #[] 0) (.cells #[.map (some kb),.map (some w2.heap.size)] 195)).cell (p:=⟨b,off+j,none⟩) hbl).trans c0)
      have hblr:b<wr.heap.size:=by omega
      have hnm:=HS.out p.own[j] (List.getElem_mem _)
      have HSn:Hid (updL (locL (p.own.take j)) p.own[j] j=locL (p.own.take (j+1))):=by
       show _=locL (p.own.take (j+1));rw [List.take_succ_eq_append_getElem hlt,locL_snoc,List.length_take,Nat.min_eq_left (by omega)]
      generalize p.own[j]=s at *
      have hjj:j<=1000:=by have:=HOl.out;omega
      obtain ⟨w5,hrun,hL5,hg5⟩:=HLm.out.put (by unfold maxLen;omega) s hnm j (WalkArith.wf_i64 (by omega));rw [HSn.out] at hL5;have HL5:=hid hL5;have HE5:=hid (HE.out.grown hg5);clear hL5 hg5 c0 hnm;go_wp2_with fail;go_roundw
      case rel=>exact ⟨j+1,by omega,by go_num,HL5.out,HE5.out⟩
      case measure=>simp [intOf];omega
    . obtain rfl:j=p.params.length+p.locals.length:=by omega
      have HLf:Hid (LmAt wr w2.heap.size (p.params.length+p.locals.length) (locL p.own)):=by have:=HLm.out;rw [List.take_of_length_le (by rw [HOl.out];exact Nat.le_refl _)] at this;exact this
      have HBr:Hid (Below w.heap.size w wr):=Keeps.below (thenB HB2.out (bl2 _ _ _)) HE.out (by have:=HB2.out.size;omega) (by have:=HB2.out.size;simp;omega);have HKr:=hid (HK.out.later HBr.out);have HC5:=hid (HAc.out K (locL p.own) (.map (some kb)) (.map (some w2.heap.size)) Tt q3 d3 wr HKr.out HLf.out.names (HD3.out.later HBr.out));have e1:wr.heap[w.heap.size+1]? = some (.cells #[.string p.name,.bool p.pub,.slice q1 p.params.length d1,.slice q2 p.locals.length d2,.slice q3 p.body.length d3] 118):=(HE.out.block _ (by simp;omega) (by omega)).trans (heap_old (heap_old P1'.out));have e2:wr.heap[w.heap.size+2]? = some (.cells #[.int .i64 0,.int .i64 0,.slice none 0 0] 106):=(HE.out.block _ (by simp;omega) (by omega)).trans (heap_old (heap_old P2'.out));have HE1:=hid e1;have HE2:=hid e2;obtain ⟨x0,x1,x2,x3,x4,xf⟩:=cellsOf5 e1;have hle1:=lt_of_heap e1
      have hle2:=lt_of_heap e2;clear e1 e2;go_wp2_with fail;refine HC5.out.mono ?_;rintro e w6 ⟨hend,hb6⟩;have HB6:=hid (thenB HBr.out hb6);have hz6:=hb6.size;have f1:=(hb6.block _ hle1).trans HE1.out;have f2:=(hb6.block _ hle2).trans HE2.out;have hlf1:=lt_of_heap f1;have hlf2:=lt_of_heap f2;clear x0 x1 x2 x3 x4 xf y0 y1 yf;obtain ⟨x0,x1,x2,x3,x4,xf⟩:=cellsOf5 f1;obtain ⟨r0,r1,r2,rf⟩:=cellsOf3 f2;clear hb6 f1 f2
      cases hr:rsSs K (locL p.own) p.body with
      | error c=>
        rw [hr] at hend;obtain ⟨rfl,hne⟩:=hend;have HR3:Hid (r = .error c):=HR2.out.trans (by rw [hr];rfl);clear hr;go_wp2_with fail;refine bodyPost_ret (v:=.tuple #[.agg #[.int .i64 p.params.length,.int .i64 p.locals.length,.slice none 0 0],.int .i64 c]) (by simp [results,Tryz.results120,go_sem,r0,r1,r2,hlf2]) rfl ⟨by rw [HR3.out];exact ⟨_,_,_,_,_,rfl,hne⟩,?_⟩;exact bset3 HB6.out (by omega) _ _ _
      | ok bd=>
        rw [hr] at hend;obtain ⟨ab,cb,rfl,heb⟩:=hend;have HR3:Hid (r = .ok ⟨p.params.length,p.locals.length,bd⟩):=HR2.out.trans (by rw [hr];rfl);have HEb:=hid heb;clear hr heb;go_wp2_with fail;refine bodyPost_ret (v:=.tuple #[.agg #[.int .i64 p.params.length,.int .i64 p.locals.length,.slice ab bd.length cb],.int .i64 0]) (by simp [results,Tryz.results120,go_sem,r0,r1,r2,hlf2]) rfl ⟨by rw [HR3.out];exact ⟨ab,cb,rfl,(HEb.out.moves ((Moves.refl w6 _).set3 (by intro k _ hk;have:wr.heap.size<=k:=hk;omega) _ _ _)).moves ⟨Nat.le_refl _,fun b _ h=>⟨by have:wr.heap.size<=b:=h;show w.heap.size<=b;omega,rfl⟩⟩⟩,bset3 HB6.out (by omega) _ _ _⟩
end Go.Proofs.YtndkhgakfodldaaGreatDoor

namespace Go.Proofs.YtndkhgakfodldaaGreatDoor
open Go.RowKit Go.Maps Go.WideMaps
set_option linter.unusedSimpArgs false
abbrev Fc:=Fx.Fc
def fcD (f:Fc):List D:=[.str f.name,.list f.items.length (itsD f.items)]
def fcsD (l:List Fc):List D:=l.flatMap fcD
def ownK (m:Mo):Kn:=declK (fun _ _=>none) ⟨#[]⟩ 0 (layItems m)
def facesK (K:Kn) (l:List Fc):Kn:=l.zipIdx.foldl (fun K p=>declK K p.1.name ((p.2:Int)+1) p.1.items) K
theorem facesK_snoc (K:Kn) (l:List Fc) (f:Fc):facesK K (l++[f])=declK (facesK K l) f.name ((l.length:Int)+1) f.items:=by
 unfold facesK;rw [List.zipIdx_append,List.foldl_append];simp
def knownK (m:Mo) (l:List Fc):Kn:=facesK (ownK m) l
def partsM (K:Kn):List Pr->Except Int (List Pt)
 | []=>.ok []
 | p :: r=>bindE (partM K p) fun t=>bindE (partsM K r) fun l=>.ok (t :: l)
def unitM (m:Mo) (l:List Fc):Except Int Un:=bindE (partsM (knownK m l) m.procs) fun ps=>bindE (rsSs (knownK m l) (fun _=>none) m.main) fun b=>.ok ⟨m.name,m.uses,layData m,ps,b⟩
theorem partsM_app (K:Kn):∀ (a b:List Pr) (acc:List Pt),partsM K a = .ok acc->partsM K (a++b)=bindE (partsM K b) fun l=>.ok (acc++l)
 | [],b,acc,h=>by
   obtain rfl:=Except.ok.inj h;show partsM K b=_;exact (bindE_ok _).symm
 | x :: a,b,acc,h=>by
   rw [partsM] at h;show partsM K (x :: (a++b))=_;rw [partsM]
   cases hx:partM K x with
   | error e=>rw [hx] at h;cases h
   | ok y=>
     rw [hx] at h;simp only [bindE] at h ⊢
     cases ha:partsM K a with
     | error e=>rw [ha] at h;cases h
     | ok l=>
       rw [ha] at h;obtain rfl:=Except.ok.inj h;rw [partsM_app K a b l ha]
       cases partsM K b<;>rfl
theorem partsM_err {K:Kn} {l:List Pr} {j:Nat} {acc:List Pt} {e:Int} (h:j<l.length) (ha:partsM K (l.take j) = .ok acc) (he:partM K l[j] = .error e):partsM K l = .error e:=by
 rw [split_at l j h,partsM_app K _ _ acc ha,partsM,he];rfl
theorem partsM_snoc {K:Kn} {l:List Pr} {j:Nat} {acc:List Pt} {y:Pt} (h:j<l.length) (ha:partsM K (l.take j) = .ok acc) (he:partM K l[j] = .ok y):partsM K (l.take (j+1)) = .ok (acc++[y]):=by
 rw [List.take_succ_eq_append_getElem h,partsM_app K _ _ acc ha,partsM,he];rfl
theorem unit_parts {m:Mo} {l:List Fc} {c:Int} (h:partsM (knownK m l) m.procs = .error c):unitM m l = .error c:=by unfold unitM;rw [h];rfl
theorem unit_main {m:Mo} {l:List Fc} {c:Int} {ps:List Pt} (h:partsM (knownK m l) m.procs = .ok ps) (h2:rsSs (knownK m l) (fun _=>none) m.main = .error c):unitM m l = .error c:=by unfold unitM;rw [h,h2];rfl
theorem unit_ok {m:Mo} {l:List Fc} {ps:List Pt} {b:List Ac} (h:partsM (knownK m l) m.procs = .ok ps) (h2:rsSs (knownK m l) (fun _=>none) m.main = .ok b):unitM m l = .ok ⟨m.name,m.uses,layData m,ps,b⟩:=by unfold unitM;rw [h,h2];rfl
def unitEnd (lo:Nat) (r:Except Int Un) (e:Ending) (w:World):Prop:=
 match r with
 | .error c=>e = .returned (.tuple #[.agg #[.string ⟨#[]⟩,.slice none 0 0,.int .i64 0,.slice none 0 0,.slice none 0 0],.int .i64 c])/\c≠0
 | .ok u=>∃ x1 y1 x2 y2 x3 y3,e = .returned (.tuple #[.agg #[.string u.name,.slice x1 u.uses.length y1,.int .i64 u.data,.slice x2 u.parts.length y2,.slice x3 u.main.length y3],.int .i64 0])/\
   EAt w (lo<=·) x1 u.uses.length (strsD u.uses)/\EAt w (lo<=·) x2 u.parts.length (ptsD u.parts)/\EAt w (lo<=·) x3 u.main.length (acsD u.main)
theorem DAt.fc {w:World} {A:Nat->Prop} {a:Option Addr} {l:List Fc} (h:DAt w A a l.length (fcsD l)) (i:Nat) (hi:i<l.length):∃ b off ai ci,a=some ⟨b,off,none⟩/\b<w.heap.size/\w.cell? ⟨b,off+i*2,none⟩=some (.string l[i].name)/\w.cell? ⟨b,off+i*2+1,none⟩=some (.slice ai l[i].items.length ci)/\l[i].name.size<=maxLen/\DAt w A ai l[i].items.length (itsD l[i].items):=by
 obtain ⟨b,off,ha,hb,hc⟩:=h.cell (by omega);generalize hx:l[i]=x;obtain ⟨name,items⟩:=x
 have g:∀ j d,j<2->(fcD ⟨name,items⟩)[j]? = some d->∃ v,w.cell? ⟨b,off+i*2+j,none⟩=some v/\DVal w A d v:=fun j d hj hd=>by
  rw [Nat.add_assoc];exact hc (i*2+j) d ((flat_get fcD 2 (fun _=>rfl) l i hi j hj).trans (by rw [hx];exact hd))
 obtain ⟨v0,k0,d0⟩:=g 0 (.str name) (by omega) rfl;obtain ⟨v1,k1,d1⟩:=g 1 (.list items.length (itsD items)) (by omega) rfl;obtain ⟨rfl,w0⟩:=dstr_of d0;obtain ⟨ai,ci,rfl,h1⟩:=dlist_of d1;exact ⟨b,off,ai,ci,ha,hb,k0,k1,w0,h1⟩
theorem items_atD {w:World} {A:Nat->Prop} {a:Option Addr} {l:List It} (h:DAt w A a l.length (itsD l)):Fx.ItemsAt w a l/\Fx.AllFit l:=by
 rcases h.2.2 with h | ⟨b,off,cs,ha,_,hb,hc,hx⟩
 . have:l=[]:=List.eq_nil_of_length_eq_zero h
   subst this;exact ⟨Or.inl rfl,fun i hi=>by cases hi⟩
 . have g:∀ i (hi:i<l.length) j d,j<4->(itD l[i])[j]? = some d->∃ v,w.cell? ⟨b,off+i*4+j,none⟩=some v/\DVal w A d v:=fun i hi j d hj hd=>by
    obtain ⟨v,hv,hd'⟩:=hx.get (i*4+j) d ((flat_get itD 4 (fun _=>rfl) l i hi j hj).trans hd);exact ⟨v,by rw [Nat.add_assoc];exact hc _ v hv,hd'⟩
   refine ⟨Or.inr ⟨b,off,ha,hb,fun i hi=>?_,fun i hi=>?_,fun i hi=>?_,fun i hi=>?_⟩,fun x hx'=>?_⟩
   . obtain ⟨v,hv,hd⟩:=g i hi 0 (.int l[i].kind) (by omega) rfl
     rw [(dnum_of hd).1] at hv;exact hv
   . obtain ⟨v,hv,hd⟩:=g i hi 1 (.int l[i].n) (by omega) rfl
     rw [(dnum_of hd).1] at hv;exact hv
   . obtain ⟨v,hv,hd⟩:=g i hi 2 (.int l[i].at_) (by omega) rfl
     rw [(dnum_of hd).1] at hv;exact hv
   . obtain ⟨v,hv,hd⟩:=g i hi 3 (.str l[i].name) (by omega) rfl
     rw [(dstr_of hd).1] at hv;exact hv
   . obtain ⟨i,hi,rfl⟩:=List.getElem_of_mem hx'
     obtain ⟨v,hv,hd⟩:=g i hi 3 (.str l[i].name) (by omega) rfl;exact (dstr_of hd).2
theorem items_block {w:World} {a:Option Addr} {l:List It} (h:Fx.ItemsAt w a l) {R:Nat} (hR:w.heap.size<=R):∀ b' off,l≠[]->a=some ⟨b',off,none⟩->b'≠R:=by
 intro b' off hl e
 rcases h with h | ⟨b,o,e2,h⟩
 . exact absurd h hl
 . rw [e] at e2
   have:=Option.some.inj e2
   injection this with e3 _
   have:=h.lt;omega
theorem Keeps.items {R:Nat} {w w':World} {a:Option Addr} {l:List It} (h:Fx.ItemsAt w a l) (hk:Keeps R w w') (hR:∀ b' off,l≠[]->a=some ⟨b',off,none⟩->b'≠R):Fx.ItemsAt w' a l:=by
 rcases h with h | ⟨b,o,e,h⟩
 . exact Or.inl h
 . by_cases hl:l=[]
   . exact Or.inl hl
   . have hne:=hR b o hl e
     exact Or.inr ⟨b,o,e,Nat.lt_of_lt_of_le h.lt hk.size,fun i hi=>(hk.cell h.lt hne).trans (h.kind i hi),fun i hi=>(hk.cell h.lt hne).trans (h.num i hi),fun i hi=>(hk.cell h.lt hne).trans (h.at_ i hi),fun i hi=>(hk.cell h.lt hne).trans (h.name i hi)⟩
end Go.Proofs.YtndkhgakfodldaaGreatDoor
