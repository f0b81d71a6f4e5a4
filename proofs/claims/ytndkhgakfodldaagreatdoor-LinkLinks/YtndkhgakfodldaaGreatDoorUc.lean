import Derived.Test.YtndkhgakfodldaaGreatDoorUb
import Derived.Test.YtndkhgakfodldaaGreatDoorPa
namespace Go.Proofs.YtndkhgakfodldaaGreatDoor
set_option maxRecDepth 100000
set_option maxHeartbeats 1600000
open Go.RowKit Go.Maps Go.WideMaps
set_option linter.unusedSimpArgs false
theorem bl2 (w:World) (o p:Obj):qb w ((w.alloc o).alloc p):=thenB (al1 w o) (al1 _ p)
theorem bl3 (w:World) (o p q:Obj):qb w (((w.alloc o).alloc p).alloc q):=thenB (bl2 w o p) (al1 _ q)
theorem z0n (kv lv:Value) (g:Mg) (c:Int) (bl em:Bool) (mod name:ByteArray) (ks:List Int) (b cap:Nat) (w:World) (PM:mod.toList.isEmpty=em) (FR:(bl&&em)=false)
 (h1:(Instr.lookup 187 kv (.agg #[.string mod,.string name]) true).run Tryz.prog ((w.alloc (.cells #[kv,lv] 195)).alloc (kzJ 0 0 0 0)) = .ok (.tuple #[.agg #[qi g.kind,qi g.n,qi g.m,qi g.at_],.bool false]) ((w.alloc (.cells #[kv,lv] 195)).alloc (kzJ 0 0 0 0)))
 (h2:(Instr.lookup 185 lv (.string name) true).run Tryz.prog (((w.alloc (.cells #[kv,lv] 195)).alloc (kzJ 0 0 0 0)).alloc (kzJ g.kind g.n g.m g.at_)) = .ok (.tuple #[qi c,.bool bl]) (((w.alloc (.cells #[kv,lv] 195)).alloc (kzJ 0 0 0 0)).alloc (kzJ g.kind g.n g.m g.at_))) :
 qc 256 #[.agg #[kv,lv],.string mod,.string name,.slice (some (qa b 0)) ks.length cap] w fun e w'=>e = .returned (.tuple #[mg0.val,qi 5])/\qb w w':=by
 have HB:=hid (fun o p q=>bl3 w o p q)
 cases bl with
 | false=>
   exact iz
 | true=>
   cases em with
   | true=>cases FR
   | false=>
     exact iz
theorem zvr (kv lv:Value) (g:Mg) (c:Int) (bl em:Bool) (mod name:ByteArray) (ks:List Int) (b cap:Nat) (w:World) (hI:zis w b ks) (hl:ks.length<=1000) (r:Mg × Int) (hr:r=if ks.contains g.kind then (g,0) else (mg0,7)) (PM:mod.toList.isEmpty=em) (FR:(bl&&em)=false)
 (h1:(Instr.lookup 187 kv (.agg #[.string mod,.string name]) true).run Tryz.prog ((w.alloc (.cells #[kv,lv] 195)).alloc (kzJ 0 0 0 0)) = .ok (.tuple #[.agg #[qi g.kind,qi g.n,qi g.m,qi g.at_],.bool true]) ((w.alloc (.cells #[kv,lv] 195)).alloc (kzJ 0 0 0 0)))
 (h2:(Instr.lookup 185 lv (.string name) true).run Tryz.prog (((w.alloc (.cells #[kv,lv] 195)).alloc (kzJ 0 0 0 0)).alloc (kzJ g.kind g.n g.m g.at_)) = .ok (.tuple #[qi c,.bool bl]) (((w.alloc (.cells #[kv,lv] 195)).alloc (kzJ 0 0 0 0)).alloc (kzJ g.kind g.n g.m g.at_))) :
 qc 256 #[.agg #[kv,lv],.string mod,.string name,.slice (some (qa b 0)) ks.length cap] w fun e w'=>e = .returned (.tuple #[r.1.val,qi r.2])/\qb w w':=by
 have HB:=hid (fun o p q=>bl3 w o p q);have HI:=hid hI;have HQ:=hid hr;clear hI hr
 cases bl with
 | false=>
   exact fO
 | true=>
   cases em with
   | true=>cases FR
   | false=>
     exact fO
theorem zxb (kv lv:Value) (g:Mg) (c:Int) (bk:Bool) (mod name:ByteArray) (ks:List Int) (b cap:Nat) (w:World) (hI:zis w b ks) (hl:ks.length<=1000) (r:Mg × Int) (hr:r=if ks.contains 0 then (⟨0,0,0,c⟩,0) else (mg0,7)) (PM:mod.toList.isEmpty=true)
 (h1:(Instr.lookup 187 kv (.agg #[.string mod,.string name]) true).run Tryz.prog ((w.alloc (.cells #[kv,lv] 195)).alloc (kzJ 0 0 0 0)) = .ok (.tuple #[.agg #[qi g.kind,qi g.n,qi g.m,qi g.at_],.bool bk]) ((w.alloc (.cells #[kv,lv] 195)).alloc (kzJ 0 0 0 0)))
 (h2:(Instr.lookup 185 lv (.string name) true).run Tryz.prog (((w.alloc (.cells #[kv,lv] 195)).alloc (kzJ 0 0 0 0)).alloc (kzJ g.kind g.n g.m g.at_)) = .ok (.tuple #[qi c,.bool true]) (((w.alloc (.cells #[kv,lv] 195)).alloc (kzJ 0 0 0 0)).alloc (kzJ g.kind g.n g.m g.at_))) :
 qc 256 #[.agg #[kv,lv],.string mod,.string name,.slice (some (qa b 0)) ks.length cap] w fun e w'=>e = .returned (.tuple #[r.1.val,qi r.2])/\qb w w':=by
 have HB:=hid (fun o p q=>bl3 w o p q);have HI:=hid hI;have HQ:=hid hr;clear hI hr;go_enter Tryz.func256,Tryz.ntmps256;go_wp2_with fail;refine (zf5 ks 0 b cap _ (HI.out.later (HB.out _ _ _)) hl).mono ?_;rintro e w' ⟨rfl,rfl⟩
 cases hc:ks.contains 0 with
 | false=>
   have HR:Hid (r=(mg0,7)):=HQ.out.trans fe;clear hc;go_wp2_with fail;refine bodyPost_ret (v:=.tuple #[mg0.val,qi 7]) aX rfl ⟨eZ,HB.out _ _ _⟩
 | true=>
   have HR:Hid (r=(⟨0,0,0,c⟩,0)):=HQ.out.trans fe;clear hc;go_wp2_with fail;refine bodyPost_ret (v:=.tuple #[.agg #[qi 0,qi 0,qi 0,qi c],qi 0]) aX rfl ⟨bO,HB.out _ _ _⟩
theorem z3q (K:Kn) (L:Lc) (kv lv:Value) (mod name:ByteArray) (ks:List Int) (b cap:Nat) (w:World) (hK:zm5 w kv K) (hL:zn9 w lv L) (hm:mod.size<=maxLen) (hn:name.size<=maxLen) (hI:zis w b ks) (hl:ks.length<=1000) :
 qc 256 #[.agg #[kv,lv],.string mod,.string name,.slice (some (qa b 0)) ks.length cap] w fun e w'=>e = .returned (.tuple #[(findM K L mod name ks).1.val,qi (findM K L mod name ks).2])/\qb w w':=by
 have h1:=hK ((w.alloc (.cells #[kv,lv] 195)).alloc (kzJ 0 0 0 0)) (bl2 _ _ _) mod name hm hn;generalize hg:(K mod name).getD mg0=g at h1;have h2:=hL (((w.alloc (.cells #[kv,lv] 195)).alloc (kzJ 0 0 0 0)).alloc (kzJ g.kind g.n g.m g.at_)) (bl3 _ _ _ _) name hn;have he:=zjg mod;unfold findM z8r
 cases FW:L name with
 | some c=>
   rw [FW] at h2
   by_cases hz:mod.size=0
   . rw [if_pos hz]
     rw [decide_eq_true hz] at he;exact zxb kv lv g c _ mod name ks b cap w hI hl _ rfl he h1 h2
   . rw [if_neg hz]
     rw [decide_eq_false hz] at he
     cases hk:K mod name with
     | none=>rw [hk] at h1;exact z0n kv lv g c true false mod name ks b cap w he rfl h1 h2
     | some x=>
       rw [hk] at h1 hg;obtain rfl:x=g:=hg;exact zvr kv lv x c true false mod name ks b cap w hI hl _ rfl he rfl h1 h2
 | none=>
   rw [FW] at h2
   have e:(if mod.size=0 then (match (none:Option Int) with | some a=>some (⟨0,0,0,a⟩:Mg) | none=>K mod name) else K mod name)=K mod name:=by split<;>rfl
   simp only [ite_self]
   cases hk:K mod name with
   | none=>rw [hk] at h1;exact z0n kv lv g 0 false _ mod name ks b cap w he rfl h1 h2
   | some x=>
     rw [hk] at h1 hg;obtain rfl:x=g:=hg;exact zvr kv lv x 0 false _ mod name ks b cap w hI hl _ rfl he rfl h1 h2
theorem z3r (w:World) (l:List Int) (t:TypeId) (b:Nat) (hb:b=w.heap.size):zis (w.alloc (.cells (l.map (Value.int .i64)).toArray t)) b l:=by
 subst hb;refine ⟨aA,fun j hj=>?_⟩;rw [vep (heap_newP w _)];simp [hj]
theorem zdv {B b:Nat} {a w:World} (h:Below B a w) (hb:B<=b) (v0 v1 v2 v3:Value):Below B a ((((w.setCell (qa b 0) v0).setCell (qa b 1) v1).setCell (qa b 2) v2).setCell (qa b 3) v3):=
 (((h.setCell (p:=(qa b 0)) hb _).setCell (p:=(qa b 1)) hb _).setCell (p:=(qa b 2)) hb _).setCell (p:=(qa b 3)) hb _
theorem zit (K:Kn) (L:Lc) (kv lv:Value) (mod name:ByteArray) (ks:List Int) (t:TypeId) (b cap:Nat) (w:World) (hb:b=w.heap.size) (hK:zm5 w kv K) (hL:zn9 w lv L) (hm:mod.size<=maxLen) (hn:name.size<=maxLen) (hl:ks.length<=1000) :
 qc 256 #[.agg #[kv,lv],.string mod,.string name,.slice (some (qa b 0)) ks.length cap] (w.alloc (.cells (ks.map (Value.int .i64)).toArray t)) fun e w'=>e = .returned (.tuple #[(findM K L mod name ks).1.val,qi (findM K L mod name ks).2])/\qb w w':=
 (z3q K L kv lv mod name ks b cap _ (hK.later (al1 _ _)) (hL.later (al1 _ _)) hm hn (z3r w ks t b hb) hl).mono fun _ _ h=>⟨h.1,thenB (al1 _ _) h.2⟩
theorem zl0 (K:Kn) (L:Lc) (kv lv:Value) (mod name:ByteArray) (Bn:Int) (w:World) (hK:zm5 w kv K) (hL:zn9 w lv L) (hm:mod.size<=maxLen) (hn:name.size<=maxLen) :
 qc 257 #[.agg #[kv,lv],.string mod,.string name,qi Bn] w fun e w'=>e = .returned (.tuple #[(zje K L mod name Bn).1.val,qi (zje K L mod name Bn).2])/\qb w w':=by
 have HC:=hid (zit K L kv lv mod name [4] 3 (w.heap.size+2) 1 ((w.alloc (.cells #[kv,lv] 195)).alloc (kzJ 0 0 0 0)) aA (hK.later (bl2 _ _ _)) (hL.later (bl2 _ _ _)) hm hn aq);have HB:=hid (fun o p=>bl2 w o p)
 have hR:∀ x,zje K L mod name Bn=x->Hid (zje K L mod name Bn=x):=fun x h=>h
 unfold zje at hR ⊢;clear hK hL hm hn;generalize findM K L mod name [4]=r at *;obtain ⟨⟨kd,n,m,at_⟩,er⟩:=r;simp only [Mg.val] at HC hR;generalize hq:(if er=0/\n≠Bn then (mg0,(8:Int)) else (({ kind:=kd,n:=n,m:=m,at_:=at_ }:Mg),er))=q at *;have HQ:=hid hq;clear hq hR;go_enter Tryz.func257,Tryz.ntmps257;go_wp2_with fail;refine HC.out.mono ?_;rintro e w1 ⟨rfl,A6⟩;have A8:=hid (thenB (HB.out _ _) A6);have Ao:=A6.size;simp at Ao;have KY:Hid (w1.heap[w.heap.size+1]? = some (kzJ 0 0 0 0)):=(A6.block (w.heap.size+1) aA).trans (by have:=heap_newP (w.alloc (.cells #[kv,lv] 195)) (kzJ 0 0 0 0);simpa using this);obtain ⟨h0,h1,h2,h3,h4⟩:=zco KY.out
 have A0:w.heap.size+1<w1.heap.size:=ae
 clear A6 HC
 by_cases he:er=0
 . by_cases hn:n=Bn
   . have HR:Hid (q=(⟨kd,n,m,at_⟩,0)):=HQ.out.symm.trans (by rw [if_neg (by simp [hn]),he])
     subst he hn;clear HQ;go_wp2_with fail;refine bodyPost_ret (v:=.tuple #[.agg #[qi kd,qi n,qi m,qi at_],qi 0]) (by simp [results,Tryz.results257,go_sem,h0,h1,h2,h3,A0]) rfl ⟨bO,?_⟩
     exact gT
   . have HR:Hid (q=(mg0,8)):=HQ.out.symm.trans (by rw [if_pos ⟨he,hn⟩])
     subst he;clear HQ;go_wp2_with fail;refine bodyPost_ret (v:=.tuple #[mg0.val,qi 8]) (by simp [results,Tryz.results257,go_sem,Mg.val,mg0,h0,h1,h2,h3,A0]) rfl ⟨eZ,?_⟩
     exact gT
 . have HR:Hid (q=(⟨kd,n,m,at_⟩,er)):=HQ.out.symm.trans (by rw [if_neg (by simp [he])])
   clear HQ;go_wp2_with fail;refine bodyPost_ret (v:=.tuple #[.agg #[qi kd,qi n,qi m,qi at_],qi er]) (by simp [results,Tryz.results257,go_sem,h0,h1,h2,h3,A0]) rfl ⟨bO,?_⟩
   exact gT
def Al.node (a:Al):Value:=.agg #[qi a.op,qi a.n,qi a.m,qi a.at_,qs]
def Al.act (a:Al):Value:=.agg #[qi a.op,qi a.n,qi a.m,qi a.at_,qs,qs,qs]
theorem zd6 {B b:Nat} {a w:World} (h:Below B a w) (hb:B<=b) (v0 v1 v2 v3 v4:Value):Below B a (set5 w b v0 v1 v2 v3 v4):=
 (zdv h hb v0 v1 v2 v3).setCell (p:=(qa b 4)) hb _
theorem zpp {B b:Nat} {a w:World} (h:Below B a w) (hb:B<=b) (v0 v1 v2 v3 v4 v5 v6:Value):Below B a (((set5 w b v0 v1 v2 v3 v4).setCell (qa b 5) v5).setCell (qa b 6) v6):=
 ((zd6 h hb v0 v1 v2 v3 v4).setCell (p:=(qa b 5)) hb _).setCell (p:=(qa b 6)) hb _
theorem zd1 {w:World} {b:Nat} {x0 x1 x2 x3 x4 x5 x6:Value} {t:TypeId} (h:w.heap[b]? = some (.cells #[x0,x1,x2,x3,x4,x5,x6] t (0,0))) :
 w.cell? (qa b 0)=some x0/\w.cell? (qa b 1)=some x1/\w.cell? (qa b 2)=some x2/\w.cell? (qa b 3)=some x3/\w.cell? (qa b 4)=some x4/\w.cell? (qa b 5)=some x5/\w.cell? (qa b 6)=some x6/\∀ i,w.frozen? (qa b i)=false:=by
 refine ⟨?_,?_,?_,?_,?_,?_,?_,fun i=>veq h i⟩<;>(rw [vep h];rfl)
theorem zpq {w w1:World} {o p q:Obj} (h:Below (((w.alloc o).alloc p).alloc q).heap.size (((w.alloc o).alloc p).alloc q) w1):w1.heap[w.heap.size]? = some o/\w1.heap[w.heap.size+1]? = some p/\w1.heap[w.heap.size+2]? = some q:=by
 refine ⟨(h.block _ aF).trans (zab (zab (heap_newP w o))),(h.block _ aA).trans (zab eg),(h.block _ aA).trans (by simpa using heap_newP ((w.alloc o).alloc p) q)⟩
theorem z0o (K:Kn) (L:Lc) (kv lv:Value) (op n:Int) (mod name:ByteArray) (aa:OA) (k cap:Nat) (w:World) (hK:zm5 w kv K) (hL:zn9 w lv L) (hm:mod.size<=maxLen) (hn:name.size<=maxLen) :
 qc 288 #[.agg #[kv,lv],.agg #[qi op,qi n,.string mod,.string name,.slice aa k cap]] w fun e w'=>e = .returned (.tuple #[(z7u K L mod name).node,qi (z7u K L mod name).err])/\qb w w':=by
 have HC:=hid (zit K L kv lv mod name [0,1,2] 3 (w.heap.size+3) 3 (((w.alloc (.cells #[kv,lv] 195)).alloc (kzE op n mod name aa k cap)).alloc (kzF 0 0 0 0 none 0 0)) aA (hK.later (bl3 _ _ _ _)) (hL.later (bl3 _ _ _ _)) hm hn aq);have HB:=hid (fun o p q=>bl3 w o p q)
 obtain ⟨r,hq⟩:∃ r,r=z7u K L mod name:=⟨_,rfl⟩
 rw [← hq];unfold z7u at hq;clear hK hL hm hn;generalize findM K L mod name [0,1,2]=f at *;obtain ⟨⟨kd,fn,fm,fa⟩,er⟩:=f;simp only [Mg.val] at HC hq;have HQ:=hid hq;clear hq;go_enter Tryz.func288,Tryz.ntmps288;go_wp2_with fail;refine HC.out.mono ?_;rintro e w1 ⟨rfl,A6⟩;have A8:=hid (thenB (HB.out _ _ _) A6);have Ao:=A6.size;simp at Ao;obtain ⟨q0,q1,q2⟩:=zpq A6;obtain ⟨h0,h1,h2,h3,h4,h5⟩:=zaa q2
 have A0:w.heap.size+2<w1.heap.size:=ae
 clear A6 HC q0 q1 q2
 by_cases he:er=0
 . subst he
   by_cases KC:kd=1
   . have HR:Hid (r=⟨1,fn,0,0,0⟩):=HQ.out.trans (by rw [if_neg aA,if_pos KC])
     subst KC;clear HQ;go_wp2_with fail;refine bodyPost_ret (v:=.tuple #[.agg #[qi 1,qi fn,qi 0,qi 0,qs],qi 0]) bM rfl ⟨bO,?_⟩;exact hZ
   . by_cases NU:kd=2
     . have HR:Hid (r=⟨3,0,fm,fa,0⟩):=HQ.out.trans (by rw [if_neg aA,if_neg KC,if_pos NU])
       subst NU;clear HQ KC;go_wp2_with fail;refine bodyPost_ret (v:=.tuple #[.agg #[qi 3,qi 0,qi fm,qi fa,qs],qi 0]) bM rfl ⟨bO,?_⟩;exact hZ
     . have HR:Hid (r=⟨16,0,0,fa,0⟩):=HQ.out.trans (by rw [if_neg aA,if_neg KC,if_neg NU])
       clear HQ;go_wp2_with fail;refine bodyPost_ret (v:=.tuple #[.agg #[qi 16,qi 0,qi 0,qi fa,qs],qi 0]) bM rfl ⟨bO,?_⟩;exact hZ
 . have HR:Hid (r=⟨0,0,0,0,er⟩):=HQ.out.trans (by rw [if_pos he])
   clear HQ;go_wp2_with fail;refine bodyPost_ret (v:=.tuple #[.agg #[qi 0,qi 0,qi 0,qi 0,qs],qi er]) bM rfl ⟨bO,?_⟩;exact hZ
theorem ztr (K:Kn) (L:Lc) (kv lv:Value) (op n:Int) (mod name:ByteArray) (aa:OA) (k cap:Nat) (w:World) (hK:zm5 w kv K) (hL:zn9 w lv L) (hm:mod.size<=maxLen) (hn:name.size<=maxLen) (h3:op=3) (r:Al) (hr:r=z7u K L mod name) :
 qc 258 #[.agg #[kv,lv],.agg #[qi op,qi n,.string mod,.string name,.slice aa k cap]] w fun e w'=>e = .returned (.tuple #[r.node,qi r.err])/\qb w w':=by
 have HC:=hid (z0o K L kv lv op n mod name aa k cap (((w.alloc (.cells #[kv,lv] 195)).alloc (kzE op n mod name aa k cap)).alloc (kzF 0 0 0 0 none 0 0)) (hK.later (bl3 _ _ _ _)) (hL.later (bl3 _ _ _ _)) hm hn);have HB:=hid (fun o p q=>bl3 w o p q);clear hK hL hm hn;rw [← hr] at HC;clear hr;obtain ⟨ro,rn,rm,ra,re⟩:=r;simp only [Al.node] at HC ⊢;subst h3;go_enter Tryz.func258,Tryz.ntmps258;go_wp2_with fail;refine HC.out.mono ?_;rintro e w1 ⟨rfl,A6⟩;have A8:=hid (thenB (HB.out _ _ _) A6);have Ao:=A6.size;simp at Ao;obtain ⟨q0,q1,q2⟩:=zpq A6;obtain ⟨h0,h1,h2,h3,h4,h5⟩:=zaa q2
 have A0:w.heap.size+2<w1.heap.size:=ae
 clear A6 HC q0 q1 q2;have HR:Hid (True):=trivial;go_wp2_with fail;refine bodyPost_ret (v:=.tuple #[.agg #[qi ro,qi rn,qi rm,qi ra,qs],qi re]) b6 rfl ⟨rfl,?_⟩;exact zd6 A8.out ae _ _ _ _ _
theorem zts (K:Kn) (L:Lc) (kv lv:Value) (op n:Int) (mod name:ByteArray) (aa:OA) (k cap:Nat) (w:World) (hK:zm5 w kv K) (hL:zn9 w lv L) (hm:mod.size<=maxLen) (hn:name.size<=maxLen) (BC:op=4) (f:Mg × Int) (hf:f=findM K L mod name [3]) :
 qc 258 #[.agg #[kv,lv],.agg #[qi op,qi n,.string mod,.string name,.slice aa k cap]] w fun e w'=>e = .returned (.tuple #[.agg #[qi 4,qi f.1.n,qi f.1.m,qi f.1.at_,qs],qi f.2])/\qb w w':=by
 have HC:=hid (zit K L kv lv mod name [3] 3 (w.heap.size+3) 1 (((w.alloc (.cells #[kv,lv] 195)).alloc (kzE op n mod name aa k cap)).alloc (kzF 0 0 0 0 none 0 0)) aA (hK.later (bl3 _ _ _ _)) (hL.later (bl3 _ _ _ _)) hm hn aq);have HB:=hid (fun o p q=>bl3 w o p q);clear hK hL hm hn;rw [← hf] at HC;clear hf;obtain ⟨⟨kd,fn,fm,fa⟩,er⟩:=f;simp only [Mg.val] at HC ⊢;subst BC;go_enter Tryz.func258,Tryz.ntmps258;go_wp2_with fail;refine HC.out.mono ?_;rintro e w1 ⟨rfl,A6⟩;have A8:=hid (thenB (HB.out _ _ _) A6);have Ao:=A6.size;simp at Ao;obtain ⟨q0,q1,q2⟩:=zpq A6;obtain ⟨h0,h1,h2,h3,h4,h5⟩:=zaa q2
 have A0:w.heap.size+2<w1.heap.size:=ae
 obtain ⟨x0,x1,x2,x3,x4,x5⟩:=zaa q1
 have I7:w.heap.size+1<w1.heap.size:=ae
 clear A6 HC q0 q1 q2;go_wp2_with fail;refine bodyPost_ret (v:=.tuple #[.agg #[qi 4,qi fn,qi fm,qi fa,qs],qi er]) b6 rfl ⟨rfl,?_⟩;exact hZ
theorem ztt (K:Kn) (L:Lc) (kv lv:Value) (op n:Int) (mod name:ByteArray) (aa:OA) (k cap:Nat) (w:World) (hK:zm5 w kv K) (hL:zn9 w lv L) (hm:mod.size<=maxLen) (hn:name.size<=maxLen) (BC:op=5) (f:Mg × Int) (hf:f=zje K L mod name k) :
 qc 258 #[.agg #[kv,lv],.agg #[qi op,qi n,.string mod,.string name,.slice aa k cap]] w fun e w'=>e = .returned (.tuple #[.agg #[qi 5,qi 0,qi f.1.m,qi f.1.at_,qs],qi f.2])/\qb w w':=by
 have HC:=hid (zl0 K L kv lv mod name k (((w.alloc (.cells #[kv,lv] 195)).alloc (kzE op n mod name aa k cap)).alloc (kzF 0 0 0 0 none 0 0)) (hK.later (bl3 _ _ _ _)) (hL.later (bl3 _ _ _ _)) hm hn);have HB:=hid (fun o p q=>bl3 w o p q);clear hK hL hm hn;rw [← hf] at HC;clear hf;obtain ⟨⟨kd,fn,fm,fa⟩,er⟩:=f;simp only [Mg.val] at HC ⊢;subst BC;go_enter Tryz.func258,Tryz.ntmps258;go_wp2_with fail;refine HC.out.mono ?_;rintro e w1 ⟨rfl,A6⟩;have A8:=hid (thenB (HB.out _ _ _) A6);have Ao:=A6.size;simp at Ao;obtain ⟨q0,q1,q2⟩:=zpq A6;obtain ⟨h0,h1,h2,h3,h4,h5⟩:=zaa q2
 have A0:w.heap.size+2<w1.heap.size:=ae
 obtain ⟨x0,x1,x2,x3,x4,x5⟩:=zaa q1
 have I7:w.heap.size+1<w1.heap.size:=ae
 clear A6 HC q0 q1 q2;go_wp2_with fail;refine bodyPost_ret (v:=.tuple #[.agg #[qi 5,qi 0,qi fm,qi fa,qs],qi er]) b6 rfl ⟨rfl,?_⟩;exact hZ
theorem ztu (kv lv:Value) (op n:Int) (mod name:ByteArray) (aa:OA) (k cap:Nat) (w:World) (h3:op≠3) (h4:op≠4) (h5:op≠5) :
 qc 258 #[.agg #[kv,lv],.agg #[qi op,qi n,.string mod,.string name,.slice aa k cap]] w fun e w'=>e = .returned (.tuple #[.agg #[qi op,qi n,qi 0,qi 0,qs],qi 0])/\qb w w':=by
 have HB:=hid (fun o p q=>bl3 w o p q);go_enter Tryz.func258,Tryz.ntmps258;go_wp2_with fail;refine bodyPost_ret (v:=.tuple #[.agg #[qi op,qi n,qi 0,qi 0,qs],qi 0]) (by simp [results,Tryz.results258,go_sem]) rfl ⟨rfl,HB.out _ _ _⟩
theorem zpr (K:Kn) (L:Lc) (kv lv:Value) (x:Ex) (aa:OA) (cap:Nat) (w:World) (hK:zm5 w kv K) (hL:zn9 w lv L) (hm:x.mod.size<=maxLen) (hn:x.name.size<=maxLen) :
 qc 258 #[.agg #[kv,lv],.agg #[qi x.op,qi x.n,.string x.mod,.string x.name,.slice aa x.args.length cap]] w fun e w'=>e = .returned (.tuple #[(ndM K L x).node,qi (ndM K L x).err])/\qb w w':=by
 unfold ndM
 by_cases h3:x.op=3
 . rw [if_pos h3]
   exact ztr K L kv lv x.op x.n x.mod x.name aa x.args.length cap w hK hL hm hn h3 _ rfl
 rw [if_neg h3]
 by_cases h4:x.op=4
 . rw [if_pos h4]
   exact zts K L kv lv x.op x.n x.mod x.name aa x.args.length cap w hK hL hm hn h4 _ rfl
 rw [if_neg h4]
 by_cases h5:x.op=5
 . rw [if_pos h5]
   exact ztt K L kv lv x.op x.n x.mod x.name aa x.args.length cap w hK hL hm hn h5 _ rfl
 rw [if_neg h5];exact ztu kv lv x.op x.n x.mod x.name aa x.args.length cap w h3 h4 h5
theorem zxc (K:Kn) (L:Lc) (kv lv:Value) (op:Int) (mod name:ByteArray) (a1 a2 a3:OA) (k1 k2 k3 c1 c2 c3:Nat) (w:World) (hK:zm5 w kv K) (hL:zn9 w lv L) (hm:mod.size<=maxLen) (hn:name.size<=maxLen) (BC:op=1) (f:Mg × Int) (hf:f=findM K L mod name [0,2]) :
 qc 205 #[.agg #[kv,lv],.agg #[qi op,.string mod,.string name,.slice a1 k1 c1,.slice a2 k2 c2,.slice a3 k3 c3]] w fun e w'=>e = .returned (.tuple #[.agg #[qi 1,qi 0,qi (if f.1.kind=0 then -1 else f.1.m),qi f.1.at_,qs,qs,qs],qi f.2])/\qb w w':=by
 have HC:=hid (zit K L kv lv mod name [0,2] 3 (w.heap.size+3) 2 (((w.alloc (.cells #[kv,lv] 195)).alloc (kzB op mod name a1 k1 c1 a2 k2 c2 a3 k3 c3)).alloc (kzA 0 0 0 0 none 0 0 none 0 0 none 0 0)) aA (hK.later (bl3 _ _ _ _)) (hL.later (bl3 _ _ _ _)) hm hn aq);have HB:=hid (fun o p q=>bl3 w o p q);clear hK hL hm hn;rw [← hf] at HC;clear hf;obtain ⟨⟨kd,fn,fm,fa⟩,er⟩:=f;simp only [Mg.val] at HC ⊢;generalize hq:(if kd=0 then (-1:Int) else fm)=q;have HQ:=hid hq;clear hq;subst BC;go_enter Tryz.func205,Tryz.ntmps205;go_wp2_with fail;refine HC.out.mono ?_;rintro e w1 ⟨rfl,A6⟩;have A8:=hid (thenB (HB.out _ _ _) A6);have Ao:=A6.size;simp at Ao;obtain ⟨q0,q1,q2⟩:=zpq A6;obtain ⟨h0,h1,h2,h3,h4,h5,h6,h7⟩:=zd1 q2
 have A0:w.heap.size+2<w1.heap.size:=ae
 obtain ⟨x0,x1,x2,x3,x4,x5,x6⟩:=zao q1
 have I7:w.heap.size+1<w1.heap.size:=ae
 clear A6 HC q0 q1 q2
 by_cases hk:kd=0
 . have HR:Hid (q = -1):=HQ.out.symm.trans (if_pos hk)
   subst hk;clear HQ;go_wp2_with fail;refine bodyPost_ret (v:=.tuple #[.agg #[qi 1,qi 0,qi (-1),qi fa,qs,qs,qs],qi er]) bB rfl ⟨eZ,?_⟩;exact ij
 . have HR:Hid (q=fm):=HQ.out.symm.trans (if_neg hk)
   clear HQ;go_wp2_with fail;refine bodyPost_ret (v:=.tuple #[.agg #[qi 1,qi 0,qi fm,qi fa,qs,qs,qs],qi er]) bB rfl ⟨eZ,?_⟩;exact ij
theorem zxd (K:Kn) (L:Lc) (kv lv:Value) (op:Int) (mod name:ByteArray) (a1 a2 a3:OA) (k1 k2 k3 c1 c2 c3:Nat) (w:World) (hK:zm5 w kv K) (hL:zn9 w lv L) (hm:mod.size<=maxLen) (hn:name.size<=maxLen) (BC:op=2) (f:Mg × Int) (hf:f=findM K L mod name [3]) :
 qc 205 #[.agg #[kv,lv],.agg #[qi op,.string mod,.string name,.slice a1 k1 c1,.slice a2 k2 c2,.slice a3 k3 c3]] w fun e w'=>e = .returned (.tuple #[.agg #[qi 2,qi f.1.n,qi f.1.m,qi f.1.at_,qs,qs,qs],qi f.2])/\qb w w':=by
 have HC:=hid (zit K L kv lv mod name [3] 3 (w.heap.size+3) 1 (((w.alloc (.cells #[kv,lv] 195)).alloc (kzB op mod name a1 k1 c1 a2 k2 c2 a3 k3 c3)).alloc (kzA 0 0 0 0 none 0 0 none 0 0 none 0 0)) aA (hK.later (bl3 _ _ _ _)) (hL.later (bl3 _ _ _ _)) hm hn aq);have HB:=hid (fun o p q=>bl3 w o p q);clear hK hL hm hn;rw [← hf] at HC;clear hf;obtain ⟨⟨kd,fn,fm,fa⟩,er⟩:=f;simp only [Mg.val] at HC ⊢;subst BC;go_enter Tryz.func205,Tryz.ntmps205;go_wp2_with fail;refine HC.out.mono ?_;rintro e w1 ⟨rfl,A6⟩;have A8:=hid (thenB (HB.out _ _ _) A6);have Ao:=A6.size;simp at Ao;obtain ⟨q0,q1,q2⟩:=zpq A6;obtain ⟨h0,h1,h2,h3,h4,h5,h6,h7⟩:=zd1 q2
 have A0:w.heap.size+2<w1.heap.size:=ae
 obtain ⟨x0,x1,x2,x3,x4,x5,x6⟩:=zao q1
 have I7:w.heap.size+1<w1.heap.size:=ae
 clear A6 HC q0 q1 q2;go_wp2_with fail;refine bodyPost_ret (v:=.tuple #[.agg #[qi 2,qi fn,qi fm,qi fa,qs,qs,qs],qi er]) bB rfl ⟨rfl,?_⟩;exact ij
theorem zxe (K:Kn) (L:Lc) (kv lv:Value) (op:Int) (mod name:ByteArray) (a1 a2 a3:OA) (k1 k2 k3 c1 c2 c3:Nat) (w:World) (hK:zm5 w kv K) (hL:zn9 w lv L) (hm:mod.size<=maxLen) (hn:name.size<=maxLen) (BC:op=3) (f:Mg × Int) (hf:f=zje K L mod name k1) :
 qc 205 #[.agg #[kv,lv],.agg #[qi op,.string mod,.string name,.slice a1 k1 c1,.slice a2 k2 c2,.slice a3 k3 c3]] w fun e w'=>e = .returned (.tuple #[.agg #[qi 3,qi 0,qi f.1.m,qi f.1.at_,qs,qs,qs],qi f.2])/\qb w w':=by
 have HC:=hid (zl0 K L kv lv mod name k1 (((w.alloc (.cells #[kv,lv] 195)).alloc (kzB op mod name a1 k1 c1 a2 k2 c2 a3 k3 c3)).alloc (kzA 0 0 0 0 none 0 0 none 0 0 none 0 0)) (hK.later (bl3 _ _ _ _)) (hL.later (bl3 _ _ _ _)) hm hn);have HB:=hid (fun o p q=>bl3 w o p q);clear hK hL hm hn;rw [← hf] at HC;clear hf;obtain ⟨⟨kd,fn,fm,fa⟩,er⟩:=f;simp only [Mg.val] at HC ⊢;subst BC;go_enter Tryz.func205,Tryz.ntmps205;go_wp2_with fail;refine HC.out.mono ?_;rintro e w1 ⟨rfl,A6⟩;have A8:=hid (thenB (HB.out _ _ _) A6);have Ao:=A6.size;simp at Ao;obtain ⟨q0,q1,q2⟩:=zpq A6;obtain ⟨h0,h1,h2,h3,h4,h5,h6,h7⟩:=zd1 q2
 have A0:w.heap.size+2<w1.heap.size:=ae
 obtain ⟨x0,x1,x2,x3,x4,x5,x6⟩:=zao q1
 have I7:w.heap.size+1<w1.heap.size:=ae
 clear A6 HC q0 q1 q2;go_wp2_with fail;refine bodyPost_ret (v:=.tuple #[.agg #[qi 3,qi 0,qi fm,qi fa,qs,qs,qs],qi er]) bB rfl ⟨rfl,?_⟩;exact ij
theorem zxf (kv lv:Value) (op:Int) (mod name:ByteArray) (a1 a2 a3:OA) (k1 k2 k3 c1 c2 c3:Nat) (w:World) (h1:op≠1) (h2:op≠2) (h3:op≠3) :
 qc 205 #[.agg #[kv,lv],.agg #[qi op,.string mod,.string name,.slice a1 k1 c1,.slice a2 k2 c2,.slice a3 k3 c3]] w fun e w'=>e = .returned (.tuple #[.agg #[qi op,qi 0,qi 0,qi 0,qs,qs,qs],qi 0])/\qb w w':=by
 have HB:=hid (fun o p q=>bl3 w o p q);go_enter Tryz.func205,Tryz.ntmps205;go_wp2_with fail;refine bodyPost_ret (v:=.tuple #[.agg #[qi op,qi 0,qi 0,qi 0,qs,qs,qs],qi 0]) (by simp [results,Tryz.results205,go_sem]) rfl ⟨rfl,HB.out _ _ _⟩
theorem zrn (K:Kn) (L:Lc) (kv lv:Value) (x:St) (a1 a2 a3:OA) (c1 c2 c3:Nat) (w:World) (hK:zm5 w kv K) (hL:zn9 w lv L) (hm:x.mod.size<=maxLen) (hn:x.name.size<=maxLen) :
 qc 205 #[.agg #[kv,lv],.agg #[qi x.op,.string x.mod,.string x.name,.slice a1 x.args.length c1,.slice a2 x.body.length c2,.slice a3 x.other.length c3]] w fun e w'=>e = .returned (.tuple #[(acM K L x).act,qi (acM K L x).err])/\qb w w':=by
 unfold acM
 by_cases h1:x.op=1
 . rw [if_pos h1]
   exact zxc K L kv lv x.op x.mod x.name a1 a2 a3 _ _ _ c1 c2 c3 w hK hL hm hn h1 _ rfl
 rw [if_neg h1]
 by_cases h2:x.op=2
 . rw [if_pos h2]
   exact zxd K L kv lv x.op x.mod x.name a1 a2 a3 _ _ _ c1 c2 c3 w hK hL hm hn h2 _ rfl
 rw [if_neg h2]
 by_cases h3:x.op=3
 . rw [if_pos h3]
   exact zxe K L kv lv x.op x.mod x.name a1 a2 a3 _ _ _ c1 c2 c3 w hK hL hm hn h3 _ rfl
 rw [if_neg h3];exact zxf kv lv x.op x.mod x.name a1 a2 a3 _ _ _ c1 c2 c3 w h1 h2 h3
set_option maxHeartbeats 3200000
theorem Tryz.infoNode:(Tryz.prog.info? 253).map (fun i=>(i.zero,i.size,i.bytes))=some (some (.agg #[qi 0,qi 0,qi 0,qi 0,qs]),5,56):=ah
def z8x {α:Type} (lo:Nat) (len:List α->Nat) (ds:List α->List D) (r:Except Int (List α)) (e:Ending) (w:World):Prop:=
 match r with
 | .error c=>e = .returned (.tuple #[.slice none 0 0,.int .i64 c])/\c≠0
 | .ok l=>∃ a cap,e = .returned (.tuple #[.slice a (len l) cap,.int .i64 0])/\EAt w (lo<=·) a (len l) (ds l)
def zps (l:List Ex):Prop:=∀ (K:Kn) (L:Lc) (kv lv:Value) (A:Nat->Prop) (a:OA) (cap:Nat) (w:World),zm5 w kv K->zn9 w lv L->DAt w A a l.length (zbr l)->
 qc 206 #[.agg #[kv,lv],.slice a l.length cap] w fun e w'=>z8x w.heap.size List.length zdn (zhe K L l) e w'/\qb w w'
theorem zoa {a:Al} (h:a.err=0):alE a = .ok a:=if_pos h
theorem z49 {a:Al} (h:a.err≠0):alE a = .error a.err:=if_neg h
theorem z0p {K:Kn} {L:Lc} {x:Ex} (h:(ndM K L x).err≠0):rsE K L x = .error (ndM K L x).err:=by rw [z0d,z49 h];rfl
theorem z3s {K:Kn} {L:Lc} {x:Ex} {c:Int} (h:(ndM K L x).err=0) (ha:zhe K L x.args = .error c):rsE K L x = .error c:=by rw [z0d,zoa h,ha];rfl
theorem z8y {K:Kn} {L:Lc} {x:Ex} {l:List Nd} (h:(ndM K L x).err=0) (ha:zhe K L x.args = .ok l):rsE K L x = .ok (.mk (ndM K L x).op (ndM K L x).n (ndM K L x).m (ndM K L x).at_ l):=by rw [z0d,zoa h,ha];rfl
theorem z3t {A:Nat->Prop} {op n m at_:Int} {l:List Nd} {w:World} {a:OA} {cap:Nat} (h:EAt w A a l.length (zdn l)):zav w A (Nd.mk op n m at_ l).ds [qi op,qi n,qi m,qi at_,.slice a l.length cap]:=by
 unfold Nd.ds;exact .cons zqh (.cons zqh (.cons zqh (.cons zqh (.cons h.val .nil))))
theorem zcr {w:World} {b:Nat} {x0 x1:Value} {t:TypeId} (h:w.heap[b]? = some (.cells #[x0,x1] t (0,0))) :
 w.cell? (qa b 0)=some x0/\w.cell? (qa b 1)=some x1/\∀ i,w.frozen? (qa b i)=false:=by
 refine ⟨?_,?_,fun i=>veq h i⟩<;>(rw [vep h];rfl)
theorem zob (l:List Ex) (Gk:l.length<=5000) (ih:∀ j (h:j<l.length),zps l[j].args):zps l:=by
 intro K L kv lv A a cap w hK hL hD;have HK:=hid hK;have HL:=hid hL;have HD:=hid hD;have HI:=hid ih;clear hK hL hD ih;go_enter Tryz.func206,Tryz.ntmps206;go_wp2_with fail
 go_loopw [6,8,9,10,13] (fun v _ _ _ i wr=>∃ (j:Nat) (A5:List Nd),j<=l.length/\i=qi j/\A5.length=j/\zhe K L (l.take j) = .ok A5/\Row (w.heap.size+1) 253 5 wr v A5.length (zdn A5)/\wr.heap[w.heap.size]? = some (.cells #[kv,lv] 195)/\qb w wr) (fun _ _ _ _ i _=>l.length - (intOf i).toNat)
 case atStart=>exact ⟨0,[],vaf _,rfl,rfl,by rw [vek,zhe],Row.nil _ _ _ _,heap_newP _ _,al1 _ _⟩
 case round=>
  obtain ⟨j,A5,hj,rfl,hacc,Gb,Aa,hbx,hb⟩:=hrel;have HR:=hid Gb;have HO:=hid Aa;have HX:=hid hbx;have HB:=hid hb;have C1:=hb.size;have Cv:=lt_of_heap hbx;clear Gb Aa hb
  by_cases A0:j<l.length
  . obtain ⟨b,off,aa,cp,rfl,hx⟩:=(HD.out.later HB.out).ex j A0
    have DT:=hid (HI.out j A0);have EM:=hid (fun c (he:rsE K L l[j] = .error c)=>z3d A0 HR.out he);have Hk:=hid (fun y (he:rsE K L l[j] = .ok y)=>z0b A0 HR.out he);obtain ⟨Av,x0,x1,x2,x3,x4,hargs,_,_,hm,hn⟩:=hx;have HA:=hid hargs;clear hargs;generalize l[j]=x at *;have HC:=hid (zpr K L kv lv x aa cp (wr.alloc (kzE x.op x.n x.mod x.name aa x.args.length cp)) (HK.out.later (thenB HB.out (al1 _ _))) (HL.out.later (thenB HB.out (al1 _ _))) hm hn);obtain ⟨O0,bx1,Dc⟩:=zcr HX.out;clear hm hn hbx;go_wp2_with fail;refine HC.out.mono ?_;generalize hh:ndM K L x=h at *;obtain ⟨ho,hn,hm,ha,he⟩:=h;simp only [Al.node] at *;rintro e w1 ⟨rfl,A6⟩;have A8:=hid (thenB (al1 wr _) A6);have Ao:=A6.size;simp at Ao;have q1:w1.heap[wr.heap.size]? = some (kzE x.op x.n x.mod x.name aa x.args.length cp):=(A6.block _ aA).trans (heap_newP _ _)
    have q2:=(A8.out.block _ Cv).trans HX.out;obtain ⟨y0,y1,y2,y3,y4,y5⟩:=zaa q1;obtain ⟨SH,bx1',hfz'⟩:=zcr q2;have AF:=hid q2
    have R4:w.heap.size<w1.heap.size:=ae
    have R6:wr.heap.size<w1.heap.size:=ae
    clear A6 HC q1 q2 O0 bx1 Dc x0 x1 x2 x3 x4 y5 hfz'
    by_cases Ii:he=0
    . subst Ii
      have HH:=hid hh;clear hh;have Bl:=hid (DT.out K L kv lv A aa cp (w1.alloc (kzF ho hn hm ha none 0 0)) (HK.out.later (thenB (thenB HB.out A8.out) (al1 _ _))) (HL.out.later (thenB (thenB HB.out A8.out) (al1 _ _))) (HA.out.later (thenB A8.out (al1 _ _))));go_wp2_with fail;refine Bl.out.mono ?_;rintro e w2 ⟨Am,Ab⟩;have Ay:=Ab.size;simp at Ay;have q3:w2.heap[w1.heap.size]? = some (kzF ho hn hm ha none 0 0):=(Ab.block _ aA).trans (heap_newP _ _);obtain ⟨z0,z1,z2,z3,z4,z5⟩:=zaa q3;have Ad:=hid (thenB A8.out (thenB (al1 _ _) Ab))
      have R5:w1.heap.size<w2.heap.size:=ae
      clear Ab Bl q3
      cases hr:zhe K L x.args with
      | error c=>
        rw [hr] at Am;obtain ⟨rfl,hc⟩:=Am;have HF:=hid (EM.out c (z3s eJ hr));clear hr;go_wp2_with fail;go_ret2;exact ⟨by rw [HF.out];exact ⟨rfl,hc⟩,(thenB HB.out Ad.out).setCell (p:=(qa w1.heap.size 4)) bz _⟩
      | ok r=>
        rw [hr] at Am;obtain ⟨a2,c2,rfl,hea⟩:=Am;have HF:=hid (Hk.out _ (z8y eJ hr));rw [HH.out] at HF;simp only [] at HF;have Af:Hid (qb wr (w2.setCell (qa w1.heap.size 4) (.slice a2 r.length c2))):=Ad.out.setCell (p:=(qa w1.heap.size 4)) (by show wr.heap.size<=w1.heap.size;omega) _;have D9:=hid (HO.out.later Af.out);have JB:Hid (zav (w2.setCell (qa w1.heap.size 4) (.slice a2 r.length c2)) (w1.heap.size+1<=·) (Nd.mk ho hn hm ha r).ds [qi ho,qi hn,qi hm,qi ha,.slice a2 r.length c2]):=z3t ((hea.moves ((zad.refl w2 _).set (p:=(qa w1.heap.size 4)) (by intro b _ hb;simp at hb;show b≠w1.heap.size;omega) _)).moves ⟨vaa _,fun b _ h=>⟨by simp at h;exact h,rfl⟩⟩);have L6:=hid (fun k hk=>(HO.out.lt k hk).2);have CX:Hid ((w2.setCell (qa w1.heap.size 4) (.slice a2 r.length c2)).heap[w.heap.size]? = some (.cells #[kv,lv] 195)):=(Af.out.block _ Cv).trans HX.out
        have KL:Hid ((w2.setCell (qa w1.heap.size 4) (.slice a2 r.length c2)).heap.size=w2.heap.size):=vaq ..;clear hea hr
        go_wp2_with (at_builtin;refine zbv rfl (.tmp 37) (.tmp 39) 107 rfl (w.heap.size+1) 253 _ 5 56 Tryz.underlying107 Tryz.infoNode rfl aq (w2.setCell (qa w1.heap.size 4) (.slice a2 r.length c2)) u6 A5.length (zdn A5) (Nd.mk ho hn hm ha r).ds rfl D9.out #[qi ho,qi hn,qi hm,qi ha,.slice a2 r.length c2] _ KL.out.symm rfl rfl (w1.heap.size+1<=·) JB.out ?_ ae aq (by rw [KL.out];omega) ?_)
        . intro b _ hb
          have B6:w1.heap.size+1<=b:=hb;exact ⟨ae,fun h=>by have:=L6.out b h;omega⟩
        . intro g5 c5 w5 Bw At Cf
          have Ba:=hid Bw;have AX:=hid At;clear Bw At D9 JB;go_wp2_with fail;go_roundw
          case rel=>exact ⟨j+1,A5++[Nd.mk ho hn hm ha r],ae,aR,fi,HF.out,by rw [zls,z3b,vaj,hacc];exact Ba.out,(AX.out.block _ ae).trans CX.out,(thenB HB.out Af.out).trans (AX.out.mono ae)⟩
          case measure=>simp [intOf];omega
    . have HF:=hid (EM.out he (by rw [z0p (by rw [hh];exact Ii),hh]))
      clear hh;go_wp2_with fail;go_ret2;exact ⟨by rw [HF.out];exact ⟨rfl,Ii⟩,thenB (thenB HB.out A8.out) (al1 _ _)⟩
  . obtain rfl:j=l.length:=by omega
    have Oc:Hid (zhe K L l = .ok A5):=by have:=HR.out;rw [vau] at this;exact this
    exact iJ
theorem zro:∀ (k:Nat) (l:List Ex),zap k l=false->zps l
 | 0,l,h=>zob l (by simp [zap] at h;rw [h];simp) (by simp [zap] at h;subst h;intro j hj;simp at hj)
 | k+1,l,h=>by
   simp only [zap,vat] at h;have h1:=of_decide_eq_false h.1
   refine zob l ae fun j hj=>zro k _ ?_
   have:=h.2;rw [vca] at this;simpa using this l[j] (vah _)
theorem Tryz.infoAct:(Tryz.prog.info? 109).map (fun i=>(i.zero,i.size,i.bytes))=some (some (.agg #[qi 0,qi 0,qi 0,qi 0,qs,qs,qs]),7,104):=ah
def zoc (l:List St):Prop:=∀ (K:Kn) (L:Lc) (kv lv:Value) (A:Nat->Prop) (a:OA) (cap:Nat) (w:World),zm5 w kv K->zn9 w lv L->DAt w A a l.length (zbs l)->
 qc 121 #[.agg #[kv,lv],.slice a l.length cap] w fun e w'=>z8x w.heap.size List.length zdu (zf2 K L l) e w'/\qb w w'
def z8z (lo:Nat) (r:Except Int Ac) (e:Ending) (w:World):Prop:=
 match r with
 | .error c=>∃ o n m t a1 k1 c1 a2 k2 c2 a3 k3 c3,e = .returned (.tuple #[.agg #[.int .i64 o,.int .i64 n,.int .i64 m,.int .i64 t,.slice a1 k1 c1,.slice a2 k2 c2,.slice a3 k3 c3],.int .i64 c])/\c≠0
 | .ok y=>∃ a1 c1 a2 c2 a3 c3,e = .returned (.tuple #[.agg #[.int .i64 y.op,.int .i64 y.n,.int .i64 y.m,.int .i64 y.at_,.slice a1 y.args.length c1,.slice a2 y.body.length c2,.slice a3 y.other.length c3],.int .i64 0])/\
   EAt w (lo<=·) a1 y.args.length (zdn y.args)/\EAt w (lo<=·) a2 y.body.length (zdu y.body)/\EAt w (lo<=·) a3 y.other.length (zdu y.other)
def z80 (x:St):Prop:=∀ (K:Kn) (L:Lc) (kv lv:Value) (A:Nat->Prop) (a1:OA) (c1:Nat) (a2:OA) (c2:Nat) (a3:OA) (c3:Nat) (w:World),zm5 w kv K->zn9 w lv L->x.mod.size<=maxLen->x.name.size<=maxLen->
 DAt w A a1 x.args.length (zbr x.args)->DAt w A a2 x.body.length (zbs x.body)->DAt w A a3 x.other.length (zbs x.other)->
 qc 162 #[.agg #[kv,lv],.agg #[qi x.op,.string x.mod,.string x.name,.slice a1 x.args.length c1,.slice a2 x.body.length c2,.slice a3 x.other.length c3]] w fun e w'=>z8z w.heap.size (rsS K L x) e w'/\qb w w'
theorem z3u {A:Nat->Prop} {y:Ac} {w:World} {a1 a2 a3:OA} {c1 c2 c3:Nat} (h1:EAt w A a1 y.args.length (zdn y.args)) (h2:EAt w A a2 y.body.length (zdu y.body)) (h3:EAt w A a3 y.other.length (zdu y.other)) :
 zav w A y.ds [qi y.op,qi y.n,qi y.m,qi y.at_,.slice a1 y.args.length c1,.slice a2 y.body.length c2,.slice a3 y.other.length c3]:=by
 obtain ⟨op,n,m,at_,args,body,other⟩:=y;unfold Ac.ds;exact .cons zqh (.cons zqh (.cons zqh (.cons zqh (.cons h1.val (.cons h2.val (.cons h3.val .nil))))))
theorem zrp (l:List St) (Gk:l.length<=5000) (ih:∀ j (h:j<l.length),z80 l[j]):zoc l:=by
 intro K L kv lv A a cap w hK hL hD;have HK:=hid hK;have HL:=hid hL;have HD:=hid hD;have HI:=hid ih;clear hK hL hD ih;go_enter Tryz.func121,Tryz.ntmps121;go_wp2_with fail
 go_loopw [6,8,9,10,13] (fun v _ _ _ i wr=>∃ (j:Nat) (A5:List Ac),j<=l.length/\i=qi j/\A5.length=j/\zf2 K L (l.take j) = .ok A5/\Row (w.heap.size+1) 109 7 wr v A5.length (zdu A5)/\wr.heap[w.heap.size]? = some (.cells #[kv,lv] 195)/\qb w wr) (fun _ _ _ _ i _=>l.length - (intOf i).toNat)
 case atStart=>exact ⟨0,[],vaf _,rfl,rfl,by rw [vek,zf2],Row.nil _ _ _ _,heap_newP _ _,al1 _ _⟩
 case round=>
  obtain ⟨j,A5,hj,rfl,hacc,Gb,Aa,hbx,hb⟩:=hrel;have HR:=hid Gb;have HO:=hid Aa;have HX:=hid hbx;have HB:=hid hb;have C1:=hb.size;have Cv:=lt_of_heap hbx;clear Gb Aa hb
  by_cases A0:j<l.length
  . obtain ⟨b,off,a1,p1,a2,p2,a3,p3,rfl,hx⟩:=(HD.out.later HB.out).st j A0
    have DT:=hid (HI.out j A0);have EM:=hid (fun c (he:rsS K L l[j] = .error c)=>z3e A0 HR.out he);have Hk:=hid (fun y (he:rsS K L l[j] = .ok y)=>z0c A0 HR.out he);obtain ⟨Av,x0,x1,x2,x3,x4,x5,hargs,hbody,hother,_,hm,hn⟩:=hx;generalize l[j]=x at *;have HC:=hid (DT.out K L kv lv A a1 p1 a2 p2 a3 p3 (wr.alloc (kzB x.op x.mod x.name a1 x.args.length p1 a2 x.body.length p2 a3 x.other.length p3)) (HK.out.later (thenB HB.out (al1 _ _))) (HL.out.later (thenB HB.out (al1 _ _))) hm hn (hargs.later (al1 _ _)) (hbody.later (al1 _ _)) (hother.later (al1 _ _)));obtain ⟨O0,bx1,Dc⟩:=zcr HX.out;clear hm hn hbx hargs hbody hother;go_wp2_with fail;refine HC.out.mono ?_;rintro e w1 ⟨Am,A6⟩;have A8:=hid (thenB (al1 wr _) A6);have Ao:=A6.size;simp at Ao;clear A6 HC O0 bx1 Dc x0 x1 x2 x3 x4 x5
    cases hr:rsS K L x with
    | error c=>
      rw [hr] at Am;obtain ⟨o,n,m,t,f1,k1,e1,f2,k2,e2,f3,k3,e3,rfl,hc⟩:=Am;have HF:=hid (EM.out c hr);clear hr;go_wp2_with fail;go_ret2;exact ⟨by rw [HF.out];exact ⟨rfl,hc⟩,thenB (thenB HB.out A8.out) (al1 _ _)⟩
    | ok y=>
      rw [hr] at Am;obtain ⟨b1,d1,b2,d2,b3,d3,rfl,he1,Fl,he3⟩:=Am;have HF:=hid (Hk.out _ hr);have Bi:=hid ((HO.out.later A8.out).alloc (kzA y.op y.n y.m y.at_ b1 y.args.length d1 b2 y.body.length d2 b3 y.other.length d3))
      have C0:Hid (zav (w1.alloc (kzA y.op y.n y.m y.at_ b1 y.args.length d1 b2 y.body.length d2 b3 y.other.length d3)) (wr.heap.size+1<=·) y.ds [qi y.op,qi y.n,qi y.m,qi y.at_,.slice b1 y.args.length d1,.slice b2 y.body.length d2,.slice b3 y.other.length d3]):=by
       have hm:zad w1 ((wr.alloc (kzB x.op x.mod x.name a1 x.args.length p1 a2 x.body.length p2 a3 x.other.length p3)).heap.size<=·) (w1.alloc (kzA y.op y.n y.m y.at_ b1 y.args.length d1 b2 y.body.length d2 b3 y.other.length d3)) (wr.heap.size+1<=·):=
        ((zad.refl w1 _).alloc _).trans ⟨vaa _,fun b _ h=>⟨by simp at h;exact h,rfl⟩⟩
       exact z3u (he1.moves hm) (Fl.moves hm) (he3.moves hm)
      have L6:=hid (fun k hk=>(HO.out.lt k hk).2);have AF:=hid ((thenB A8.out (al1 w1 (kzA y.op y.n y.m y.at_ b1 y.args.length d1 b2 y.body.length d2 b3 y.other.length d3))).block _ Cv |>.trans HX.out);have Ce:=hid (thenB (thenB HB.out A8.out) (al1 w1 (kzA y.op y.n y.m y.at_ b1 y.args.length d1 b2 y.body.length d2 b3 y.other.length d3)));clear he1 Fl he3 hr
      go_wp2_with (at_builtin;refine zbv rfl (.tmp 26) (.tmp 28) 40 rfl (w.heap.size+1) 109 _ 7 104 Tryz.underlying40 Tryz.infoAct rfl aq (w1.alloc (kzA y.op y.n y.m y.at_ b1 y.args.length d1 b2 y.body.length d2 b3 y.other.length d3)) u6 A5.length (zdu A5) y.ds rfl Bi.out #[qi y.op,qi y.n,qi y.m,qi y.at_,.slice b1 y.args.length d1,.slice b2 y.body.length d2,.slice b3 y.other.length d3] _ aA rfl rfl (wr.heap.size+1<=·) C0.out ?_ ae aq aF ?_)
      . exact iS
      . intro g5 c5 w5 Bw At Cf
        have Ba:=hid Bw;have AX:=hid At;clear Bw At Bi C0;go_wp2_with fail;go_roundw
        case rel=>exact ⟨j+1,A5++[y],ae,aR,fi,HF.out,by rw [zlt,z3c,vaj,hacc];exact Ba.out,(AX.out.block _ ae).trans AF.out,Ce.out.trans (AX.out.mono ae)⟩
        case measure=>simp [intOf];omega
  . obtain rfl:j=l.length:=by omega
    have Oc:Hid (zf2 K L l = .ok A5):=by have:=HR.out;rw [vau] at this;exact this
    exact iJ
set_option maxHeartbeats 8000000
theorem EAt.later {w w':World} {A:Nat->Prop} {a:OA} {n:Nat} {ds:List D} (h:EAt w A a n ds) (hb:qb w w'):EAt w' A a n ds:=h.moves (zad.of_below hb A)
theorem z0q {K:Kn} {L:Lc} {x:St} (h:(acM K L x).err≠0):rsS K L x = .error (acM K L x).err:=by rw [zre,z49 h];rfl
theorem z3v {K:Kn} {L:Lc} {x:St} {c:Int} (h:(acM K L x).err=0) (h1:zhe K L x.args = .error c):rsS K L x = .error c:=by rw [zre,zoa h,h1];rfl
theorem z3w {K:Kn} {L:Lc} {x:St} {c:Int} {l:List Nd} (h:(acM K L x).err=0) (h1:zhe K L x.args = .ok l) (h2:zf2 K L x.body = .error c):rsS K L x = .error c:=by rw [zre,zoa h,h1,h2];rfl
theorem z0r {K:Kn} {L:Lc} {x:St} {c:Int} {l:List Nd} {b:List Ac} (h:(acM K L x).err=0) (h1:zhe K L x.args = .ok l) (h2:zf2 K L x.body = .ok b) (h3:zf2 K L x.other = .error c):rsS K L x = .error c:=by rw [zre,zoa h,h1,h2,h3];rfl
theorem z81 {K:Kn} {L:Lc} {x:St} {l:List Nd} {b o:List Ac} (h:(acM K L x).err=0) (h1:zhe K L x.args = .ok l) (h2:zf2 K L x.body = .ok b) (h3:zf2 K L x.other = .ok o):rsS K L x = .ok (.mk (acM K L x).op (acM K L x).n (acM K L x).m (acM K L x).at_ l b o):=by rw [zre,zoa h,h1,h2,h3];rfl
theorem z3x (x:St) (hn:zps x.args) (hb:zoc x.body) (ho:zoc x.other):z80 x:=by
 intro K L kv lv A a1 c1 a2 c2 a3 c3 w hK hL hm B4 Cj DE hd3;have HC:=hid (zrn K L kv lv x a1 a2 a3 c1 c2 c3 (((w.alloc (.cells #[kv,lv] 195)).alloc (kzB x.op x.mod x.name a1 x.args.length c1 a2 x.body.length c2 a3 x.other.length c3)).alloc (kzA 0 0 0 0 none 0 0 none 0 0 none 0 0)) (hK.later (bl3 _ _ _ _)) (hL.later (bl3 _ _ _ _)) hm B4);have HK:=hid hK;have HL:=hid hL;have Ms:=hid Cj;have J0:=hid DE;have Lu:=hid hd3;have HN:=hid hn;have Hu:=hid hb;have Om:=hid ho;have HB:=hid (fun o p q=>bl3 w o p q);clear hn hb ho hK hL hm B4 Cj DE hd3;go_enter Tryz.func162,Tryz.ntmps162;go_wp2_with fail;refine HC.out.mono ?_
 have HG:Hid (∀ h,acM K L x=h->acM K L x=h):=fun h e=>e
 generalize hh:acM K L x=h at HC ⊢;obtain ⟨ho,hn,hm,ha,he⟩:=h;simp only [Al.act];rintro e w1 ⟨rfl,A6⟩;have A8:=hid (thenB (HB.out _ _ _) A6);have Ao:=A6.size;simp at Ao;obtain ⟨q0,q1,q2⟩:=zpq A6;have HH:=hid hh;have P0_0:=hid q0;have P1_0:=hid q1;have P2_0:=hid q2;clear A6 HC q0 q1 q2 hh HG;obtain ⟨b0,b1_,bf⟩:=zcr P0_0.out;obtain ⟨s0,s1,s2,s3,s4,s5,sf⟩:=zao P1_0.out;obtain ⟨r0,r1_,r2_,r3_,r4,r5,r6,rf⟩:=zd1 P2_0.out;have Bt:=lt_of_heap P0_0.out;have CJ:=lt_of_heap P1_0.out;have Ch:=lt_of_heap P2_0.out
 by_cases Ii:he=0
 case neg=>
  have HF:=hid ((z0q (by rw [HH.out];exact Ii)).trans eJ:rsS K L x = .error he);have Ai:=Ii;go_wp2_with fail;refine bodyPost_ret (v:=.tuple #[.agg #[qi 0,qi 0,qi 0,qi 0,qs,qs,qs],qi he]) bm rfl ⟨bP,?_⟩;exact ij
 subst Ii;have P3_1:Hid ((w1.alloc (kzA ho hn hm ha none 0 0 none 0 0 none 0 0)).heap[w1.heap.size]? = some (kzA ho hn hm ha none 0 0 none 0 0 none 0 0)):=heap_newP _ _;have P0_1:Hid ((w1.alloc (kzA ho hn hm ha none 0 0 none 0 0 none 0 0)).heap[w.heap.size]? = some (.cells #[kv,lv] 195)):=zab P0_0.out;have P1_1:Hid ((w1.alloc (kzA ho hn hm ha none 0 0 none 0 0 none 0 0)).heap[w.heap.size+1]? = some (kzB x.op x.mod x.name a1 x.args.length c1 a2 x.body.length c2 a3 x.other.length c3)):=zab P1_0.out;have P2_1:Hid ((w1.alloc (kzA ho hn hm ha none 0 0 none 0 0 none 0 0)).heap[w.heap.size+2]? = some (kzA 0 0 0 0 none 0 0 none 0 0 none 0 0)):=zab P2_0.out;have Ap:Hid (qb w (w1.alloc (kzA ho hn hm ha none 0 0 none 0 0 none 0 0))):=thenB A8.out (al1 _ _);have Bl:=hid (HN.out K L kv lv A a1 c1 (w1.alloc (kzA ho hn hm ha none 0 0 none 0 0 none 0 0)) (HK.out.later Ap.out) (HL.out.later Ap.out) (Ms.out.later Ap.out))
 go_wp2_with fail;refine Bl.out.mono ?_;rintro e w2 ⟨Am,Ab⟩;have Ay:=Ab.size;simp at Ay;have P0_2:Hid (w2.heap[w.heap.size]? = some (.cells #[kv,lv] 195)):=(Ab.block _ (lt_of_heap P0_1.out)).trans P0_1.out;have P1_2:Hid (w2.heap[w.heap.size+1]? = some (kzB x.op x.mod x.name a1 x.args.length c1 a2 x.body.length c2 a3 x.other.length c3)):=(Ab.block _ (lt_of_heap P1_1.out)).trans P1_1.out;have P2_2:Hid (w2.heap[w.heap.size+2]? = some (kzA 0 0 0 0 none 0 0 none 0 0 none 0 0)):=(Ab.block _ (lt_of_heap P2_1.out)).trans P2_1.out;have P3_2:Hid (w2.heap[w1.heap.size]? = some (kzA ho hn hm ha none 0 0 none 0 0 none 0 0)):=(Ab.block _ (lt_of_heap P3_1.out)).trans P3_1.out;have Ad:=hid (thenB Ap.out Ab);clear Ab Bl P0_0 P1_0 P2_0 P0_1 P1_1 P2_1 P3_1 b0 b1_ bf s0 s1 s2 s3 s4 s5 sf r0 r1_ r2_ r3_ r4 r5 r6 rf Bt CJ Ch;obtain ⟨b0,b1_,bf⟩:=zcr P0_2.out
 obtain ⟨s0,s1,s2,s3,s4,s5,sf⟩:=zao P1_2.out;obtain ⟨r0,r1_,r2_,r3_,r4,r5,r6,rf⟩:=zd1 P2_2.out;obtain ⟨t0,t1,t2,t3,t4,t5,t6,tf⟩:=zd1 P3_2.out;have Bt:=lt_of_heap P0_2.out;have CJ:=lt_of_heap P1_2.out;have Ch:=lt_of_heap P2_2.out;have CC:=lt_of_heap P3_2.out
 cases Es:zhe K L x.args with
 | error c=>
   rw [Es] at Am;obtain ⟨rfl,Ai⟩:=Am;have HF:=hid (z3v eJ Es);clear Es;go_wp2_with fail;refine bodyPost_ret (v:=.tuple #[.agg #[qi 0,qi 0,qi 0,qi 0,qs,qs,qs],qi c]) bm rfl ⟨bP,?_⟩;exact zpp (Ad.out.setCell (p:=(qa w1.heap.size 4)) bz _) ae _ _ _ _ _ _ _
 | ok r1=>
   rw [Es] at Am;obtain ⟨b1,d1,rfl,he1⟩:=Am;have AY:=hid Es;have C0:=hid he1;clear Es he1;have P0_3:Hid ((w2.setCell (qa w1.heap.size 4) (.slice b1 r1.length d1)).heap[w.heap.size]? = some (.cells #[kv,lv] 195)):=(heap_set_ne bg _).trans P0_2.out;have P1_3:Hid ((w2.setCell (qa w1.heap.size 4) (.slice b1 r1.length d1)).heap[w.heap.size+1]? = some (kzB x.op x.mod x.name a1 x.args.length c1 a2 x.body.length c2 a3 x.other.length c3)):=(heap_set_ne (by show w.heap.size+1≠w1.heap.size;omega) _).trans P1_2.out;have P2_3:Hid ((w2.setCell (qa w1.heap.size 4) (.slice b1 r1.length d1)).heap[w.heap.size+2]? = some (kzA 0 0 0 0 none 0 0 none 0 0 none 0 0)):=(heap_set_ne (by show w.heap.size+2≠w1.heap.size;omega) _).trans P2_2.out;have P3_3:Hid ((w2.setCell (qa w1.heap.size 4) (.slice b1 r1.length d1)).heap[w1.heap.size]? = some (kzA ho hn hm ha b1 r1.length d1 none 0 0 none 0 0)):=heap_set P3_2.out _
   have Af:Hid (qb w (w2.setCell (qa w1.heap.size 4) (.slice b1 r1.length d1))):=Ad.out.setCell (p:=(qa w1.heap.size 4)) bz _;have EI:Hid (EAt (w2.setCell (qa w1.heap.size 4) (.slice b1 r1.length d1)) (w1.heap.size+1<=·) b1 r1.length (zdn r1)):=(C0.out.moves ((zad.refl w2 _).set (p:=(qa w1.heap.size 4)) (by intro b _ hb;simp at hb;show b≠w1.heap.size;omega) _)).moves ⟨vaa _,fun b _ h=>⟨by simp at h;exact h,rfl⟩⟩;have BM:=hid (Hu.out K L kv lv A a2 c2 (w2.setCell (qa w1.heap.size 4) (.slice b1 r1.length d1)) (HK.out.later Af.out) (HL.out.later Af.out) (J0.out.later Af.out));have KL:Hid ((w2.setCell (qa w1.heap.size 4) (.slice b1 r1.length d1)).heap.size=w2.heap.size):=vaq ..;clear C0 P0_2 P1_2 P2_2 P3_2;go_wp2_with fail;refine BM.out.mono ?_;rintro e w3 ⟨Am,A9⟩;have BB:=A9.size
   rw [KL.out] at BB;have P0_4:Hid (w3.heap[w.heap.size]? = some (.cells #[kv,lv] 195)):=(A9.block _ (lt_of_heap P0_3.out)).trans P0_3.out;have P1_4:Hid (w3.heap[w.heap.size+1]? = some (kzB x.op x.mod x.name a1 x.args.length c1 a2 x.body.length c2 a3 x.other.length c3)):=(A9.block _ (lt_of_heap P1_3.out)).trans P1_3.out;have P2_4:Hid (w3.heap[w.heap.size+2]? = some (kzA 0 0 0 0 none 0 0 none 0 0 none 0 0)):=(A9.block _ (lt_of_heap P2_3.out)).trans P2_3.out;have P3_4:Hid (w3.heap[w1.heap.size]? = some (kzA ho hn hm ha b1 r1.length d1 none 0 0 none 0 0)):=(A9.block _ (lt_of_heap P3_3.out)).trans P3_3.out;have J6:=hid (thenB Af.out A9);have GJ:=hid (EI.out.later A9);clear A9 BM P0_3 P1_3 P2_3 P3_3 EI Af;clear b0 b1_ bf s0 s1 s2 s3 s4 s5 sf r0 r1_ r2_ r3_ r4 r5 r6 rf t0 t1 t2 t3 t4 t5 t6 tf Bt CJ Ch CC;obtain ⟨b0,b1_,bf⟩:=zcr P0_4.out
   obtain ⟨s0,s1,s2,s3,s4,s5,sf⟩:=zao P1_4.out;obtain ⟨r0,r1_,r2_,r3_,r4,r5,r6,rf⟩:=zd1 P2_4.out;obtain ⟨t0,t1,t2,t3,t4,t5,t6,tf⟩:=zd1 P3_4.out;have Bt:=lt_of_heap P0_4.out;have CJ:=lt_of_heap P1_4.out;have Ch:=lt_of_heap P2_4.out;have CC:=lt_of_heap P3_4.out
   cases GV:zf2 K L x.body with
   | error c=>
     rw [GV] at Am;obtain ⟨rfl,Ai⟩:=Am;have HF:=hid (z3w eJ AY.out GV);clear GV;go_wp2_with fail;refine bodyPost_ret (v:=.tuple #[.agg #[qi 0,qi 0,qi 0,qi 0,qs,qs,qs],qi c]) bm rfl ⟨bP,?_⟩;exact zpp (J6.out.setCell (p:=(qa w1.heap.size 5)) bz _) ae _ _ _ _ _ _ _
   | ok r2=>
     rw [GV] at Am;obtain ⟨b2,d2,rfl,Fl⟩:=Am;have An:=hid GV;have BE:=hid Fl;clear GV Fl;have P0_5:Hid ((w3.setCell (qa w1.heap.size 5) (.slice b2 r2.length d2)).heap[w.heap.size]? = some (.cells #[kv,lv] 195)):=(heap_set_ne bg _).trans P0_4.out;have P1_5:Hid ((w3.setCell (qa w1.heap.size 5) (.slice b2 r2.length d2)).heap[w.heap.size+1]? = some (kzB x.op x.mod x.name a1 x.args.length c1 a2 x.body.length c2 a3 x.other.length c3)):=(heap_set_ne (by show w.heap.size+1≠w1.heap.size;omega) _).trans P1_4.out;have P2_5:Hid ((w3.setCell (qa w1.heap.size 5) (.slice b2 r2.length d2)).heap[w.heap.size+2]? = some (kzA 0 0 0 0 none 0 0 none 0 0 none 0 0)):=(heap_set_ne (by show w.heap.size+2≠w1.heap.size;omega) _).trans P2_4.out;have P3_5:Hid ((w3.setCell (qa w1.heap.size 5) (.slice b2 r2.length d2)).heap[w1.heap.size]? = some (kzA ho hn hm ha b1 r1.length d1 b2 r2.length d2 none 0 0)):=heap_set P3_4.out _
     have At:Hid (qb w (w3.setCell (qa w1.heap.size 5) (.slice b2 r2.length d2))):=J6.out.setCell (p:=(qa w1.heap.size 5)) bz _;have Gh:zad w3 (w1.heap.size+1<=·) (w3.setCell (qa w1.heap.size 5) (.slice b2 r2.length d2)) (w1.heap.size+1<=·):=(zad.refl w3 _).set (p:=(qa w1.heap.size 5)) df _;have EI:Hid (EAt (w3.setCell (qa w1.heap.size 5) (.slice b2 r2.length d2)) (w1.heap.size+1<=·) b1 r1.length (zdn r1)):=GJ.out.moves Gh;have Cb:Hid (EAt (w3.setCell (qa w1.heap.size 5) (.slice b2 r2.length d2)) (w1.heap.size+1<=·) b2 r2.length (zdu r2)):=(BE.out.moves ⟨vaa _,fun b _ h=>⟨by rw [KL.out] at h;show w1.heap.size+1<=b;omega,rfl⟩⟩:EAt w3 (w1.heap.size+1<=·) b2 r2.length (zdu r2)).moves Gh;have C5:=hid (Om.out K L kv lv A a3 c3 (w3.setCell (qa w1.heap.size 5) (.slice b2 r2.length d2)) (HK.out.later At.out) (HL.out.later At.out) (Lu.out.later At.out))
     have Qc:Hid ((w3.setCell (qa w1.heap.size 5) (.slice b2 r2.length d2)).heap.size=w3.heap.size):=vaq ..;clear BE P0_4 P1_4 P2_4 P3_4 GJ J6 Gh;go_wp2_with fail;refine C5.out.mono ?_;rintro e w5 ⟨Am,As⟩;have Cf:=As.size;rw [Qc.out] at Cf;have P0_6:Hid (w5.heap[w.heap.size]? = some (.cells #[kv,lv] 195)):=(As.block _ (lt_of_heap P0_5.out)).trans P0_5.out;have P1_6:Hid (w5.heap[w.heap.size+1]? = some (kzB x.op x.mod x.name a1 x.args.length c1 a2 x.body.length c2 a3 x.other.length c3)):=(As.block _ (lt_of_heap P1_5.out)).trans P1_5.out;have P2_6:Hid (w5.heap[w.heap.size+2]? = some (kzA 0 0 0 0 none 0 0 none 0 0 none 0 0)):=(As.block _ (lt_of_heap P2_5.out)).trans P2_5.out;have P3_6:Hid (w5.heap[w1.heap.size]? = some (kzA ho hn hm ha b1 r1.length d1 b2 r2.length d2 none 0 0)):=(As.block _ (lt_of_heap P3_5.out)).trans P3_5.out
     have Co:=hid (thenB At.out As);have GJ:=hid (EI.out.later As);have Oy:=hid (Cb.out.later As);clear As C5 P0_5 P1_5 P2_5 P3_5 EI Cb At;clear b0 b1_ bf s0 s1 s2 s3 s4 s5 sf r0 r1_ r2_ r3_ r4 r5 r6 rf t0 t1 t2 t3 t4 t5 t6 tf Bt CJ Ch CC;obtain ⟨b0,b1_,bf⟩:=zcr P0_6.out;obtain ⟨s0,s1,s2,s3,s4,s5,sf⟩:=zao P1_6.out;obtain ⟨r0,r1_,r2_,r3_,r4,r5,r6,rf⟩:=zd1 P2_6.out;obtain ⟨t0,t1,t2,t3,t4,t5,t6,tf⟩:=zd1 P3_6.out;have Bt:=lt_of_heap P0_6.out;have CJ:=lt_of_heap P1_6.out;have Ch:=lt_of_heap P2_6.out;have CC:=lt_of_heap P3_6.out
     cases GU:zf2 K L x.other with
     | error c=>
       rw [GU] at Am;obtain ⟨rfl,Ai⟩:=Am;have HF:=hid (z0r eJ AY.out An.out GU);clear GU;go_wp2_with fail;refine bodyPost_ret (v:=.tuple #[.agg #[qi ho,qi hn,qi hm,qi ha,.slice b1 r1.length d1,.slice b2 r2.length d2,qs],qi c]) bm rfl ⟨bP,?_⟩;exact jG
     | ok r3=>
       rw [GU] at Am;obtain ⟨b3,d3,rfl,he3⟩:=Am;have HF:=hid (z81 eJ AY.out An.out GU);rw [HH.out] at HF;simp only [] at HF;have FD:Hid (EAt w5 (w1.heap.size+1<=·) b3 r3.length (zdu r3)):=he3.moves ⟨vaa _,fun b _ h=>⟨by rw [Qc.out] at h;show w1.heap.size+1<=b;omega,rfl⟩⟩
       have FC:Hid (∀ v0 v1 v2 v3 v4 v5 v6,zad w5 (w1.heap.size+1<=·) (((set5 (w5.setCell (qa w1.heap.size 6) (.slice b3 r3.length d3)) (w.heap.size+1+1) v0 v1 v2 v3 v4).setCell ⟨w.heap.size+1+1,5,none⟩ v5).setCell ⟨w.heap.size+1+1,6,none⟩ v6) (w.heap.size<=·)):=fun v0 v1 v2 v3 v4 v5 v6=>
        (((((zad.refl w5 (w1.heap.size+1<=·)).set (p:=(qa w1.heap.size 6)) df _).set5 (b:=w.heap.size+1+1) (by intro b _ hb;have:w1.heap.size+1<=b:=hb;omega) v0 v1 v2 v3 v4).set (p:=⟨w.heap.size+1+1,5,none⟩) cU v5).set (p:=⟨w.heap.size+1+1,6,none⟩) cU v6).trans ⟨vaa _,fun b _ h=>⟨by have:w1.heap.size+1<=b:=h;show w.heap.size<=b;omega,rfl⟩⟩
       clear GU he3;go_wp2_with fail;refine bodyPost_ret (v:=.tuple #[.agg #[qi ho,qi hn,qi hm,qi ha,.slice b1 r1.length d1,.slice b2 r2.length d2,.slice b3 r3.length d3],qi 0]) bm rfl ⟨by rw [HF.out];exact ⟨b1,d1,b2,d2,b3,d3,rfl,GJ.out.moves (FC.out _ _ _ _ _ _ _),Oy.out.moves (FC.out _ _ _ _ _ _ _),FD.out.moves (FC.out _ _ _ _ _ _ _)⟩,?_⟩;exact jG
theorem zkw:∀ (k:Nat) (l:List St),zah k l=false->zoc l
 | 0,l,h=>by simp [zah] at h
 | k+1,l,h=>by
   simp only [zah,vat] at h;have h1:=of_decide_eq_false h.1
   refine zrp l ae fun j hj=>?_
   have:=h.2;rw [vca] at this;have hx:=this l[j] (vah _);simp only [vcv,vat,vcz] at hx;have none_ok:zoc []:=zrp [] aA (fun j hj=>by simp at hj)
   have nil_of:∀ b:List St,decide (0<b.length)=false->zoc b:=fun b h=>by
    have:b=[]:=vam (by have:=of_decide_eq_false h;omega)
    rw [this];exact none_ok
   exact z3x _ (zro 6 _ hx.1) (hx.2.1.elim (fun h=>nil_of _ h.2) (zkw k _)) (hx.2.2.elim (nil_of _) (zkw k _))
end Go.Proofs.YtndkhgakfodldaaGreatDoor
