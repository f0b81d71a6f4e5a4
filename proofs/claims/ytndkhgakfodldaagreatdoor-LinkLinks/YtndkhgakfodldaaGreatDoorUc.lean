import Derived.Test.YtndkhgakfodldaaGreatDoorUb
import Derived.Test.YtndkhgakfodldaaGreatDoorPa
namespace Go.Proofs.YtndkhgakfodldaaGreatDoor
set_option maxRecDepth 100000
set_option maxHeartbeats 1600000
open Go.RowKit Go.Maps Go.WideMaps
set_option linter.unusedSimpArgs false
theorem bl2 (w:World) (o p:Obj):qb w ((w.alloc o).alloc p):=thenB (al1 w o) (al1 _ p)
theorem bl3 (w:World) (o p q:Obj):qb w (((w.alloc o).alloc p).alloc q):=thenB (bl2 w o p) (al1 _ q)
theorem zyd (kv lv:Value) (g:Mg) (c:Int) (bl em:Bool) (mod name:ByteArray) (ks:List Int) (b cap:Nat) (w:World) (Ot:mod.toList.isEmpty=em) (EZ:(bl&&em)=false)
 (h1:(Instr.lookup 187 kv (.agg #[.string mod,.string name]) true).run Tryz.prog ((w.alloc (.cells #[kv,lv] 195)).alloc (kzJ 0 0 0 0)) = .ok (.tuple #[.agg #[qi g.kind,qi g.n,qi g.m,qi g.at_],.bool false]) ((w.alloc (.cells #[kv,lv] 195)).alloc (kzJ 0 0 0 0)))
 (h2:(Instr.lookup 185 lv (.string name) true).run Tryz.prog (((w.alloc (.cells #[kv,lv] 195)).alloc (kzJ 0 0 0 0)).alloc (kzJ g.kind g.n g.m g.at_)) = .ok (.tuple #[qi c,.bool bl]) (((w.alloc (.cells #[kv,lv] 195)).alloc (kzJ 0 0 0 0)).alloc (kzJ g.kind g.n g.m g.at_))) :
 qc 256 #[.agg #[kv,lv],.string mod,.string name,.slice (some (qa b 0)) ks.length cap] w fun e w'=>e = .returned (.tuple #[mg0.val,qi 5])/\qb w w':=by
 have HB:=hid (fun o p q=>bl3 w o p q)
 cases bl with
 | false=>
   clear EZ;go_enter Tryz.func256,Tryz.ntmps256;go_wp2_with fail;refine bodyPost_ret (v:=.tuple #[mg0.val,qi 5]) (by simp [results,Tryz.results256,go_sem,Mg.val,mg0]) rfl ⟨rfl,HB.out _ _ _⟩
 | true=>
   cases em with
   | true=>cases EZ
   | false=>
     clear EZ;go_enter Tryz.func256,Tryz.ntmps256;go_wp2_with fail;refine bodyPost_ret (v:=.tuple #[mg0.val,qi 5]) (by simp [results,Tryz.results256,go_sem,Mg.val,mg0]) rfl ⟨rfl,HB.out _ _ _⟩
theorem ztr (kv lv:Value) (g:Mg) (c:Int) (bl em:Bool) (mod name:ByteArray) (ks:List Int) (b cap:Nat) (w:World) (hI:zhf w b ks) (hl:ks.length<=1000) (r:Mg × Int) (hr:r=if ks.contains g.kind then (g,0) else (mg0,7)) (Ot:mod.toList.isEmpty=em) (EZ:(bl&&em)=false)
 (h1:(Instr.lookup 187 kv (.agg #[.string mod,.string name]) true).run Tryz.prog ((w.alloc (.cells #[kv,lv] 195)).alloc (kzJ 0 0 0 0)) = .ok (.tuple #[.agg #[qi g.kind,qi g.n,qi g.m,qi g.at_],.bool true]) ((w.alloc (.cells #[kv,lv] 195)).alloc (kzJ 0 0 0 0)))
 (h2:(Instr.lookup 185 lv (.string name) true).run Tryz.prog (((w.alloc (.cells #[kv,lv] 195)).alloc (kzJ 0 0 0 0)).alloc (kzJ g.kind g.n g.m g.at_)) = .ok (.tuple #[qi c,.bool bl]) (((w.alloc (.cells #[kv,lv] 195)).alloc (kzJ 0 0 0 0)).alloc (kzJ g.kind g.n g.m g.at_))) :
 qc 256 #[.agg #[kv,lv],.string mod,.string name,.slice (some (qa b 0)) ks.length cap] w fun e w'=>e = .returned (.tuple #[r.1.val,qi r.2])/\qb w w':=by
 have HB:=hid (fun o p q=>bl3 w o p q);have HI:=hid hI;have HQ:=hid hr;clear hI hr
 cases bl with
 | false=>
   clear EZ;go_enter Tryz.func256,Tryz.ntmps256;go_wp2_with fail;refine (zfa ks g.kind b cap _ (HI.out.later (HB.out _ _ _)) hl).mono ?_;rintro e w' ⟨rfl,rfl⟩
   cases hc:ks.contains g.kind with
   | false=>
     have HR:Hid (r=(mg0,7)):=HQ.out.trans (by rw [hc];rfl);clear hc;go_wp2_with fail;refine bodyPost_ret (v:=.tuple #[mg0.val,qi 7]) (by simp [results,Tryz.results256,go_sem,Mg.val,mg0]) rfl ⟨by rw [HR.out],HB.out _ _ _⟩
   | true=>
     have HR:Hid (r=(⟨g.kind,g.n,g.m,g.at_⟩,0)):=HQ.out.trans (by rw [hc];rfl);clear hc;go_wp2_with fail;refine bodyPost_ret (v:=.tuple #[.agg #[qi g.kind,qi g.n,qi g.m,qi g.at_],qi 0]) (by simp [results,Tryz.results256,go_sem,Mg.val,mg0]) rfl ⟨by rw [HR.out];rfl,HB.out _ _ _⟩
 | true=>
   cases em with
   | true=>cases EZ
   | false=>
     clear EZ;go_enter Tryz.func256,Tryz.ntmps256;go_wp2_with fail;refine (zfa ks g.kind b cap _ (HI.out.later (HB.out _ _ _)) hl).mono ?_;rintro e w' ⟨rfl,rfl⟩
     cases hc:ks.contains g.kind with
     | false=>
       have HR:Hid (r=(mg0,7)):=HQ.out.trans (by rw [hc];rfl);clear hc;go_wp2_with fail;refine bodyPost_ret (v:=.tuple #[mg0.val,qi 7]) (by simp [results,Tryz.results256,go_sem,Mg.val,mg0]) rfl ⟨by rw [HR.out],HB.out _ _ _⟩
     | true=>
       have HR:Hid (r=(⟨g.kind,g.n,g.m,g.at_⟩,0)):=HQ.out.trans (by rw [hc];rfl);clear hc;go_wp2_with fail;refine bodyPost_ret (v:=.tuple #[.agg #[qi g.kind,qi g.n,qi g.m,qi g.at_],qi 0]) (by simp [results,Tryz.results256,go_sem,Mg.val,mg0]) rfl ⟨by rw [HR.out];rfl,HB.out _ _ _⟩
theorem zu8 (kv lv:Value) (g:Mg) (c:Int) (bk:Bool) (mod name:ByteArray) (ks:List Int) (b cap:Nat) (w:World) (hI:zhf w b ks) (hl:ks.length<=1000) (r:Mg × Int) (hr:r=if ks.contains 0 then (⟨0,0,0,c⟩,0) else (mg0,7)) (Ot:mod.toList.isEmpty=true)
 (h1:(Instr.lookup 187 kv (.agg #[.string mod,.string name]) true).run Tryz.prog ((w.alloc (.cells #[kv,lv] 195)).alloc (kzJ 0 0 0 0)) = .ok (.tuple #[.agg #[qi g.kind,qi g.n,qi g.m,qi g.at_],.bool bk]) ((w.alloc (.cells #[kv,lv] 195)).alloc (kzJ 0 0 0 0)))
 (h2:(Instr.lookup 185 lv (.string name) true).run Tryz.prog (((w.alloc (.cells #[kv,lv] 195)).alloc (kzJ 0 0 0 0)).alloc (kzJ g.kind g.n g.m g.at_)) = .ok (.tuple #[qi c,.bool true]) (((w.alloc (.cells #[kv,lv] 195)).alloc (kzJ 0 0 0 0)).alloc (kzJ g.kind g.n g.m g.at_))) :
 qc 256 #[.agg #[kv,lv],.string mod,.string name,.slice (some (qa b 0)) ks.length cap] w fun e w'=>e = .returned (.tuple #[r.1.val,qi r.2])/\qb w w':=by
 have HB:=hid (fun o p q=>bl3 w o p q);have HI:=hid hI;have HQ:=hid hr;clear hI hr;go_enter Tryz.func256,Tryz.ntmps256;go_wp2_with fail;refine (zfa ks 0 b cap _ (HI.out.later (HB.out _ _ _)) hl).mono ?_;rintro e w' ⟨rfl,rfl⟩
 cases hc:ks.contains 0 with
 | false=>
   have HR:Hid (r=(mg0,7)):=HQ.out.trans (by rw [hc];rfl);clear hc;go_wp2_with fail;refine bodyPost_ret (v:=.tuple #[mg0.val,qi 7]) (by simp [results,Tryz.results256,go_sem,Mg.val,mg0]) rfl ⟨by rw [HR.out],HB.out _ _ _⟩
 | true=>
   have HR:Hid (r=(⟨0,0,0,c⟩,0)):=HQ.out.trans (by rw [hc];rfl);clear hc;go_wp2_with fail;refine bodyPost_ret (v:=.tuple #[.agg #[qi 0,qi 0,qi 0,qi c],qi 0]) (by simp [results,Tryz.results256,go_sem,Mg.val,mg0]) rfl ⟨by rw [HR.out];rfl,HB.out _ _ _⟩
theorem z1a (K:Kn) (L:Lc) (kv lv:Value) (mod name:ByteArray) (ks:List Int) (b cap:Nat) (w:World) (hK:zls w kv K) (hL:zmq w lv L) (hm:mod.size<=maxLen) (hn:name.size<=maxLen) (hI:zhf w b ks) (hl:ks.length<=1000) :
 qc 256 #[.agg #[kv,lv],.string mod,.string name,.slice (some (qa b 0)) ks.length cap] w fun e w'=>e = .returned (.tuple #[(findM K L mod name ks).1.val,qi (findM K L mod name ks).2])/\qb w w':=by
 have h1:=hK ((w.alloc (.cells #[kv,lv] 195)).alloc (kzJ 0 0 0 0)) (bl2 _ _ _) mod name hm hn;generalize hg:(K mod name).getD mg0=g at h1;have h2:=hL (((w.alloc (.cells #[kv,lv] 195)).alloc (kzJ 0 0 0 0)).alloc (kzJ g.kind g.n g.m g.at_)) (bl3 _ _ _ _) name hn;have he:=zh5 mod;unfold findM z6a
 cases F3:L name with
 | some c=>
   rw [F3] at h2
   by_cases hz:mod.size=0
   . rw [if_pos hz]
     rw [decide_eq_true hz] at he;exact zu8 kv lv g c _ mod name ks b cap w hI hl _ rfl he h1 h2
   . rw [if_neg hz]
     rw [decide_eq_false hz] at he
     cases hk:K mod name with
     | none=>rw [hk] at h1;exact zyd kv lv g c true false mod name ks b cap w he rfl h1 h2
     | some x=>
       rw [hk] at h1 hg;obtain rfl:x=g:=hg;exact ztr kv lv x c true false mod name ks b cap w hI hl _ rfl he rfl h1 h2
 | none=>
   rw [F3] at h2
   have e:(if mod.size=0 then (match (none:Option Int) with | some a=>some (⟨0,0,0,a⟩:Mg) | none=>K mod name) else K mod name)=K mod name:=by split<;>rfl
   simp only [ite_self]
   cases hk:K mod name with
   | none=>rw [hk] at h1;exact zyd kv lv g 0 false _ mod name ks b cap w he rfl h1 h2
   | some x=>
     rw [hk] at h1 hg;obtain rfl:x=g:=hg;exact ztr kv lv x 0 false _ mod name ks b cap w hI hl _ rfl he rfl h1 h2
theorem z1b (w:World) (l:List Int) (t:TypeId) (b:Nat) (hb:b=w.heap.size):zhf (w.alloc (.cells (l.map (Value.int .i64)).toArray t)) b l:=by
 subst hb;refine ⟨by simp,fun j hj=>?_⟩;rw [vep (heap_newP w _)];simp [hj]
theorem zc8 {B b:Nat} {a w:World} (h:Below B a w) (hb:B<=b) (v0 v1 v2 v3:Value):Below B a ((((w.setCell (qa b 0) v0).setCell (qa b 1) v1).setCell (qa b 2) v2).setCell (qa b 3) v3):=
 (((h.setCell (p:=(qa b 0)) hb _).setCell (p:=(qa b 1)) hb _).setCell (p:=(qa b 2)) hb _).setCell (p:=(qa b 3)) hb _
theorem zhg (K:Kn) (L:Lc) (kv lv:Value) (mod name:ByteArray) (ks:List Int) (t:TypeId) (b cap:Nat) (w:World) (hb:b=w.heap.size) (hK:zls w kv K) (hL:zmq w lv L) (hm:mod.size<=maxLen) (hn:name.size<=maxLen) (hl:ks.length<=1000) :
 qc 256 #[.agg #[kv,lv],.string mod,.string name,.slice (some (qa b 0)) ks.length cap] (w.alloc (.cells (ks.map (Value.int .i64)).toArray t)) fun e w'=>e = .returned (.tuple #[(findM K L mod name ks).1.val,qi (findM K L mod name ks).2])/\qb w w':=
 (z1a K L kv lv mod name ks b cap _ (hK.later (al1 _ _)) (hL.later (al1 _ _)) hm hn (z1b w ks t b hb) hl).mono fun _ _ h=>⟨h.1,thenB (al1 _ _) h.2⟩
theorem zkk (K:Kn) (L:Lc) (kv lv:Value) (mod name:ByteArray) (Bj:Int) (w:World) (hK:zls w kv K) (hL:zmq w lv L) (hm:mod.size<=maxLen) (hn:name.size<=maxLen) :
 qc 257 #[.agg #[kv,lv],.string mod,.string name,qi Bj] w fun e w'=>e = .returned (.tuple #[(zh3 K L mod name Bj).1.val,qi (zh3 K L mod name Bj).2])/\qb w w':=by
 have HC:=hid (zhg K L kv lv mod name [4] 3 (w.heap.size+2) 1 ((w.alloc (.cells #[kv,lv] 195)).alloc (kzJ 0 0 0 0)) (by simp) (hK.later (bl2 _ _ _)) (hL.later (bl2 _ _ _)) hm hn (by decide));have HB:=hid (fun o p=>bl2 w o p)
 have hR:∀ x,zh3 K L mod name Bj=x->Hid (zh3 K L mod name Bj=x):=fun x h=>h
 unfold zh3 at hR ⊢;clear hK hL hm hn;generalize findM K L mod name [4]=r at *;obtain ⟨⟨kd,n,m,at_⟩,er⟩:=r;simp only [Mg.val] at HC hR;generalize hq:(if er=0/\n≠Bj then (mg0,(8:Int)) else (({ kind:=kd,n:=n,m:=m,at_:=at_ }:Mg),er))=q at *;have HQ:=hid hq;clear hq hR;go_enter Tryz.func257,Tryz.ntmps257;go_wp2_with fail;refine HC.out.mono ?_;rintro e w1 ⟨rfl,A5⟩;have A8:=hid (thenB (HB.out _ _) A5);have Ao:=A5.size;simp at Ao;have JW:Hid (w1.heap[w.heap.size+1]? = some (kzJ 0 0 0 0)):=(A5.block (w.heap.size+1) (by simp)).trans (by have:=heap_newP (w.alloc (.cells #[kv,lv] 195)) (kzJ 0 0 0 0);simpa using this);obtain ⟨h0,h1,h2,h3,h4⟩:=z0h JW.out
 have A0:w.heap.size+1<w1.heap.size:=by omega
 clear A5 HC
 by_cases he:er=0
 . by_cases hn:n=Bj
   . have HR:Hid (q=(⟨kd,n,m,at_⟩,0)):=HQ.out.symm.trans (by rw [if_neg (by simp [hn]),he])
     subst he hn;clear HQ;go_wp2_with fail;refine bodyPost_ret (v:=.tuple #[.agg #[qi kd,qi n,qi m,qi at_],qi 0]) (by simp [results,Tryz.results257,go_sem,h0,h1,h2,h3,A0]) rfl ⟨by rw [HR.out];rfl,?_⟩
     first | exact zc8 (A8.out.alloc A8.out.size _) (by omega) _ _ _ _ | exact (zc8 A8.out (by omega) _ _ _ _).alloc (by simp;omega) _
   . have HR:Hid (q=(mg0,8)):=HQ.out.symm.trans (by rw [if_pos ⟨he,hn⟩])
     subst he;clear HQ;go_wp2_with fail;refine bodyPost_ret (v:=.tuple #[mg0.val,qi 8]) (by simp [results,Tryz.results257,go_sem,Mg.val,mg0,h0,h1,h2,h3,A0]) rfl ⟨by rw [HR.out],?_⟩
     first | exact zc8 (A8.out.alloc A8.out.size _) (by omega) _ _ _ _ | exact (zc8 A8.out (by omega) _ _ _ _).alloc (by simp;omega) _
 . have HR:Hid (q=(⟨kd,n,m,at_⟩,er)):=HQ.out.symm.trans (by rw [if_neg (by simp [he])])
   clear HQ;go_wp2_with fail;refine bodyPost_ret (v:=.tuple #[.agg #[qi kd,qi n,qi m,qi at_],qi er]) (by simp [results,Tryz.results257,go_sem,h0,h1,h2,h3,A0]) rfl ⟨by rw [HR.out];rfl,?_⟩
   first | exact zc8 (A8.out.alloc A8.out.size _) (by omega) _ _ _ _ | exact (zc8 A8.out (by omega) _ _ _ _).alloc (by simp;omega) _
def Al.node (a:Al):Value:=.agg #[qi a.op,qi a.n,qi a.m,qi a.at_,qs]
def Al.act (a:Al):Value:=.agg #[qi a.op,qi a.n,qi a.m,qi a.at_,qs,qs,qs]
theorem zdg {B b:Nat} {a w:World} (h:Below B a w) (hb:B<=b) (v0 v1 v2 v3 v4:Value):Below B a (set5 w b v0 v1 v2 v3 v4):=
 (zc8 h hb v0 v1 v2 v3).setCell (p:=(qa b 4)) hb _
theorem zn4 {B b:Nat} {a w:World} (h:Below B a w) (hb:B<=b) (v0 v1 v2 v3 v4 v5 v6:Value):Below B a (((set5 w b v0 v1 v2 v3 v4).setCell (qa b 5) v5).setCell (qa b 6) v6):=
 ((zdg h hb v0 v1 v2 v3 v4).setCell (p:=(qa b 5)) hb _).setCell (p:=(qa b 6)) hb _
theorem zdd {w:World} {b:Nat} {x0 x1 x2 x3 x4 x5 x6:Value} {t:TypeId} (h:w.heap[b]? = some (.cells #[x0,x1,x2,x3,x4,x5,x6] t (0,0))) :
 w.cell? (qa b 0)=some x0/\w.cell? (qa b 1)=some x1/\w.cell? (qa b 2)=some x2/\w.cell? (qa b 3)=some x3/\w.cell? (qa b 4)=some x4/\w.cell? (qa b 5)=some x5/\w.cell? (qa b 6)=some x6/\∀ i,w.frozen? (qa b i)=false:=by
 refine ⟨?_,?_,?_,?_,?_,?_,?_,fun i=>veq h i⟩<;>(rw [vep h];rfl)
theorem zn5 {w w1:World} {o p q:Obj} (h:Below (((w.alloc o).alloc p).alloc q).heap.size (((w.alloc o).alloc p).alloc q) w1):w1.heap[w.heap.size]? = some o/\w1.heap[w.heap.size+1]? = some p/\w1.heap[w.heap.size+2]? = some q:=by
 refine ⟨(h.block _ (by simp;omega)).trans (zab (zab (heap_newP w o))),(h.block _ (by simp)).trans (zab (by simpa using heap_newP (w.alloc o) p)),(h.block _ (by simp)).trans (by simpa using heap_newP ((w.alloc o).alloc p) q)⟩
theorem zye (K:Kn) (L:Lc) (kv lv:Value) (op n:Int) (mod name:ByteArray) (aa:OA) (k cap:Nat) (w:World) (hK:zls w kv K) (hL:zmq w lv L) (hm:mod.size<=maxLen) (hn:name.size<=maxLen) :
 qc 288 #[.agg #[kv,lv],.agg #[qi op,qi n,.string mod,.string name,.slice aa k cap]] w fun e w'=>e = .returned (.tuple #[(z5c K L mod name).node,qi (z5c K L mod name).err])/\qb w w':=by
 have HC:=hid (zhg K L kv lv mod name [0,1,2] 3 (w.heap.size+3) 3 (((w.alloc (.cells #[kv,lv] 195)).alloc (kzE op n mod name aa k cap)).alloc (kzF 0 0 0 0 none 0 0)) (by simp) (hK.later (bl3 _ _ _ _)) (hL.later (bl3 _ _ _ _)) hm hn (by decide));have HB:=hid (fun o p q=>bl3 w o p q)
 obtain ⟨r,hq⟩:∃ r,r=z5c K L mod name:=⟨_,rfl⟩
 rw [← hq];unfold z5c at hq;clear hK hL hm hn;generalize findM K L mod name [0,1,2]=f at *;obtain ⟨⟨kd,fn,fm,fa⟩,er⟩:=f;simp only [Mg.val] at HC hq;have HQ:=hid hq;clear hq;go_enter Tryz.func288,Tryz.ntmps288;go_wp2_with fail;refine HC.out.mono ?_;rintro e w1 ⟨rfl,A5⟩;have A8:=hid (thenB (HB.out _ _ _) A5);have Ao:=A5.size;simp at Ao;obtain ⟨q0,q1,q2⟩:=zn5 A5;obtain ⟨h0,h1,h2,h3,h4,h5⟩:=zaa q2
 have A0:w.heap.size+2<w1.heap.size:=by omega
 clear A5 HC q0 q1 q2
 by_cases he:er=0
 . subst he
   by_cases JB:kd=1
   . have HR:Hid (r=⟨1,fn,0,0,0⟩):=HQ.out.trans (by rw [if_neg (by simp),if_pos JB])
     subst JB;clear HQ;go_wp2_with fail;refine bodyPost_ret (v:=.tuple #[.agg #[qi 1,qi fn,qi 0,qi 0,qs],qi 0]) (by simp [results,Tryz.results288,go_sem,h0,h1,h2,h3,h4,A0]) rfl ⟨by rw [HR.out];rfl,?_⟩;exact (zdg A8.out (by omega) _ _ _ _ _).alloc (by simp;omega) _
   . by_cases MI:kd=2
     . have HR:Hid (r=⟨3,0,fm,fa,0⟩):=HQ.out.trans (by rw [if_neg (by simp),if_neg JB,if_pos MI])
       subst MI;clear HQ JB;go_wp2_with fail;refine bodyPost_ret (v:=.tuple #[.agg #[qi 3,qi 0,qi fm,qi fa,qs],qi 0]) (by simp [results,Tryz.results288,go_sem,h0,h1,h2,h3,h4,A0]) rfl ⟨by rw [HR.out];rfl,?_⟩;exact (zdg A8.out (by omega) _ _ _ _ _).alloc (by simp;omega) _
     . have HR:Hid (r=⟨16,0,0,fa,0⟩):=HQ.out.trans (by rw [if_neg (by simp),if_neg JB,if_neg MI])
       clear HQ;go_wp2_with fail;refine bodyPost_ret (v:=.tuple #[.agg #[qi 16,qi 0,qi 0,qi fa,qs],qi 0]) (by simp [results,Tryz.results288,go_sem,h0,h1,h2,h3,h4,A0]) rfl ⟨by rw [HR.out];rfl,?_⟩;exact (zdg A8.out (by omega) _ _ _ _ _).alloc (by simp;omega) _
 . have HR:Hid (r=⟨0,0,0,0,er⟩):=HQ.out.trans (by rw [if_pos he])
   clear HQ;go_wp2_with fail;refine bodyPost_ret (v:=.tuple #[.agg #[qi 0,qi 0,qi 0,qi 0,qs],qi er]) (by simp [results,Tryz.results288,go_sem,h0,h1,h2,h3,h4,A0]) rfl ⟨by rw [HR.out];rfl,?_⟩;exact (zdg A8.out (by omega) _ _ _ _ _).alloc (by simp;omega) _
theorem zrt (K:Kn) (L:Lc) (kv lv:Value) (op n:Int) (mod name:ByteArray) (aa:OA) (k cap:Nat) (w:World) (hK:zls w kv K) (hL:zmq w lv L) (hm:mod.size<=maxLen) (hn:name.size<=maxLen) (h3:op=3) (r:Al) (hr:r=z5c K L mod name) :
 qc 258 #[.agg #[kv,lv],.agg #[qi op,qi n,.string mod,.string name,.slice aa k cap]] w fun e w'=>e = .returned (.tuple #[r.node,qi r.err])/\qb w w':=by
 have HC:=hid (zye K L kv lv op n mod name aa k cap (((w.alloc (.cells #[kv,lv] 195)).alloc (kzE op n mod name aa k cap)).alloc (kzF 0 0 0 0 none 0 0)) (hK.later (bl3 _ _ _ _)) (hL.later (bl3 _ _ _ _)) hm hn);have HB:=hid (fun o p q=>bl3 w o p q);clear hK hL hm hn;rw [← hr] at HC;clear hr;obtain ⟨ro,rn,rm,ra,re⟩:=r;simp only [Al.node] at HC ⊢;subst h3;go_enter Tryz.func258,Tryz.ntmps258;go_wp2_with fail;refine HC.out.mono ?_;rintro e w1 ⟨rfl,A5⟩;have A8:=hid (thenB (HB.out _ _ _) A5);have Ao:=A5.size;simp at Ao;obtain ⟨q0,q1,q2⟩:=zn5 A5;obtain ⟨h0,h1,h2,h3,h4,h5⟩:=zaa q2
 have A0:w.heap.size+2<w1.heap.size:=by omega
 clear A5 HC q0 q1 q2;have HR:Hid (True):=trivial;go_wp2_with fail;refine bodyPost_ret (v:=.tuple #[.agg #[qi ro,qi rn,qi rm,qi ra,qs],qi re]) (by simp [results,Tryz.results258,go_sem,h0,h1,h2,h3,h4,A0]) rfl ⟨rfl,?_⟩;exact zdg A8.out (by omega) _ _ _ _ _
theorem zru (K:Kn) (L:Lc) (kv lv:Value) (op n:Int) (mod name:ByteArray) (aa:OA) (k cap:Nat) (w:World) (hK:zls w kv K) (hL:zmq w lv L) (hm:mod.size<=maxLen) (hn:name.size<=maxLen) (BB:op=4) (f:Mg × Int) (hf:f=findM K L mod name [3]) :
 qc 258 #[.agg #[kv,lv],.agg #[qi op,qi n,.string mod,.string name,.slice aa k cap]] w fun e w'=>e = .returned (.tuple #[.agg #[qi 4,qi f.1.n,qi f.1.m,qi f.1.at_,qs],qi f.2])/\qb w w':=by
 have HC:=hid (zhg K L kv lv mod name [3] 3 (w.heap.size+3) 1 (((w.alloc (.cells #[kv,lv] 195)).alloc (kzE op n mod name aa k cap)).alloc (kzF 0 0 0 0 none 0 0)) (by simp) (hK.later (bl3 _ _ _ _)) (hL.later (bl3 _ _ _ _)) hm hn (by decide));have HB:=hid (fun o p q=>bl3 w o p q);clear hK hL hm hn;rw [← hf] at HC;clear hf;obtain ⟨⟨kd,fn,fm,fa⟩,er⟩:=f;simp only [Mg.val] at HC ⊢;subst BB;go_enter Tryz.func258,Tryz.ntmps258;go_wp2_with fail;refine HC.out.mono ?_;rintro e w1 ⟨rfl,A5⟩;have A8:=hid (thenB (HB.out _ _ _) A5);have Ao:=A5.size;simp at Ao;obtain ⟨q0,q1,q2⟩:=zn5 A5;obtain ⟨h0,h1,h2,h3,h4,h5⟩:=zaa q2
 have A0:w.heap.size+2<w1.heap.size:=by omega
 obtain ⟨x0,x1,x2,x3,x4,x5⟩:=zaa q1
 have GD:w.heap.size+1<w1.heap.size:=by omega
 clear A5 HC q0 q1 q2;go_wp2_with fail;refine bodyPost_ret (v:=.tuple #[.agg #[qi 4,qi fn,qi fm,qi fa,qs],qi er]) (by simp [results,Tryz.results258,go_sem,h0,h1,h2,h3,h4,A0]) rfl ⟨rfl,?_⟩;exact (zdg A8.out (by omega) _ _ _ _ _).alloc (by simp;omega) _
theorem zrv (K:Kn) (L:Lc) (kv lv:Value) (op n:Int) (mod name:ByteArray) (aa:OA) (k cap:Nat) (w:World) (hK:zls w kv K) (hL:zmq w lv L) (hm:mod.size<=maxLen) (hn:name.size<=maxLen) (BB:op=5) (f:Mg × Int) (hf:f=zh3 K L mod name k) :
 qc 258 #[.agg #[kv,lv],.agg #[qi op,qi n,.string mod,.string name,.slice aa k cap]] w fun e w'=>e = .returned (.tuple #[.agg #[qi 5,qi 0,qi f.1.m,qi f.1.at_,qs],qi f.2])/\qb w w':=by
 have HC:=hid (zkk K L kv lv mod name k (((w.alloc (.cells #[kv,lv] 195)).alloc (kzE op n mod name aa k cap)).alloc (kzF 0 0 0 0 none 0 0)) (hK.later (bl3 _ _ _ _)) (hL.later (bl3 _ _ _ _)) hm hn);have HB:=hid (fun o p q=>bl3 w o p q);clear hK hL hm hn;rw [← hf] at HC;clear hf;obtain ⟨⟨kd,fn,fm,fa⟩,er⟩:=f;simp only [Mg.val] at HC ⊢;subst BB;go_enter Tryz.func258,Tryz.ntmps258;go_wp2_with fail;refine HC.out.mono ?_;rintro e w1 ⟨rfl,A5⟩;have A8:=hid (thenB (HB.out _ _ _) A5);have Ao:=A5.size;simp at Ao;obtain ⟨q0,q1,q2⟩:=zn5 A5;obtain ⟨h0,h1,h2,h3,h4,h5⟩:=zaa q2
 have A0:w.heap.size+2<w1.heap.size:=by omega
 obtain ⟨x0,x1,x2,x3,x4,x5⟩:=zaa q1
 have GD:w.heap.size+1<w1.heap.size:=by omega
 clear A5 HC q0 q1 q2;go_wp2_with fail;refine bodyPost_ret (v:=.tuple #[.agg #[qi 5,qi 0,qi fm,qi fa,qs],qi er]) (by simp [results,Tryz.results258,go_sem,h0,h1,h2,h3,h4,A0]) rfl ⟨rfl,?_⟩;exact (zdg A8.out (by omega) _ _ _ _ _).alloc (by simp;omega) _
theorem zrw (kv lv:Value) (op n:Int) (mod name:ByteArray) (aa:OA) (k cap:Nat) (w:World) (h3:op≠3) (h4:op≠4) (h5:op≠5) :
 qc 258 #[.agg #[kv,lv],.agg #[qi op,qi n,.string mod,.string name,.slice aa k cap]] w fun e w'=>e = .returned (.tuple #[.agg #[qi op,qi n,qi 0,qi 0,qs],qi 0])/\qb w w':=by
 have HB:=hid (fun o p q=>bl3 w o p q);go_enter Tryz.func258,Tryz.ntmps258;go_wp2_with fail;refine bodyPost_ret (v:=.tuple #[.agg #[qi op,qi n,qi 0,qi 0,qs],qi 0]) (by simp [results,Tryz.results258,go_sem]) rfl ⟨rfl,HB.out _ _ _⟩
theorem zn6 (K:Kn) (L:Lc) (kv lv:Value) (x:Ex) (aa:OA) (cap:Nat) (w:World) (hK:zls w kv K) (hL:zmq w lv L) (hm:x.mod.size<=maxLen) (hn:x.name.size<=maxLen) :
 qc 258 #[.agg #[kv,lv],.agg #[qi x.op,qi x.n,.string x.mod,.string x.name,.slice aa x.args.length cap]] w fun e w'=>e = .returned (.tuple #[(ndM K L x).node,qi (ndM K L x).err])/\qb w w':=by
 unfold ndM
 by_cases h3:x.op=3
 . rw [if_pos h3]
   exact zrt K L kv lv x.op x.n x.mod x.name aa x.args.length cap w hK hL hm hn h3 _ rfl
 rw [if_neg h3]
 by_cases h4:x.op=4
 . rw [if_pos h4]
   exact zru K L kv lv x.op x.n x.mod x.name aa x.args.length cap w hK hL hm hn h4 _ rfl
 rw [if_neg h4]
 by_cases h5:x.op=5
 . rw [if_pos h5]
   exact zrv K L kv lv x.op x.n x.mod x.name aa x.args.length cap w hK hL hm hn h5 _ rfl
 rw [if_neg h5];exact zrw kv lv x.op x.n x.mod x.name aa x.args.length cap w h3 h4 h5
theorem zu9 (K:Kn) (L:Lc) (kv lv:Value) (op:Int) (mod name:ByteArray) (a1 a2 a3:OA) (k1 k2 k3 c1 c2 c3:Nat) (w:World) (hK:zls w kv K) (hL:zmq w lv L) (hm:mod.size<=maxLen) (hn:name.size<=maxLen) (BB:op=1) (f:Mg × Int) (hf:f=findM K L mod name [0,2]) :
 qc 205 #[.agg #[kv,lv],.agg #[qi op,.string mod,.string name,.slice a1 k1 c1,.slice a2 k2 c2,.slice a3 k3 c3]] w fun e w'=>e = .returned (.tuple #[.agg #[qi 1,qi 0,qi (if f.1.kind=0 then -1 else f.1.m),qi f.1.at_,qs,qs,qs],qi f.2])/\qb w w':=by
 have HC:=hid (zhg K L kv lv mod name [0,2] 3 (w.heap.size+3) 2 (((w.alloc (.cells #[kv,lv] 195)).alloc (kzB op mod name a1 k1 c1 a2 k2 c2 a3 k3 c3)).alloc (kzA 0 0 0 0 none 0 0 none 0 0 none 0 0)) (by simp) (hK.later (bl3 _ _ _ _)) (hL.later (bl3 _ _ _ _)) hm hn (by decide));have HB:=hid (fun o p q=>bl3 w o p q);clear hK hL hm hn;rw [← hf] at HC;clear hf;obtain ⟨⟨kd,fn,fm,fa⟩,er⟩:=f;simp only [Mg.val] at HC ⊢;generalize hq:(if kd=0 then (-1:Int) else fm)=q;have HQ:=hid hq;clear hq;subst BB;go_enter Tryz.func205,Tryz.ntmps205;go_wp2_with fail;refine HC.out.mono ?_;rintro e w1 ⟨rfl,A5⟩;have A8:=hid (thenB (HB.out _ _ _) A5);have Ao:=A5.size;simp at Ao;obtain ⟨q0,q1,q2⟩:=zn5 A5;obtain ⟨h0,h1,h2,h3,h4,h5,h6,h7⟩:=zdd q2
 have A0:w.heap.size+2<w1.heap.size:=by omega
 obtain ⟨x0,x1,x2,x3,x4,x5,x6⟩:=zal q1
 have GD:w.heap.size+1<w1.heap.size:=by omega
 clear A5 HC q0 q1 q2
 by_cases hk:kd=0
 . have HR:Hid (q = -1):=HQ.out.symm.trans (if_pos hk)
   subst hk;clear HQ;go_wp2_with fail;refine bodyPost_ret (v:=.tuple #[.agg #[qi 1,qi 0,qi (-1),qi fa,qs,qs,qs],qi er]) (by simp [results,Tryz.results205,go_sem,h0,h1,h2,h3,h4,h5,h6,A0]) rfl ⟨by rw [HR.out],?_⟩;exact (zn4 A8.out (by omega) _ _ _ _ _ _ _).alloc (by simp;omega) _
 . have HR:Hid (q=fm):=HQ.out.symm.trans (if_neg hk)
   clear HQ;go_wp2_with fail;refine bodyPost_ret (v:=.tuple #[.agg #[qi 1,qi 0,qi fm,qi fa,qs,qs,qs],qi er]) (by simp [results,Tryz.results205,go_sem,h0,h1,h2,h3,h4,h5,h6,A0]) rfl ⟨by rw [HR.out],?_⟩;exact (zn4 A8.out (by omega) _ _ _ _ _ _ _).alloc (by simp;omega) _
theorem zva (K:Kn) (L:Lc) (kv lv:Value) (op:Int) (mod name:ByteArray) (a1 a2 a3:OA) (k1 k2 k3 c1 c2 c3:Nat) (w:World) (hK:zls w kv K) (hL:zmq w lv L) (hm:mod.size<=maxLen) (hn:name.size<=maxLen) (BB:op=2) (f:Mg × Int) (hf:f=findM K L mod name [3]) :
 qc 205 #[.agg #[kv,lv],.agg #[qi op,.string mod,.string name,.slice a1 k1 c1,.slice a2 k2 c2,.slice a3 k3 c3]] w fun e w'=>e = .returned (.tuple #[.agg #[qi 2,qi f.1.n,qi f.1.m,qi f.1.at_,qs,qs,qs],qi f.2])/\qb w w':=by
 have HC:=hid (zhg K L kv lv mod name [3] 3 (w.heap.size+3) 1 (((w.alloc (.cells #[kv,lv] 195)).alloc (kzB op mod name a1 k1 c1 a2 k2 c2 a3 k3 c3)).alloc (kzA 0 0 0 0 none 0 0 none 0 0 none 0 0)) (by simp) (hK.later (bl3 _ _ _ _)) (hL.later (bl3 _ _ _ _)) hm hn (by decide));have HB:=hid (fun o p q=>bl3 w o p q);clear hK hL hm hn;rw [← hf] at HC;clear hf;obtain ⟨⟨kd,fn,fm,fa⟩,er⟩:=f;simp only [Mg.val] at HC ⊢;subst BB;go_enter Tryz.func205,Tryz.ntmps205;go_wp2_with fail;refine HC.out.mono ?_;rintro e w1 ⟨rfl,A5⟩;have A8:=hid (thenB (HB.out _ _ _) A5);have Ao:=A5.size;simp at Ao;obtain ⟨q0,q1,q2⟩:=zn5 A5;obtain ⟨h0,h1,h2,h3,h4,h5,h6,h7⟩:=zdd q2
 have A0:w.heap.size+2<w1.heap.size:=by omega
 obtain ⟨x0,x1,x2,x3,x4,x5,x6⟩:=zal q1
 have GD:w.heap.size+1<w1.heap.size:=by omega
 clear A5 HC q0 q1 q2;go_wp2_with fail;refine bodyPost_ret (v:=.tuple #[.agg #[qi 2,qi fn,qi fm,qi fa,qs,qs,qs],qi er]) (by simp [results,Tryz.results205,go_sem,h0,h1,h2,h3,h4,h5,h6,A0]) rfl ⟨rfl,?_⟩;exact (zn4 A8.out (by omega) _ _ _ _ _ _ _).alloc (by simp;omega) _
theorem zvb (K:Kn) (L:Lc) (kv lv:Value) (op:Int) (mod name:ByteArray) (a1 a2 a3:OA) (k1 k2 k3 c1 c2 c3:Nat) (w:World) (hK:zls w kv K) (hL:zmq w lv L) (hm:mod.size<=maxLen) (hn:name.size<=maxLen) (BB:op=3) (f:Mg × Int) (hf:f=zh3 K L mod name k1) :
 qc 205 #[.agg #[kv,lv],.agg #[qi op,.string mod,.string name,.slice a1 k1 c1,.slice a2 k2 c2,.slice a3 k3 c3]] w fun e w'=>e = .returned (.tuple #[.agg #[qi 3,qi 0,qi f.1.m,qi f.1.at_,qs,qs,qs],qi f.2])/\qb w w':=by
 have HC:=hid (zkk K L kv lv mod name k1 (((w.alloc (.cells #[kv,lv] 195)).alloc (kzB op mod name a1 k1 c1 a2 k2 c2 a3 k3 c3)).alloc (kzA 0 0 0 0 none 0 0 none 0 0 none 0 0)) (hK.later (bl3 _ _ _ _)) (hL.later (bl3 _ _ _ _)) hm hn);have HB:=hid (fun o p q=>bl3 w o p q);clear hK hL hm hn;rw [← hf] at HC;clear hf;obtain ⟨⟨kd,fn,fm,fa⟩,er⟩:=f;simp only [Mg.val] at HC ⊢;subst BB;go_enter Tryz.func205,Tryz.ntmps205;go_wp2_with fail;refine HC.out.mono ?_;rintro e w1 ⟨rfl,A5⟩;have A8:=hid (thenB (HB.out _ _ _) A5);have Ao:=A5.size;simp at Ao;obtain ⟨q0,q1,q2⟩:=zn5 A5;obtain ⟨h0,h1,h2,h3,h4,h5,h6,h7⟩:=zdd q2
 have A0:w.heap.size+2<w1.heap.size:=by omega
 obtain ⟨x0,x1,x2,x3,x4,x5,x6⟩:=zal q1
 have GD:w.heap.size+1<w1.heap.size:=by omega
 clear A5 HC q0 q1 q2;go_wp2_with fail;refine bodyPost_ret (v:=.tuple #[.agg #[qi 3,qi 0,qi fm,qi fa,qs,qs,qs],qi er]) (by simp [results,Tryz.results205,go_sem,h0,h1,h2,h3,h4,h5,h6,A0]) rfl ⟨rfl,?_⟩;exact (zn4 A8.out (by omega) _ _ _ _ _ _ _).alloc (by simp;omega) _
theorem zvc (kv lv:Value) (op:Int) (mod name:ByteArray) (a1 a2 a3:OA) (k1 k2 k3 c1 c2 c3:Nat) (w:World) (h1:op≠1) (h2:op≠2) (h3:op≠3) :
 qc 205 #[.agg #[kv,lv],.agg #[qi op,.string mod,.string name,.slice a1 k1 c1,.slice a2 k2 c2,.slice a3 k3 c3]] w fun e w'=>e = .returned (.tuple #[.agg #[qi op,qi 0,qi 0,qi 0,qs,qs,qs],qi 0])/\qb w w':=by
 have HB:=hid (fun o p q=>bl3 w o p q);go_enter Tryz.func205,Tryz.ntmps205;go_wp2_with fail;refine bodyPost_ret (v:=.tuple #[.agg #[qi op,qi 0,qi 0,qi 0,qs,qs,qs],qi 0]) (by simp [results,Tryz.results205,go_sem]) rfl ⟨rfl,HB.out _ _ _⟩
theorem zpy (K:Kn) (L:Lc) (kv lv:Value) (x:St) (a1 a2 a3:OA) (c1 c2 c3:Nat) (w:World) (hK:zls w kv K) (hL:zmq w lv L) (hm:x.mod.size<=maxLen) (hn:x.name.size<=maxLen) :
 qc 205 #[.agg #[kv,lv],.agg #[qi x.op,.string x.mod,.string x.name,.slice a1 x.args.length c1,.slice a2 x.body.length c2,.slice a3 x.other.length c3]] w fun e w'=>e = .returned (.tuple #[(acM K L x).act,qi (acM K L x).err])/\qb w w':=by
 unfold acM
 by_cases h1:x.op=1
 . rw [if_pos h1]
   exact zu9 K L kv lv x.op x.mod x.name a1 a2 a3 _ _ _ c1 c2 c3 w hK hL hm hn h1 _ rfl
 rw [if_neg h1]
 by_cases h2:x.op=2
 . rw [if_pos h2]
   exact zva K L kv lv x.op x.mod x.name a1 a2 a3 _ _ _ c1 c2 c3 w hK hL hm hn h2 _ rfl
 rw [if_neg h2]
 by_cases h3:x.op=3
 . rw [if_pos h3]
   exact zvb K L kv lv x.op x.mod x.name a1 a2 a3 _ _ _ c1 c2 c3 w hK hL hm hn h3 _ rfl
 rw [if_neg h3];exact zvc kv lv x.op x.mod x.name a1 a2 a3 _ _ _ c1 c2 c3 w h1 h2 h3
set_option maxHeartbeats 3200000
theorem Tryz.infoNode:(Tryz.prog.info? 253).map (fun i=>(i.zero,i.size,i.bytes))=some (some (.agg #[qi 0,qi 0,qi 0,qi 0,qs]),5,56):=by kernel_rfl
def z6h {α:Type} (lo:Nat) (len:List α->Nat) (ds:List α->List D) (r:Except Int (List α)) (e:Ending) (w:World):Prop:=
 match r with
 | .error c=>e = .returned (.tuple #[.slice none 0 0,.int .i64 c])/\c≠0
 | .ok l=>∃ a cap,e = .returned (.tuple #[.slice a (len l) cap,.int .i64 0])/\EAt w (lo<=·) a (len l) (ds l)
def zn7 (l:List Ex):Prop:=∀ (K:Kn) (L:Lc) (kv lv:Value) (A:Nat->Prop) (a:OA) (cap:Nat) (w:World),zls w kv K->zmq w lv L->DAt w A a l.length (zb0 l)->
 qc 206 #[.agg #[kv,lv],.slice a l.length cap] w fun e w'=>z6h w.heap.size List.length zc2 (zgg K L l) e w'/\qb w w'
theorem zmr {a:Al} (h:a.err=0):alE a = .ok a:=if_pos h
theorem z2q {a:Al} (h:a.err≠0):alE a = .error a.err:=if_neg h
theorem zyf {K:Kn} {L:Lc} {x:Ex} (h:(ndM K L x).err≠0):rsE K L x = .error (ndM K L x).err:=by rw [zx6,z2q h];rfl
theorem z1c {K:Kn} {L:Lc} {x:Ex} {c:Int} (h:(ndM K L x).err=0) (ha:zgg K L x.args = .error c):rsE K L x = .error c:=by rw [zx6,zmr h,ha];rfl
theorem z6i {K:Kn} {L:Lc} {x:Ex} {l:List Nd} (h:(ndM K L x).err=0) (ha:zgg K L x.args = .ok l):rsE K L x = .ok (.mk (ndM K L x).op (ndM K L x).n (ndM K L x).m (ndM K L x).at_ l):=by rw [zx6,zmr h,ha];rfl
theorem z1d {A:Nat->Prop} {op n m at_:Int} {l:List Nd} {w:World} {a:OA} {cap:Nat} (h:EAt w A a l.length (zc2 l)):zat w A (Nd.mk op n m at_ l).ds [qi op,qi n,qi m,qi at_,.slice a l.length cap]:=by
 unfold Nd.ds;exact .cons zqp (.cons zqp (.cons zqp (.cons zqp (.cons h.val .nil))))
theorem zcd {w:World} {b:Nat} {x0 x1:Value} {t:TypeId} (h:w.heap[b]? = some (.cells #[x0,x1] t (0,0))) :
 w.cell? (qa b 0)=some x0/\w.cell? (qa b 1)=some x1/\∀ i,w.frozen? (qa b i)=false:=by
 refine ⟨?_,?_,fun i=>veq h i⟩<;>(rw [vep h];rfl)
theorem zms (l:List Ex) (G0:l.length<=5000) (ih:∀ j (h:j<l.length),zn7 l[j].args):zn7 l:=by
 intro K L kv lv A a cap w hK hL hD;have HK:=hid hK;have HL:=hid hL;have HD:=hid hD;have HI:=hid ih;clear hK hL hD ih;go_enter Tryz.func206,Tryz.ntmps206;go_wp2_with fail
 go_loopw [6,8,9,10,13] (fun v _ _ _ i wr=>∃ (j:Nat) (A7:List Nd),j<=l.length/\i=qi j/\A7.length=j/\zgg K L (l.take j) = .ok A7/\Row (w.heap.size+1) 253 5 wr v A7.length (zc2 A7)/\wr.heap[w.heap.size]? = some (.cells #[kv,lv] 195)/\qb w wr) (fun _ _ _ _ i _=>l.length - (intOf i).toNat)
 case atStart=>exact ⟨0,[],vae _,rfl,rfl,by rw [vek,zgg],Row.nil _ _ _ _,heap_newP _ _,al1 _ _⟩
 case round=>
  obtain ⟨j,A7,hj,rfl,hacc,Fi,Ab,hbx,hb⟩:=hrel;have HR:=hid Fi;have HO:=hid Ab;have HX:=hid hbx;have HB:=hid hb;have BU:=hb.size;have Cj:=lt_of_heap hbx;clear Fi Ab hb
  by_cases A0:j<l.length
  . obtain ⟨b,off,aa,cp,rfl,hx⟩:=(HD.out.later HB.out).ex j A0
    have Dp:=hid (HI.out j A0);have Ec:=hid (fun c (he:rsE K L l[j] = .error c)=>z0w A0 HR.out he);have Gd:=hid (fun y (he:rsE K L l[j] = .ok y)=>zx4 A0 HR.out he);obtain ⟨Au,x0,x1,x2,x3,x4,hargs,_,_,hm,hn⟩:=hx;have HA:=hid hargs;clear hargs;generalize l[j]=x at *;have HC:=hid (zn6 K L kv lv x aa cp (wr.alloc (kzE x.op x.n x.mod x.name aa x.args.length cp)) (HK.out.later (thenB HB.out (al1 _ _))) (HL.out.later (thenB HB.out (al1 _ _))) hm hn);obtain ⟨MN,bx1,CS⟩:=zcd HX.out;clear hm hn hbx;go_wp2_with fail;refine HC.out.mono ?_;generalize hh:ndM K L x=h at *;obtain ⟨ho,hn,hm,ha,he⟩:=h;simp only [Al.node] at *;rintro e w1 ⟨rfl,A5⟩;have A8:=hid (thenB (al1 wr _) A5);have Ao:=A5.size;simp at Ao;have q1:w1.heap[wr.heap.size]? = some (kzE x.op x.n x.mod x.name aa x.args.length cp):=(A5.block _ (by simp)).trans (heap_newP _ _)
    have q2:=(A8.out.block _ Cj).trans HX.out;obtain ⟨y0,y1,y2,y3,y4,y5⟩:=zaa q1;obtain ⟨Rn,bx1',hfz'⟩:=zcd q2;have AE:=hid q2
    have PQ:w.heap.size<w1.heap.size:=by omega
    have PS:wr.heap.size<w1.heap.size:=by omega
    clear A5 HC q1 q2 MN bx1 CS x0 x1 x2 x3 x4 y5 hfz'
    by_cases GM:he=0
    . subst GM
      have HH:=hid hh;clear hh;have Bh:=hid (Dp.out K L kv lv A aa cp (w1.alloc (kzF ho hn hm ha none 0 0)) (HK.out.later (thenB (thenB HB.out A8.out) (al1 _ _))) (HL.out.later (thenB (thenB HB.out A8.out) (al1 _ _))) (HA.out.later (thenB A8.out (al1 _ _))));go_wp2_with fail;refine Bh.out.mono ?_;rintro e w2 ⟨Ak,Aa⟩;have AA:=Aa.size;simp at AA;have q3:w2.heap[w1.heap.size]? = some (kzF ho hn hm ha none 0 0):=(Aa.block _ (by simp)).trans (heap_newP _ _);obtain ⟨z0,z1,z2,z3,z4,z5⟩:=zaa q3;have Ad:=hid (thenB A8.out (thenB (al1 _ _) Aa))
      have PR:w1.heap.size<w2.heap.size:=by omega
      clear Aa Bh q3
      cases hr:zgg K L x.args with
      | error c=>
        rw [hr] at Ak;obtain ⟨rfl,hc⟩:=Ak;have HF:=hid (Ec.out c (z1c (by rw [HH.out]) hr));clear hr;go_wp2_with fail;go_ret2;exact ⟨by rw [HF.out];exact ⟨rfl,hc⟩,(thenB HB.out Ad.out).setCell (p:=(qa w1.heap.size 4)) (by show w.heap.size<=w1.heap.size;omega) _⟩
      | ok r=>
        rw [hr] at Ak;obtain ⟨a2,c2,rfl,hea⟩:=Ak;have HF:=hid (Gd.out _ (z6i (by rw [HH.out]) hr));rw [HH.out] at HF;simp only [] at HF;have Af:Hid (qb wr (w2.setCell (qa w1.heap.size 4) (.slice a2 r.length c2))):=Ad.out.setCell (p:=(qa w1.heap.size 4)) (by show wr.heap.size<=w1.heap.size;omega) _;have EN:=hid (HO.out.later Af.out);have IE:Hid (zat (w2.setCell (qa w1.heap.size 4) (.slice a2 r.length c2)) (w1.heap.size+1<=·) (Nd.mk ho hn hm ha r).ds [qi ho,qi hn,qi hm,qi ha,.slice a2 r.length c2]):=z1d ((hea.moves ((zad.refl w2 _).set (p:=(qa w1.heap.size 4)) (by intro b _ hb;simp at hb;show b≠w1.heap.size;omega) _)).moves ⟨vaa _,fun b _ h=>⟨by simp at h;exact h,rfl⟩⟩);have K9:=hid (fun k hk=>(HO.out.lt k hk).2);have CI:Hid ((w2.setCell (qa w1.heap.size 4) (.slice a2 r.length c2)).heap[w.heap.size]? = some (.cells #[kv,lv] 195)):=(Af.out.block _ Cj).trans HX.out
        have JJ:Hid ((w2.setCell (qa w1.heap.size 4) (.slice a2 r.length c2)).heap.size=w2.heap.size):=vaq ..;clear hea hr
        go_wp2_with (at_builtin;refine zbn rfl (.tmp 37) (.tmp 39) 107 rfl (w.heap.size+1) 253 _ 5 56 Tryz.underlying107 Tryz.infoNode rfl (by decide) (w2.setCell (qa w1.heap.size 4) (.slice a2 r.length c2)) u6 A7.length (zc2 A7) (Nd.mk ho hn hm ha r).ds rfl EN.out #[qi ho,qi hn,qi hm,qi ha,.slice a2 r.length c2] _ JJ.out.symm rfl rfl (w1.heap.size+1<=·) IE.out ?_ (by omega) (by decide) (by rw [JJ.out];omega) ?_)
        . intro b _ hb
          have AZ:w1.heap.size+1<=b:=hb;exact ⟨by omega,fun h=>by have:=K9.out b h;omega⟩
        . intro g5 c5 w5 Br Ar Cc
          have B5:=hid Br;have AU:=hid Ar;clear Br Ar EN IE;go_wp2_with fail;go_roundw
          case rel=>exact ⟨j+1,A7++[Nd.mk ho hn hm ha r],by omega,by go_num,by simp [hacc],HF.out,by rw [zkc,z0u,vak,hacc];exact B5.out,(AU.out.block _ (by omega)).trans CI.out,(thenB HB.out Af.out).trans (AU.out.mono (by omega))⟩
          case measure=>simp [intOf];omega
    . have HF:=hid (Ec.out he (by rw [zyf (by rw [hh];exact GM),hh]))
      clear hh;go_wp2_with fail;go_ret2;exact ⟨by rw [HF.out];exact ⟨rfl,GM⟩,thenB (thenB HB.out A8.out) (al1 _ _)⟩
  . obtain rfl:j=l.length:=by omega
    have MY:Hid (zgg K L l = .ok A7):=by have:=HR.out;rw [vat] at this;exact this
    obtain ⟨a5,c5,rfl,hea⟩:=HO.out.slice;have Hy:=hid hea;clear hea hbx;go_wp2_with fail;go_ret2;refine ⟨by rw [MY.out];exact ⟨a5,c5,rfl,Hy.out.moves ⟨vaa _,fun b _ h=>⟨by have:w.heap.size+1<=b:=h;show w.heap.size<=b;omega,rfl⟩⟩⟩,HB.out⟩
theorem zpz:∀ (k:Nat) (l:List Ex),zam k l=false->zn7 l
 | 0,l,h=>zms l (by simp [zam] at h;rw [h];simp) (by simp [zam] at h;subst h;intro j hj;simp at hj)
 | k+1,l,h=>by
   simp only [zam,vas] at h;have h1:=of_decide_eq_false h.1
   refine zms l (by omega) fun j hj=>zpz k _ ?_
   have:=h.2;rw [vbz] at this;simpa using this l[j] (vag _)
theorem Tryz.infoAct:(Tryz.prog.info? 109).map (fun i=>(i.zero,i.size,i.bytes))=some (some (.agg #[qi 0,qi 0,qi 0,qi 0,qs,qs,qs]),7,104):=by kernel_rfl
def zmt (l:List St):Prop:=∀ (K:Kn) (L:Lc) (kv lv:Value) (A:Nat->Prop) (a:OA) (cap:Nat) (w:World),zls w kv K->zmq w lv L->DAt w A a l.length (zby l)->
 qc 121 #[.agg #[kv,lv],.slice a l.length cap] w fun e w'=>z6h w.heap.size List.length zc7 (ze7 K L l) e w'/\qb w w'
def z6j (lo:Nat) (r:Except Int Ac) (e:Ending) (w:World):Prop:=
 match r with
 | .error c=>∃ o n m t a1 k1 c1 a2 k2 c2 a3 k3 c3,e = .returned (.tuple #[.agg #[.int .i64 o,.int .i64 n,.int .i64 m,.int .i64 t,.slice a1 k1 c1,.slice a2 k2 c2,.slice a3 k3 c3],.int .i64 c])/\c≠0
 | .ok y=>∃ a1 c1 a2 c2 a3 c3,e = .returned (.tuple #[.agg #[.int .i64 y.op,.int .i64 y.n,.int .i64 y.m,.int .i64 y.at_,.slice a1 y.args.length c1,.slice a2 y.body.length c2,.slice a3 y.other.length c3],.int .i64 0])/\
   EAt w (lo<=·) a1 y.args.length (zc2 y.args)/\EAt w (lo<=·) a2 y.body.length (zc7 y.body)/\EAt w (lo<=·) a3 y.other.length (zc7 y.other)
def z6k (x:St):Prop:=∀ (K:Kn) (L:Lc) (kv lv:Value) (A:Nat->Prop) (a1:OA) (c1:Nat) (a2:OA) (c2:Nat) (a3:OA) (c3:Nat) (w:World),zls w kv K->zmq w lv L->x.mod.size<=maxLen->x.name.size<=maxLen->
 DAt w A a1 x.args.length (zb0 x.args)->DAt w A a2 x.body.length (zby x.body)->DAt w A a3 x.other.length (zby x.other)->
 qc 162 #[.agg #[kv,lv],.agg #[qi x.op,.string x.mod,.string x.name,.slice a1 x.args.length c1,.slice a2 x.body.length c2,.slice a3 x.other.length c3]] w fun e w'=>z6j w.heap.size (rsS K L x) e w'/\qb w w'
theorem z1e {A:Nat->Prop} {y:Ac} {w:World} {a1 a2 a3:OA} {c1 c2 c3:Nat} (h1:EAt w A a1 y.args.length (zc2 y.args)) (h2:EAt w A a2 y.body.length (zc7 y.body)) (h3:EAt w A a3 y.other.length (zc7 y.other)) :
 zat w A y.ds [qi y.op,qi y.n,qi y.m,qi y.at_,.slice a1 y.args.length c1,.slice a2 y.body.length c2,.slice a3 y.other.length c3]:=by
 obtain ⟨op,n,m,at_,args,body,other⟩:=y;unfold Ac.ds;exact .cons zqp (.cons zqp (.cons zqp (.cons zqp (.cons h1.val (.cons h2.val (.cons h3.val .nil))))))
theorem zp0 (l:List St) (G0:l.length<=5000) (ih:∀ j (h:j<l.length),z6k l[j]):zmt l:=by
 intro K L kv lv A a cap w hK hL hD;have HK:=hid hK;have HL:=hid hL;have HD:=hid hD;have HI:=hid ih;clear hK hL hD ih;go_enter Tryz.func121,Tryz.ntmps121;go_wp2_with fail
 go_loopw [6,8,9,10,13] (fun v _ _ _ i wr=>∃ (j:Nat) (A7:List Ac),j<=l.length/\i=qi j/\A7.length=j/\ze7 K L (l.take j) = .ok A7/\Row (w.heap.size+1) 109 7 wr v A7.length (zc7 A7)/\wr.heap[w.heap.size]? = some (.cells #[kv,lv] 195)/\qb w wr) (fun _ _ _ _ i _=>l.length - (intOf i).toNat)
 case atStart=>exact ⟨0,[],vae _,rfl,rfl,by rw [vek,ze7],Row.nil _ _ _ _,heap_newP _ _,al1 _ _⟩
 case round=>
  obtain ⟨j,A7,hj,rfl,hacc,Fi,Ab,hbx,hb⟩:=hrel;have HR:=hid Fi;have HO:=hid Ab;have HX:=hid hbx;have HB:=hid hb;have BU:=hb.size;have Cj:=lt_of_heap hbx;clear Fi Ab hb
  by_cases A0:j<l.length
  . obtain ⟨b,off,a1,p1,a2,p2,a3,p3,rfl,hx⟩:=(HD.out.later HB.out).st j A0
    have Dp:=hid (HI.out j A0);have Ec:=hid (fun c (he:rsS K L l[j] = .error c)=>z0x A0 HR.out he);have Gd:=hid (fun y (he:rsS K L l[j] = .ok y)=>zx5 A0 HR.out he);obtain ⟨Au,x0,x1,x2,x3,x4,x5,hargs,hbody,hother,_,hm,hn⟩:=hx;generalize l[j]=x at *;have HC:=hid (Dp.out K L kv lv A a1 p1 a2 p2 a3 p3 (wr.alloc (kzB x.op x.mod x.name a1 x.args.length p1 a2 x.body.length p2 a3 x.other.length p3)) (HK.out.later (thenB HB.out (al1 _ _))) (HL.out.later (thenB HB.out (al1 _ _))) hm hn (hargs.later (al1 _ _)) (hbody.later (al1 _ _)) (hother.later (al1 _ _)));obtain ⟨MN,bx1,CS⟩:=zcd HX.out;clear hm hn hbx hargs hbody hother;go_wp2_with fail;refine HC.out.mono ?_;rintro e w1 ⟨Ak,A5⟩;have A8:=hid (thenB (al1 wr _) A5);have Ao:=A5.size;simp at Ao;clear A5 HC MN bx1 CS x0 x1 x2 x3 x4 x5
    cases hr:rsS K L x with
    | error c=>
      rw [hr] at Ak;obtain ⟨o,n,m,t,f1,k1,e1,f2,k2,e2,f3,k3,e3,rfl,hc⟩:=Ak;have HF:=hid (Ec.out c hr);clear hr;go_wp2_with fail;go_ret2;exact ⟨by rw [HF.out];exact ⟨rfl,hc⟩,thenB (thenB HB.out A8.out) (al1 _ _)⟩
    | ok y=>
      rw [hr] at Ak;obtain ⟨b1,d1,b2,d2,b3,d3,rfl,he1,EH,he3⟩:=Ak;have HF:=hid (Gd.out _ hr);have Bd:=hid ((HO.out.later A8.out).alloc (kzA y.op y.n y.m y.at_ b1 y.args.length d1 b2 y.body.length d2 b3 y.other.length d3))
      have BR:Hid (zat (w1.alloc (kzA y.op y.n y.m y.at_ b1 y.args.length d1 b2 y.body.length d2 b3 y.other.length d3)) (wr.heap.size+1<=·) y.ds [qi y.op,qi y.n,qi y.m,qi y.at_,.slice b1 y.args.length d1,.slice b2 y.body.length d2,.slice b3 y.other.length d3]):=by
       have hm:zad w1 ((wr.alloc (kzB x.op x.mod x.name a1 x.args.length p1 a2 x.body.length p2 a3 x.other.length p3)).heap.size<=·) (w1.alloc (kzA y.op y.n y.m y.at_ b1 y.args.length d1 b2 y.body.length d2 b3 y.other.length d3)) (wr.heap.size+1<=·):=
        ((zad.refl w1 _).alloc _).trans ⟨vaa _,fun b _ h=>⟨by simp at h;exact h,rfl⟩⟩
       exact z1e (he1.moves hm) (EH.moves hm) (he3.moves hm)
      have K9:=hid (fun k hk=>(HO.out.lt k hk).2);have AE:=hid ((thenB A8.out (al1 w1 (kzA y.op y.n y.m y.at_ b1 y.args.length d1 b2 y.body.length d2 b3 y.other.length d3))).block _ Cj |>.trans HX.out);have C5:=hid (thenB (thenB HB.out A8.out) (al1 w1 (kzA y.op y.n y.m y.at_ b1 y.args.length d1 b2 y.body.length d2 b3 y.other.length d3)));clear he1 EH he3 hr
      go_wp2_with (at_builtin;refine zbn rfl (.tmp 26) (.tmp 28) 40 rfl (w.heap.size+1) 109 _ 7 104 Tryz.underlying40 Tryz.infoAct rfl (by decide) (w1.alloc (kzA y.op y.n y.m y.at_ b1 y.args.length d1 b2 y.body.length d2 b3 y.other.length d3)) u6 A7.length (zc7 A7) y.ds rfl Bd.out #[qi y.op,qi y.n,qi y.m,qi y.at_,.slice b1 y.args.length d1,.slice b2 y.body.length d2,.slice b3 y.other.length d3] _ (by simp) rfl rfl (wr.heap.size+1<=·) BR.out ?_ (by omega) (by decide) (by simp;omega) ?_)
      . intro b _ hb
        have AZ:wr.heap.size+1<=b:=hb;exact ⟨by omega,fun h=>by have:=K9.out b h;omega⟩
      . intro g5 c5 w5 Br Ar Cc
        have B5:=hid Br;have AU:=hid Ar;clear Br Ar Bd BR;go_wp2_with fail;go_roundw
        case rel=>exact ⟨j+1,A7++[y],by omega,by go_num,by simp [hacc],HF.out,by rw [zkd,z0v,vak,hacc];exact B5.out,(AU.out.block _ (by omega)).trans AE.out,C5.out.trans (AU.out.mono (by omega))⟩
        case measure=>simp [intOf];omega
  . obtain rfl:j=l.length:=by omega
    have MY:Hid (ze7 K L l = .ok A7):=by have:=HR.out;rw [vat] at this;exact this
    obtain ⟨a5,c5,rfl,hea⟩:=HO.out.slice;have Hy:=hid hea;clear hea hbx;go_wp2_with fail;go_ret2;refine ⟨by rw [MY.out];exact ⟨a5,c5,rfl,Hy.out.moves ⟨vaa _,fun b _ h=>⟨by have:w.heap.size+1<=b:=h;show w.heap.size<=b;omega,rfl⟩⟩⟩,HB.out⟩
set_option maxHeartbeats 8000000
theorem EAt.later {w w':World} {A:Nat->Prop} {a:OA} {n:Nat} {ds:List D} (h:EAt w A a n ds) (hb:qb w w'):EAt w' A a n ds:=h.moves (zad.of_below hb A)
theorem zyg {K:Kn} {L:Lc} {x:St} (h:(acM K L x).err≠0):rsS K L x = .error (acM K L x).err:=by rw [zps,z2q h];rfl
theorem z1f {K:Kn} {L:Lc} {x:St} {c:Int} (h:(acM K L x).err=0) (h1:zgg K L x.args = .error c):rsS K L x = .error c:=by rw [zps,zmr h,h1];rfl
theorem z1g {K:Kn} {L:Lc} {x:St} {c:Int} {l:List Nd} (h:(acM K L x).err=0) (h1:zgg K L x.args = .ok l) (h2:ze7 K L x.body = .error c):rsS K L x = .error c:=by rw [zps,zmr h,h1,h2];rfl
theorem zyh {K:Kn} {L:Lc} {x:St} {c:Int} {l:List Nd} {b:List Ac} (h:(acM K L x).err=0) (h1:zgg K L x.args = .ok l) (h2:ze7 K L x.body = .ok b) (h3:ze7 K L x.other = .error c):rsS K L x = .error c:=by rw [zps,zmr h,h1,h2,h3];rfl
theorem z6l {K:Kn} {L:Lc} {x:St} {l:List Nd} {b o:List Ac} (h:(acM K L x).err=0) (h1:zgg K L x.args = .ok l) (h2:ze7 K L x.body = .ok b) (h3:ze7 K L x.other = .ok o):rsS K L x = .ok (.mk (acM K L x).op (acM K L x).n (acM K L x).m (acM K L x).at_ l b o):=by rw [zps,zmr h,h1,h2,h3];rfl
theorem z1h (x:St) (hn:zn7 x.args) (hb:zmt x.body) (ho:zmt x.other):z6k x:=by
 intro K L kv lv A a1 c1 a2 c2 a3 c3 w hK hL hm Bq C8 Df hd3;have HC:=hid (zpy K L kv lv x a1 a2 a3 c1 c2 c3 (((w.alloc (.cells #[kv,lv] 195)).alloc (kzB x.op x.mod x.name a1 x.args.length c1 a2 x.body.length c2 a3 x.other.length c3)).alloc (kzA 0 0 0 0 none 0 0 none 0 0 none 0 0)) (hK.later (bl3 _ _ _ _)) (hL.later (bl3 _ _ _ _)) hm Bq);have HK:=hid hK;have HL:=hid hL;have Lr:=hid C8;have Hz:=hid Df;have Kt:=hid hd3;have HN:=hid hn;have Gp:=hid hb;have N7:=hid ho;have HB:=hid (fun o p q=>bl3 w o p q);clear hn hb ho hK hL hm Bq C8 Df hd3;go_enter Tryz.func162,Tryz.ntmps162;go_wp2_with fail;refine HC.out.mono ?_
 have HG:Hid (∀ h,acM K L x=h->acM K L x=h):=fun h e=>e
 generalize hh:acM K L x=h at HC ⊢;obtain ⟨ho,hn,hm,ha,he⟩:=h;simp only [Al.act];rintro e w1 ⟨rfl,A5⟩;have A8:=hid (thenB (HB.out _ _ _) A5);have Ao:=A5.size;simp at Ao;obtain ⟨q0,q1,q2⟩:=zn5 A5;have HH:=hid hh;have P0_0:=hid q0;have P1_0:=hid q1;have P2_0:=hid q2;clear A5 HC q0 q1 q2 hh HG;obtain ⟨b0,b1_,bf⟩:=zcd P0_0.out;obtain ⟨s0,s1,s2,s3,s4,s5,sf⟩:=zal P1_0.out;obtain ⟨r0,r1_,r2_,r3_,r4,r5,r6,rf⟩:=zdd P2_0.out;have Bn:=lt_of_heap P0_0.out;have Cz:=lt_of_heap P1_0.out;have Cg:=lt_of_heap P2_0.out
 by_cases GM:he=0
 case neg=>
  have HF:=hid ((zyg (by rw [HH.out];exact GM)).trans (by rw [HH.out]):rsS K L x = .error he);have Aj:=GM;go_wp2_with fail;refine bodyPost_ret (v:=.tuple #[.agg #[qi 0,qi 0,qi 0,qi 0,qs,qs,qs],qi he]) (by simp [results,Tryz.results162,go_sem,r0,r1_,r2_,r3_,r4,r5,r6,Cg]) rfl ⟨by rw [HF.out];exact ⟨_,_,_,_,_,_,_,_,_,_,_,_,_,rfl,Aj⟩,?_⟩;exact (zn4 A8.out (by omega) _ _ _ _ _ _ _).alloc (by simp;omega) _
 subst GM;have P3_1:Hid ((w1.alloc (kzA ho hn hm ha none 0 0 none 0 0 none 0 0)).heap[w1.heap.size]? = some (kzA ho hn hm ha none 0 0 none 0 0 none 0 0)):=heap_newP _ _;have P0_1:Hid ((w1.alloc (kzA ho hn hm ha none 0 0 none 0 0 none 0 0)).heap[w.heap.size]? = some (.cells #[kv,lv] 195)):=zab P0_0.out;have P1_1:Hid ((w1.alloc (kzA ho hn hm ha none 0 0 none 0 0 none 0 0)).heap[w.heap.size+1]? = some (kzB x.op x.mod x.name a1 x.args.length c1 a2 x.body.length c2 a3 x.other.length c3)):=zab P1_0.out;have P2_1:Hid ((w1.alloc (kzA ho hn hm ha none 0 0 none 0 0 none 0 0)).heap[w.heap.size+2]? = some (kzA 0 0 0 0 none 0 0 none 0 0 none 0 0)):=zab P2_0.out;have An:Hid (qb w (w1.alloc (kzA ho hn hm ha none 0 0 none 0 0 none 0 0))):=thenB A8.out (al1 _ _);have Bh:=hid (HN.out K L kv lv A a1 c1 (w1.alloc (kzA ho hn hm ha none 0 0 none 0 0 none 0 0)) (HK.out.later An.out) (HL.out.later An.out) (Lr.out.later An.out))
 go_wp2_with fail;refine Bh.out.mono ?_;rintro e w2 ⟨Ak,Aa⟩;have AA:=Aa.size;simp at AA;have P0_2:Hid (w2.heap[w.heap.size]? = some (.cells #[kv,lv] 195)):=(Aa.block _ (lt_of_heap P0_1.out)).trans P0_1.out;have P1_2:Hid (w2.heap[w.heap.size+1]? = some (kzB x.op x.mod x.name a1 x.args.length c1 a2 x.body.length c2 a3 x.other.length c3)):=(Aa.block _ (lt_of_heap P1_1.out)).trans P1_1.out;have P2_2:Hid (w2.heap[w.heap.size+2]? = some (kzA 0 0 0 0 none 0 0 none 0 0 none 0 0)):=(Aa.block _ (lt_of_heap P2_1.out)).trans P2_1.out;have P3_2:Hid (w2.heap[w1.heap.size]? = some (kzA ho hn hm ha none 0 0 none 0 0 none 0 0)):=(Aa.block _ (lt_of_heap P3_1.out)).trans P3_1.out;have Ad:=hid (thenB An.out Aa);clear Aa Bh P0_0 P1_0 P2_0 P0_1 P1_1 P2_1 P3_1 b0 b1_ bf s0 s1 s2 s3 s4 s5 sf r0 r1_ r2_ r3_ r4 r5 r6 rf Bn Cz Cg;obtain ⟨b0,b1_,bf⟩:=zcd P0_2.out
 obtain ⟨s0,s1,s2,s3,s4,s5,sf⟩:=zal P1_2.out;obtain ⟨r0,r1_,r2_,r3_,r4,r5,r6,rf⟩:=zdd P2_2.out;obtain ⟨t0,t1,t2,t3,t4,t5,t6,tf⟩:=zdd P3_2.out;have Bn:=lt_of_heap P0_2.out;have Cz:=lt_of_heap P1_2.out;have Cg:=lt_of_heap P2_2.out;have CR:=lt_of_heap P3_2.out
 cases DV:zgg K L x.args with
 | error c=>
   rw [DV] at Ak;obtain ⟨rfl,Aj⟩:=Ak;have HF:=hid (z1f (by rw [HH.out]) DV);clear DV;go_wp2_with fail;refine bodyPost_ret (v:=.tuple #[.agg #[qi 0,qi 0,qi 0,qi 0,qs,qs,qs],qi c]) (by simp [results,Tryz.results162,go_sem,r0,r1_,r2_,r3_,r4,r5,r6,Cg]) rfl ⟨by rw [HF.out];exact ⟨_,_,_,_,_,_,_,_,_,_,_,_,_,rfl,Aj⟩,?_⟩;exact zn4 (Ad.out.setCell (p:=(qa w1.heap.size 4)) (by show w.heap.size<=w1.heap.size;omega) _) (by omega) _ _ _ _ _ _ _
 | ok r1=>
   rw [DV] at Ak;obtain ⟨b1,d1,rfl,he1⟩:=Ak;have AV:=hid DV;have BR:=hid he1;clear DV he1;have P0_3:Hid ((w2.setCell (qa w1.heap.size 4) (.slice b1 r1.length d1)).heap[w.heap.size]? = some (.cells #[kv,lv] 195)):=(heap_set_ne (by show w.heap.size≠w1.heap.size;omega) _).trans P0_2.out;have P1_3:Hid ((w2.setCell (qa w1.heap.size 4) (.slice b1 r1.length d1)).heap[w.heap.size+1]? = some (kzB x.op x.mod x.name a1 x.args.length c1 a2 x.body.length c2 a3 x.other.length c3)):=(heap_set_ne (by show w.heap.size+1≠w1.heap.size;omega) _).trans P1_2.out;have P2_3:Hid ((w2.setCell (qa w1.heap.size 4) (.slice b1 r1.length d1)).heap[w.heap.size+2]? = some (kzA 0 0 0 0 none 0 0 none 0 0 none 0 0)):=(heap_set_ne (by show w.heap.size+2≠w1.heap.size;omega) _).trans P2_2.out;have P3_3:Hid ((w2.setCell (qa w1.heap.size 4) (.slice b1 r1.length d1)).heap[w1.heap.size]? = some (kzA ho hn hm ha b1 r1.length d1 none 0 0 none 0 0)):=heap_set P3_2.out _
   have Af:Hid (qb w (w2.setCell (qa w1.heap.size 4) (.slice b1 r1.length d1))):=Ad.out.setCell (p:=(qa w1.heap.size 4)) (by show w.heap.size<=w1.heap.size;omega) _;have E9:Hid (EAt (w2.setCell (qa w1.heap.size 4) (.slice b1 r1.length d1)) (w1.heap.size+1<=·) b1 r1.length (zc2 r1)):=(BR.out.moves ((zad.refl w2 _).set (p:=(qa w1.heap.size 4)) (by intro b _ hb;simp at hb;show b≠w1.heap.size;omega) _)).moves ⟨vaa _,fun b _ h=>⟨by simp at h;exact h,rfl⟩⟩;have BF:=hid (Gp.out K L kv lv A a2 c2 (w2.setCell (qa w1.heap.size 4) (.slice b1 r1.length d1)) (HK.out.later Af.out) (HL.out.later Af.out) (Hz.out.later Af.out));have JJ:Hid ((w2.setCell (qa w1.heap.size 4) (.slice b1 r1.length d1)).heap.size=w2.heap.size):=vaq ..;clear BR P0_2 P1_2 P2_2 P3_2;go_wp2_with fail;refine BF.out.mono ?_;rintro e w3 ⟨Ak,A9⟩;have BO:=A9.size
   rw [JJ.out] at BO;have P0_4:Hid (w3.heap[w.heap.size]? = some (.cells #[kv,lv] 195)):=(A9.block _ (lt_of_heap P0_3.out)).trans P0_3.out;have P1_4:Hid (w3.heap[w.heap.size+1]? = some (kzB x.op x.mod x.name a1 x.args.length c1 a2 x.body.length c2 a3 x.other.length c3)):=(A9.block _ (lt_of_heap P1_3.out)).trans P1_3.out;have P2_4:Hid (w3.heap[w.heap.size+2]? = some (kzA 0 0 0 0 none 0 0 none 0 0 none 0 0)):=(A9.block _ (lt_of_heap P2_3.out)).trans P2_3.out;have P3_4:Hid (w3.heap[w1.heap.size]? = some (kzA ho hn hm ha b1 r1.length d1 none 0 0 none 0 0)):=(A9.block _ (lt_of_heap P3_3.out)).trans P3_3.out;have I3:=hid (thenB Af.out A9);have FM:=hid (E9.out.later A9);clear A9 BF P0_3 P1_3 P2_3 P3_3 E9 Af;clear b0 b1_ bf s0 s1 s2 s3 s4 s5 sf r0 r1_ r2_ r3_ r4 r5 r6 rf t0 t1 t2 t3 t4 t5 t6 tf Bn Cz Cg CR;obtain ⟨b0,b1_,bf⟩:=zcd P0_4.out
   obtain ⟨s0,s1,s2,s3,s4,s5,sf⟩:=zal P1_4.out;obtain ⟨r0,r1_,r2_,r3_,r4,r5,r6,rf⟩:=zdd P2_4.out;obtain ⟨t0,t1,t2,t3,t4,t5,t6,tf⟩:=zdd P3_4.out;have Bn:=lt_of_heap P0_4.out;have Cz:=lt_of_heap P1_4.out;have Cg:=lt_of_heap P2_4.out;have CR:=lt_of_heap P3_4.out
   cases FV:ze7 K L x.body with
   | error c=>
     rw [FV] at Ak;obtain ⟨rfl,Aj⟩:=Ak;have HF:=hid (z1g (by rw [HH.out]) AV.out FV);clear FV;go_wp2_with fail;refine bodyPost_ret (v:=.tuple #[.agg #[qi 0,qi 0,qi 0,qi 0,qs,qs,qs],qi c]) (by simp [results,Tryz.results162,go_sem,r0,r1_,r2_,r3_,r4,r5,r6,Cg]) rfl ⟨by rw [HF.out];exact ⟨_,_,_,_,_,_,_,_,_,_,_,_,_,rfl,Aj⟩,?_⟩;exact zn4 (I3.out.setCell (p:=(qa w1.heap.size 5)) (by show w.heap.size<=w1.heap.size;omega) _) (by omega) _ _ _ _ _ _ _
   | ok r2=>
     rw [FV] at Ak;obtain ⟨b2,d2,rfl,EH⟩:=Ak;have Am:=hid FV;have Bv:=hid EH;clear FV EH;have P0_5:Hid ((w3.setCell (qa w1.heap.size 5) (.slice b2 r2.length d2)).heap[w.heap.size]? = some (.cells #[kv,lv] 195)):=(heap_set_ne (by show w.heap.size≠w1.heap.size;omega) _).trans P0_4.out;have P1_5:Hid ((w3.setCell (qa w1.heap.size 5) (.slice b2 r2.length d2)).heap[w.heap.size+1]? = some (kzB x.op x.mod x.name a1 x.args.length c1 a2 x.body.length c2 a3 x.other.length c3)):=(heap_set_ne (by show w.heap.size+1≠w1.heap.size;omega) _).trans P1_4.out;have P2_5:Hid ((w3.setCell (qa w1.heap.size 5) (.slice b2 r2.length d2)).heap[w.heap.size+2]? = some (kzA 0 0 0 0 none 0 0 none 0 0 none 0 0)):=(heap_set_ne (by show w.heap.size+2≠w1.heap.size;omega) _).trans P2_4.out;have P3_5:Hid ((w3.setCell (qa w1.heap.size 5) (.slice b2 r2.length d2)).heap[w1.heap.size]? = some (kzA ho hn hm ha b1 r1.length d1 b2 r2.length d2 none 0 0)):=heap_set P3_4.out _
     have Ar:Hid (qb w (w3.setCell (qa w1.heap.size 5) (.slice b2 r2.length d2))):=I3.out.setCell (p:=(qa w1.heap.size 5)) (by show w.heap.size<=w1.heap.size;omega) _;have Fo:zad w3 (w1.heap.size+1<=·) (w3.setCell (qa w1.heap.size 5) (.slice b2 r2.length d2)) (w1.heap.size+1<=·):=(zad.refl w3 _).set (p:=(qa w1.heap.size 5)) (by intro b _ hb;show b≠w1.heap.size;have:w1.heap.size+1<=b:=hb;omega) _;have E9:Hid (EAt (w3.setCell (qa w1.heap.size 5) (.slice b2 r2.length d2)) (w1.heap.size+1<=·) b1 r1.length (zc2 r1)):=FM.out.moves Fo;have C3:Hid (EAt (w3.setCell (qa w1.heap.size 5) (.slice b2 r2.length d2)) (w1.heap.size+1<=·) b2 r2.length (zc7 r2)):=(Bv.out.moves ⟨vaa _,fun b _ h=>⟨by rw [JJ.out] at h;show w1.heap.size+1<=b;omega,rfl⟩⟩:EAt w3 (w1.heap.size+1<=·) b2 r2.length (zc7 r2)).moves Fo;have BX:=hid (N7.out K L kv lv A a3 c3 (w3.setCell (qa w1.heap.size 5) (.slice b2 r2.length d2)) (HK.out.later Ar.out) (HL.out.later Ar.out) (Kt.out.later Ar.out))
     have OR:Hid ((w3.setCell (qa w1.heap.size 5) (.slice b2 r2.length d2)).heap.size=w3.heap.size):=vaq ..;clear Bv P0_4 P1_4 P2_4 P3_4 FM I3 Fo;go_wp2_with fail;refine BX.out.mono ?_;rintro e w5 ⟨Ak,Aq⟩;have Cc:=Aq.size;rw [OR.out] at Cc;have P0_6:Hid (w5.heap[w.heap.size]? = some (.cells #[kv,lv] 195)):=(Aq.block _ (lt_of_heap P0_5.out)).trans P0_5.out;have P1_6:Hid (w5.heap[w.heap.size+1]? = some (kzB x.op x.mod x.name a1 x.args.length c1 a2 x.body.length c2 a3 x.other.length c3)):=(Aq.block _ (lt_of_heap P1_5.out)).trans P1_5.out;have P2_6:Hid (w5.heap[w.heap.size+2]? = some (kzA 0 0 0 0 none 0 0 none 0 0 none 0 0)):=(Aq.block _ (lt_of_heap P2_5.out)).trans P2_5.out;have P3_6:Hid (w5.heap[w1.heap.size]? = some (kzA ho hn hm ha b1 r1.length d1 b2 r2.length d2 none 0 0)):=(Aq.block _ (lt_of_heap P3_5.out)).trans P3_5.out
     have Cb:=hid (thenB Ar.out Aq);have FM:=hid (E9.out.later Aq);have Ni:=hid (C3.out.later Aq);clear Aq BX P0_5 P1_5 P2_5 P3_5 E9 C3 Ar;clear b0 b1_ bf s0 s1 s2 s3 s4 s5 sf r0 r1_ r2_ r3_ r4 r5 r6 rf t0 t1 t2 t3 t4 t5 t6 tf Bn Cz Cg CR;obtain ⟨b0,b1_,bf⟩:=zcd P0_6.out;obtain ⟨s0,s1,s2,s3,s4,s5,sf⟩:=zal P1_6.out;obtain ⟨r0,r1_,r2_,r3_,r4,r5,r6,rf⟩:=zdd P2_6.out;obtain ⟨t0,t1,t2,t3,t4,t5,t6,tf⟩:=zdd P3_6.out;have Bn:=lt_of_heap P0_6.out;have Cz:=lt_of_heap P1_6.out;have Cg:=lt_of_heap P2_6.out;have CR:=lt_of_heap P3_6.out
     cases Ib:ze7 K L x.other with
     | error c=>
       rw [Ib] at Ak;obtain ⟨rfl,Aj⟩:=Ak;have HF:=hid (zyh (by rw [HH.out]) AV.out Am.out Ib);clear Ib;go_wp2_with fail;refine bodyPost_ret (v:=.tuple #[.agg #[qi ho,qi hn,qi hm,qi ha,.slice b1 r1.length d1,.slice b2 r2.length d2,qs],qi c]) (by simp [results,Tryz.results162,go_sem,r0,r1_,r2_,r3_,r4,r5,r6,Cg]) rfl ⟨by rw [HF.out];exact ⟨_,_,_,_,_,_,_,_,_,_,_,_,_,rfl,Aj⟩,?_⟩;exact zn4 (Cb.out.setCell (p:=(qa w1.heap.size 6)) (by show w.heap.size<=w1.heap.size;omega) _) (by omega) _ _ _ _ _ _ _
     | ok r3=>
       rw [Ib] at Ak;obtain ⟨b3,d3,rfl,he3⟩:=Ak;have HF:=hid (z6l (by rw [HH.out]) AV.out Am.out Ib);rw [HH.out] at HF;simp only [] at HF;have EP:Hid (EAt w5 (w1.heap.size+1<=·) b3 r3.length (zc7 r3)):=he3.moves ⟨vaa _,fun b _ h=>⟨by rw [OR.out] at h;show w1.heap.size+1<=b;omega,rfl⟩⟩
       have EO:Hid (∀ v0 v1 v2 v3 v4 v5 v6,zad w5 (w1.heap.size+1<=·) (((set5 (w5.setCell (qa w1.heap.size 6) (.slice b3 r3.length d3)) (w.heap.size+1+1) v0 v1 v2 v3 v4).setCell ⟨w.heap.size+1+1,5,none⟩ v5).setCell ⟨w.heap.size+1+1,6,none⟩ v6) (w.heap.size<=·)):=fun v0 v1 v2 v3 v4 v5 v6=>
        (((((zad.refl w5 (w1.heap.size+1<=·)).set (p:=(qa w1.heap.size 6)) (by intro b _ hb;show b≠w1.heap.size;have:w1.heap.size+1<=b:=hb;omega) _).set5 (b:=w.heap.size+1+1) (by intro b _ hb;have:w1.heap.size+1<=b:=hb;omega) v0 v1 v2 v3 v4).set (p:=⟨w.heap.size+1+1,5,none⟩) (by intro b _ hb;show b≠w.heap.size+1+1;have:w1.heap.size+1<=b:=hb;omega) v5).set (p:=⟨w.heap.size+1+1,6,none⟩) (by intro b _ hb;show b≠w.heap.size+1+1;have:w1.heap.size+1<=b:=hb;omega) v6).trans ⟨vaa _,fun b _ h=>⟨by have:w1.heap.size+1<=b:=h;show w.heap.size<=b;omega,rfl⟩⟩
       clear Ib he3;go_wp2_with fail;refine bodyPost_ret (v:=.tuple #[.agg #[qi ho,qi hn,qi hm,qi ha,.slice b1 r1.length d1,.slice b2 r2.length d2,.slice b3 r3.length d3],qi 0]) (by simp [results,Tryz.results162,go_sem,r0,r1_,r2_,r3_,r4,r5,r6,Cg]) rfl ⟨by rw [HF.out];exact ⟨b1,d1,b2,d2,b3,d3,rfl,FM.out.moves (EO.out _ _ _ _ _ _ _),Ni.out.moves (EO.out _ _ _ _ _ _ _),EP.out.moves (EO.out _ _ _ _ _ _ _)⟩,?_⟩;exact zn4 (Cb.out.setCell (p:=(qa w1.heap.size 6)) (by show w.heap.size<=w1.heap.size;omega) _) (by omega) _ _ _ _ _ _ _
theorem zji:∀ (k:Nat) (l:List St),zah k l=false->zmt l
 | 0,l,h=>by simp [zah] at h
 | k+1,l,h=>by
   simp only [zah,vas] at h;have h1:=of_decide_eq_false h.1
   refine zp0 l (by omega) fun j hj=>?_
   have:=h.2;rw [vbz] at this;have hx:=this l[j] (vag _);simp only [vcs,vas,vcx] at hx;have none_ok:zmt []:=zp0 [] (by simp) (fun j hj=>by simp at hj)
   have nil_of:∀ b:List St,decide (0<b.length)=false->zmt b:=fun b h=>by
    have:b=[]:=vam (by have:=of_decide_eq_false h;omega)
    rw [this];exact none_ok
   exact z1h _ (zpz 6 _ hx.1) (hx.2.1.elim (fun h=>nil_of _ h.2) (zji k _)) (hx.2.2.elim (nil_of _) (zji k _))
end Go.Proofs.YtndkhgakfodldaaGreatDoor
