import Derived.Test.YtndkhgakfodldaaGreatDoorUb
import Derived.Test.YtndkhgakfodldaaGreatDoorPa
namespace Go.Proofs.YtndkhgakfodldaaGreatDoor
set_option maxRecDepth 100000
set_option maxHeartbeats 1600000
open Go.RowKit Go.Maps Go.WideMaps
set_option linter.unusedSimpArgs false
theorem bl2 (w:World) (o p:Obj):Below w.heap.size w ((w.alloc o).alloc p):=thenB (al1 w o) (al1 _ p)
theorem bl3 (w:World) (o p q:Obj):Below w.heap.size w (((w.alloc o).alloc p).alloc q):=thenB (bl2 w o p) (al1 _ q)
theorem zvh (kv lv:Value) (g:Mg) (c:Int) (bl em:Bool) (mod name:ByteArray) (ks:List Int) (b cap:Nat) (w:World) (hem:mod.toList.isEmpty=em) (hno:(bl&&em)=false)
 (h1:(Instr.lookup 187 kv (.agg #[.string mod,.string name]) true).run Tryz.prog ((w.alloc (.cells #[kv,lv] 195)).alloc (.cells #[.int .i64 0,.int .i64 0,.int .i64 0,.int .i64 0] 242)) = .ok (.tuple #[.agg #[.int .i64 g.kind,.int .i64 g.n,.int .i64 g.m,.int .i64 g.at_],.bool false]) ((w.alloc (.cells #[kv,lv] 195)).alloc (.cells #[.int .i64 0,.int .i64 0,.int .i64 0,.int .i64 0] 242)))
 (h2:(Instr.lookup 185 lv (.string name) true).run Tryz.prog (((w.alloc (.cells #[kv,lv] 195)).alloc (.cells #[.int .i64 0,.int .i64 0,.int .i64 0,.int .i64 0] 242)).alloc (.cells #[.int .i64 g.kind,.int .i64 g.n,.int .i64 g.m,.int .i64 g.at_] 242)) = .ok (.tuple #[.int .i64 c,.bool bl]) (((w.alloc (.cells #[kv,lv] 195)).alloc (.cells #[.int .i64 0,.int .i64 0,.int .i64 0,.int .i64 0] 242)).alloc (.cells #[.int .i64 g.kind,.int .i64 g.n,.int .i64 g.m,.int .i64 g.at_] 242))) :
 Calls Tryz.prog 256 #[.agg #[kv,lv],.string mod,.string name,.slice (some ⟨b,0,none⟩) ks.length cap] w fun e w'=>e = .returned (.tuple #[mg0.val,.int .i64 5])/\Below w.heap.size w w':=by
 have HB:=hid (fun o p q=>bl3 w o p q)
 cases bl with
 | false=>
   clear hno;go_enter Tryz.func256,Tryz.ntmps256;go_wp2_with fail;refine bodyPost_ret (v:=.tuple #[mg0.val,.int .i64 5]) (by simp [results,Tryz.results256,go_sem,Mg.val,mg0]) rfl ⟨rfl,HB.out _ _ _⟩
 | true=>
   cases em with
   | true=>cases hno
   | false=>
     clear hno;go_enter Tryz.func256,Tryz.ntmps256;go_wp2_with fail;refine bodyPost_ret (v:=.tuple #[mg0.val,.int .i64 5]) (by simp [results,Tryz.results256,go_sem,Mg.val,mg0]) rfl ⟨rfl,HB.out _ _ _⟩
theorem zq9 (kv lv:Value) (g:Mg) (c:Int) (bl em:Bool) (mod name:ByteArray) (ks:List Int) (b cap:Nat) (w:World) (hI:zg2 w b ks) (hl:ks.length<=1000) (r:Mg × Int) (hr:r=if ks.contains g.kind then (g,0) else (mg0,7)) (hem:mod.toList.isEmpty=em) (hno:(bl&&em)=false)
 (h1:(Instr.lookup 187 kv (.agg #[.string mod,.string name]) true).run Tryz.prog ((w.alloc (.cells #[kv,lv] 195)).alloc (.cells #[.int .i64 0,.int .i64 0,.int .i64 0,.int .i64 0] 242)) = .ok (.tuple #[.agg #[.int .i64 g.kind,.int .i64 g.n,.int .i64 g.m,.int .i64 g.at_],.bool true]) ((w.alloc (.cells #[kv,lv] 195)).alloc (.cells #[.int .i64 0,.int .i64 0,.int .i64 0,.int .i64 0] 242)))
 (h2:(Instr.lookup 185 lv (.string name) true).run Tryz.prog (((w.alloc (.cells #[kv,lv] 195)).alloc (.cells #[.int .i64 0,.int .i64 0,.int .i64 0,.int .i64 0] 242)).alloc (.cells #[.int .i64 g.kind,.int .i64 g.n,.int .i64 g.m,.int .i64 g.at_] 242)) = .ok (.tuple #[.int .i64 c,.bool bl]) (((w.alloc (.cells #[kv,lv] 195)).alloc (.cells #[.int .i64 0,.int .i64 0,.int .i64 0,.int .i64 0] 242)).alloc (.cells #[.int .i64 g.kind,.int .i64 g.n,.int .i64 g.m,.int .i64 g.at_] 242))) :
 Calls Tryz.prog 256 #[.agg #[kv,lv],.string mod,.string name,.slice (some ⟨b,0,none⟩) ks.length cap] w fun e w'=>e = .returned (.tuple #[r.1.val,.int .i64 r.2])/\Below w.heap.size w w':=by
 have HB:=hid (fun o p q=>bl3 w o p q);have HI:=hid hI;have HQ:=hid hr;clear hI hr
 cases bl with
 | false=>
   clear hno;go_enter Tryz.func256,Tryz.ntmps256;go_wp2_with fail;refine (zet ks g.kind b cap _ (HI.out.later (HB.out _ _ _)) hl).mono ?_;rintro e w' ⟨rfl,rfl⟩
   cases hc:ks.contains g.kind with
   | false=>
     have HR:Hid (r=(mg0,7)):=HQ.out.trans (by rw [hc];rfl);clear hc;go_wp2_with fail;refine bodyPost_ret (v:=.tuple #[mg0.val,.int .i64 7]) (by simp [results,Tryz.results256,go_sem,Mg.val,mg0]) rfl ⟨by rw [HR.out],HB.out _ _ _⟩
   | true=>
     have HR:Hid (r=(⟨g.kind,g.n,g.m,g.at_⟩,0)):=HQ.out.trans (by rw [hc];rfl);clear hc;go_wp2_with fail;refine bodyPost_ret (v:=.tuple #[.agg #[.int .i64 g.kind,.int .i64 g.n,.int .i64 g.m,.int .i64 g.at_],.int .i64 0]) (by simp [results,Tryz.results256,go_sem,Mg.val,mg0]) rfl ⟨by rw [HR.out];rfl,HB.out _ _ _⟩
 | true=>
   cases em with
   | true=>cases hno
   | false=>
     clear hno;go_enter Tryz.func256,Tryz.ntmps256;go_wp2_with fail;refine (zet ks g.kind b cap _ (HI.out.later (HB.out _ _ _)) hl).mono ?_;rintro e w' ⟨rfl,rfl⟩
     cases hc:ks.contains g.kind with
     | false=>
       have HR:Hid (r=(mg0,7)):=HQ.out.trans (by rw [hc];rfl);clear hc;go_wp2_with fail;refine bodyPost_ret (v:=.tuple #[mg0.val,.int .i64 7]) (by simp [results,Tryz.results256,go_sem,Mg.val,mg0]) rfl ⟨by rw [HR.out],HB.out _ _ _⟩
     | true=>
       have HR:Hid (r=(⟨g.kind,g.n,g.m,g.at_⟩,0)):=HQ.out.trans (by rw [hc];rfl);clear hc;go_wp2_with fail;refine bodyPost_ret (v:=.tuple #[.agg #[.int .i64 g.kind,.int .i64 g.n,.int .i64 g.m,.int .i64 g.at_],.int .i64 0]) (by simp [results,Tryz.results256,go_sem,Mg.val,mg0]) rfl ⟨by rw [HR.out];rfl,HB.out _ _ _⟩
theorem zst (kv lv:Value) (g:Mg) (c:Int) (bk:Bool) (mod name:ByteArray) (ks:List Int) (b cap:Nat) (w:World) (hI:zg2 w b ks) (hl:ks.length<=1000) (r:Mg × Int) (hr:r=if ks.contains 0 then (⟨0,0,0,c⟩,0) else (mg0,7)) (hem:mod.toList.isEmpty=true)
 (h1:(Instr.lookup 187 kv (.agg #[.string mod,.string name]) true).run Tryz.prog ((w.alloc (.cells #[kv,lv] 195)).alloc (.cells #[.int .i64 0,.int .i64 0,.int .i64 0,.int .i64 0] 242)) = .ok (.tuple #[.agg #[.int .i64 g.kind,.int .i64 g.n,.int .i64 g.m,.int .i64 g.at_],.bool bk]) ((w.alloc (.cells #[kv,lv] 195)).alloc (.cells #[.int .i64 0,.int .i64 0,.int .i64 0,.int .i64 0] 242)))
 (h2:(Instr.lookup 185 lv (.string name) true).run Tryz.prog (((w.alloc (.cells #[kv,lv] 195)).alloc (.cells #[.int .i64 0,.int .i64 0,.int .i64 0,.int .i64 0] 242)).alloc (.cells #[.int .i64 g.kind,.int .i64 g.n,.int .i64 g.m,.int .i64 g.at_] 242)) = .ok (.tuple #[.int .i64 c,.bool true]) (((w.alloc (.cells #[kv,lv] 195)).alloc (.cells #[.int .i64 0,.int .i64 0,.int .i64 0,.int .i64 0] 242)).alloc (.cells #[.int .i64 g.kind,.int .i64 g.n,.int .i64 g.m,.int .i64 g.at_] 242))) :
 Calls Tryz.prog 256 #[.agg #[kv,lv],.string mod,.string name,.slice (some ⟨b,0,none⟩) ks.length cap] w fun e w'=>e = .returned (.tuple #[r.1.val,.int .i64 r.2])/\Below w.heap.size w w':=by
 have HB:=hid (fun o p q=>bl3 w o p q);have HI:=hid hI;have HQ:=hid hr;clear hI hr;go_enter Tryz.func256,Tryz.ntmps256;go_wp2_with fail;refine (zet ks 0 b cap _ (HI.out.later (HB.out _ _ _)) hl).mono ?_;rintro e w' ⟨rfl,rfl⟩
 cases hc:ks.contains 0 with
 | false=>
   have HR:Hid (r=(mg0,7)):=HQ.out.trans (by rw [hc];rfl);clear hc;go_wp2_with fail;refine bodyPost_ret (v:=.tuple #[mg0.val,.int .i64 7]) (by simp [results,Tryz.results256,go_sem,Mg.val,mg0]) rfl ⟨by rw [HR.out],HB.out _ _ _⟩
 | true=>
   have HR:Hid (r=(⟨0,0,0,c⟩,0)):=HQ.out.trans (by rw [hc];rfl);clear hc;go_wp2_with fail;refine bodyPost_ret (v:=.tuple #[.agg #[.int .i64 0,.int .i64 0,.int .i64 0,.int .i64 c],.int .i64 0]) (by simp [results,Tryz.results256,go_sem,Mg.val,mg0]) rfl ⟨by rw [HR.out];rfl,HB.out _ _ _⟩
theorem zx8 (K:Kn) (L:Lc) (kv lv:Value) (mod name:ByteArray) (ks:List Int) (b cap:Nat) (w:World) (hK:zj8 w kv K) (hL:zk4 w lv L) (hm:mod.size<=maxLen) (hn:name.size<=maxLen) (hI:zg2 w b ks) (hl:ks.length<=1000) :
 Calls Tryz.prog 256 #[.agg #[kv,lv],.string mod,.string name,.slice (some ⟨b,0,none⟩) ks.length cap] w fun e w'=>e = .returned (.tuple #[(findM K L mod name ks).1.val,.int .i64 (findM K L mod name ks).2])/\Below w.heap.size w w':=by
 have h1:=hK ((w.alloc (.cells #[kv,lv] 195)).alloc (.cells #[.int .i64 0,.int .i64 0,.int .i64 0,.int .i64 0] 242)) (bl2 _ _ _) mod name hm hn;generalize hg:(K mod name).getD mg0=g at h1;have h2:=hL (((w.alloc (.cells #[kv,lv] 195)).alloc (.cells #[.int .i64 0,.int .i64 0,.int .i64 0,.int .i64 0] 242)).alloc (.cells #[.int .i64 g.kind,.int .i64 g.n,.int .i64 g.m,.int .i64 g.at_] 242)) (bl3 _ _ _ _) name hn;have he:=zhm mod;unfold findM z2a
 cases hl':L name with
 | some c=>
   rw [hl'] at h2
   by_cases hz:mod.size=0
   . rw [if_pos hz]
     rw [decide_eq_true hz] at he;exact zst kv lv g c _ mod name ks b cap w hI hl _ rfl he h1 h2
   . rw [if_neg hz]
     rw [decide_eq_false hz] at he
     cases hk:K mod name with
     | none=>rw [hk] at h1;exact zvh kv lv g c true false mod name ks b cap w he rfl h1 h2
     | some x=>
       rw [hk] at h1 hg;obtain rfl:x=g:=hg;exact zq9 kv lv x c true false mod name ks b cap w hI hl _ rfl he rfl h1 h2
 | none=>
   rw [hl'] at h2
   have e:(if mod.size=0 then (match (none:Option Int) with | some a=>some (⟨0,0,0,a⟩:Mg) | none=>K mod name) else K mod name)=K mod name:=by split<;>rfl
   simp only [ite_self]
   cases hk:K mod name with
   | none=>rw [hk] at h1;exact zvh kv lv g 0 false _ mod name ks b cap w he rfl h1 h2
   | some x=>
     rw [hk] at h1 hg;obtain rfl:x=g:=hg;exact zq9 kv lv x 0 false _ mod name ks b cap w hI hl _ rfl he rfl h1 h2
theorem zx9 (w:World) (l:List Int) (t:TypeId) (b:Nat) (hb:b=w.heap.size):zg2 (w.alloc (.cells (l.map (Value.int .i64)).toArray t)) b l:=by
 subst hb;refine ⟨by simp,fun j hj=>?_⟩;rw [vee (heap_newP w _)];simp [hj]
theorem zcy {B b:Nat} {a w:World} (h:Below B a w) (hb:B<=b) (v0 v1 v2 v3:Value):Below B a ((((w.setCell ⟨b,0,none⟩ v0).setCell ⟨b,1,none⟩ v1).setCell ⟨b,2,none⟩ v2).setCell ⟨b,3,none⟩ v3):=
 (((h.setCell (p:=⟨b,0,none⟩) hb _).setCell (p:=⟨b,1,none⟩) hb _).setCell (p:=⟨b,2,none⟩) hb _).setCell (p:=⟨b,3,none⟩) hb _
theorem zg3 (K:Kn) (L:Lc) (kv lv:Value) (mod name:ByteArray) (ks:List Int) (t:TypeId) (b cap:Nat) (w:World) (hb:b=w.heap.size) (hK:zj8 w kv K) (hL:zk4 w lv L) (hm:mod.size<=maxLen) (hn:name.size<=maxLen) (hl:ks.length<=1000) :
 Calls Tryz.prog 256 #[.agg #[kv,lv],.string mod,.string name,.slice (some ⟨b,0,none⟩) ks.length cap] (w.alloc (.cells (ks.map (Value.int .i64)).toArray t)) fun e w'=>e = .returned (.tuple #[(findM K L mod name ks).1.val,.int .i64 (findM K L mod name ks).2])/\Below w.heap.size w w':=
 (zx8 K L kv lv mod name ks b cap _ (hK.later (al1 _ _)) (hL.later (al1 _ _)) hm hn (zx9 w ks t b hb) hl).mono fun _ _ h=>⟨h.1,thenB (al1 _ _) h.2⟩
theorem zjc (K:Kn) (L:Lc) (kv lv:Value) (mod name:ByteArray) (handed:Int) (w:World) (hK:zj8 w kv K) (hL:zk4 w lv L) (hm:mod.size<=maxLen) (hn:name.size<=maxLen) :
 Calls Tryz.prog 257 #[.agg #[kv,lv],.string mod,.string name,.int .i64 handed] w fun e w'=>e = .returned (.tuple #[(zhk K L mod name handed).1.val,.int .i64 (zhk K L mod name handed).2])/\Below w.heap.size w w':=by
 have HC:=hid (zg3 K L kv lv mod name [4] 3 (w.heap.size+2) 1 ((w.alloc (.cells #[kv,lv] 195)).alloc (.cells #[.int .i64 0,.int .i64 0,.int .i64 0,.int .i64 0] 242)) (by simp) (hK.later (bl2 _ _ _)) (hL.later (bl2 _ _ _)) hm hn (by decide));have HB:=hid (fun o p=>bl2 w o p)
 have hR:∀ x,zhk K L mod name handed=x->Hid (zhk K L mod name handed=x):=fun x h=>h
 unfold zhk at hR ⊢;clear hK hL hm hn;generalize findM K L mod name [4]=r at *;obtain ⟨⟨kd,n,m,at_⟩,er⟩:=r;simp only [Mg.val] at HC hR;generalize hq:(if er=0/\n≠handed then (mg0,(8:Int)) else (({ kind:=kd,n:=n,m:=m,at_:=at_ }:Mg),er))=q at *;have HQ:=hid hq;clear hq hR;go_enter Tryz.func257,Tryz.ntmps257;go_wp2_with fail;refine HC.out.mono ?_;rintro e w1 ⟨rfl,hb1⟩;have HB1:=hid (thenB (HB.out _ _) hb1);have hz1:=hb1.size;simp at hz1;have HQ1:Hid (w1.heap[w.heap.size+1]? = some (.cells #[.int .i64 0,.int .i64 0,.int .i64 0,.int .i64 0] 242)):=(hb1.block (w.heap.size+1) (by simp)).trans (by have:=heap_newP (w.alloc (.cells #[kv,lv] 195)) (.cells #[.int .i64 0,.int .i64 0,.int .i64 0,.int .i64 0] 242);simpa using this);obtain ⟨h0,h1,h2,h3,h4⟩:=zb6 HQ1.out
 have hlt:w.heap.size+1<w1.heap.size:=by omega
 clear hb1 HC
 by_cases he:er=0
 . by_cases hn:n=handed
   . have HR:Hid (q=(⟨kd,n,m,at_⟩,0)):=HQ.out.symm.trans (by rw [if_neg (by simp [hn]),he])
     subst he hn;clear HQ;go_wp2_with fail;refine bodyPost_ret (v:=.tuple #[.agg #[.int .i64 kd,.int .i64 n,.int .i64 m,.int .i64 at_],.int .i64 0]) (by simp [results,Tryz.results257,go_sem,h0,h1,h2,h3,hlt]) rfl ⟨by rw [HR.out];rfl,?_⟩
     first | exact zcy (HB1.out.alloc HB1.out.size _) (by omega) _ _ _ _ | exact (zcy HB1.out (by omega) _ _ _ _).alloc (by simp;omega) _
   . have HR:Hid (q=(mg0,8)):=HQ.out.symm.trans (by rw [if_pos ⟨he,hn⟩])
     subst he;clear HQ;go_wp2_with fail;refine bodyPost_ret (v:=.tuple #[mg0.val,.int .i64 8]) (by simp [results,Tryz.results257,go_sem,Mg.val,mg0,h0,h1,h2,h3,hlt]) rfl ⟨by rw [HR.out],?_⟩
     first | exact zcy (HB1.out.alloc HB1.out.size _) (by omega) _ _ _ _ | exact (zcy HB1.out (by omega) _ _ _ _).alloc (by simp;omega) _
 . have HR:Hid (q=(⟨kd,n,m,at_⟩,er)):=HQ.out.symm.trans (by rw [if_neg (by simp [he])])
   clear HQ;go_wp2_with fail;refine bodyPost_ret (v:=.tuple #[.agg #[.int .i64 kd,.int .i64 n,.int .i64 m,.int .i64 at_],.int .i64 er]) (by simp [results,Tryz.results257,go_sem,h0,h1,h2,h3,hlt]) rfl ⟨by rw [HR.out];rfl,?_⟩
   first | exact zcy (HB1.out.alloc HB1.out.size _) (by omega) _ _ _ _ | exact (zcy HB1.out (by omega) _ _ _ _).alloc (by simp;omega) _
def Al.node (a:Al):Value:=.agg #[.int .i64 a.op,.int .i64 a.n,.int .i64 a.m,.int .i64 a.at_,.slice none 0 0]
def Al.act (a:Al):Value:=.agg #[.int .i64 a.op,.int .i64 a.n,.int .i64 a.m,.int .i64 a.at_,.slice none 0 0,.slice none 0 0,.slice none 0 0]
theorem zc8 {B b:Nat} {a w:World} (h:Below B a w) (hb:B<=b) (v0 v1 v2 v3 v4:Value):Below B a (set5 w b v0 v1 v2 v3 v4):=
 (zcy h hb v0 v1 v2 v3).setCell (p:=⟨b,4,none⟩) hb _
theorem zme {B b:Nat} {a w:World} (h:Below B a w) (hb:B<=b) (v0 v1 v2 v3 v4 v5 v6:Value):Below B a (((set5 w b v0 v1 v2 v3 v4).setCell ⟨b,5,none⟩ v5).setCell ⟨b,6,none⟩ v6):=
 ((zc8 h hb v0 v1 v2 v3 v4).setCell (p:=⟨b,5,none⟩) hb _).setCell (p:=⟨b,6,none⟩) hb _
theorem zbe {w:World} {b:Nat} {x0 x1 x2 x3 x4 x5 x6:Value} {t:TypeId} (h:w.heap[b]? = some (.cells #[x0,x1,x2,x3,x4,x5,x6] t (0,0))) :
 w.cell? ⟨b,0,none⟩=some x0/\w.cell? ⟨b,1,none⟩=some x1/\w.cell? ⟨b,2,none⟩=some x2/\w.cell? ⟨b,3,none⟩=some x3/\w.cell? ⟨b,4,none⟩=some x4/\w.cell? ⟨b,5,none⟩=some x5/\w.cell? ⟨b,6,none⟩=some x6/\∀ i,w.frozen? ⟨b,i,none⟩=false:=by
 refine ⟨?_,?_,?_,?_,?_,?_,?_,fun i=>vef h i⟩<;>(rw [vee h];rfl)
theorem zmf {w w1:World} {o p q:Obj} (h:Below (((w.alloc o).alloc p).alloc q).heap.size (((w.alloc o).alloc p).alloc q) w1):w1.heap[w.heap.size]? = some o/\w1.heap[w.heap.size+1]? = some p/\w1.heap[w.heap.size+2]? = some q:=by
 refine ⟨(h.block _ (by simp;omega)).trans (zae (zae (heap_newP w o))),(h.block _ (by simp)).trans (zae (by simpa using heap_newP (w.alloc o) p)),(h.block _ (by simp)).trans (by simpa using heap_newP ((w.alloc o).alloc p) q)⟩
theorem zvi (K:Kn) (L:Lc) (kv lv:Value) (op n:Int) (mod name:ByteArray) (aa:OA) (k cap:Nat) (w:World) (hK:zj8 w kv K) (hL:zk4 w lv L) (hm:mod.size<=maxLen) (hn:name.size<=maxLen) :
 Calls Tryz.prog 288 #[.agg #[kv,lv],.agg #[.int .i64 op,.int .i64 n,.string mod,.string name,.slice aa k cap]] w fun e w'=>e = .returned (.tuple #[(z1b K L mod name).node,.int .i64 (z1b K L mod name).err])/\Below w.heap.size w w':=by
 have HC:=hid (zg3 K L kv lv mod name [0,1,2] 3 (w.heap.size+3) 3 (((w.alloc (.cells #[kv,lv] 195)).alloc (.cells #[.int .i64 op,.int .i64 n,.string mod,.string name,.slice aa k cap] 174)).alloc (.cells #[.int .i64 0,.int .i64 0,.int .i64 0,.int .i64 0,.slice none 0 0] 253)) (by simp) (hK.later (bl3 _ _ _ _)) (hL.later (bl3 _ _ _ _)) hm hn (by decide));have HB:=hid (fun o p q=>bl3 w o p q)
 obtain ⟨r,hq⟩:∃ r,r=z1b K L mod name:=⟨_,rfl⟩
 rw [← hq];unfold z1b at hq;clear hK hL hm hn;generalize findM K L mod name [0,1,2]=f at *;obtain ⟨⟨kd,fn,fm,fa⟩,er⟩:=f;simp only [Mg.val] at HC hq;have HQ:=hid hq;clear hq;go_enter Tryz.func288,Tryz.ntmps288;go_wp2_with fail;refine HC.out.mono ?_;rintro e w1 ⟨rfl,hb1⟩;have HB1:=hid (thenB (HB.out _ _ _) hb1);have hz1:=hb1.size;simp at hz1;obtain ⟨q0,q1,q2⟩:=zmf hb1;obtain ⟨h0,h1,h2,h3,h4,h5⟩:=zad q2
 have hlt:w.heap.size+2<w1.heap.size:=by omega
 clear hb1 HC q0 q1 q2
 by_cases he:er=0
 . subst he
   by_cases h1k:kd=1
   . have HR:Hid (r=⟨1,fn,0,0,0⟩):=HQ.out.trans (by rw [if_neg (by simp),if_pos h1k])
     subst h1k;clear HQ;go_wp2_with fail;refine bodyPost_ret (v:=.tuple #[.agg #[.int .i64 1,.int .i64 fn,.int .i64 0,.int .i64 0,.slice none 0 0],.int .i64 0]) (by simp [results,Tryz.results288,go_sem,h0,h1,h2,h3,h4,hlt]) rfl ⟨by rw [HR.out];rfl,?_⟩;exact (zc8 HB1.out (by omega) _ _ _ _ _).alloc (by simp;omega) _
   . by_cases h2k:kd=2
     . have HR:Hid (r=⟨3,0,fm,fa,0⟩):=HQ.out.trans (by rw [if_neg (by simp),if_neg h1k,if_pos h2k])
       subst h2k;clear HQ h1k;go_wp2_with fail;refine bodyPost_ret (v:=.tuple #[.agg #[.int .i64 3,.int .i64 0,.int .i64 fm,.int .i64 fa,.slice none 0 0],.int .i64 0]) (by simp [results,Tryz.results288,go_sem,h0,h1,h2,h3,h4,hlt]) rfl ⟨by rw [HR.out];rfl,?_⟩;exact (zc8 HB1.out (by omega) _ _ _ _ _).alloc (by simp;omega) _
     . have HR:Hid (r=⟨16,0,0,fa,0⟩):=HQ.out.trans (by rw [if_neg (by simp),if_neg h1k,if_neg h2k])
       clear HQ;go_wp2_with fail;refine bodyPost_ret (v:=.tuple #[.agg #[.int .i64 16,.int .i64 0,.int .i64 0,.int .i64 fa,.slice none 0 0],.int .i64 0]) (by simp [results,Tryz.results288,go_sem,h0,h1,h2,h3,h4,hlt]) rfl ⟨by rw [HR.out];rfl,?_⟩;exact (zc8 HB1.out (by omega) _ _ _ _ _).alloc (by simp;omega) _
 . have HR:Hid (r=⟨0,0,0,0,er⟩):=HQ.out.trans (by rw [if_pos he])
   clear HQ;go_wp2_with fail;refine bodyPost_ret (v:=.tuple #[.agg #[.int .i64 0,.int .i64 0,.int .i64 0,.int .i64 0,.slice none 0 0],.int .i64 er]) (by simp [results,Tryz.results288,go_sem,h0,h1,h2,h3,h4,hlt]) rfl ⟨by rw [HR.out];rfl,?_⟩;exact (zc8 HB1.out (by omega) _ _ _ _ _).alloc (by simp;omega) _
theorem zps (K:Kn) (L:Lc) (kv lv:Value) (op n:Int) (mod name:ByteArray) (aa:OA) (k cap:Nat) (w:World) (hK:zj8 w kv K) (hL:zk4 w lv L) (hm:mod.size<=maxLen) (hn:name.size<=maxLen) (h3:op=3) (r:Al) (hr:r=z1b K L mod name) :
 Calls Tryz.prog 258 #[.agg #[kv,lv],.agg #[.int .i64 op,.int .i64 n,.string mod,.string name,.slice aa k cap]] w fun e w'=>e = .returned (.tuple #[r.node,.int .i64 r.err])/\Below w.heap.size w w':=by
 have HC:=hid (zvi K L kv lv op n mod name aa k cap (((w.alloc (.cells #[kv,lv] 195)).alloc (.cells #[.int .i64 op,.int .i64 n,.string mod,.string name,.slice aa k cap] 174)).alloc (.cells #[.int .i64 0,.int .i64 0,.int .i64 0,.int .i64 0,.slice none 0 0] 253)) (hK.later (bl3 _ _ _ _)) (hL.later (bl3 _ _ _ _)) hm hn);have HB:=hid (fun o p q=>bl3 w o p q);clear hK hL hm hn;rw [← hr] at HC;clear hr;obtain ⟨ro,rn,rm,ra,re⟩:=r;simp only [Al.node] at HC ⊢;subst h3;go_enter Tryz.func258,Tryz.ntmps258;go_wp2_with fail;refine HC.out.mono ?_;rintro e w1 ⟨rfl,hb1⟩;have HB1:=hid (thenB (HB.out _ _ _) hb1);have hz1:=hb1.size;simp at hz1;obtain ⟨q0,q1,q2⟩:=zmf hb1;obtain ⟨h0,h1,h2,h3,h4,h5⟩:=zad q2
 have hlt:w.heap.size+2<w1.heap.size:=by omega
 clear hb1 HC q0 q1 q2;have HR:Hid (True):=trivial;go_wp2_with fail;refine bodyPost_ret (v:=.tuple #[.agg #[.int .i64 ro,.int .i64 rn,.int .i64 rm,.int .i64 ra,.slice none 0 0],.int .i64 re]) (by simp [results,Tryz.results258,go_sem,h0,h1,h2,h3,h4,hlt]) rfl ⟨rfl,?_⟩;exact zc8 HB1.out (by omega) _ _ _ _ _
theorem zpt (K:Kn) (L:Lc) (kv lv:Value) (op n:Int) (mod name:ByteArray) (aa:OA) (k cap:Nat) (w:World) (hK:zj8 w kv K) (hL:zk4 w lv L) (hm:mod.size<=maxLen) (hn:name.size<=maxLen) (hop:op=4) (f:Mg × Int) (hf:f=findM K L mod name [3]) :
 Calls Tryz.prog 258 #[.agg #[kv,lv],.agg #[.int .i64 op,.int .i64 n,.string mod,.string name,.slice aa k cap]] w fun e w'=>e = .returned (.tuple #[.agg #[.int .i64 4,.int .i64 f.1.n,.int .i64 f.1.m,.int .i64 f.1.at_,.slice none 0 0],.int .i64 f.2])/\Below w.heap.size w w':=by
 have HC:=hid (zg3 K L kv lv mod name [3] 3 (w.heap.size+3) 1 (((w.alloc (.cells #[kv,lv] 195)).alloc (.cells #[.int .i64 op,.int .i64 n,.string mod,.string name,.slice aa k cap] 174)).alloc (.cells #[.int .i64 0,.int .i64 0,.int .i64 0,.int .i64 0,.slice none 0 0] 253)) (by simp) (hK.later (bl3 _ _ _ _)) (hL.later (bl3 _ _ _ _)) hm hn (by decide));have HB:=hid (fun o p q=>bl3 w o p q);clear hK hL hm hn;rw [← hf] at HC;clear hf;obtain ⟨⟨kd,fn,fm,fa⟩,er⟩:=f;simp only [Mg.val] at HC ⊢;subst hop;go_enter Tryz.func258,Tryz.ntmps258;go_wp2_with fail;refine HC.out.mono ?_;rintro e w1 ⟨rfl,hb1⟩;have HB1:=hid (thenB (HB.out _ _ _) hb1);have hz1:=hb1.size;simp at hz1;obtain ⟨q0,q1,q2⟩:=zmf hb1;obtain ⟨h0,h1,h2,h3,h4,h5⟩:=zad q2
 have hlt:w.heap.size+2<w1.heap.size:=by omega
 obtain ⟨x0,x1,x2,x3,x4,x5⟩:=zad q1
 have hlx:w.heap.size+1<w1.heap.size:=by omega
 clear hb1 HC q0 q1 q2;go_wp2_with fail;refine bodyPost_ret (v:=.tuple #[.agg #[.int .i64 4,.int .i64 fn,.int .i64 fm,.int .i64 fa,.slice none 0 0],.int .i64 er]) (by simp [results,Tryz.results258,go_sem,h0,h1,h2,h3,h4,hlt]) rfl ⟨rfl,?_⟩;exact (zc8 HB1.out (by omega) _ _ _ _ _).alloc (by simp;omega) _
theorem zpu (K:Kn) (L:Lc) (kv lv:Value) (op n:Int) (mod name:ByteArray) (aa:OA) (k cap:Nat) (w:World) (hK:zj8 w kv K) (hL:zk4 w lv L) (hm:mod.size<=maxLen) (hn:name.size<=maxLen) (hop:op=5) (f:Mg × Int) (hf:f=zhk K L mod name k) :
 Calls Tryz.prog 258 #[.agg #[kv,lv],.agg #[.int .i64 op,.int .i64 n,.string mod,.string name,.slice aa k cap]] w fun e w'=>e = .returned (.tuple #[.agg #[.int .i64 5,.int .i64 0,.int .i64 f.1.m,.int .i64 f.1.at_,.slice none 0 0],.int .i64 f.2])/\Below w.heap.size w w':=by
 have HC:=hid (zjc K L kv lv mod name k (((w.alloc (.cells #[kv,lv] 195)).alloc (.cells #[.int .i64 op,.int .i64 n,.string mod,.string name,.slice aa k cap] 174)).alloc (.cells #[.int .i64 0,.int .i64 0,.int .i64 0,.int .i64 0,.slice none 0 0] 253)) (hK.later (bl3 _ _ _ _)) (hL.later (bl3 _ _ _ _)) hm hn);have HB:=hid (fun o p q=>bl3 w o p q);clear hK hL hm hn;rw [← hf] at HC;clear hf;obtain ⟨⟨kd,fn,fm,fa⟩,er⟩:=f;simp only [Mg.val] at HC ⊢;subst hop;go_enter Tryz.func258,Tryz.ntmps258;go_wp2_with fail;refine HC.out.mono ?_;rintro e w1 ⟨rfl,hb1⟩;have HB1:=hid (thenB (HB.out _ _ _) hb1);have hz1:=hb1.size;simp at hz1;obtain ⟨q0,q1,q2⟩:=zmf hb1;obtain ⟨h0,h1,h2,h3,h4,h5⟩:=zad q2
 have hlt:w.heap.size+2<w1.heap.size:=by omega
 obtain ⟨x0,x1,x2,x3,x4,x5⟩:=zad q1
 have hlx:w.heap.size+1<w1.heap.size:=by omega
 clear hb1 HC q0 q1 q2;go_wp2_with fail;refine bodyPost_ret (v:=.tuple #[.agg #[.int .i64 5,.int .i64 0,.int .i64 fm,.int .i64 fa,.slice none 0 0],.int .i64 er]) (by simp [results,Tryz.results258,go_sem,h0,h1,h2,h3,h4,hlt]) rfl ⟨rfl,?_⟩;exact (zc8 HB1.out (by omega) _ _ _ _ _).alloc (by simp;omega) _
theorem zpv (kv lv:Value) (op n:Int) (mod name:ByteArray) (aa:OA) (k cap:Nat) (w:World) (h3:op≠3) (h4:op≠4) (h5:op≠5) :
 Calls Tryz.prog 258 #[.agg #[kv,lv],.agg #[.int .i64 op,.int .i64 n,.string mod,.string name,.slice aa k cap]] w fun e w'=>e = .returned (.tuple #[.agg #[.int .i64 op,.int .i64 n,.int .i64 0,.int .i64 0,.slice none 0 0],.int .i64 0])/\Below w.heap.size w w':=by
 have HB:=hid (fun o p q=>bl3 w o p q);go_enter Tryz.func258,Tryz.ntmps258;go_wp2_with fail;refine bodyPost_ret (v:=.tuple #[.agg #[.int .i64 op,.int .i64 n,.int .i64 0,.int .i64 0,.slice none 0 0],.int .i64 0]) (by simp [results,Tryz.results258,go_sem]) rfl ⟨rfl,HB.out _ _ _⟩
theorem zmg (K:Kn) (L:Lc) (kv lv:Value) (x:Ex) (aa:OA) (cap:Nat) (w:World) (hK:zj8 w kv K) (hL:zk4 w lv L) (hm:x.mod.size<=maxLen) (hn:x.name.size<=maxLen) :
 Calls Tryz.prog 258 #[.agg #[kv,lv],.agg #[.int .i64 x.op,.int .i64 x.n,.string x.mod,.string x.name,.slice aa x.args.length cap]] w fun e w'=>e = .returned (.tuple #[(ndM K L x).node,.int .i64 (ndM K L x).err])/\Below w.heap.size w w':=by
 unfold ndM
 by_cases h3:x.op=3
 . rw [if_pos h3]
   exact zps K L kv lv x.op x.n x.mod x.name aa x.args.length cap w hK hL hm hn h3 _ rfl
 rw [if_neg h3]
 by_cases h4:x.op=4
 . rw [if_pos h4]
   exact zpt K L kv lv x.op x.n x.mod x.name aa x.args.length cap w hK hL hm hn h4 _ rfl
 rw [if_neg h4]
 by_cases h5:x.op=5
 . rw [if_pos h5]
   exact zpu K L kv lv x.op x.n x.mod x.name aa x.args.length cap w hK hL hm hn h5 _ rfl
 rw [if_neg h5];exact zpv kv lv x.op x.n x.mod x.name aa x.args.length cap w h3 h4 h5
theorem zsu (K:Kn) (L:Lc) (kv lv:Value) (op:Int) (mod name:ByteArray) (a1 a2 a3:OA) (k1 k2 k3 c1 c2 c3:Nat) (w:World) (hK:zj8 w kv K) (hL:zk4 w lv L) (hm:mod.size<=maxLen) (hn:name.size<=maxLen) (hop:op=1) (f:Mg × Int) (hf:f=findM K L mod name [0,2]) :
 Calls Tryz.prog 205 #[.agg #[kv,lv],.agg #[.int .i64 op,.string mod,.string name,.slice a1 k1 c1,.slice a2 k2 c2,.slice a3 k3 c3]] w fun e w'=>e = .returned (.tuple #[.agg #[.int .i64 1,.int .i64 0,.int .i64 (if f.1.kind=0 then -1 else f.1.m),.int .i64 f.1.at_,.slice none 0 0,.slice none 0 0,.slice none 0 0],.int .i64 f.2])/\Below w.heap.size w w':=by
 have HC:=hid (zg3 K L kv lv mod name [0,2] 3 (w.heap.size+3) 2 (((w.alloc (.cells #[kv,lv] 195)).alloc (.cells #[.int .i64 op,.string mod,.string name,.slice a1 k1 c1,.slice a2 k2 c2,.slice a3 k3 c3] 176)).alloc (.cells #[.int .i64 0,.int .i64 0,.int .i64 0,.int .i64 0,.slice none 0 0,.slice none 0 0,.slice none 0 0] 109)) (by simp) (hK.later (bl3 _ _ _ _)) (hL.later (bl3 _ _ _ _)) hm hn (by decide));have HB:=hid (fun o p q=>bl3 w o p q);clear hK hL hm hn;rw [← hf] at HC;clear hf;obtain ⟨⟨kd,fn,fm,fa⟩,er⟩:=f;simp only [Mg.val] at HC ⊢;generalize hq:(if kd=0 then (-1:Int) else fm)=q;have HQ:=hid hq;clear hq;subst hop;go_enter Tryz.func205,Tryz.ntmps205;go_wp2_with fail;refine HC.out.mono ?_;rintro e w1 ⟨rfl,hb1⟩;have HB1:=hid (thenB (HB.out _ _ _) hb1);have hz1:=hb1.size;simp at hz1;obtain ⟨q0,q1,q2⟩:=zmf hb1;obtain ⟨h0,h1,h2,h3,h4,h5,h6,h7⟩:=zbe q2
 have hlt:w.heap.size+2<w1.heap.size:=by omega
 obtain ⟨x0,x1,x2,x3,x4,x5,x6⟩:=zam q1
 have hlx:w.heap.size+1<w1.heap.size:=by omega
 clear hb1 HC q0 q1 q2
 by_cases hk:kd=0
 . have HR:Hid (q = -1):=HQ.out.symm.trans (if_pos hk)
   subst hk;clear HQ;go_wp2_with fail;refine bodyPost_ret (v:=.tuple #[.agg #[.int .i64 1,.int .i64 0,.int .i64 (-1),.int .i64 fa,.slice none 0 0,.slice none 0 0,.slice none 0 0],.int .i64 er]) (by simp [results,Tryz.results205,go_sem,h0,h1,h2,h3,h4,h5,h6,hlt]) rfl ⟨by rw [HR.out],?_⟩;exact (zme HB1.out (by omega) _ _ _ _ _ _ _).alloc (by simp;omega) _
 . have HR:Hid (q=fm):=HQ.out.symm.trans (if_neg hk)
   clear HQ;go_wp2_with fail;refine bodyPost_ret (v:=.tuple #[.agg #[.int .i64 1,.int .i64 0,.int .i64 fm,.int .i64 fa,.slice none 0 0,.slice none 0 0,.slice none 0 0],.int .i64 er]) (by simp [results,Tryz.results205,go_sem,h0,h1,h2,h3,h4,h5,h6,hlt]) rfl ⟨by rw [HR.out],?_⟩;exact (zme HB1.out (by omega) _ _ _ _ _ _ _).alloc (by simp;omega) _
theorem zsv (K:Kn) (L:Lc) (kv lv:Value) (op:Int) (mod name:ByteArray) (a1 a2 a3:OA) (k1 k2 k3 c1 c2 c3:Nat) (w:World) (hK:zj8 w kv K) (hL:zk4 w lv L) (hm:mod.size<=maxLen) (hn:name.size<=maxLen) (hop:op=2) (f:Mg × Int) (hf:f=findM K L mod name [3]) :
 Calls Tryz.prog 205 #[.agg #[kv,lv],.agg #[.int .i64 op,.string mod,.string name,.slice a1 k1 c1,.slice a2 k2 c2,.slice a3 k3 c3]] w fun e w'=>e = .returned (.tuple #[.agg #[.int .i64 2,.int .i64 f.1.n,.int .i64 f.1.m,.int .i64 f.1.at_,.slice none 0 0,.slice none 0 0,.slice none 0 0],.int .i64 f.2])/\Below w.heap.size w w':=by
 have HC:=hid (zg3 K L kv lv mod name [3] 3 (w.heap.size+3) 1 (((w.alloc (.cells #[kv,lv] 195)).alloc (.cells #[.int .i64 op,.string mod,.string name,.slice a1 k1 c1,.slice a2 k2 c2,.slice a3 k3 c3] 176)).alloc (.cells #[.int .i64 0,.int .i64 0,.int .i64 0,.int .i64 0,.slice none 0 0,.slice none 0 0,.slice none 0 0] 109)) (by simp) (hK.later (bl3 _ _ _ _)) (hL.later (bl3 _ _ _ _)) hm hn (by decide));have HB:=hid (fun o p q=>bl3 w o p q);clear hK hL hm hn;rw [← hf] at HC;clear hf;obtain ⟨⟨kd,fn,fm,fa⟩,er⟩:=f;simp only [Mg.val] at HC ⊢;subst hop;go_enter Tryz.func205,Tryz.ntmps205;go_wp2_with fail;refine HC.out.mono ?_;rintro e w1 ⟨rfl,hb1⟩;have HB1:=hid (thenB (HB.out _ _ _) hb1);have hz1:=hb1.size;simp at hz1;obtain ⟨q0,q1,q2⟩:=zmf hb1;obtain ⟨h0,h1,h2,h3,h4,h5,h6,h7⟩:=zbe q2
 have hlt:w.heap.size+2<w1.heap.size:=by omega
 obtain ⟨x0,x1,x2,x3,x4,x5,x6⟩:=zam q1
 have hlx:w.heap.size+1<w1.heap.size:=by omega
 clear hb1 HC q0 q1 q2;go_wp2_with fail;refine bodyPost_ret (v:=.tuple #[.agg #[.int .i64 2,.int .i64 fn,.int .i64 fm,.int .i64 fa,.slice none 0 0,.slice none 0 0,.slice none 0 0],.int .i64 er]) (by simp [results,Tryz.results205,go_sem,h0,h1,h2,h3,h4,h5,h6,hlt]) rfl ⟨rfl,?_⟩;exact (zme HB1.out (by omega) _ _ _ _ _ _ _).alloc (by simp;omega) _
theorem zsw (K:Kn) (L:Lc) (kv lv:Value) (op:Int) (mod name:ByteArray) (a1 a2 a3:OA) (k1 k2 k3 c1 c2 c3:Nat) (w:World) (hK:zj8 w kv K) (hL:zk4 w lv L) (hm:mod.size<=maxLen) (hn:name.size<=maxLen) (hop:op=3) (f:Mg × Int) (hf:f=zhk K L mod name k1) :
 Calls Tryz.prog 205 #[.agg #[kv,lv],.agg #[.int .i64 op,.string mod,.string name,.slice a1 k1 c1,.slice a2 k2 c2,.slice a3 k3 c3]] w fun e w'=>e = .returned (.tuple #[.agg #[.int .i64 3,.int .i64 0,.int .i64 f.1.m,.int .i64 f.1.at_,.slice none 0 0,.slice none 0 0,.slice none 0 0],.int .i64 f.2])/\Below w.heap.size w w':=by
 have HC:=hid (zjc K L kv lv mod name k1 (((w.alloc (.cells #[kv,lv] 195)).alloc (.cells #[.int .i64 op,.string mod,.string name,.slice a1 k1 c1,.slice a2 k2 c2,.slice a3 k3 c3] 176)).alloc (.cells #[.int .i64 0,.int .i64 0,.int .i64 0,.int .i64 0,.slice none 0 0,.slice none 0 0,.slice none 0 0] 109)) (hK.later (bl3 _ _ _ _)) (hL.later (bl3 _ _ _ _)) hm hn);have HB:=hid (fun o p q=>bl3 w o p q);clear hK hL hm hn;rw [← hf] at HC;clear hf;obtain ⟨⟨kd,fn,fm,fa⟩,er⟩:=f;simp only [Mg.val] at HC ⊢;subst hop;go_enter Tryz.func205,Tryz.ntmps205;go_wp2_with fail;refine HC.out.mono ?_;rintro e w1 ⟨rfl,hb1⟩;have HB1:=hid (thenB (HB.out _ _ _) hb1);have hz1:=hb1.size;simp at hz1;obtain ⟨q0,q1,q2⟩:=zmf hb1;obtain ⟨h0,h1,h2,h3,h4,h5,h6,h7⟩:=zbe q2
 have hlt:w.heap.size+2<w1.heap.size:=by omega
 obtain ⟨x0,x1,x2,x3,x4,x5,x6⟩:=zam q1
 have hlx:w.heap.size+1<w1.heap.size:=by omega
 clear hb1 HC q0 q1 q2;go_wp2_with fail;refine bodyPost_ret (v:=.tuple #[.agg #[.int .i64 3,.int .i64 0,.int .i64 fm,.int .i64 fa,.slice none 0 0,.slice none 0 0,.slice none 0 0],.int .i64 er]) (by simp [results,Tryz.results205,go_sem,h0,h1,h2,h3,h4,h5,h6,hlt]) rfl ⟨rfl,?_⟩;exact (zme HB1.out (by omega) _ _ _ _ _ _ _).alloc (by simp;omega) _
theorem zsx (kv lv:Value) (op:Int) (mod name:ByteArray) (a1 a2 a3:OA) (k1 k2 k3 c1 c2 c3:Nat) (w:World) (h1:op≠1) (h2:op≠2) (h3:op≠3) :
 Calls Tryz.prog 205 #[.agg #[kv,lv],.agg #[.int .i64 op,.string mod,.string name,.slice a1 k1 c1,.slice a2 k2 c2,.slice a3 k3 c3]] w fun e w'=>e = .returned (.tuple #[.agg #[.int .i64 op,.int .i64 0,.int .i64 0,.int .i64 0,.slice none 0 0,.slice none 0 0,.slice none 0 0],.int .i64 0])/\Below w.heap.size w w':=by
 have HB:=hid (fun o p q=>bl3 w o p q);go_enter Tryz.func205,Tryz.ntmps205;go_wp2_with fail;refine bodyPost_ret (v:=.tuple #[.agg #[.int .i64 op,.int .i64 0,.int .i64 0,.int .i64 0,.slice none 0 0,.slice none 0 0,.slice none 0 0],.int .i64 0]) (by simp [results,Tryz.results205,go_sem]) rfl ⟨rfl,HB.out _ _ _⟩
theorem znz (K:Kn) (L:Lc) (kv lv:Value) (x:St) (a1 a2 a3:OA) (c1 c2 c3:Nat) (w:World) (hK:zj8 w kv K) (hL:zk4 w lv L) (hm:x.mod.size<=maxLen) (hn:x.name.size<=maxLen) :
 Calls Tryz.prog 205 #[.agg #[kv,lv],.agg #[.int .i64 x.op,.string x.mod,.string x.name,.slice a1 x.args.length c1,.slice a2 x.body.length c2,.slice a3 x.other.length c3]] w fun e w'=>e = .returned (.tuple #[(acM K L x).act,.int .i64 (acM K L x).err])/\Below w.heap.size w w':=by
 unfold acM
 by_cases h1:x.op=1
 . rw [if_pos h1]
   exact zsu K L kv lv x.op x.mod x.name a1 a2 a3 _ _ _ c1 c2 c3 w hK hL hm hn h1 _ rfl
 rw [if_neg h1]
 by_cases h2:x.op=2
 . rw [if_pos h2]
   exact zsv K L kv lv x.op x.mod x.name a1 a2 a3 _ _ _ c1 c2 c3 w hK hL hm hn h2 _ rfl
 rw [if_neg h2]
 by_cases h3:x.op=3
 . rw [if_pos h3]
   exact zsw K L kv lv x.op x.mod x.name a1 a2 a3 _ _ _ c1 c2 c3 w hK hL hm hn h3 _ rfl
 rw [if_neg h3];exact zsx kv lv x.op x.mod x.name a1 a2 a3 _ _ _ c1 c2 c3 w h1 h2 h3
set_option maxHeartbeats 3200000
theorem Tryz.infoNode:(Tryz.prog.info? 253).map (fun i=>(i.zero,i.size,i.bytes))=some (some (.agg #[.int .i64 0,.int .i64 0,.int .i64 0,.int .i64 0,.slice none 0 0]),5,56):=by kernel_rfl
def z2b {α:Type} (lo:Nat) (len:List α->Nat) (ds:List α->List D) (r:Except Int (List α)) (e:Ending) (w:World):Prop:=
 match r with
 | .error c=>e = .returned (.tuple #[.slice none 0 0,.int .i64 c])/\c≠0
 | .ok l=>∃ a cap,e = .returned (.tuple #[.slice a (len l) cap,.int .i64 0])/\EAt w (lo<=·) a (len l) (ds l)
def zmh (l:List Ex):Prop:=∀ (K:Kn) (L:Lc) (kv lv:Value) (A:Nat->Prop) (a:OA) (cap:Nat) (w:World),zj8 w kv K->zk4 w lv L->DAt w A a l.length (zbi l)->
 Calls Tryz.prog 206 #[.agg #[kv,lv],.slice a l.length cap] w fun e w'=>z2b w.heap.size List.length zcl (zfy K L l) e w'/\Below w.heap.size w w'
theorem zk5 {a:Al} (h:a.err=0):alE a = .ok a:=if_pos h
theorem zzh {a:Al} (h:a.err≠0):alE a = .error a.err:=if_neg h
theorem zvj {K:Kn} {L:Lc} {x:Ex} (h:(ndM K L x).err≠0):rsE K L x = .error (ndM K L x).err:=by rw [zvg,zzh h];rfl
theorem zya {K:Kn} {L:Lc} {x:Ex} {c:Int} (h:(ndM K L x).err=0) (ha:zfy K L x.args = .error c):rsE K L x = .error c:=by rw [zvg,zk5 h,ha];rfl
theorem z2c {K:Kn} {L:Lc} {x:Ex} {l:List Nd} (h:(ndM K L x).err=0) (ha:zfy K L x.args = .ok l):rsE K L x = .ok (.mk (ndM K L x).op (ndM K L x).n (ndM K L x).m (ndM K L x).at_ l):=by rw [zvg,zk5 h,ha];rfl
theorem zyb {A:Nat->Prop} {op n m at_:Int} {l:List Nd} {w:World} {a:OA} {cap:Nat} (h:EAt w A a l.length (zcl l)):zaq w A (Nd.mk op n m at_ l).ds [.int .i64 op,.int .i64 n,.int .i64 m,.int .i64 at_,.slice a l.length cap]:=by
 unfold Nd.ds;exact .cons zmx (.cons zmx (.cons zmx (.cons zmx (.cons h.val .nil))))
theorem zb7 {w:World} {b:Nat} {x0 x1:Value} {t:TypeId} (h:w.heap[b]? = some (.cells #[x0,x1] t (0,0))) :
 w.cell? ⟨b,0,none⟩=some x0/\w.cell? ⟨b,1,none⟩=some x1/\∀ i,w.frozen? ⟨b,i,none⟩=false:=by
 refine ⟨?_,?_,fun i=>vef h i⟩<;>(rw [vee h];rfl)
theorem zk6 (l:List Ex) (hl5:l.length<=5000) (ih:∀ j (h:j<l.length),zmh l[j].args):zmh l:=by
 intro K L kv lv A a cap w hK hL hD;have HK:=hid hK;have HL:=hid hL;have HD:=hid hD;have HI:=hid ih;clear hK hL hD ih;go_enter Tryz.func206,Tryz.ntmps206;go_wp2_with fail
 go_loopw [6,8,9,10,13] (fun v _ _ _ i wr=>∃ (j:Nat) (acc:List Nd),j<=l.length/\i = .int .i64 j/\acc.length=j/\zfy K L (l.take j) = .ok acc/\Row (w.heap.size+1) 253 5 wr v acc.length (zcl acc)/\wr.heap[w.heap.size]? = some (.cells #[kv,lv] 195)/\Below w.heap.size w wr) (fun _ _ _ _ i _=>l.length - (intOf i).toNat)
 case atStart=>exact ⟨0,[],vad _,rfl,rfl,by rw [vdz,zfy],Row.nil _ _ _ _,heap_newP _ _,al1 _ _⟩
 case round=>
  obtain ⟨j,acc,hj,rfl,hacc,hrs,hrow,hbx,hb⟩:=hrel;have HR:=hid hrs;have HO:=hid hrow;have HX:=hid hbx;have HB:=hid hb;have hzr:=hb.size;have hxlt:=zab hbx;clear hrs hrow hb
  by_cases hlt:j<l.length
  . obtain ⟨b,off,aa,cp,rfl,hx⟩:=(HD.out.later HB.out).ex j hlt
    have HIj:=hid (HI.out j hlt);have HErr:=hid (fun c (he:rsE K L l[j] = .error c)=>zx3 hlt HR.out he);have HOk:=hid (fun y (he:rsE K L l[j] = .ok y)=>zve hlt HR.out he);obtain ⟨hbl,x0,x1,x2,x3,x4,hargs,_,_,hm,hn⟩:=hx;have HA:=hid hargs;clear hargs;generalize l[j]=x at *;have HC:=hid (zmg K L kv lv x aa cp (wr.alloc (.cells #[.int .i64 x.op,.int .i64 x.n,.string x.mod,.string x.name,.slice aa x.args.length cp] 174)) (HK.out.later (thenB HB.out (al1 _ _))) (HL.out.later (thenB HB.out (al1 _ _))) hm hn);obtain ⟨bx0,bx1,hfz⟩:=zb7 HX.out;clear hm hn hbx;go_wp2_with fail;refine HC.out.mono ?_;generalize hh:ndM K L x=h at *;obtain ⟨ho,hn,hm,ha,he⟩:=h;simp only [Al.node] at *;rintro e w1 ⟨rfl,hb1⟩;have HB1:=hid (thenB (al1 wr _) hb1);have hz1:=hb1.size;simp at hz1;have q1:w1.heap[wr.heap.size]? = some (.cells #[.int .i64 x.op,.int .i64 x.n,.string x.mod,.string x.name,.slice aa x.args.length cp] 174):=(hb1.block _ (by simp)).trans (heap_newP _ _)
    have q2:=(HB1.out.block _ hxlt).trans HX.out;obtain ⟨y0,y1,y2,y3,y4,y5⟩:=zad q1;obtain ⟨bx0',bx1',hfz'⟩:=zb7 q2;have HX1:=hid q2
    have hxl1:w.heap.size<w1.heap.size:=by omega
    have hwl1:wr.heap.size<w1.heap.size:=by omega
    clear hb1 HC q1 q2 bx0 bx1 hfz x0 x1 x2 x3 x4 y5 hfz'
    by_cases hee:he=0
    . subst hee
      have HH:=hid hh;clear hh;have HC2:=hid (HIj.out K L kv lv A aa cp (w1.alloc (.cells #[.int .i64 ho,.int .i64 hn,.int .i64 hm,.int .i64 ha,.slice none 0 0] 253)) (HK.out.later (thenB (thenB HB.out HB1.out) (al1 _ _))) (HL.out.later (thenB (thenB HB.out HB1.out) (al1 _ _))) (HA.out.later (thenB HB1.out (al1 _ _))));go_wp2_with fail;refine HC2.out.mono ?_;rintro e w2 ⟨hend,hb2⟩;have hz2:=hb2.size;simp at hz2;have q3:w2.heap[w1.heap.size]? = some (.cells #[.int .i64 ho,.int .i64 hn,.int .i64 hm,.int .i64 ha,.slice none 0 0] 253):=(hb2.block _ (by simp)).trans (heap_newP _ _);obtain ⟨z0,z1,z2,z3,z4,z5⟩:=zad q3;have HB2:=hid (thenB HB1.out (thenB (al1 _ _) hb2))
      have hwl2:w1.heap.size<w2.heap.size:=by omega
      clear hb2 HC2 q3
      cases hr:zfy K L x.args with
      | error c=>
        rw [hr] at hend;obtain ⟨rfl,hc⟩:=hend;have HF:=hid (HErr.out c (zya (by rw [HH.out]) hr));clear hr;go_wp2_with fail;go_ret2;exact ⟨by rw [HF.out];exact ⟨rfl,hc⟩,(thenB HB.out HB2.out).setCell (p:=⟨w1.heap.size,4,none⟩) (by show w.heap.size<=w1.heap.size;omega) _⟩
      | ok r=>
        rw [hr] at hend;obtain ⟨a2,c2,rfl,hea⟩:=hend;have HF:=hid (HOk.out _ (z2c (by rw [HH.out]) hr));rw [HH.out] at HF;simp only [] at HF;have HB3:Hid (Below wr.heap.size wr (w2.setCell ⟨w1.heap.size,4,none⟩ (.slice a2 r.length c2))):=HB2.out.setCell (p:=⟨w1.heap.size,4,none⟩) (by show wr.heap.size<=w1.heap.size;omega) _;have HO3:=hid (HO.out.later HB3.out);have HE3:Hid (zaq (w2.setCell ⟨w1.heap.size,4,none⟩ (.slice a2 r.length c2)) (w1.heap.size+1<=·) (Nd.mk ho hn hm ha r).ds [.int .i64 ho,.int .i64 hn,.int .i64 hm,.int .i64 ha,.slice a2 r.length c2]):=zyb ((hea.moves ((zag.refl w2 _).set (p:=⟨w1.heap.size,4,none⟩) (by intro b _ hb;simp at hb;show b≠w1.heap.size;omega) _)).moves ⟨vaa _,fun b _ h=>⟨by simp at h;exact h,rfl⟩⟩);have HLt:=hid (fun k hk=>(HO.out.lt k hk).2);have HX3:Hid ((w2.setCell ⟨w1.heap.size,4,none⟩ (.slice a2 r.length c2)).heap[w.heap.size]? = some (.cells #[kv,lv] 195)):=(HB3.out.block _ hxlt).trans HX.out
        have HZ3:Hid ((w2.setCell ⟨w1.heap.size,4,none⟩ (.slice a2 r.length c2)).heap.size=w2.heap.size):=van ..;clear hea hr
        go_wp2_with (at_builtin;refine zbl rfl (.tmp 37) (.tmp 39) 107 rfl (w.heap.size+1) 253 _ 5 56 Tryz.underlying107 Tryz.infoNode rfl (by decide) (w2.setCell ⟨w1.heap.size,4,none⟩ (.slice a2 r.length c2)) u6 acc.length (zcl acc) (Nd.mk ho hn hm ha r).ds rfl HO3.out #[.int .i64 ho,.int .i64 hn,.int .i64 hm,.int .i64 ha,.slice a2 r.length c2] _ HZ3.out.symm rfl rfl (w1.heap.size+1<=·) HE3.out ?_ (by omega) (by decide) (by rw [HZ3.out];omega) ?_)
        . intro b _ hb
          have hb':w1.heap.size+1<=b:=hb;exact ⟨by omega,fun h=>by have:=HLt.out b h;omega⟩
        . intro g5 c5 w5 HO5 HB5 hz5
          have HO5':=hid HO5;have HB5':=hid HB5;clear HO5 HB5 HO3 HE3;go_wp2_with fail;go_roundw
          case rel=>exact ⟨j+1,acc++[Nd.mk ho hn hm ha r],by omega,by go_num,by simp [hacc],HF.out,by rw [zi8,zx1,vag,hacc];exact HO5'.out,(HB5'.out.block _ (by omega)).trans HX3.out,(thenB HB.out HB3.out).trans (HB5'.out.mono (by omega))⟩
          case measure=>simp [intOf];omega
    . have HF:=hid (HErr.out he (by rw [zvj (by rw [hh];exact hee),hh]))
      clear hh;go_wp2_with fail;go_ret2;exact ⟨by rw [HF.out];exact ⟨rfl,hee⟩,thenB (thenB HB.out HB1.out) (al1 _ _)⟩
  . obtain rfl:j=l.length:=by omega
    have HRl:Hid (zfy K L l = .ok acc):=by have:=HR.out;rw [vaz] at this;exact this
    obtain ⟨a5,c5,rfl,hea⟩:=HO.out.slice;have HEA:=hid hea;clear hea hbx;go_wp2_with fail;go_ret2;refine ⟨by rw [HRl.out];exact ⟨a5,c5,rfl,HEA.out.moves ⟨vaa _,fun b _ h=>⟨by have:w.heap.size+1<=b:=h;show w.heap.size<=b;omega,rfl⟩⟩⟩,HB.out⟩
theorem zn0:∀ (k:Nat) (l:List Ex),zan k l=false->zmh l
 | 0,l,h=>zk6 l (by simp [zan] at h;rw [h];simp) (by simp [zan] at h;subst h;intro j hj;simp at hj)
 | k+1,l,h=>by
   simp only [zan,vay] at h;have h1:=of_decide_eq_false h.1
   refine zk6 l (by omega) fun j hj=>zn0 k _ ?_
   have:=h.2;rw [vbv] at this;simpa using this l[j] (vah _)
theorem Tryz.infoAct:(Tryz.prog.info? 109).map (fun i=>(i.zero,i.size,i.bytes))=some (some (.agg #[.int .i64 0,.int .i64 0,.int .i64 0,.int .i64 0,.slice none 0 0,.slice none 0 0,.slice none 0 0]),7,104):=by kernel_rfl
def zk7 (l:List St):Prop:=∀ (K:Kn) (L:Lc) (kv lv:Value) (A:Nat->Prop) (a:OA) (cap:Nat) (w:World),zj8 w kv K->zk4 w lv L->DAt w A a l.length (zbj l)->
 Calls Tryz.prog 121 #[.agg #[kv,lv],.slice a l.length cap] w fun e w'=>z2b w.heap.size List.length zcg (zes K L l) e w'/\Below w.heap.size w w'
def z2d (lo:Nat) (r:Except Int Ac) (e:Ending) (w:World):Prop:=
 match r with
 | .error c=>∃ o n m t a1 k1 c1 a2 k2 c2 a3 k3 c3,e = .returned (.tuple #[.agg #[.int .i64 o,.int .i64 n,.int .i64 m,.int .i64 t,.slice a1 k1 c1,.slice a2 k2 c2,.slice a3 k3 c3],.int .i64 c])/\c≠0
 | .ok y=>∃ a1 c1 a2 c2 a3 c3,e = .returned (.tuple #[.agg #[.int .i64 y.op,.int .i64 y.n,.int .i64 y.m,.int .i64 y.at_,.slice a1 y.args.length c1,.slice a2 y.body.length c2,.slice a3 y.other.length c3],.int .i64 0])/\
   EAt w (lo<=·) a1 y.args.length (zcl y.args)/\EAt w (lo<=·) a2 y.body.length (zcg y.body)/\EAt w (lo<=·) a3 y.other.length (zcg y.other)
def z2e (x:St):Prop:=∀ (K:Kn) (L:Lc) (kv lv:Value) (A:Nat->Prop) (a1:OA) (c1:Nat) (a2:OA) (c2:Nat) (a3:OA) (c3:Nat) (w:World),zj8 w kv K->zk4 w lv L->x.mod.size<=maxLen->x.name.size<=maxLen->
 DAt w A a1 x.args.length (zbi x.args)->DAt w A a2 x.body.length (zbj x.body)->DAt w A a3 x.other.length (zbj x.other)->
 Calls Tryz.prog 162 #[.agg #[kv,lv],.agg #[.int .i64 x.op,.string x.mod,.string x.name,.slice a1 x.args.length c1,.slice a2 x.body.length c2,.slice a3 x.other.length c3]] w fun e w'=>z2d w.heap.size (rsS K L x) e w'/\Below w.heap.size w w'
theorem zyc {A:Nat->Prop} {y:Ac} {w:World} {a1 a2 a3:OA} {c1 c2 c3:Nat} (h1:EAt w A a1 y.args.length (zcl y.args)) (h2:EAt w A a2 y.body.length (zcg y.body)) (h3:EAt w A a3 y.other.length (zcg y.other)) :
 zaq w A y.ds [.int .i64 y.op,.int .i64 y.n,.int .i64 y.m,.int .i64 y.at_,.slice a1 y.args.length c1,.slice a2 y.body.length c2,.slice a3 y.other.length c3]:=by
 obtain ⟨op,n,m,at_,args,body,other⟩:=y;unfold Ac.ds;exact .cons zmx (.cons zmx (.cons zmx (.cons zmx (.cons h1.val (.cons h2.val (.cons h3.val .nil))))))
theorem zn1 (l:List St) (hl5:l.length<=5000) (ih:∀ j (h:j<l.length),z2e l[j]):zk7 l:=by
 intro K L kv lv A a cap w hK hL hD;have HK:=hid hK;have HL:=hid hL;have HD:=hid hD;have HI:=hid ih;clear hK hL hD ih;go_enter Tryz.func121,Tryz.ntmps121;go_wp2_with fail
 go_loopw [6,8,9,10,13] (fun v _ _ _ i wr=>∃ (j:Nat) (acc:List Ac),j<=l.length/\i = .int .i64 j/\acc.length=j/\zes K L (l.take j) = .ok acc/\Row (w.heap.size+1) 109 7 wr v acc.length (zcg acc)/\wr.heap[w.heap.size]? = some (.cells #[kv,lv] 195)/\Below w.heap.size w wr) (fun _ _ _ _ i _=>l.length - (intOf i).toNat)
 case atStart=>exact ⟨0,[],vad _,rfl,rfl,by rw [vdz,zes],Row.nil _ _ _ _,heap_newP _ _,al1 _ _⟩
 case round=>
  obtain ⟨j,acc,hj,rfl,hacc,hrs,hrow,hbx,hb⟩:=hrel;have HR:=hid hrs;have HO:=hid hrow;have HX:=hid hbx;have HB:=hid hb;have hzr:=hb.size;have hxlt:=zab hbx;clear hrs hrow hb
  by_cases hlt:j<l.length
  . obtain ⟨b,off,a1,p1,a2,p2,a3,p3,rfl,hx⟩:=(HD.out.later HB.out).st j hlt
    have HIj:=hid (HI.out j hlt);have HErr:=hid (fun c (he:rsS K L l[j] = .error c)=>zx4 hlt HR.out he);have HOk:=hid (fun y (he:rsS K L l[j] = .ok y)=>zvf hlt HR.out he);obtain ⟨hbl,x0,x1,x2,x3,x4,x5,hargs,hbody,hother,_,hm,hn⟩:=hx;generalize l[j]=x at *;have HC:=hid (HIj.out K L kv lv A a1 p1 a2 p2 a3 p3 (wr.alloc (.cells #[.int .i64 x.op,.string x.mod,.string x.name,.slice a1 x.args.length p1,.slice a2 x.body.length p2,.slice a3 x.other.length p3] 176)) (HK.out.later (thenB HB.out (al1 _ _))) (HL.out.later (thenB HB.out (al1 _ _))) hm hn (hargs.later (al1 _ _)) (hbody.later (al1 _ _)) (hother.later (al1 _ _)));obtain ⟨bx0,bx1,hfz⟩:=zb7 HX.out;clear hm hn hbx hargs hbody hother;go_wp2_with fail;refine HC.out.mono ?_;rintro e w1 ⟨hend,hb1⟩;have HB1:=hid (thenB (al1 wr _) hb1);have hz1:=hb1.size;simp at hz1;clear hb1 HC bx0 bx1 hfz x0 x1 x2 x3 x4 x5
    cases hr:rsS K L x with
    | error c=>
      rw [hr] at hend;obtain ⟨o,n,m,t,f1,k1,e1,f2,k2,e2,f3,k3,e3,rfl,hc⟩:=hend;have HF:=hid (HErr.out c hr);clear hr;go_wp2_with fail;go_ret2;exact ⟨by rw [HF.out];exact ⟨rfl,hc⟩,thenB (thenB HB.out HB1.out) (al1 _ _)⟩
    | ok y=>
      rw [hr] at hend;obtain ⟨b1,d1,b2,d2,b3,d3,rfl,he1,he2,he3⟩:=hend;have HF:=hid (HOk.out _ hr);have HO1:=hid ((HO.out.later HB1.out).alloc (.cells #[.int .i64 y.op,.int .i64 y.n,.int .i64 y.m,.int .i64 y.at_,.slice b1 y.args.length d1,.slice b2 y.body.length d2,.slice b3 y.other.length d3] 109))
      have HE1:Hid (zaq (w1.alloc (.cells #[.int .i64 y.op,.int .i64 y.n,.int .i64 y.m,.int .i64 y.at_,.slice b1 y.args.length d1,.slice b2 y.body.length d2,.slice b3 y.other.length d3] 109)) (wr.heap.size+1<=·) y.ds [.int .i64 y.op,.int .i64 y.n,.int .i64 y.m,.int .i64 y.at_,.slice b1 y.args.length d1,.slice b2 y.body.length d2,.slice b3 y.other.length d3]):=by
       have hm:zag w1 ((wr.alloc (.cells #[.int .i64 x.op,.string x.mod,.string x.name,.slice a1 x.args.length p1,.slice a2 x.body.length p2,.slice a3 x.other.length p3] 176)).heap.size<=·) (w1.alloc (.cells #[.int .i64 y.op,.int .i64 y.n,.int .i64 y.m,.int .i64 y.at_,.slice b1 y.args.length d1,.slice b2 y.body.length d2,.slice b3 y.other.length d3] 109)) (wr.heap.size+1<=·):=
        ((zag.refl w1 _).alloc _).trans ⟨vaa _,fun b _ h=>⟨by simp at h;exact h,rfl⟩⟩
       exact zyc (he1.moves hm) (he2.moves hm) (he3.moves hm)
      have HLt:=hid (fun k hk=>(HO.out.lt k hk).2);have HX1:=hid ((thenB HB1.out (al1 w1 (.cells #[.int .i64 y.op,.int .i64 y.n,.int .i64 y.m,.int .i64 y.at_,.slice b1 y.args.length d1,.slice b2 y.body.length d2,.slice b3 y.other.length d3] 109))).block _ hxlt |>.trans HX.out);have HBA:=hid (thenB (thenB HB.out HB1.out) (al1 w1 (.cells #[.int .i64 y.op,.int .i64 y.n,.int .i64 y.m,.int .i64 y.at_,.slice b1 y.args.length d1,.slice b2 y.body.length d2,.slice b3 y.other.length d3] 109)));clear he1 he2 he3 hr
      go_wp2_with (at_builtin;refine zbl rfl (.tmp 26) (.tmp 28) 40 rfl (w.heap.size+1) 109 _ 7 104 Tryz.underlying40 Tryz.infoAct rfl (by decide) (w1.alloc (.cells #[.int .i64 y.op,.int .i64 y.n,.int .i64 y.m,.int .i64 y.at_,.slice b1 y.args.length d1,.slice b2 y.body.length d2,.slice b3 y.other.length d3] 109)) u6 acc.length (zcg acc) y.ds rfl HO1.out #[.int .i64 y.op,.int .i64 y.n,.int .i64 y.m,.int .i64 y.at_,.slice b1 y.args.length d1,.slice b2 y.body.length d2,.slice b3 y.other.length d3] _ (by simp) rfl rfl (wr.heap.size+1<=·) HE1.out ?_ (by omega) (by decide) (by simp;omega) ?_)
      . intro b _ hb
        have hb':wr.heap.size+1<=b:=hb;exact ⟨by omega,fun h=>by have:=HLt.out b h;omega⟩
      . intro g5 c5 w5 HO5 HB5 hz5
        have HO5':=hid HO5;have HB5':=hid HB5;clear HO5 HB5 HO1 HE1;go_wp2_with fail;go_roundw
        case rel=>exact ⟨j+1,acc++[y],by omega,by go_num,by simp [hacc],HF.out,by rw [zi9,zx2,vag,hacc];exact HO5'.out,(HB5'.out.block _ (by omega)).trans HX1.out,HBA.out.trans (HB5'.out.mono (by omega))⟩
        case measure=>simp [intOf];omega
  . obtain rfl:j=l.length:=by omega
    have HRl:Hid (zes K L l = .ok acc):=by have:=HR.out;rw [vaz] at this;exact this
    obtain ⟨a5,c5,rfl,hea⟩:=HO.out.slice;have HEA:=hid hea;clear hea hbx;go_wp2_with fail;go_ret2;refine ⟨by rw [HRl.out];exact ⟨a5,c5,rfl,HEA.out.moves ⟨vaa _,fun b _ h=>⟨by have:w.heap.size+1<=b:=h;show w.heap.size<=b;omega,rfl⟩⟩⟩,HB.out⟩
end Go.Proofs.YtndkhgakfodldaaGreatDoor
