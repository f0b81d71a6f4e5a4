import Derived.Test.YtndkhgakfodldaaGreatDoorUb
import Derived.Test.YtndkhgakfodldaaGreatDoorPa
set_option maxRecDepth 100000
set_option maxHeartbeats 8000000
set_option linter.unusedSimpArgs false
open Go.Proofs.Tryz
open List renaming length → Ln
namespace Go.Proofs.YtndkhgakfodldaaGreatDoor
open Go.RowKit Go.Maps Go.WideMaps
variable {A:Nat->Prop} {B b:Nat} {K:Kn} {L:Lc} {a w:World} {c:Int} {l:List eH} {t:TypeId} {x:St} {af E:Value}
theorem gc (w:World) (o p:Obj):et w ((w.alloc o).alloc p):=es (ey w o) (ey _ p)
theorem ho (w:World) (o p q:Obj):et w (((w.alloc o).alloc p).alloc q):=es (gc w o p) (ey _ q)
theorem Bh (d lv:Value) (g:Mg) (c:Int) (h l:Bool) (s u:ByteArray) (f:List Int) (b I:Nat) (w:World) (i:s.toList.isEmpty=l) (a:(h&&l)=false)
 (G:(Instr.lookup 187 d (.agg #[.string s,.string u]) true).run prog ((w.alloc (.cells #[d,lv] 195)).alloc (iy 0 0 0 0)) = .ok (.tuple #[.agg #[em g.kind,em g.n,em g.m,em g.at_],.bool false]) ((w.alloc (.cells #[d,lv] 195)).alloc (iy 0 0 0 0)))
 (J:(Instr.lookup 185 lv (.string u) true).run prog (((w.alloc (.cells #[d,lv] 195)).alloc (iy 0 0 0 0)).alloc (iy g.kind g.n g.m g.at_)) = .ok (.tuple #[em c,.bool h]) (((w.alloc (.cells #[d,lv] 195)).alloc (iy 0 0 0 0)).alloc (iy g.kind g.n g.m g.at_))) :
 ew 256 #[.agg #[d,lv],.string s,.string u,.slice (some (ep b 0)) (Ln f) I] w fun e r=>e = .returned (.tuple #[hf.val,em 5])/\et w r:=by
 have ad:=hid (fun o y R=>ho w o y R)
 cases h with
 | false=>
   clear a;go_enter func256,ntmps256;go_wp2_with fail;refine bodyPost_ret (v:=.tuple #[hf.val,em 5]) (by simp [results,results256,go_sem,Mg.val,hf]) rfl ⟨rfl,ad _ _ _⟩
 | true=>
   cases l with
   | true=>cases a
   | false=>
     clear a;go_enter func256,ntmps256;go_wp2_with fail;refine bodyPost_ret (v:=.tuple #[hf.val,em 5]) (by simp [results,results256,go_sem,Mg.val,hf]) rfl ⟨rfl,ad _ _ _⟩
theorem Bi (d lv:Value) (g:Mg) (c:Int) (h l:Bool) (s u:ByteArray) (f:List Int) (b I:Nat) (w:World) (t:oH w b f) (a2:Ln f<=1000) (O:Mg × Int) (W:O=if f.contains g.kind then (g,0) else (hf,7)) (i:s.toList.isEmpty=l) (a:(h&&l)=false)
 (G:(Instr.lookup 187 d (.agg #[.string s,.string u]) true).run prog ((w.alloc (.cells #[d,lv] 195)).alloc (iy 0 0 0 0)) = .ok (.tuple #[.agg #[em g.kind,em g.n,em g.m,em g.at_],.bool true]) ((w.alloc (.cells #[d,lv] 195)).alloc (iy 0 0 0 0)))
 (J:(Instr.lookup 185 lv (.string u) true).run prog (((w.alloc (.cells #[d,lv] 195)).alloc (iy 0 0 0 0)).alloc (iy g.kind g.n g.m g.at_)) = .ok (.tuple #[em c,.bool h]) (((w.alloc (.cells #[d,lv] 195)).alloc (iy 0 0 0 0)).alloc (iy g.kind g.n g.m g.at_))) :
 ew 256 #[.agg #[d,lv],.string s,.string u,.slice (some (ep b 0)) (Ln f) I] w fun e r=>e = .returned (.tuple #[O.1.val,em O.2])/\et w r:=by
 have ad:=hid (fun o y R=>ho w o y R);have az:=hid t;have b2:=hid W;clear t W
 cases h with
 | false=>
   clear a;go_enter func256,ntmps256;go_wp2_with fail;refine (xv f g.kind b I _ (az.later (ad _ _ _)) a2).mono ?_;rintro e r ⟨rfl,rfl⟩
   cases a1:f.contains g.kind with
   | false=>
     have z:Hid (O=(hf,7)):=b2.trans (by rw [a1];rfl);clear a1;go_wp2_with fail;refine bodyPost_ret (v:=.tuple #[hf.val,em 7]) (by simp [results,results256,go_sem,Mg.val,hf]) rfl ⟨by rw [z.out],ad _ _ _⟩
   | true=>
     have z:Hid (O=(⟨g.kind,g.n,g.m,g.at_⟩,0)):=b2.trans (by rw [a1];rfl);clear a1;go_wp2_with fail;refine bodyPost_ret (v:=.tuple #[.agg #[em g.kind,em g.n,em g.m,em g.at_],em 0]) (by simp [results,results256,go_sem,Mg.val,hf]) rfl ⟨by rw [z.out];rfl,ad _ _ _⟩
 | true=>
   cases l with
   | true=>cases a
   | false=>
     clear a;go_enter func256,ntmps256;go_wp2_with fail;refine (xv f g.kind b I _ (az.later (ad _ _ _)) a2).mono ?_;rintro e r ⟨rfl,rfl⟩
     cases a1:f.contains g.kind with
     | false=>
       have z:Hid (O=(hf,7)):=b2.trans (by rw [a1];rfl);clear a1;go_wp2_with fail;refine bodyPost_ret (v:=.tuple #[hf.val,em 7]) (by simp [results,results256,go_sem,Mg.val,hf]) rfl ⟨by rw [z.out],ad _ _ _⟩
     | true=>
       have z:Hid (O=(⟨g.kind,g.n,g.m,g.at_⟩,0)):=b2.trans (by rw [a1];rfl);clear a1;go_wp2_with fail;refine bodyPost_ret (v:=.tuple #[.agg #[em g.kind,em g.n,em g.m,em g.at_],em 0]) (by simp [results,results256,go_sem,Mg.val,hf]) rfl ⟨by rw [z.out];rfl,ad _ _ _⟩
theorem Hq (d lv:Value) (g:Mg) (c:Int) (a:Bool) (s u:ByteArray) (f:List Int) (b I:Nat) (w:World) (t:oH w b f) (a2:Ln f<=1000) (O:Mg × Int) (W:O=if f.contains 0 then (⟨0,0,0,c⟩,0) else (hf,7)) (i:s.toList.isEmpty=true)
 (G:(Instr.lookup 187 d (.agg #[.string s,.string u]) true).run prog ((w.alloc (.cells #[d,lv] 195)).alloc (iy 0 0 0 0)) = .ok (.tuple #[.agg #[em g.kind,em g.n,em g.m,em g.at_],.bool a]) ((w.alloc (.cells #[d,lv] 195)).alloc (iy 0 0 0 0)))
 (J:(Instr.lookup 185 lv (.string u) true).run prog (((w.alloc (.cells #[d,lv] 195)).alloc (iy 0 0 0 0)).alloc (iy g.kind g.n g.m g.at_)) = .ok (.tuple #[em c,.bool true]) (((w.alloc (.cells #[d,lv] 195)).alloc (iy 0 0 0 0)).alloc (iy g.kind g.n g.m g.at_))) :
 ew 256 #[.agg #[d,lv],.string s,.string u,.slice (some (ep b 0)) (Ln f) I] w fun e r=>e = .returned (.tuple #[O.1.val,em O.2])/\et w r:=by
 have ad:=hid (fun o y R=>ho w o y R);have az:=hid t;have b2:=hid W;clear t W;go_enter func256,ntmps256;go_wp2_with fail;refine (xv f 0 b I _ (az.later (ad _ _ _)) a2).mono ?_;rintro e r ⟨rfl,rfl⟩
 cases a1:f.contains 0 with
 | false=>
   have z:Hid (O=(hf,7)):=b2.trans (by rw [a1];rfl);clear a1;go_wp2_with fail;refine bodyPost_ret (v:=.tuple #[hf.val,em 7]) (by simp [results,results256,go_sem,Mg.val,hf]) rfl ⟨by rw [z.out],ad _ _ _⟩
 | true=>
   have z:Hid (O=(⟨0,0,0,c⟩,0)):=b2.trans (by rw [a1];rfl);clear a1;go_wp2_with fail;refine bodyPost_ret (v:=.tuple #[.agg #[em 0,em 0,em 0,em c],em 0]) (by simp [results,results256,go_sem,Mg.val,hf]) rfl ⟨by rw [z.out];rfl,ad _ _ _⟩
theorem Hr (K:Kn) (L:Lc) (d lv:Value) (s u:ByteArray) (f:List Int) (b I:Nat) (w:World) (aA:jg w d K) (am:jr w lv L) (a8:s.size<=maxLen) (U:u.size<=maxLen) (t:oH w b f) (a2:Ln f<=1000) :
 ew 256 #[.agg #[d,lv],.string s,.string u,.slice (some (ep b 0)) (Ln f) I] w fun e r=>e = .returned (.tuple #[(g6 K L s u f).1.val,em (g6 K L s u f).2])/\et w r:=by
 have G:=aA ((w.alloc (.cells #[d,lv] 195)).alloc (iy 0 0 0 0)) (gc _ _ _) s u a8 U;generalize af:(K s u).getD hf=g at G;have J:=am (((w.alloc (.cells #[d,lv] 195)).alloc (iy 0 0 0 0)).alloc (iy g.kind g.n g.m g.at_)) (ho _ _ _ _) u U;have ah:=xk s;unfold g6 AQ
 cases j:L u with
 | some c=>
   rw [j] at J
   by_cases aS:s.size=0
   . rw [if_pos aS]
     rw [decide_eq_true aS] at ah;exact Hq d lv g c _ s u f b I w t a2 _ rfl ah G J
   . rw [if_neg aS]
     rw [decide_eq_false aS] at ah
     cases N:K s u with
     | none=>rw [N] at G;exact Bh d lv g c true false s u f b I w ah rfl G J
     | some x=>
       rw [N] at G af;obtain rfl:x=g:=af;exact Bi d lv x c true false s u f b I w t a2 _ rfl ah rfl G J
 | none=>
   rw [j] at J
   have e:(if s.size=0 then (match (none:Option Int) with | some a=>some (⟨0,0,0,a⟩:Mg) | none=>K s u) else K s u)=K s u:=by split<;>rfl
   simp only [ite_self]
   cases N:K s u with
   | none=>rw [N] at G;exact Bh d lv g 0 false _ s u f b I w ah rfl G J
   | some x=>
     rw [N] at G af;obtain rfl:x=g:=af;exact Bi d lv x 0 false _ s u f b I w t a2 _ rfl ah rfl G J
theorem Hs (w:World) (l:List Int) (t:TypeId) (b:Nat) (F:b=w.heap.size):oH (w.alloc (.cells (l.map (Value.int .i64)).toArray t)) b l:=by
 subst F;refine ⟨by simp,fun j ac=>?_⟩;rw [fU (eT w _)];simp [ac]
theorem qB (h:Below B a w) (F:B<=b) (Z aK aN aY:Value):Below B a ((((w.setCell (ep b 0) Z).setCell (ep b 1) aK).setCell (ep b 2) aN).setCell (ep b 3) aY):=
 (((h.setCell (p:=(ep b 0)) F _).setCell (p:=(ep b 1)) F _).setCell (p:=(ep b 2)) F _).setCell (p:=(ep b 3)) F _
theorem sI (K:Kn) (L:Lc) (d lv:Value) (s u:ByteArray) (f:List Int) (t:TypeId) (b I:Nat) (w:World) (F:b=w.heap.size) (aA:jg w d K) (am:jr w lv L) (a8:s.size<=maxLen) (U:u.size<=maxLen) (a2:Ln f<=1000) :
 ew 256 #[.agg #[d,lv],.string s,.string u,.slice (some (ep b 0)) (Ln f) I] (w.alloc (.cells (f.map (Value.int .i64)).toArray t)) fun e r=>e = .returned (.tuple #[(g6 K L s u f).1.val,em (g6 K L s u f).2])/\et w r:=
 (Hr K L d lv s u f b I _ (aA.later (ey _ _)) (am.later (ey _ _)) a8 U (Hs w f t b F) a2).mono fun _ _ h=>⟨h.1,es (ey _ _) h.2⟩
theorem Bj (K:Kn) (L:Lc) (d lv:Value) (s u:ByteArray) (a:Int) (w:World) (aA:jg w d K) (am:jr w lv L) (a8:s.size<=maxLen) (U:u.size<=maxLen) :
 ew 257 #[.agg #[d,lv],.string s,.string u,em a] w fun e r=>e = .returned (.tuple #[(lN K L s u a).1.val,em (lN K L s u a).2])/\et w r:=by
 have ao:=hid (sI K L d lv s u [4] 3 (w.heap.size+2) 1 ((w.alloc (.cells #[d,lv] 195)).alloc (iy 0 0 0 0)) (by simp) (aA.later (gc _ _ _)) (am.later (gc _ _ _)) a8 U (by decide));have ad:=hid (fun o y=>gc w o y)
 have bb:∀ x,lN K L s u a=x->Hid (lN K L s u a=x):=fun x h=>h
 unfold lN at bb ⊢;clear aA am a8 U;generalize g6 K L s u [4]=O at *;obtain ⟨⟨l,n,m,g⟩,er⟩:=O;simp only [Mg.val] at ao bb;generalize Q:(if er=0/\n≠a then (hf,(8:Int)) else (({ kind:=l,n:=n,m:=m,at_:=g }:Mg),er))=R at *;have b2:=hid Q;clear Q bb;go_enter func257,ntmps257;go_wp2_with fail;refine ao.mono ?_;rintro e eq ⟨rfl,ai⟩;have B:=hid (es (ad _ _) ai);have b0:=ai.size;simp at b0;have c:Hid (eq.heap[w.heap.size+1]? = some (iy 0 0 0 0)):=(ai.block (w.heap.size+1) (by simp)).trans (by have:=eT (w.alloc (.cells #[d,lv] 195)) (iy 0 0 0 0);simpa using this);obtain ⟨a3,G,J,S,a6⟩:=mm c
 have a0:w.heap.size+1<eq.heap.size:=by omega
 clear ai ao
 by_cases ah:er=0
 . by_cases U:n=a
   . have z:Hid (R=(⟨l,n,m,g⟩,0)):=b2.symm.trans (by rw [if_neg (by simp [U]),ah])
     subst ah U;clear b2;go_wp2_with fail;refine bodyPost_ret (v:=.tuple #[.agg #[em l,em n,em m,em g],em 0]) (by simp [results,results257,go_sem,a3,G,J,S,a0]) rfl ⟨by rw [z.out];rfl,?_⟩
     first | exact qB (B.alloc B.size _) (by omega) _ _ _ _ | exact (qB B (by omega) _ _ _ _).alloc (by simp;omega) _
   . have z:Hid (R=(hf,8)):=b2.symm.trans (by rw [if_pos ⟨ah,U⟩])
     subst ah;clear b2;go_wp2_with fail;refine bodyPost_ret (v:=.tuple #[hf.val,em 8]) (by simp [results,results257,go_sem,Mg.val,hf,a3,G,J,S,a0]) rfl ⟨by rw [z.out],?_⟩
     first | exact qB (B.alloc B.size _) (by omega) _ _ _ _ | exact (qB B (by omega) _ _ _ _).alloc (by simp;omega) _
 . have z:Hid (R=(⟨l,n,m,g⟩,er)):=b2.symm.trans (by rw [if_neg (by simp [ah])])
   clear b2;go_wp2_with fail;refine bodyPost_ret (v:=.tuple #[.agg #[em l,em n,em m,em g],em er]) (by simp [results,results257,go_sem,a3,G,J,S,a0]) rfl ⟨by rw [z.out];rfl,?_⟩
   first | exact qB (B.alloc B.size _) (by omega) _ _ _ _ | exact (qB B (by omega) _ _ _ _).alloc (by simp;omega) _
def Al.node (a:Al):Value:=.agg #[em a.op,em a.n,em a.m,em a.at_,eu]
def Al.act (a:Al):Value:=.agg #[em a.op,em a.n,em a.m,em a.at_,eu,eu,eu]
theorem ik (h:Below B a w) (F:B<=b) (Z aK aN aY be:Value):Below B a (set5 w b Z aK aN aY be):=
 (qB h F Z aK aN aY).setCell (p:=(ep b 4)) F _
theorem oI (h:Below B a w) (F:B<=b) (Z aK aN aY be P t:Value):Below B a (((set5 w b Z aK aN aY be).setCell (ep b 5) P).setCell (ep b 6) t):=
 ((ik h F Z aK aN aY be).setCell (p:=(ep b 5)) F _).setCell (p:=(ep b 6)) F _
theorem nP {ae H aj al O:Value} (h:w.heap[b]? = some (.cells #[af,E,ae,H,aj,al,O] t (0,0))) :
 w.cell? (ep b 0)=some af/\w.cell? (ep b 1)=some E/\w.cell? (ep b 2)=some ae/\w.cell? (ep b 3)=some H/\w.cell? (ep b 4)=some aj/\w.cell? (ep b 5)=some al/\w.cell? (ep b 6)=some O/\∀ i,w.frozen? (ep b i)=false:=by
 refine ⟨?_,?_,?_,?_,?_,?_,?_,fun i=>ih h i⟩<;>(rw [fU h];rfl)
theorem oJ {eq:World} {o p q:Obj} (h:Below (((w.alloc o).alloc p).alloc q).heap.size (((w.alloc o).alloc p).alloc q) eq):eq.heap[w.heap.size]? = some o/\eq.heap[w.heap.size+1]? = some p/\eq.heap[w.heap.size+2]? = some q:=by
 refine ⟨(h.block _ (by simp;omega)).trans (fF (fF (eT w o))),(h.block _ (by simp)).trans (fF (by simpa using eT (w.alloc o) p)),(h.block _ (by simp)).trans (by simpa using eT ((w.alloc o).alloc p) q)⟩
theorem Ht (K:Kn) (L:Lc) (d lv:Value) (p n:Int) (s u:ByteArray) (t:OA) (k I:Nat) (w:World) (aA:jg w d K) (am:jr w lv L) (a8:s.size<=maxLen) (U:u.size<=maxLen) :
 ew 288 #[.agg #[d,lv],.agg #[em p,em n,.string s,.string u,.slice t k I]] w fun e r=>e = .returned (.tuple #[(rz K L s u).node,em (rz K L s u).err])/\et w r:=by
 have ao:=hid (sI K L d lv s u [0,1,2] 3 (w.heap.size+3) 3 (((w.alloc (.cells #[d,lv] 195)).alloc (i1 p n s u t k I)).alloc (i6 0 0 0 0 none 0 0)) (by simp) (aA.later (ho _ _ _ _)) (am.later (ho _ _ _ _)) a8 U (by decide));have ad:=hid (fun o y R=>ho w o y R)
 obtain ⟨O,Q⟩:∃ O,O=rz K L s u:=⟨_,rfl⟩
 rw [← Q];unfold rz at Q;clear aA am a8 U;generalize g6 K L s u [0,1,2]=f at *;obtain ⟨⟨l,D,a,az⟩,er⟩:=f;simp only [Mg.val] at ao Q;have b2:=hid Q;clear Q;go_enter func288,ntmps288;go_wp2_with fail;refine ao.mono ?_;rintro e eq ⟨rfl,ai⟩;have B:=hid (es (ad _ _ _) ai);have b0:=ai.size;simp at b0;obtain ⟨av,an,aD⟩:=oJ ai;obtain ⟨a3,G,J,S,a6,ap⟩:=fi aD
 have a0:w.heap.size+2<eq.heap.size:=by omega
 clear ai ao av an aD
 by_cases ah:er=0
 . subst ah
   by_cases b:l=1
   . have z:Hid (O=⟨1,D,0,0,0⟩):=b2.trans (by rw [if_neg (by simp),if_pos b])
     subst b;clear b2;go_wp2_with fail;refine bodyPost_ret (v:=.tuple #[.agg #[em 1,em D,em 0,em 0,eu],em 0]) (by simp [results,results288,go_sem,a3,G,J,S,a6,a0]) rfl ⟨by rw [z.out];rfl,?_⟩;exact (ik B (by omega) _ _ _ _ _).alloc (by simp;omega) _
   . by_cases c:l=2
     . have z:Hid (O=⟨3,0,a,az,0⟩):=b2.trans (by rw [if_neg (by simp),if_neg b,if_pos c])
       subst c;clear b2 b;go_wp2_with fail;refine bodyPost_ret (v:=.tuple #[.agg #[em 3,em 0,em a,em az,eu],em 0]) (by simp [results,results288,go_sem,a3,G,J,S,a6,a0]) rfl ⟨by rw [z.out];rfl,?_⟩;exact (ik B (by omega) _ _ _ _ _).alloc (by simp;omega) _
     . have z:Hid (O=⟨16,0,0,az,0⟩):=b2.trans (by rw [if_neg (by simp),if_neg b,if_neg c])
       clear b2;go_wp2_with fail;refine bodyPost_ret (v:=.tuple #[.agg #[em 16,em 0,em 0,em az,eu],em 0]) (by simp [results,results288,go_sem,a3,G,J,S,a6,a0]) rfl ⟨by rw [z.out];rfl,?_⟩;exact (ik B (by omega) _ _ _ _ _).alloc (by simp;omega) _
 . have z:Hid (O=⟨0,0,0,0,er⟩):=b2.trans (by rw [if_pos ah])
   clear b2;go_wp2_with fail;refine bodyPost_ret (v:=.tuple #[.agg #[em 0,em 0,em 0,em 0,eu],em er]) (by simp [results,results288,go_sem,a3,G,J,S,a6,a0]) rfl ⟨by rw [z.out];rfl,?_⟩;exact (ik B (by omega) _ _ _ _ _).alloc (by simp;omega) _
theorem Hu (K:Kn) (L:Lc) (d lv:Value) (p n:Int) (s u:ByteArray) (t:OA) (k I:Nat) (w:World) (aA:jg w d K) (am:jr w lv L) (a8:s.size<=maxLen) (U:u.size<=maxLen) (S:p=3) (O:Al) (W:O=rz K L s u) :
 ew 258 #[.agg #[d,lv],.agg #[em p,em n,.string s,.string u,.slice t k I]] w fun e r=>e = .returned (.tuple #[O.node,em O.err])/\et w r:=by
 have ao:=hid (Ht K L d lv p n s u t k I (((w.alloc (.cells #[d,lv] 195)).alloc (i1 p n s u t k I)).alloc (i6 0 0 0 0 none 0 0)) (aA.later (ho _ _ _ _)) (am.later (ho _ _ _ _)) a8 U);have ad:=hid (fun o y R=>ho w o y R);clear aA am a8 U;rw [← W] at ao;clear W;obtain ⟨a,rn,rm,ra,re⟩:=O;simp only [Al.node] at ao ⊢;subst S;go_enter func258,ntmps258;go_wp2_with fail;refine ao.mono ?_;rintro e eq ⟨rfl,ai⟩;have B:=hid (es (ad _ _ _) ai);have b0:=ai.size;simp at b0;obtain ⟨av,an,aD⟩:=oJ ai;obtain ⟨a3,G,J,S,a6,ap⟩:=fi aD
 have a0:w.heap.size+2<eq.heap.size:=by omega
 clear ai ao av an aD;have z:Hid (True):=trivial;go_wp2_with fail;refine bodyPost_ret (v:=.tuple #[.agg #[em a,em rn,em rm,em ra,eu],em re]) (by simp [results,results258,go_sem,a3,G,J,S,a6,a0]) rfl ⟨rfl,?_⟩;exact ik B (by omega) _ _ _ _ _
theorem Hv (K:Kn) (L:Lc) (d lv:Value) (p n:Int) (s u:ByteArray) (t:OA) (k I:Nat) (w:World) (aA:jg w d K) (am:jr w lv L) (a8:s.size<=maxLen) (U:u.size<=maxLen) (M:p=4) (f:Mg × Int) (ag:f=g6 K L s u [3]) :
 ew 258 #[.agg #[d,lv],.agg #[em p,em n,.string s,.string u,.slice t k I]] w fun e r=>e = .returned (.tuple #[.agg #[em 4,em f.1.n,em f.1.m,em f.1.at_,eu],em f.2])/\et w r:=by
 have ao:=hid (sI K L d lv s u [3] 3 (w.heap.size+3) 1 (((w.alloc (.cells #[d,lv] 195)).alloc (i1 p n s u t k I)).alloc (i6 0 0 0 0 none 0 0)) (by simp) (aA.later (ho _ _ _ _)) (am.later (ho _ _ _ _)) a8 U (by decide));have ad:=hid (fun o y R=>ho w o y R);clear aA am a8 U;rw [← ag] at ao;clear ag;obtain ⟨⟨l,D,a,az⟩,er⟩:=f;simp only [Mg.val] at ao ⊢;subst M;go_enter func258,ntmps258;go_wp2_with fail;refine ao.mono ?_;rintro e eq ⟨rfl,ai⟩;have B:=hid (es (ad _ _ _) ai);have b0:=ai.size;simp at b0;obtain ⟨av,an,aD⟩:=oJ ai;obtain ⟨a3,G,J,S,a6,ap⟩:=fi aD
 have a0:w.heap.size+2<eq.heap.size:=by omega
 obtain ⟨af,E,ae,H,aj,al⟩:=fi an
 have P:w.heap.size+1<eq.heap.size:=by omega
 clear ai ao av an aD;go_wp2_with fail;refine bodyPost_ret (v:=.tuple #[.agg #[em 4,em D,em a,em az,eu],em er]) (by simp [results,results258,go_sem,a3,G,J,S,a6,a0]) rfl ⟨rfl,?_⟩;exact (ik B (by omega) _ _ _ _ _).alloc (by simp;omega) _
theorem Hw (K:Kn) (L:Lc) (d lv:Value) (p n:Int) (s u:ByteArray) (t:OA) (k I:Nat) (w:World) (aA:jg w d K) (am:jr w lv L) (a8:s.size<=maxLen) (U:u.size<=maxLen) (M:p=5) (f:Mg × Int) (ag:f=lN K L s u k) :
 ew 258 #[.agg #[d,lv],.agg #[em p,em n,.string s,.string u,.slice t k I]] w fun e r=>e = .returned (.tuple #[.agg #[em 5,em 0,em f.1.m,em f.1.at_,eu],em f.2])/\et w r:=by
 have ao:=hid (Bj K L d lv s u k (((w.alloc (.cells #[d,lv] 195)).alloc (i1 p n s u t k I)).alloc (i6 0 0 0 0 none 0 0)) (aA.later (ho _ _ _ _)) (am.later (ho _ _ _ _)) a8 U);have ad:=hid (fun o y R=>ho w o y R);clear aA am a8 U;rw [← ag] at ao;clear ag;obtain ⟨⟨l,D,a,az⟩,er⟩:=f;simp only [Mg.val] at ao ⊢;subst M;go_enter func258,ntmps258;go_wp2_with fail;refine ao.mono ?_;rintro e eq ⟨rfl,ai⟩;have B:=hid (es (ad _ _ _) ai);have b0:=ai.size;simp at b0;obtain ⟨av,an,aD⟩:=oJ ai;obtain ⟨a3,G,J,S,a6,ap⟩:=fi aD
 have a0:w.heap.size+2<eq.heap.size:=by omega
 obtain ⟨af,E,ae,H,aj,al⟩:=fi an
 have P:w.heap.size+1<eq.heap.size:=by omega
 clear ai ao av an aD;go_wp2_with fail;refine bodyPost_ret (v:=.tuple #[.agg #[em 5,em 0,em a,em az,eu],em er]) (by simp [results,results258,go_sem,a3,G,J,S,a6,a0]) rfl ⟨rfl,?_⟩;exact (ik B (by omega) _ _ _ _ _).alloc (by simp;omega) _
theorem Hx (d lv:Value) (p n:Int) (s u:ByteArray) (t:OA) (k I:Nat) (w:World) (S:p≠3) (a6:p≠4) (ap:p≠5) :
 ew 258 #[.agg #[d,lv],.agg #[em p,em n,.string s,.string u,.slice t k I]] w fun e r=>e = .returned (.tuple #[.agg #[em p,em n,em 0,em 0,eu],em 0])/\et w r:=by
 have ad:=hid (fun o y R=>ho w o y R);go_enter func258,ntmps258;go_wp2_with fail;refine bodyPost_ret (v:=.tuple #[.agg #[em p,em n,em 0,em 0,eu],em 0]) (by simp [results,results258,go_sem]) rfl ⟨rfl,ad _ _ _⟩
theorem Hy (K:Kn) (L:Lc) (d lv:Value) (x:fg) (t:OA) (I:Nat) (w:World) (aA:jg w d K) (am:jr w lv L) (a8:x.mod.size<=maxLen) (U:x.name.size<=maxLen) :
 ew 258 #[.agg #[d,lv],.agg #[em x.op,em x.n,.string x.mod,.string x.name,.slice t (Ln x.args) I]] w fun e r=>e = .returned (.tuple #[(ll K L x).node,em (ll K L x).err])/\et w r:=by
 unfold ll
 by_cases S:x.op=3
 . rw [if_pos S]
   exact Hu K L d lv x.op x.n x.mod x.name t (Ln x.args) I w aA am a8 U S _ rfl
 rw [if_neg S]
 by_cases a6:x.op=4
 . rw [if_pos a6]
   exact Hv K L d lv x.op x.n x.mod x.name t (Ln x.args) I w aA am a8 U a6 _ rfl
 rw [if_neg a6]
 by_cases ap:x.op=5
 . rw [if_pos ap]
   exact Hw K L d lv x.op x.n x.mod x.name t (Ln x.args) I w aA am a8 U ap _ rfl
 rw [if_neg ap];exact Hx d lv x.op x.n x.mod x.name t (Ln x.args) I w S a6 ap
theorem Hz (K:Kn) (L:Lc) (d lv:Value) (p:Int) (s u:ByteArray) (Y a5 a7:OA) (ak au aI a9 a4 c3:Nat) (w:World) (aA:jg w d K) (am:jr w lv L) (a8:s.size<=maxLen) (U:u.size<=maxLen) (M:p=1) (f:Mg × Int) (ag:f=g6 K L s u [0,2]) :
 ew 205 #[.agg #[d,lv],.agg #[em p,.string s,.string u,.slice Y ak a9,.slice a5 au a4,.slice a7 aI c3]] w fun e r=>e = .returned (.tuple #[.agg #[em 1,em 0,em (if f.1.kind=0 then -1 else f.1.m),em f.1.at_,eu,eu,eu],em f.2])/\et w r:=by
 have ao:=hid (sI K L d lv s u [0,2] 3 (w.heap.size+3) 2 (((w.alloc (.cells #[d,lv] 195)).alloc (jA p s u Y ak a9 a5 au a4 a7 aI c3)).alloc (fV 0 0 0 0 none 0 0 none 0 0 none 0 0)) (by simp) (aA.later (ho _ _ _ _)) (am.later (ho _ _ _ _)) a8 U (by decide));have ad:=hid (fun o y R=>ho w o y R);clear aA am a8 U;rw [← ag] at ao;clear ag;obtain ⟨⟨l,D,a,az⟩,er⟩:=f;simp only [Mg.val] at ao ⊢;generalize Q:(if l=0 then (-1:Int) else a)=R;have b2:=hid Q;clear Q;subst M;go_enter func205,ntmps205;go_wp2_with fail;refine ao.mono ?_;rintro e eq ⟨rfl,ai⟩;have B:=hid (es (ad _ _ _) ai);have b0:=ai.size;simp at b0;obtain ⟨av,an,aD⟩:=oJ ai;obtain ⟨a3,G,J,S,a6,ap,aw,ah⟩:=nP aD
 have a0:w.heap.size+2<eq.heap.size:=by omega
 obtain ⟨af,E,ae,H,aj,al,O⟩:=he an
 have P:w.heap.size+1<eq.heap.size:=by omega
 clear ai ao av an aD
 by_cases N:l=0
 . have z:Hid (R = -1):=b2.symm.trans (if_pos N)
   subst N;clear b2;go_wp2_with fail;refine bodyPost_ret (v:=.tuple #[.agg #[em 1,em 0,em (-1),em az,eu,eu,eu],em er]) (by simp [results,results205,go_sem,a3,G,J,S,a6,ap,aw,a0]) rfl ⟨by rw [z.out],?_⟩;exact (oI B (by omega) _ _ _ _ _ _ _).alloc (by simp;omega) _
 . have z:Hid (R=a):=b2.symm.trans (if_neg N)
   clear b2;go_wp2_with fail;refine bodyPost_ret (v:=.tuple #[.agg #[em 1,em 0,em a,em az,eu,eu,eu],em er]) (by simp [results,results205,go_sem,a3,G,J,S,a6,ap,aw,a0]) rfl ⟨by rw [z.out],?_⟩;exact (oI B (by omega) _ _ _ _ _ _ _).alloc (by simp;omega) _
theorem HA (K:Kn) (L:Lc) (d lv:Value) (p:Int) (s u:ByteArray) (Y a5 a7:OA) (ak au aI a9 a4 c3:Nat) (w:World) (aA:jg w d K) (am:jr w lv L) (a8:s.size<=maxLen) (U:u.size<=maxLen) (M:p=2) (f:Mg × Int) (ag:f=g6 K L s u [3]) :
 ew 205 #[.agg #[d,lv],.agg #[em p,.string s,.string u,.slice Y ak a9,.slice a5 au a4,.slice a7 aI c3]] w fun e r=>e = .returned (.tuple #[.agg #[em 2,em f.1.n,em f.1.m,em f.1.at_,eu,eu,eu],em f.2])/\et w r:=by
 have ao:=hid (sI K L d lv s u [3] 3 (w.heap.size+3) 1 (((w.alloc (.cells #[d,lv] 195)).alloc (jA p s u Y ak a9 a5 au a4 a7 aI c3)).alloc (fV 0 0 0 0 none 0 0 none 0 0 none 0 0)) (by simp) (aA.later (ho _ _ _ _)) (am.later (ho _ _ _ _)) a8 U (by decide));have ad:=hid (fun o y R=>ho w o y R);clear aA am a8 U;rw [← ag] at ao;clear ag;obtain ⟨⟨l,D,a,az⟩,er⟩:=f;simp only [Mg.val] at ao ⊢;subst M;go_enter func205,ntmps205;go_wp2_with fail;refine ao.mono ?_;rintro e eq ⟨rfl,ai⟩;have B:=hid (es (ad _ _ _) ai);have b0:=ai.size;simp at b0;obtain ⟨av,an,aD⟩:=oJ ai;obtain ⟨a3,G,J,S,a6,ap,aw,ah⟩:=nP aD
 have a0:w.heap.size+2<eq.heap.size:=by omega
 obtain ⟨af,E,ae,H,aj,al,O⟩:=he an
 have P:w.heap.size+1<eq.heap.size:=by omega
 clear ai ao av an aD;go_wp2_with fail;refine bodyPost_ret (v:=.tuple #[.agg #[em 2,em D,em a,em az,eu,eu,eu],em er]) (by simp [results,results205,go_sem,a3,G,J,S,a6,ap,aw,a0]) rfl ⟨rfl,?_⟩;exact (oI B (by omega) _ _ _ _ _ _ _).alloc (by simp;omega) _
theorem HB (K:Kn) (L:Lc) (d lv:Value) (p:Int) (s u:ByteArray) (Y a5 a7:OA) (ak au aI a9 a4 c3:Nat) (w:World) (aA:jg w d K) (am:jr w lv L) (a8:s.size<=maxLen) (U:u.size<=maxLen) (M:p=3) (f:Mg × Int) (ag:f=lN K L s u ak) :
 ew 205 #[.agg #[d,lv],.agg #[em p,.string s,.string u,.slice Y ak a9,.slice a5 au a4,.slice a7 aI c3]] w fun e r=>e = .returned (.tuple #[.agg #[em 3,em 0,em f.1.m,em f.1.at_,eu,eu,eu],em f.2])/\et w r:=by
 have ao:=hid (Bj K L d lv s u ak (((w.alloc (.cells #[d,lv] 195)).alloc (jA p s u Y ak a9 a5 au a4 a7 aI c3)).alloc (fV 0 0 0 0 none 0 0 none 0 0 none 0 0)) (aA.later (ho _ _ _ _)) (am.later (ho _ _ _ _)) a8 U);have ad:=hid (fun o y R=>ho w o y R);clear aA am a8 U;rw [← ag] at ao;clear ag;obtain ⟨⟨l,D,a,az⟩,er⟩:=f;simp only [Mg.val] at ao ⊢;subst M;go_enter func205,ntmps205;go_wp2_with fail;refine ao.mono ?_;rintro e eq ⟨rfl,ai⟩;have B:=hid (es (ad _ _ _) ai);have b0:=ai.size;simp at b0;obtain ⟨av,an,aD⟩:=oJ ai;obtain ⟨a3,G,J,S,a6,ap,aw,ah⟩:=nP aD
 have a0:w.heap.size+2<eq.heap.size:=by omega
 obtain ⟨af,E,ae,H,aj,al,O⟩:=he an
 have P:w.heap.size+1<eq.heap.size:=by omega
 clear ai ao av an aD;go_wp2_with fail;refine bodyPost_ret (v:=.tuple #[.agg #[em 3,em 0,em a,em az,eu,eu,eu],em er]) (by simp [results,results205,go_sem,a3,G,J,S,a6,ap,aw,a0]) rfl ⟨rfl,?_⟩;exact (oI B (by omega) _ _ _ _ _ _ _).alloc (by simp;omega) _
theorem HC (d lv:Value) (p:Int) (s u:ByteArray) (Y a5 a7:OA) (ak au aI a9 a4 c3:Nat) (w:World) (G:p≠1) (J:p≠2) (S:p≠3) :
 ew 205 #[.agg #[d,lv],.agg #[em p,.string s,.string u,.slice Y ak a9,.slice a5 au a4,.slice a7 aI c3]] w fun e r=>e = .returned (.tuple #[.agg #[em p,em 0,em 0,em 0,eu,eu,eu],em 0])/\et w r:=by
 have ad:=hid (fun o y R=>ho w o y R);go_enter func205,ntmps205;go_wp2_with fail;refine bodyPost_ret (v:=.tuple #[.agg #[em p,em 0,em 0,em 0,eu,eu,eu],em 0]) (by simp [results,results205,go_sem]) rfl ⟨rfl,ad _ _ _⟩
theorem HD (K:Kn) (L:Lc) (d lv:Value) (x:St) (Y a5 a7:OA) (a9 a4 c3:Nat) (w:World) (aA:jg w d K) (am:jr w lv L) (a8:x.mod.size<=maxLen) (U:x.name.size<=maxLen) :
 ew 205 #[.agg #[d,lv],.agg #[em x.op,.string x.mod,.string x.name,.slice Y (Ln x.args) a9,.slice a5 (Ln x.body) a4,.slice a7 (Ln x.other) c3]] w fun e r=>e = .returned (.tuple #[(jY K L x).act,em (jY K L x).err])/\et w r:=by
 unfold jY
 by_cases G:x.op=1
 . rw [if_pos G]
   exact Hz K L d lv x.op x.mod x.name Y a5 a7 _ _ _ a9 a4 c3 w aA am a8 U G _ rfl
 rw [if_neg G]
 by_cases J:x.op=2
 . rw [if_pos J]
   exact HA K L d lv x.op x.mod x.name Y a5 a7 _ _ _ a9 a4 c3 w aA am a8 U J _ rfl
 rw [if_neg J]
 by_cases S:x.op=3
 . rw [if_pos S]
   exact HB K L d lv x.op x.mod x.name Y a5 a7 _ _ _ a9 a4 c3 w aA am a8 U S _ rfl
 rw [if_neg S];exact HC d lv x.op x.mod x.name Y a5 a7 _ _ _ a9 a4 c3 w G J S
theorem Tryz.infoNode:(prog.info? 253).map (fun i=>(i.zero,i.size,i.bytes))=some (some (.agg #[em 0,em 0,em 0,em 0,eu]),5,56):=by kernel_rfl
def Bk {α:Type} (K:Nat) (g:List α->Nat) (ds:List α->List D) (O:Except Int (List α)) (e:Ending) (w:World):Prop:=
 match O with
 | .error c=>e = .returned (.tuple #[.slice none 0 0,.int .i64 c])/\c≠0
 | .ok l=>∃ a I,e = .returned (.tuple #[.slice a (g l) I,.int .i64 0])/\eU w (K<=·) a (g l) (ds l)
def uz (l:List fg):Prop:=∀ (K:Kn) (L:Lc) (d lv:Value) (A:Nat->Prop) (a:OA) (I:Nat) (w:World),jg w d K->jr w lv L->eE w A a (Ln l) (ft l)->
 ew 206 #[.agg #[d,lv],.slice a (Ln l) I] w fun e r=>Bk w.heap.size List.length fY (g7 K L l) e r/\et w r
theorem rC {a:Al} (h:a.err=0):rA a = .ok a:=if_pos h
theorem Bl {a:Al} (h:a.err≠0):rA a = .error a.err:=if_neg h
theorem HE {x:fg} (h:(ll K L x).err≠0):mV K L x = .error (ll K L x).err:=by rw [xj,Bl h];rfl
theorem HF {x:fg} (h:(ll K L x).err=0) (ab:g7 K L x.args = .error c):mV K L x = .error c:=by rw [xj,rC h,ab];rfl
theorem HG {x:fg} (h:(ll K L x).err=0) (ab:g7 K L x.args = .ok l):mV K L x = .ok (.mk (ll K L x).op (ll K L x).n (ll K L x).m (ll K L x).at_ l):=by rw [xj,rC h,ab];rfl
theorem HH {p n m g:Int} {a:OA} {I:Nat} (h:eU w A a (Ln l) (fY l)):fG w A (eH.mk p n m g l).ds [em p,em n,em m,em g,.slice a (Ln l) I]:=by
 unfold eH.ds;exact .cons jX (.cons jX (.cons jX (.cons jX (.cons h.val .nil))))
theorem mE (h:w.heap[b]? = some (.cells #[af,E] t (0,0))) :
 w.cell? (ep b 0)=some af/\w.cell? (ep b 1)=some E/\∀ i,w.frozen? (ep b i)=false:=by
 refine ⟨?_,?_,fun i=>ih h i⟩<;>(rw [fU h];rfl)
theorem Bm (l:List fg) (aS:Ln l<=5000) (aH:∀ j (h:j<Ln l),uz l[j].args):uz l:=by
 intro K L d lv A a I w aA am ax;have a6:=hid aA;have b8:=hid am;have aK:=hid ax;have az:=hid aH;clear aA am ax aH;go_enter func206,ntmps206;go_wp2_with fail
 go_loopw [6,8,9,10,13] (fun v _ _ _ i wr=>∃ (j:Nat) (P:List eH),j<=Ln l/\i=em j/\Ln P=j/\g7 K L (l.take j) = .ok P/\Row (w.heap.size+1) 253 5 wr v (Ln P) (fY P)/\wr.heap[w.heap.size]? = some (.cells #[d,lv] 195)/\et w wr) (fun _ _ _ _ i _=>Ln l - (intOf i).toNat)
 case atStart=>exact ⟨0,[],eY _,rfl,rfl,by rw [w7,g7],Row.nil _ _ _ _,eT _ _,ey _ _⟩
 case round=>
  obtain ⟨j,P,ac,rfl,hacc,cB,ba,hbx,F⟩:=hrel;have z:=hid cB;have aG:=hid ba;have aN:=hid hbx;have ad:=hid F;have bN:=F.size;have u:=lt_of_heap hbx;clear cB ba F
  by_cases a0:j<Ln l
  . obtain ⟨b,C,t,bo,rfl,Q⟩:=(aK.later ad).ex j a0
    have bz:=hid (az j a0);have bZ:=hid (fun c (ah:mV K L l[j] = .error c)=>GQ a0 z ah);have bh:=hid (fun o (ah:mV K L l[j] = .ok o)=>GR a0 z ah);obtain ⟨ap,af,E,ae,H,aj,hargs,_,_,a8,U⟩:=Q;have ar:=hid hargs;clear hargs;generalize l[j]=x at *;have ao:=hid (Hy K L d lv x t bo (wr.alloc (i1 x.op x.n x.mod x.name t (Ln x.args) bo)) (a6.later (es ad (ey _ _))) (b8.later (es ad (ey _ _))) a8 U);obtain ⟨y,bx1,aQ⟩:=mE aN;clear a8 U hbx;go_wp2_with fail;refine ao.mono ?_;generalize m:ll K L x=h at *;obtain ⟨aa,U,a8,ab,ah⟩:=h;simp only [Al.node] at *;rintro e eq ⟨rfl,ai⟩;have B:=hid (es (ey wr _) ai);have b0:=ai.size;simp at b0;have an:eq.heap[wr.heap.size]? = some (i1 x.op x.n x.mod x.name t (Ln x.args) bo):=(ai.block _ (by simp)).trans (eT _ _)
    have aD:=(B.block _ u).trans aN;obtain ⟨aF,T,X,bc,b9,b7⟩:=fi an;obtain ⟨M,bx1',hfz'⟩:=mE aD;have g:=hid aD
    have J:w.heap.size<eq.heap.size:=by omega
    have V:wr.heap.size<eq.heap.size:=by omega
    clear ai ao an aD y bx1 aQ af E ae H aj b7 hfz'
    by_cases n:ah=0
    . subst n
      have S:=hid m;clear m;have bB:=hid (bz K L d lv A t bo (eq.alloc (i6 aa U a8 ab none 0 0)) (a6.later (es (es ad B) (ey _ _))) (b8.later (es (es ad B) (ey _ _))) (ar.later (es B (ey _ _))));go_wp2_with fail;refine bB.mono ?_;rintro e w2 ⟨a3,aB⟩;have bl:=aB.size;simp at bl;have aR:w2.heap[eq.heap.size]? = some (i6 aa U a8 ab none 0 0):=(aB.block _ (by simp)).trans (eT _ _);obtain ⟨D,aZ,b6,bk,bm,a7⟩:=fi aR;have aM:=hid (es B (es (ey _ _) aB))
      have R:eq.heap.size<w2.heap.size:=by omega
      clear aB bB aR
      cases W:g7 K L x.args with
      | error c=>
        rw [W] at a3;obtain ⟨rfl,a1⟩:=a3;have p:=hid (bZ c (HF (by rw [S.out]) W));clear W;go_wp2_with fail;go_ret2;exact ⟨by rw [p.out];exact ⟨rfl,a1⟩,(es ad aM).setCell (p:=(ep eq.heap.size 4)) (by show w.heap.size<=eq.heap.size;omega) _⟩
      | ok O=>
        rw [W] at a3;obtain ⟨a5,a4,rfl,hea⟩:=a3;have p:=hid (bh _ (HG (by rw [S.out]) W));rw [S.out] at p;simp only [] at p;have aP:Hid (et wr (w2.setCell (ep eq.heap.size 4) (.slice a5 (Ln O) a4))):=aM.setCell (p:=(ep eq.heap.size 4)) (by show wr.heap.size<=eq.heap.size;omega) _;have aq:=hid (aG.later aP);have bV:Hid (fG (w2.setCell (ep eq.heap.size 4) (.slice a5 (Ln O) a4)) (eq.heap.size+1<=·) (eH.mk aa U a8 ab O).ds [em aa,em U,em a8,em ab,.slice a5 (Ln O) a4]):=HH ((hea.moves ((eQ.refl w2 _).set (p:=(ep eq.heap.size 4)) (by intro b _ F;simp at F;show b≠eq.heap.size;omega) _)).moves ⟨eD _,fun b _ h=>⟨by simp at h;exact h,rfl⟩⟩);have c6:=hid (fun k N=>(aG.lt k N).2);have Z:Hid ((w2.setCell (ep eq.heap.size 4) (.slice a5 (Ln O) a4)).heap[w.heap.size]? = some (.cells #[d,lv] 195)):=(aP.block _ u).trans aN
        have r:Hid ((w2.setCell (ep eq.heap.size 4) (.slice a5 (Ln O) a4)).heap.size=w2.heap.size):=gU ..;clear hea W
        go_wp2_with (at_builtin;refine mP rfl (.tmp 37) (.tmp 39) 107 rfl (w.heap.size+1) 253 _ 5 56 Tryz.underlying107 Tryz.infoNode rfl (by decide) (w2.setCell (ep eq.heap.size 4) (.slice a5 (Ln O) a4)) u6 (Ln P) (fY P) (eH.mk aa U a8 ab O).ds rfl aq #[em aa,em U,em a8,em ab,.slice a5 (Ln O) a4] _ r.symm rfl rfl (eq.heap.size+1<=·) bV ?_ (by omega) (by decide) (by rw [r.out];omega) ?_)
        . intro b _ F
          have aJ:eq.heap.size+1<=b:=F;exact ⟨by omega,fun h=>by have:=c6 b h;omega⟩
        . intro bs aX eJ s bb bK
          have a2:=hid s;have f:=hid bb;clear s bb aq bV;go_wp2_with fail;go_roundw
          case rel=>exact ⟨j+1,P++[eH.mk aa U a8 ab O],by omega,by go_num,by simp [hacc],p,by rw [AO,GO,gn,hacc];exact a2,(f.block _ (by omega)).trans Z,(es ad aP).trans (f.mono (by omega))⟩
          case measure=>simp [intOf];omega
    . have p:=hid (bZ ah (by rw [HE (by rw [m];exact n),m]))
      clear m;go_wp2_with fail;go_ret2;exact ⟨by rw [p.out];exact ⟨rfl,n⟩,es (es ad B) (ey _ _)⟩
  . obtain rfl:j=Ln l:=by omega
    have q:Hid (g7 K L l = .ok P):=by have:=z.out;rw [iA] at this;exact this
    obtain ⟨av,aX,rfl,hea⟩:=aG.slice;have G:=hid hea;clear hea hbx;go_wp2_with fail;go_ret2;refine ⟨by rw [q.out];exact ⟨av,aX,rfl,G.moves ⟨eD _,fun b _ h=>⟨by have:w.heap.size+1<=b:=h;show w.heap.size<=b;omega,rfl⟩⟩⟩,ad⟩
theorem Bn:∀ (k:Nat) (l:List fg),gh k l=false->uz l
 | 0,l,h=>Bm l (by simp [gh] at h;rw [h];simp) (by simp [gh] at h;subst h;intro j ac;simp at ac)
 | k+1,l,h=>by
   simp only [gh,jf] at h;have G:=of_decide_eq_false h.1
   refine Bm l (by omega) fun j ac=>Bn k _ ?_
   have:=h.2;rw [oq] at this;simpa using this l[j] (fO _)
theorem Tryz.infoAct:(prog.info? 109).map (fun i=>(i.zero,i.size,i.bytes))=some (some (.agg #[em 0,em 0,em 0,em 0,eu,eu,eu]),7,104):=by kernel_rfl
def rD (l:List St):Prop:=∀ (K:Kn) (L:Lc) (d lv:Value) (A:Nat->Prop) (a:OA) (I:Nat) (w:World),jg w d K->jr w lv L->eE w A a (Ln l) (fw l)->
 ew 121 #[.agg #[d,lv],.slice a (Ln l) I] w fun e r=>Bk w.heap.size List.length f9 (gN K L l) e r/\et w r
def HI (K:Nat) (O:Except Int eB) (e:Ending) (w:World):Prop:=
 match O with
 | .error c=>∃ o n m t Y ak a9 a5 au a4 a7 aI c3,e = .returned (.tuple #[.agg #[.int .i64 o,.int .i64 n,.int .i64 m,.int .i64 t,.slice Y ak a9,.slice a5 au a4,.slice a7 aI c3],.int .i64 c])/\c≠0
 | .ok o=>∃ Y a9 a5 a4 a7 c3,e = .returned (.tuple #[.agg #[.int .i64 o.op,.int .i64 o.n,.int .i64 o.m,.int .i64 o.at_,.slice Y (Ln o.args) a9,.slice a5 (Ln o.body) a4,.slice a7 (Ln o.other) c3],.int .i64 0])/\
   eU w (K<=·) Y (Ln o.args) (fY o.args)/\eU w (K<=·) a5 (Ln o.body) (f9 o.body)/\eU w (K<=·) a7 (Ln o.other) (f9 o.other)
def Bo (x:St):Prop:=∀ (K:Kn) (L:Lc) (d lv:Value) (A:Nat->Prop) (Y:OA) (a9:Nat) (a5:OA) (a4:Nat) (a7:OA) (c3:Nat) (w:World),jg w d K->jr w lv L->x.mod.size<=maxLen->x.name.size<=maxLen->
 eE w A Y (Ln x.args) (ft x.args)->eE w A a5 (Ln x.body) (fw x.body)->eE w A a7 (Ln x.other) (fw x.other)->
 ew 162 #[.agg #[d,lv],.agg #[em x.op,.string x.mod,.string x.name,.slice Y (Ln x.args) a9,.slice a5 (Ln x.body) a4,.slice a7 (Ln x.other) c3]] w fun e r=>HI w.heap.size (kz K L x) e r/\et w r
theorem HJ {y:eB} {Y a5 a7:OA} {a9 a4 c3:Nat} (G:eU w A Y (Ln y.args) (fY y.args)) (J:eU w A a5 (Ln y.body) (f9 y.body)) (S:eU w A a7 (Ln y.other) (f9 y.other)) :
 fG w A y.ds [em y.op,em y.n,em y.m,em y.at_,.slice Y (Ln y.args) a9,.slice a5 (Ln y.body) a4,.slice a7 (Ln y.other) c3]:=by
 obtain ⟨p,n,m,g,d,U,N⟩:=y;unfold eB.ds;exact .cons jX (.cons jX (.cons jX (.cons jX (.cons G.val (.cons J.val (.cons S.val .nil))))))
theorem Bp (l:List St) (aS:Ln l<=5000) (aH:∀ j (h:j<Ln l),Bo l[j]):rD l:=by
 intro K L d lv A a I w aA am ax;have a6:=hid aA;have b8:=hid am;have aK:=hid ax;have az:=hid aH;clear aA am ax aH;go_enter func121,ntmps121;go_wp2_with fail
 go_loopw [6,8,9,10,13] (fun v _ _ _ i wr=>∃ (j:Nat) (P:List eB),j<=Ln l/\i=em j/\Ln P=j/\gN K L (l.take j) = .ok P/\Row (w.heap.size+1) 109 7 wr v (Ln P) (f9 P)/\wr.heap[w.heap.size]? = some (.cells #[d,lv] 195)/\et w wr) (fun _ _ _ _ i _=>Ln l - (intOf i).toNat)
 case atStart=>exact ⟨0,[],eY _,rfl,rfl,by rw [w7,gN],Row.nil _ _ _ _,eT _ _,ey _ _⟩
 case round=>
  obtain ⟨j,P,ac,rfl,hacc,cB,ba,hbx,F⟩:=hrel;have z:=hid cB;have aG:=hid ba;have aN:=hid hbx;have ad:=hid F;have bN:=F.size;have u:=lt_of_heap hbx;clear cB ba F
  by_cases a0:j<Ln l
  . obtain ⟨b,C,Y,be,a5,fE,a7,gq,rfl,Q⟩:=(aK.later ad).st j a0
    have bz:=hid (az j a0);have bZ:=hid (fun c (ah:kz K L l[j] = .error c)=>GS a0 z ah);have bh:=hid (fun o (ah:kz K L l[j] = .ok o)=>GT a0 z ah);obtain ⟨ap,af,E,ae,H,aj,al,hargs,hbody,hother,_,a8,U⟩:=Q;generalize l[j]=x at *;have ao:=hid (bz K L d lv A Y be a5 fE a7 gq (wr.alloc (jA x.op x.mod x.name Y (Ln x.args) be a5 (Ln x.body) fE a7 (Ln x.other) gq)) (a6.later (es ad (ey _ _))) (b8.later (es ad (ey _ _))) a8 U (hargs.later (ey _ _)) (hbody.later (ey _ _)) (hother.later (ey _ _)));obtain ⟨y,bx1,aQ⟩:=mE aN;clear a8 U hbx hargs hbody hother;go_wp2_with fail;refine ao.mono ?_;rintro e eq ⟨a3,ai⟩;have B:=hid (es (ey wr _) ai);have b0:=ai.size;simp at b0;clear ai ao y bx1 aQ af E ae H aj al
    cases W:kz K L x with
    | error c=>
      rw [W] at a3;obtain ⟨o,n,m,t,bk,ak,aw,bm,au,aE,b5,aI,b4,rfl,a1⟩:=a3;have p:=hid (bZ c W);clear W;go_wp2_with fail;go_ret2;exact ⟨by rw [p.out];exact ⟨rfl,a1⟩,es (es ad B) (ey _ _)⟩
    | ok o=>
      rw [W] at a3;obtain ⟨b7,aL,V,aU,b9,bd,rfl,he1,J,he3⟩:=a3;have p:=hid (bh _ W);have aq:=hid ((aG.later B).alloc (fV o.op o.n o.m o.at_ b7 (Ln o.args) aL V (Ln o.body) aU b9 (Ln o.other) bd))
      have X:Hid (fG (eq.alloc (fV o.op o.n o.m o.at_ b7 (Ln o.args) aL V (Ln o.body) aU b9 (Ln o.other) bd)) (wr.heap.size+1<=·) o.ds [em o.op,em o.n,em o.m,em o.at_,.slice b7 (Ln o.args) aL,.slice V (Ln o.body) aU,.slice b9 (Ln o.other) bd]):=by
       have a8:eQ eq ((wr.alloc (jA x.op x.mod x.name Y (Ln x.args) be a5 (Ln x.body) fE a7 (Ln x.other) gq)).heap.size<=·) (eq.alloc (fV o.op o.n o.m o.at_ b7 (Ln o.args) aL V (Ln o.body) aU b9 (Ln o.other) bd)) (wr.heap.size+1<=·):=
        ((eQ.refl eq _).alloc _).trans ⟨eD _,fun b _ h=>⟨by simp at h;exact h,rfl⟩⟩
       exact HJ (he1.moves a8) (J.moves a8) (he3.moves a8)
      have c6:=hid (fun k N=>(aG.lt k N).2);have g:=hid ((es B (ey eq (fV o.op o.n o.m o.at_ b7 (Ln o.args) aL V (Ln o.body) aU b9 (Ln o.other) bd))).block _ u |>.trans aN);have M:=hid (es (es ad B) (ey eq (fV o.op o.n o.m o.at_ b7 (Ln o.args) aL V (Ln o.body) aU b9 (Ln o.other) bd)));clear he1 J he3 W
      go_wp2_with (at_builtin;refine mP rfl (.tmp 26) (.tmp 28) 40 rfl (w.heap.size+1) 109 _ 7 104 Tryz.underlying40 Tryz.infoAct rfl (by decide) (eq.alloc (fV o.op o.n o.m o.at_ b7 (Ln o.args) aL V (Ln o.body) aU b9 (Ln o.other) bd)) u6 (Ln P) (f9 P) o.ds rfl aq #[em o.op,em o.n,em o.m,em o.at_,.slice b7 (Ln o.args) aL,.slice V (Ln o.body) aU,.slice b9 (Ln o.other) bd] _ (by simp) rfl rfl (wr.heap.size+1<=·) X ?_ (by omega) (by decide) (by simp;omega) ?_)
      . intro b _ F
        have aJ:wr.heap.size+1<=b:=F;exact ⟨by omega,fun h=>by have:=c6 b h;omega⟩
      . intro bs aX eJ s bb bK
        have a2:=hid s;have f:=hid bb;clear s bb aq X;go_wp2_with fail;go_roundw
        case rel=>exact ⟨j+1,P++[o],by omega,by go_num,by simp [hacc],p,by rw [AP,GP,gn,hacc];exact a2,(f.block _ (by omega)).trans g,M.trans (f.mono (by omega))⟩
        case measure=>simp [intOf];omega
  . obtain rfl:j=Ln l:=by omega
    have q:Hid (gN K L l = .ok P):=by have:=z.out;rw [iA] at this;exact this
    obtain ⟨av,aX,rfl,hea⟩:=aG.slice;have G:=hid hea;clear hea hbx;go_wp2_with fail;go_ret2;refine ⟨by rw [q.out];exact ⟨av,aX,rfl,G.moves ⟨eD _,fun b _ h=>⟨by have:w.heap.size+1<=b:=h;show w.heap.size<=b;omega,rfl⟩⟩⟩,ad⟩
theorem eU.later {r:World} {a:OA} {n:Nat} {ds:List D} (h:eU w A a n ds) (F:et w r):eU r A a n ds:=h.moves (eQ.of_below F A)
theorem HK (h:(jY K L x).err≠0):kz K L x = .error (jY K L x).err:=by rw [sA,Bl h];rfl
theorem HL (h:(jY K L x).err=0) (G:g7 K L x.args = .error c):kz K L x = .error c:=by rw [sA,rC h,G];rfl
theorem HM (h:(jY K L x).err=0) (G:g7 K L x.args = .ok l) (J:gN K L x.body = .error c):kz K L x = .error c:=by rw [sA,rC h,G,J];rfl
theorem HN {b:List eB} (h:(jY K L x).err=0) (G:g7 K L x.args = .ok l) (J:gN K L x.body = .ok b) (S:gN K L x.other = .error c):kz K L x = .error c:=by rw [sA,rC h,G,J,S];rfl
theorem HO {b o:List eB} (h:(jY K L x).err=0) (G:g7 K L x.args = .ok l) (J:gN K L x.body = .ok b) (S:gN K L x.other = .ok o):kz K L x = .ok (.mk (jY K L x).op (jY K L x).n (jY K L x).m (jY K L x).at_ l b o):=by rw [sA,rC h,G,J,S];rfl
theorem HP (x:St) (U:uz x.args) (F:rD x.body) (aa:rD x.other):Bo x:=by
 intro K L d lv A Y a9 a5 a4 a7 c3 w aA am a8 bu au s hd3;have ao:=hid (HD K L d lv x Y a5 a7 a9 a4 c3 (((w.alloc (.cells #[d,lv] 195)).alloc (jA x.op x.mod x.name Y (Ln x.args) a9 a5 (Ln x.body) a4 a7 (Ln x.other) c3)).alloc (fV 0 0 0 0 none 0 0 none 0 0 none 0 0)) (aA.later (ho _ _ _ _)) (am.later (ho _ _ _ _)) a8 bu);have a6:=hid aA;have b8:=hid am;have N:=hid au;have cU:=hid s;have dd:=hid hd3;have aF:=hid U;have ay:=hid F;have aQ:=hid aa;have ad:=hid (fun o y R=>ho w o y R);clear U F aa aA am a8 bu au s hd3;go_enter func162,ntmps162;go_wp2_with fail;refine ao.mono ?_
 have aE:Hid (∀ h,jY K L x=h->jY K L x=h):=fun h e=>e
 generalize m:jY K L x=h at ao ⊢;obtain ⟨aa,U,a8,ab,ah⟩:=h;simp only [Al.act];rintro e eq ⟨rfl,ai⟩;have B:=hid (es (ad _ _ _) ai);have b0:=ai.size;simp at b0;obtain ⟨av,an,aD⟩:=oJ ai;have S:=hid m;have k:=hid av;have ac:=hid an;have H:=hid aD;clear ai ao av an aD m aE;obtain ⟨g,b1_,i⟩:=mE k;obtain ⟨b3,D,b6,fX,bw,s5,sf⟩:=he ac;obtain ⟨bg,r1_,r2_,r3_,r4,r5,r6,rf⟩:=nP H;have bq:=lt_of_heap k;have aI:=lt_of_heap ac;have Q:=lt_of_heap H
 by_cases n:ah=0
 case neg=>
  have p:=hid ((HK (by rw [S.out];exact n)).trans (by rw [S.out]):kz K L x = .error ah);have aV:=n;go_wp2_with fail;refine bodyPost_ret (v:=.tuple #[.agg #[em 0,em 0,em 0,em 0,eu,eu,eu],em ah]) (by simp [results,results162,go_sem,bg,r1_,r2_,r3_,r4,r5,r6,Q]) rfl ⟨by rw [p.out];exact ⟨_,_,_,_,_,_,_,_,_,_,_,_,_,rfl,aV⟩,?_⟩;exact (oI B (by omega) _ _ _ _ _ _ _).alloc (by simp;omega) _
 subst n;have aj:Hid ((eq.alloc (fV aa U a8 ab none 0 0 none 0 0 none 0 0)).heap[eq.heap.size]? = some (fV aa U a8 ab none 0 0 none 0 0 none 0 0)):=eT _ _;have ae:Hid ((eq.alloc (fV aa U a8 ab none 0 0 none 0 0 none 0 0)).heap[w.heap.size]? = some (.cells #[d,lv] 195)):=fF k;have aJ:Hid ((eq.alloc (fV aa U a8 ab none 0 0 none 0 0 none 0 0)).heap[w.heap.size+1]? = some (jA x.op x.mod x.name Y (Ln x.args) a9 a5 (Ln x.body) a4 a7 (Ln x.other) c3)):=fF ac;have aq:Hid ((eq.alloc (fV aa U a8 ab none 0 0 none 0 0 none 0 0)).heap[w.heap.size+2]? = some (fV 0 0 0 0 none 0 0 none 0 0 none 0 0)):=fF H;have b1:Hid (et w (eq.alloc (fV aa U a8 ab none 0 0 none 0 0 none 0 0))):=es B (ey _ _);have bB:=hid (aF K L d lv A Y a9 (eq.alloc (fV aa U a8 ab none 0 0 none 0 0 none 0 0)) (a6.later b1) (b8.later b1) (N.later b1))
 go_wp2_with fail;refine bB.mono ?_;rintro e w2 ⟨a3,aB⟩;have bl:=aB.size;simp at bl;have T:Hid (w2.heap[w.heap.size]? = some (.cells #[d,lv] 195)):=(aB.block _ (lt_of_heap ae)).trans ae;have C:Hid (w2.heap[w.heap.size+1]? = some (jA x.op x.mod x.name Y (Ln x.args) a9 a5 (Ln x.body) a4 a7 (Ln x.other) c3)):=(aB.block _ (lt_of_heap aJ)).trans aJ;have a1:Hid (w2.heap[w.heap.size+2]? = some (fV 0 0 0 0 none 0 0 none 0 0 none 0 0)):=(aB.block _ (lt_of_heap aq)).trans aq;have u:Hid (w2.heap[eq.heap.size]? = some (fV aa U a8 ab none 0 0 none 0 0 none 0 0)):=(aB.block _ (lt_of_heap aj)).trans aj;have aM:=hid (es b1 aB);clear aB bB k ac H ae aJ aq aj g b1_ i b3 D b6 fX bw s5 sf bg r1_ r2_ r3_ r4 r5 r6 rf bq aI Q;obtain ⟨g,b1_,i⟩:=mE T
 obtain ⟨b3,D,b6,fX,bw,s5,sf⟩:=he C;obtain ⟨bg,r1_,r2_,r3_,r4,r5,r6,rf⟩:=nP a1;obtain ⟨f,l,O,ak,a,j,M,tf⟩:=nP u;have bq:=lt_of_heap T;have aI:=lt_of_heap C;have Q:=lt_of_heap a1;have bx:=lt_of_heap u
 cases ck:g7 K L x.args with
 | error c=>
   rw [ck] at a3;obtain ⟨rfl,aV⟩:=a3;have p:=hid (HL (by rw [S.out]) ck);clear ck;go_wp2_with fail;refine bodyPost_ret (v:=.tuple #[.agg #[em 0,em 0,em 0,em 0,eu,eu,eu],em c]) (by simp [results,results162,go_sem,bg,r1_,r2_,r3_,r4,r5,r6,Q]) rfl ⟨by rw [p.out];exact ⟨_,_,_,_,_,_,_,_,_,_,_,_,_,rfl,aV⟩,?_⟩;exact oI (aM.setCell (p:=(ep eq.heap.size 4)) (by show w.heap.size<=eq.heap.size;omega) _) (by omega) _ _ _ _ _ _ _
 | ok b2=>
   rw [ck] at a3;obtain ⟨b7,aL,rfl,he1⟩:=a3;have bh:=hid ck;have X:=hid he1;clear ck he1;have aH:Hid ((w2.setCell (ep eq.heap.size 4) (.slice b7 (Ln b2) aL)).heap[w.heap.size]? = some (.cells #[d,lv] 195)):=(fa (by show w.heap.size≠eq.heap.size;omega) _).trans T;have ar:Hid ((w2.setCell (ep eq.heap.size 4) (.slice b7 (Ln b2) aL)).heap[w.heap.size+1]? = some (jA x.op x.mod x.name Y (Ln x.args) a9 a5 (Ln x.body) a4 a7 (Ln x.other) c3)):=(fa (by show w.heap.size+1≠eq.heap.size;omega) _).trans C;have ap:Hid ((w2.setCell (ep eq.heap.size 4) (.slice b7 (Ln b2) aL)).heap[w.heap.size+2]? = some (fV 0 0 0 0 none 0 0 none 0 0 none 0 0)):=(fa (by show w.heap.size+2≠eq.heap.size;omega) _).trans a1;have az:Hid ((w2.setCell (ep eq.heap.size 4) (.slice b7 (Ln b2) aL)).heap[eq.heap.size]? = some (fV aa U a8 ab b7 (Ln b2) aL none 0 0 none 0 0)):=heap_set u _
   have aP:Hid (et w (w2.setCell (ep eq.heap.size 4) (.slice b7 (Ln b2) aL))):=aM.setCell (p:=(ep eq.heap.size 4)) (by show w.heap.size<=eq.heap.size;omega) _;have cl:Hid (eU (w2.setCell (ep eq.heap.size 4) (.slice b7 (Ln b2) aL)) (eq.heap.size+1<=·) b7 (Ln b2) (fY b2)):=(X.moves ((eQ.refl w2 _).set (p:=(ep eq.heap.size 4)) (by intro b _ F;simp at F;show b≠eq.heap.size;omega) _)).moves ⟨eD _,fun b _ h=>⟨by simp at h;exact h,rfl⟩⟩;have bI:=hid (ay K L d lv A a5 a4 (w2.setCell (ep eq.heap.size 4) (.slice b7 (Ln b2) aL)) (a6.later aP) (b8.later aP) (cU.later aP));have r:Hid ((w2.setCell (ep eq.heap.size 4) (.slice b7 (Ln b2) aL)).heap.size=w2.heap.size):=gU ..;clear X T C a1 u;go_wp2_with fail;refine bI.mono ?_;rintro e eC ⟨a3,a2⟩;have bE:=a2.size
   rw [r.out] at bE;have v:Hid (eC.heap[w.heap.size]? = some (.cells #[d,lv] 195)):=(a2.block _ (lt_of_heap aH)).trans aH;have z:Hid (eC.heap[w.heap.size+1]? = some (jA x.op x.mod x.name Y (Ln x.args) a9 a5 (Ln x.body) a4 a7 (Ln x.other) c3)):=(a2.block _ (lt_of_heap ar)).trans ar;have E:Hid (eC.heap[w.heap.size+2]? = some (fV 0 0 0 0 none 0 0 none 0 0 none 0 0)):=(a2.block _ (lt_of_heap ap)).trans ap;have I:Hid (eC.heap[eq.heap.size]? = some (fV aa U a8 ab b7 (Ln b2) aL none 0 0 none 0 0)):=(a2.block _ (lt_of_heap az)).trans az;have ax:=hid (es aP a2);have G:=hid (cl.later a2);clear a2 bI aH ar ap az cl aP;clear g b1_ i b3 D b6 fX bw s5 sf bg r1_ r2_ r3_ r4 r5 r6 rf f l O ak a j M tf bq aI Q bx;obtain ⟨g,b1_,i⟩:=mE v
   obtain ⟨b3,D,b6,fX,bw,s5,sf⟩:=he z;obtain ⟨bg,r1_,r2_,r3_,r4,r5,r6,rf⟩:=nP E;obtain ⟨f,l,O,ak,a,j,M,tf⟩:=nP I;have bq:=lt_of_heap v;have aI:=lt_of_heap z;have Q:=lt_of_heap E;have bx:=lt_of_heap I
   cases cQ:gN K L x.body with
   | error c=>
     rw [cQ] at a3;obtain ⟨rfl,aV⟩:=a3;have p:=hid (HM (by rw [S.out]) bh cQ);clear cQ;go_wp2_with fail;refine bodyPost_ret (v:=.tuple #[.agg #[em 0,em 0,em 0,em 0,eu,eu,eu],em c]) (by simp [results,results162,go_sem,bg,r1_,r2_,r3_,r4,r5,r6,Q]) rfl ⟨by rw [p.out];exact ⟨_,_,_,_,_,_,_,_,_,_,_,_,_,rfl,aV⟩,?_⟩;exact oI (ax.setCell (p:=(ep eq.heap.size 5)) (by show w.heap.size<=eq.heap.size;omega) _) (by omega) _ _ _ _ _ _ _
   | ok bi=>
     rw [cQ] at a3;obtain ⟨V,aU,rfl,J⟩:=a3;have aZ:=hid cQ;have bG:=hid J;clear cQ J;have aO:Hid ((eC.setCell (ep eq.heap.size 5) (.slice V (Ln bi) aU)).heap[w.heap.size]? = some (.cells #[d,lv] 195)):=(fa (by show w.heap.size≠eq.heap.size;omega) _).trans v;have al:Hid ((eC.setCell (ep eq.heap.size 5) (.slice V (Ln bi) aU)).heap[w.heap.size+1]? = some (jA x.op x.mod x.name Y (Ln x.args) a9 a5 (Ln x.body) a4 a7 (Ln x.other) c3)):=(fa (by show w.heap.size+1≠eq.heap.size;omega) _).trans z;have af:Hid ((eC.setCell (ep eq.heap.size 5) (.slice V (Ln bi) aU)).heap[w.heap.size+2]? = some (fV 0 0 0 0 none 0 0 none 0 0 none 0 0)):=(fa (by show w.heap.size+2≠eq.heap.size;omega) _).trans E;have ag:Hid ((eC.setCell (ep eq.heap.size 5) (.slice V (Ln bi) aU)).heap[eq.heap.size]? = some (fV aa U a8 ab b7 (Ln b2) aL V (Ln bi) aU none 0 0)):=heap_set I _
     have bb:Hid (et w (eC.setCell (ep eq.heap.size 5) (.slice V (Ln bi) aU))):=ax.setCell (p:=(ep eq.heap.size 5)) (by show w.heap.size<=eq.heap.size;omega) _;have W:eQ eC (eq.heap.size+1<=·) (eC.setCell (ep eq.heap.size 5) (.slice V (Ln bi) aU)) (eq.heap.size+1<=·):=(eQ.refl eC _).set (p:=(ep eq.heap.size 5)) (by intro b _ F;show b≠eq.heap.size;have:eq.heap.size+1<=b:=F;omega) _;have cl:Hid (eU (eC.setCell (ep eq.heap.size 5) (.slice V (Ln bi) aU)) (eq.heap.size+1<=·) b7 (Ln b2) (fY b2)):=G.moves W;have aw:Hid (eU (eC.setCell (ep eq.heap.size 5) (.slice V (Ln bi) aU)) (eq.heap.size+1<=·) V (Ln bi) (f9 bi)):=(bG.moves ⟨eD _,fun b _ h=>⟨by rw [r.out] at h;show eq.heap.size+1<=b;omega,rfl⟩⟩:eU eC (eq.heap.size+1<=·) V (Ln bi) (f9 bi)).moves W;have aG:=hid (aQ K L d lv A a7 c3 (eC.setCell (ep eq.heap.size 5) (.slice V (Ln bi) aU)) (a6.later bb) (b8.later bb) (dd.later bb))
     have aX:Hid ((eC.setCell (ep eq.heap.size 5) (.slice V (Ln bi) aU)).heap.size=eC.heap.size):=gU ..;clear bG v z E I G ax W;go_wp2_with fail;refine aG.mono ?_;rintro e eJ ⟨a3,b5⟩;have bK:=b5.size;rw [aX.out] at bK;have aT:Hid (eJ.heap[w.heap.size]? = some (.cells #[d,lv] 195)):=(b5.block _ (lt_of_heap aO)).trans aO;have aS:Hid (eJ.heap[w.heap.size+1]? = some (jA x.op x.mod x.name Y (Ln x.args) a9 a5 (Ln x.body) a4 a7 (Ln x.other) c3)):=(b5.block _ (lt_of_heap al)).trans al;have aR:Hid (eJ.heap[w.heap.size+2]? = some (fV 0 0 0 0 none 0 0 none 0 0 none 0 0)):=(b5.block _ (lt_of_heap af)).trans af;have aW:Hid (eJ.heap[eq.heap.size]? = some (fV aa U a8 ab b7 (Ln b2) aL V (Ln bi) aU none 0 0)):=(b5.block _ (lt_of_heap ag)).trans ag
     have bO:=hid (es bb b5);have G:=hid (cl.later b5);have b4:=hid (aw.later b5);clear b5 aG aO al af ag cl aw bb;clear g b1_ i b3 D b6 fX bw s5 sf bg r1_ r2_ r3_ r4 r5 r6 rf f l O ak a j M tf bq aI Q bx;obtain ⟨g,b1_,i⟩:=mE aT;obtain ⟨b3,D,b6,fX,bw,s5,sf⟩:=he aS;obtain ⟨bg,r1_,r2_,r3_,r4,r5,r6,rf⟩:=nP aR;obtain ⟨f,l,O,ak,a,j,M,tf⟩:=nP aW;have bq:=lt_of_heap aT;have aI:=lt_of_heap aS;have Q:=lt_of_heap aR;have bx:=lt_of_heap aW
     cases q:gN K L x.other with
     | error c=>
       rw [q] at a3;obtain ⟨rfl,aV⟩:=a3;have p:=hid (HN (by rw [S.out]) bh aZ q);clear q;go_wp2_with fail;refine bodyPost_ret (v:=.tuple #[.agg #[em aa,em U,em a8,em ab,.slice b7 (Ln b2) aL,.slice V (Ln bi) aU,eu],em c]) (by simp [results,results162,go_sem,bg,r1_,r2_,r3_,r4,r5,r6,Q]) rfl ⟨by rw [p.out];exact ⟨_,_,_,_,_,_,_,_,_,_,_,_,_,rfl,aV⟩,?_⟩;exact oI (bO.setCell (p:=(ep eq.heap.size 6)) (by show w.heap.size<=eq.heap.size;omega) _) (by omega) _ _ _ _ _ _ _
     | ok bt=>
       rw [q] at a3;obtain ⟨b9,bd,rfl,he3⟩:=a3;have p:=hid (HO (by rw [S.out]) bh aZ q);rw [S.out] at p;simp only [] at p;have a0:Hid (eU eJ (eq.heap.size+1<=·) b9 (Ln bt) (f9 bt)):=he3.moves ⟨eD _,fun b _ h=>⟨by rw [aX.out] at h;show eq.heap.size+1<=b;omega,rfl⟩⟩
       have bD:Hid (∀ Z aK aN aY be P t,eQ eJ (eq.heap.size+1<=·) (((set5 (eJ.setCell (ep eq.heap.size 6) (.slice b9 (Ln bt) bd)) (w.heap.size+1+1) Z aK aN aY be).setCell ⟨w.heap.size+1+1,5,none⟩ P).setCell ⟨w.heap.size+1+1,6,none⟩ t) (w.heap.size<=·)):=fun Z aK aN aY be P t=>
        (((((eQ.refl eJ (eq.heap.size+1<=·)).set (p:=(ep eq.heap.size 6)) (by intro b _ F;show b≠eq.heap.size;have:eq.heap.size+1<=b:=F;omega) _).set5 (b:=w.heap.size+1+1) (by intro b _ F;have:eq.heap.size+1<=b:=F;omega) Z aK aN aY be).set (p:=⟨w.heap.size+1+1,5,none⟩) (by intro b _ F;show b≠w.heap.size+1+1;have:eq.heap.size+1<=b:=F;omega) P).set (p:=⟨w.heap.size+1+1,6,none⟩) (by intro b _ F;show b≠w.heap.size+1+1;have:eq.heap.size+1<=b:=F;omega) t).trans ⟨eD _,fun b _ h=>⟨by have:eq.heap.size+1<=b:=h;show w.heap.size<=b;omega,rfl⟩⟩
       clear q he3;go_wp2_with fail;refine bodyPost_ret (v:=.tuple #[.agg #[em aa,em U,em a8,em ab,.slice b7 (Ln b2) aL,.slice V (Ln bi) aU,.slice b9 (Ln bt) bd],em 0]) (by simp [results,results162,go_sem,bg,r1_,r2_,r3_,r4,r5,r6,Q]) rfl ⟨by rw [p.out];exact ⟨b7,aL,V,aU,b9,bd,rfl,G.moves (bD _ _ _ _ _ _ _),b4.moves (bD _ _ _ _ _ _ _),a0.moves (bD _ _ _ _ _ _ _)⟩,?_⟩;exact oI (bO.setCell (p:=(ep eq.heap.size 6)) (by show w.heap.size<=eq.heap.size;omega) _) (by omega) _ _ _ _ _ _ _
theorem uA:∀ (k:Nat) (l:List St),fC k l=false->rD l
 | 0,l,h=>by simp [fC] at h
 | k+1,l,h=>by
   simp only [fC,jf] at h;have G:=of_decide_eq_false h.1
   refine Bp l (by omega) fun j ac=>?_
   have:=h.2;rw [oq] at this;have Q:=this l[j] (fO _);simp only [rp,jf,tU] at Q;have c:rD []:=Bp [] (by simp) (fun j ac=>by simp at ac)
   have a:∀ b:List St,decide (0<Ln b)=false->rD b:=fun b h=>by
    have:b=[]:=ii (by have:=of_decide_eq_false h;omega)
    rw [this];exact c
   exact HP _ (Bn 6 _ Q.1) (Q.2.1.elim (fun h=>a _ h.2) (uA k _)) (Q.2.2.elim (a _) (uA k _))
end Go.Proofs.YtndkhgakfodldaaGreatDoor
