import Derived.Test.YtndkhgakfodldaaGreatDoorUb
import Derived.Test.YtndkhgakfodldaaGreatDoorPa
set_option maxRecDepth 100000
set_option maxHeartbeats 8000000
set_option linter.unusedSimpArgs false
open Go.Proofs.Tryz
namespace Go.Proofs.YtndkhgakfodldaaGreatDoor
open Go.RowKit Go.Maps Go.WideMaps
variable {A:Nat->Prop} {B b:Nat} {K:Kn} {L:Lc} {a w:World} {c:Int} {l:List dB} {t:TypeId} {x:St} {af a4:Value}
theorem e6 (w:World) (o p:Obj):dm w ((w.alloc o).alloc p):=dp (dn w o) (dn _ p)
theorem gT (w:World) (o p q:Obj):dm w (((w.alloc o).alloc p).alloc q):=dp (e6 w o p) (dn _ q)
theorem CD (d lv:Value) (g:Mg) (c:Int) (a u:Bool) (p s:ByteArray) (f:List Int) (b q:Nat) (w:World) (h:p.toList.isEmpty=u) (P:(a&&u)=false)
 (F:(Instr.lookup 187 d (.agg #[.string p,.string s]) true).run prog ((w.alloc (.cells #[d,lv] 195)).alloc (h9 0 0 0 0)) = .ok (.tuple #[.agg #[di g.kind,di g.n,di g.m,di g.at_],.bool false]) ((w.alloc (.cells #[d,lv] 195)).alloc (h9 0 0 0 0)))
 (J:(Instr.lookup 185 lv (.string s) true).run prog (((w.alloc (.cells #[d,lv] 195)).alloc (h9 0 0 0 0)).alloc (h9 g.kind g.n g.m g.at_)) = .ok (.tuple #[di c,.bool a]) (((w.alloc (.cells #[d,lv] 195)).alloc (h9 0 0 0 0)).alloc (h9 g.kind g.n g.m g.at_))) :
 dw 256 #[.agg #[d,lv],.string p,.string s,.slice (some (dj b 0)) f.length q] w fun e G=>e = .returned (.tuple #[gI.val,di 5])/\dm w G:=by
 have ag:=hid (fun aj D R=>gT w aj D R)
 cases a with
 | false=>
   exact R0
 | true=>
   cases u with
   | true=>cases P
   | false=>
     exact R0
theorem CE (d lv:Value) (g:Mg) (c:Int) (a u:Bool) (p s:ByteArray) (f:List Int) (b q:Nat) (w:World) (A:oQ w b f) (X:f.length<=1000) (r:Mg × Int) (Q:r=if f.contains g.kind then (g,0) else (gI,7)) (h:p.toList.isEmpty=u) (P:(a&&u)=false)
 (F:(Instr.lookup 187 d (.agg #[.string p,.string s]) true).run prog ((w.alloc (.cells #[d,lv] 195)).alloc (h9 0 0 0 0)) = .ok (.tuple #[.agg #[di g.kind,di g.n,di g.m,di g.at_],.bool true]) ((w.alloc (.cells #[d,lv] 195)).alloc (h9 0 0 0 0)))
 (J:(Instr.lookup 185 lv (.string s) true).run prog (((w.alloc (.cells #[d,lv] 195)).alloc (h9 0 0 0 0)).alloc (h9 g.kind g.n g.m g.at_)) = .ok (.tuple #[di c,.bool a]) (((w.alloc (.cells #[d,lv] 195)).alloc (h9 0 0 0 0)).alloc (h9 g.kind g.n g.m g.at_))) :
 dw 256 #[.agg #[d,lv],.string p,.string s,.slice (some (dj b 0)) f.length q] w fun e G=>e = .returned (.tuple #[r.1.val,di r.2])/\dm w G:=by
 have ag:=hid (fun aj D R=>gT w aj D R);have y:=hid A;have br:=hid Q;clear A Q
 cases a with
 | false=>
   exact QC
 | true=>
   cases u with
   | true=>cases P
   | false=>
     exact QC
theorem JY (d lv:Value) (g:Mg) (c:Int) (bk:Bool) (p s:ByteArray) (f:List Int) (b q:Nat) (w:World) (A:oQ w b f) (X:f.length<=1000) (r:Mg × Int) (Q:r=if f.contains 0 then (⟨0,0,0,c⟩,0) else (gI,7)) (h:p.toList.isEmpty=true)
 (F:(Instr.lookup 187 d (.agg #[.string p,.string s]) true).run prog ((w.alloc (.cells #[d,lv] 195)).alloc (h9 0 0 0 0)) = .ok (.tuple #[.agg #[di g.kind,di g.n,di g.m,di g.at_],.bool bk]) ((w.alloc (.cells #[d,lv] 195)).alloc (h9 0 0 0 0)))
 (J:(Instr.lookup 185 lv (.string s) true).run prog (((w.alloc (.cells #[d,lv] 195)).alloc (h9 0 0 0 0)).alloc (h9 g.kind g.n g.m g.at_)) = .ok (.tuple #[di c,.bool true]) (((w.alloc (.cells #[d,lv] 195)).alloc (h9 0 0 0 0)).alloc (h9 g.kind g.n g.m g.at_))) :
 dw 256 #[.agg #[d,lv],.string p,.string s,.slice (some (dj b 0)) f.length q] w fun e G=>e = .returned (.tuple #[r.1.val,di r.2])/\dm w G:=by
 have ag:=hid (fun aj D R=>gT w aj D R);have y:=hid A;have br:=hid Q;clear A Q;go_enter func256,ntmps256;go_wp2_with fail;refine (x9 f 0 b q _ (y.later (ag _ _ _)) X).mono ?_;rintro e G ⟨rfl,rfl⟩
 cases W:f.contains 0 with
 | false=>
   have z:Hid (r=(gI,7)):=br.trans Qk;clear W;go_wp2_with fail;refine bodyPost_ret (v:=.tuple #[gI.val,di 7]) OC rfl ⟨Pv,ag _ _ _⟩
 | true=>
   have z:Hid (r=(⟨0,0,0,c⟩,0)):=br.trans Qk;clear W;go_wp2_with fail;refine bodyPost_ret (v:=.tuple #[.agg #[di 0,di 0,di 0,di c],di 0]) OC rfl ⟨OL,ag _ _ _⟩
theorem JZ (K:Kn) (L:Lc) (d lv:Value) (p s:ByteArray) (f:List Int) (b q:Nat) (w:World) (aO:iW w d K) (aQ:jd w lv L) (a1:p.size<=maxLen) (Z:s.size<=maxLen) (A:oQ w b f) (X:f.length<=1000) :
 dw 256 #[.agg #[d,lv],.string p,.string s,.slice (some (dj b 0)) f.length q] w fun e G=>e = .returned (.tuple #[(gv K L p s f).1.val,di (gv K L p s f).2])/\dm w G:=by
 have F:=aO ((w.alloc (.cells #[d,lv] 195)).alloc (h9 0 0 0 0)) (e6 _ _ _) p s a1 Z;generalize ak:(K p s).getD gI=al at F;have J:=aQ (((w.alloc (.cells #[d,lv] 195)).alloc (h9 0 0 0 0)).alloc (h9 al.kind al.n al.m al.at_)) (gT _ _ _ _) s Z;have ar:=xR p;unfold gv B5
 cases j:L s with
 | some c=>
   rw [j] at J
   by_cases b2:p.size=0
   . rw [if_pos b2]
     rw [decide_eq_true b2] at ar;exact JY d lv al c _ p s f b q w A X _ rfl ar F J
   . rw [if_neg b2]
     rw [decide_eq_false b2] at ar
     cases N:K p s with
     | none=>rw [N] at F;exact CD d lv al c true false p s f b q w ar rfl F J
     | some x=>
       rw [N] at F ak;obtain rfl:x=al:=ak;exact CE d lv x c true false p s f b q w A X _ rfl ar rfl F J
 | none=>
   rw [j] at J
   have e:(if p.size=0 then (match (none:Option Int) with | some a=>some (⟨0,0,0,a⟩:Mg) | none=>K p s) else K p s)=K p s:=by split<;>rfl
   simp only [ite_self]
   cases N:K p s with
   | none=>rw [N] at F;exact CD d lv al 0 false _ p s f b q w ar rfl F J
   | some x=>
     rw [N] at F ak;obtain rfl:x=al:=ak;exact CE d lv x 0 false _ p s f b q w A X _ rfl ar rfl F J
theorem J0 (w:World) (l:List Int) (t:TypeId) (b:Nat) (I:b=w.heap.size):oQ (w.alloc (.cells (l.map (Value.int .i64)).toArray t)) b l:=by
 subst I;refine ⟨Ob,fun j a2=>?_⟩;rw [eZ (dX w _)];simp [a2]
theorem qJ (h:Below B a w) (I:B<=b) (aw aF aM bl:Value):Below B a ((((w.setCell (dj b 0) aw).setCell (dj b 1) aF).setCell (dj b 2) aM).setCell (dj b 3) bl):=
 (((h.setCell (p:=(dj b 0)) I _).setCell (p:=(dj b 1)) I _).setCell (p:=(dj b 2)) I _).setCell (p:=(dj b 3)) I _
theorem tg (K:Kn) (L:Lc) (d lv:Value) (p s:ByteArray) (f:List Int) (t:TypeId) (b q:Nat) (w:World) (I:b=w.heap.size) (aO:iW w d K) (aQ:jd w lv L) (a1:p.size<=maxLen) (Z:s.size<=maxLen) (X:f.length<=1000) :
 dw 256 #[.agg #[d,lv],.string p,.string s,.slice (some (dj b 0)) f.length q] (w.alloc (.cells (f.map (Value.int .i64)).toArray t)) fun e G=>e = .returned (.tuple #[(gv K L p s f).1.val,di (gv K L p s f).2])/\dm w G:=
 (JZ K L d lv p s f b q _ (aO.later (dn _ _)) (aQ.later (dn _ _)) a1 Z (J0 w f t b I) X).mono fun _ _ h=>⟨h.1,dp (dn _ _) h.2⟩
theorem CF (K:Kn) (L:Lc) (d lv:Value) (p s:ByteArray) (a:Int) (w:World) (aO:iW w d K) (aQ:jd w lv L) (a1:p.size<=maxLen) (Z:s.size<=maxLen) :
 dw 257 #[.agg #[d,lv],.string p,.string s,di a] w fun e G=>e = .returned (.tuple #[(lI K L p s a).1.val,di (lI K L p s a).2])/\dm w G:=by
 have ao:=hid (tg K L d lv p s [4] 3 (w.heap.size+2) 1 ((w.alloc (.cells #[d,lv] 195)).alloc (h9 0 0 0 0)) Ob (aO.later (e6 _ _ _)) (aQ.later (e6 _ _ _)) a1 Z N9);have ag:=hid (fun aj D=>e6 w aj D)
 have H:∀ x,lI K L p s a=x->Hid (lI K L p s a=x):=fun x h=>h
 unfold lI at H ⊢;clear aO aQ a1 Z;generalize gv K L p s [4]=r at *;obtain ⟨⟨o,n,m,g⟩,er⟩:=r;simp only [Mg.val] at ao H;generalize b3:(if er=0/\n≠a then (gI,(8:Int)) else (({ kind:=o,n:=n,m:=m,at_:=g }:Mg),er))=R at *;have br:=hid b3;clear b3 H;go_enter func257,ntmps257;go_wp2_with fail;refine ao.mono ?_;rintro e dk ⟨rfl,aq⟩;have B:=hid (dp (ag _ _) aq);have ba:=aq.size;simp at ba;have i:Hid (dk.heap[w.heap.size+1]? = some (h9 0 0 0 0)):=(aq.block (w.heap.size+1) Ob).trans (by have:=dX (w.alloc (.cells #[d,lv] 195)) (h9 0 0 0 0);simpa using this);obtain ⟨ab,F,J,U,aa⟩:=Ie i
 have ac:w.heap.size+1<dk.heap.size:=N7
 clear aq ao
 by_cases ar:er=0
 . by_cases Z:n=a
   . have z:Hid (R=(⟨o,n,m,g⟩,0)):=br.symm.trans (by rw [if_neg (by simp [Z]),ar])
     subst ar Z;clear br;go_wp2_with fail;refine bodyPost_ret (v:=.tuple #[.agg #[di o,di n,di m,di g],di 0]) (by simp [results,results257,go_sem,ab,F,J,U,ac]) rfl ⟨OL,?_⟩
     exact RB
   . have z:Hid (R=(gI,8)):=br.symm.trans (by rw [if_pos ⟨ar,Z⟩])
     subst ar;clear br;go_wp2_with fail;refine bodyPost_ret (v:=.tuple #[gI.val,di 8]) (by simp [results,results257,go_sem,Mg.val,gI,ab,F,J,U,ac]) rfl ⟨Pv,?_⟩
     exact RB
 . have z:Hid (R=(⟨o,n,m,g⟩,er)):=br.symm.trans (by rw [if_neg (by simp [ar])])
   clear br;go_wp2_with fail;refine bodyPost_ret (v:=.tuple #[.agg #[di o,di n,di m,di g],di er]) (by simp [results,results257,go_sem,ab,F,J,U,ac]) rfl ⟨OL,?_⟩
   exact RB
def Al.node (a:Al):Value:=.agg #[di a.op,di a.n,di a.m,di a.at_,dt]
def Al.act (a:Al):Value:=.agg #[di a.op,di a.n,di a.m,di a.at_,dt,dt,dt]
theorem je (h:Below B a w) (I:B<=b) (aw aF aM bl a8:Value):Below B a (set5 w b aw aF aM bl a8):=
 (qJ h I aw aF aM bl).setCell (p:=(dj b 4)) I _
theorem oR (h:Below B a w) (I:B<=b) (aw aF aM bl a8 u o:Value):Below B a (((set5 w b aw aF aM bl a8).setCell (dj b 5) u).setCell (dj b 6) o):=
 ((je h I aw aF aM bl a8).setCell (p:=(dj b 5)) I _).setCell (p:=(dj b 6)) I _
theorem jI {am a5 ax aG u:Value} (h:w.heap[b]? = some (.cells #[af,a4,am,a5,ax,aG,u] t (0,0))) :
 w.cell? (dj b 0)=some af/\w.cell? (dj b 1)=some a4/\w.cell? (dj b 2)=some am/\w.cell? (dj b 3)=some a5/\w.cell? (dj b 4)=some ax/\w.cell? (dj b 5)=some aG/\w.cell? (dj b 6)=some u/\∀ i,w.frozen? (dj b i)=false:=by
 refine ⟨?_,?_,?_,?_,?_,?_,?_,fun i=>hD h i⟩<;>(rw [eZ h];rfl)
theorem oS {dk:World} {o p q:Obj} (h:Below (((w.alloc o).alloc p).alloc q).heap.size (((w.alloc o).alloc p).alloc q) dk):dk.heap[w.heap.size]? = some o/\dk.heap[w.heap.size+1]? = some p/\dk.heap[w.heap.size+2]? = some q:=by
 refine ⟨(h.block _ Of).trans (eR (eR (dX w o))),(h.block _ Ob).trans (eR P2),(h.block _ Ob).trans (by simpa using dX ((w.alloc o).alloc p) q)⟩
theorem J1 (K:Kn) (L:Lc) (d lv:Value) (T n:Int) (p s:ByteArray) (ak:OA) (k q:Nat) (w:World) (aO:iW w d K) (aQ:jd w lv L) (a1:p.size<=maxLen) (Z:s.size<=maxLen) :
 dw 288 #[.agg #[d,lv],.agg #[di T,di n,.string p,.string s,.slice ak k q]] w fun e G=>e = .returned (.tuple #[(rX K L p s).node,di (rX K L p s).err])/\dm w G:=by
 have ao:=hid (tg K L d lv p s [0,1,2] 3 (w.heap.size+3) 3 (((w.alloc (.cells #[d,lv] 195)).alloc (kC T n p s ak k q)).alloc (fg 0 0 0 0 none 0 0)) Ob (aO.later (gT _ _ _ _)) (aQ.later (gT _ _ _ _)) a1 Z N9);have ag:=hid (fun aj D R=>gT w aj D R)
 obtain ⟨r,b3⟩:∃ r,r=rX K L p s:=⟨_,rfl⟩
 rw [← b3];unfold rX at b3;clear aO aQ a1 Z;generalize gv K L p s [0,1,2]=f at *;obtain ⟨⟨o,a2,fm,a7⟩,er⟩:=f;simp only [Mg.val] at ao b3;have br:=hid b3;clear b3;go_enter func288,ntmps288;go_wp2_with fail;refine ao.mono ?_;rintro e dk ⟨rfl,aq⟩;have B:=hid (dp (ag _ _ _) aq);have ba:=aq.size;simp at ba;obtain ⟨aH,az,aK⟩:=oS aq;obtain ⟨ab,F,J,U,aa,aB⟩:=ep aK
 have ac:w.heap.size+2<dk.heap.size:=N7
 clear aq ao aH az aK
 by_cases ar:er=0
 . subst ar
   by_cases a:o=1
   . have z:Hid (r=⟨1,a2,0,0,0⟩):=br.trans (by rw [if_neg Ob,if_pos a])
     subst a;clear br;go_wp2_with fail;refine bodyPost_ret (v:=.tuple #[.agg #[di 1,di a2,di 0,di 0,dt],di 0]) OX rfl ⟨OL,?_⟩;exact RI
   . by_cases b:o=2
     . have z:Hid (r=⟨3,0,fm,a7,0⟩):=br.trans (by rw [if_neg Ob,if_neg a,if_pos b])
       subst b;clear br a;go_wp2_with fail;refine bodyPost_ret (v:=.tuple #[.agg #[di 3,di 0,di fm,di a7,dt],di 0]) OX rfl ⟨OL,?_⟩;exact RI
     . have z:Hid (r=⟨16,0,0,a7,0⟩):=br.trans (by rw [if_neg Ob,if_neg a,if_neg b])
       clear br;go_wp2_with fail;refine bodyPost_ret (v:=.tuple #[.agg #[di 16,di 0,di 0,di a7,dt],di 0]) OX rfl ⟨OL,?_⟩;exact RI
 . have z:Hid (r=⟨0,0,0,0,er⟩):=br.trans (by rw [if_pos ar])
   clear br;go_wp2_with fail;refine bodyPost_ret (v:=.tuple #[.agg #[di 0,di 0,di 0,di 0,dt],di er]) OX rfl ⟨OL,?_⟩;exact RI
theorem J2 (K:Kn) (L:Lc) (d lv:Value) (T n:Int) (p s:ByteArray) (ak:OA) (k q:Nat) (w:World) (aO:iW w d K) (aQ:jd w lv L) (a1:p.size<=maxLen) (Z:s.size<=maxLen) (U:T=3) (r:Al) (Q:r=rX K L p s) :
 dw 258 #[.agg #[d,lv],.agg #[di T,di n,.string p,.string s,.slice ak k q]] w fun e G=>e = .returned (.tuple #[r.node,di r.err])/\dm w G:=by
 have ao:=hid (J1 K L d lv T n p s ak k q (((w.alloc (.cells #[d,lv] 195)).alloc (kC T n p s ak k q)).alloc (fg 0 0 0 0 none 0 0)) (aO.later (gT _ _ _ _)) (aQ.later (gT _ _ _ _)) a1 Z);have ag:=hid (fun aj D R=>gT w aj D R);clear aO aQ a1 Z;rw [← Q] at ao;clear Q;obtain ⟨a,rn,rm,ra,re⟩:=r;simp only [Al.node] at ao ⊢;subst U;go_enter func258,ntmps258;go_wp2_with fail;refine ao.mono ?_;rintro e dk ⟨rfl,aq⟩;have B:=hid (dp (ag _ _ _) aq);have ba:=aq.size;simp at ba;obtain ⟨aH,az,aK⟩:=oS aq;obtain ⟨ab,F,J,U,aa,aB⟩:=ep aK
 have ac:w.heap.size+2<dk.heap.size:=N7
 clear aq ao aH az aK;have z:Hid (True):=trivial;go_wp2_with fail;refine bodyPost_ret (v:=.tuple #[.agg #[di a,di rn,di rm,di ra,dt],di re]) Pe rfl ⟨rfl,?_⟩;exact je B N7 _ _ _ _ _
theorem J3 (K:Kn) (L:Lc) (d lv:Value) (T n:Int) (p s:ByteArray) (ak:OA) (k q:Nat) (w:World) (aO:iW w d K) (aQ:jd w lv L) (a1:p.size<=maxLen) (Z:s.size<=maxLen) (aw:T=4) (f:Mg × Int) (Y:f=gv K L p s [3]) :
 dw 258 #[.agg #[d,lv],.agg #[di T,di n,.string p,.string s,.slice ak k q]] w fun e G=>e = .returned (.tuple #[.agg #[di 4,di f.1.n,di f.1.m,di f.1.at_,dt],di f.2])/\dm w G:=by
 have ao:=hid (tg K L d lv p s [3] 3 (w.heap.size+3) 1 (((w.alloc (.cells #[d,lv] 195)).alloc (kC T n p s ak k q)).alloc (fg 0 0 0 0 none 0 0)) Ob (aO.later (gT _ _ _ _)) (aQ.later (gT _ _ _ _)) a1 Z N9);have ag:=hid (fun aj D R=>gT w aj D R);clear aO aQ a1 Z;rw [← Y] at ao;clear Y;obtain ⟨⟨o,a2,fm,a7⟩,er⟩:=f;simp only [Mg.val] at ao ⊢;subst aw;go_enter func258,ntmps258;go_wp2_with fail;refine ao.mono ?_;rintro e dk ⟨rfl,aq⟩;have B:=hid (dp (ag _ _ _) aq);have ba:=aq.size;simp at ba;obtain ⟨aH,az,aK⟩:=oS aq;obtain ⟨ab,F,J,U,aa,aB⟩:=ep aK
 have ac:w.heap.size+2<dk.heap.size:=N7
 obtain ⟨af,a4,am,a5,ax,aG⟩:=ep az
 have H:w.heap.size+1<dk.heap.size:=N7
 clear aq ao aH az aK;go_wp2_with fail;refine bodyPost_ret (v:=.tuple #[.agg #[di 4,di a2,di fm,di a7,dt],di er]) Pe rfl ⟨rfl,?_⟩;exact RI
theorem J4 (K:Kn) (L:Lc) (d lv:Value) (T n:Int) (p s:ByteArray) (ak:OA) (k q:Nat) (w:World) (aO:iW w d K) (aQ:jd w lv L) (a1:p.size<=maxLen) (Z:s.size<=maxLen) (aw:T=5) (f:Mg × Int) (Y:f=lI K L p s k) :
 dw 258 #[.agg #[d,lv],.agg #[di T,di n,.string p,.string s,.slice ak k q]] w fun e G=>e = .returned (.tuple #[.agg #[di 5,di 0,di f.1.m,di f.1.at_,dt],di f.2])/\dm w G:=by
 have ao:=hid (CF K L d lv p s k (((w.alloc (.cells #[d,lv] 195)).alloc (kC T n p s ak k q)).alloc (fg 0 0 0 0 none 0 0)) (aO.later (gT _ _ _ _)) (aQ.later (gT _ _ _ _)) a1 Z);have ag:=hid (fun aj D R=>gT w aj D R);clear aO aQ a1 Z;rw [← Y] at ao;clear Y;obtain ⟨⟨o,a2,fm,a7⟩,er⟩:=f;simp only [Mg.val] at ao ⊢;subst aw;go_enter func258,ntmps258;go_wp2_with fail;refine ao.mono ?_;rintro e dk ⟨rfl,aq⟩;have B:=hid (dp (ag _ _ _) aq);have ba:=aq.size;simp at ba;obtain ⟨aH,az,aK⟩:=oS aq;obtain ⟨ab,F,J,U,aa,aB⟩:=ep aK
 have ac:w.heap.size+2<dk.heap.size:=N7
 obtain ⟨af,a4,am,a5,ax,aG⟩:=ep az
 have H:w.heap.size+1<dk.heap.size:=N7
 clear aq ao aH az aK;go_wp2_with fail;refine bodyPost_ret (v:=.tuple #[.agg #[di 5,di 0,di fm,di a7,dt],di er]) Pe rfl ⟨rfl,?_⟩;exact RI
theorem J5 (d lv:Value) (T n:Int) (p s:ByteArray) (ak:OA) (k q:Nat) (w:World) (U:T≠3) (aa:T≠4) (aB:T≠5) :
 dw 258 #[.agg #[d,lv],.agg #[di T,di n,.string p,.string s,.slice ak k q]] w fun e G=>e = .returned (.tuple #[.agg #[di T,di n,di 0,di 0,dt],di 0])/\dm w G:=by
 have ag:=hid (fun aj D R=>gT w aj D R);go_enter func258,ntmps258;go_wp2_with fail;refine bodyPost_ret (v:=.tuple #[.agg #[di T,di n,di 0,di 0,dt],di 0]) (by simp [results,results258,go_sem]) rfl ⟨rfl,ag _ _ _⟩
theorem J6 (K:Kn) (L:Lc) (d lv:Value) (x:eA) (ak:OA) (q:Nat) (w:World) (aO:iW w d K) (aQ:jd w lv L) (a1:x.mod.size<=maxLen) (Z:x.name.size<=maxLen) :
 dw 258 #[.agg #[d,lv],.agg #[di x.op,di x.n,.string x.mod,.string x.name,.slice ak x.args.length q]] w fun e G=>e = .returned (.tuple #[(lc K L x).node,di (lc K L x).err])/\dm w G:=by
 unfold lc
 by_cases U:x.op=3
 . rw [if_pos U]
   exact J2 K L d lv x.op x.n x.mod x.name ak x.args.length q w aO aQ a1 Z U _ rfl
 rw [if_neg U]
 by_cases aa:x.op=4
 . rw [if_pos aa]
   exact J3 K L d lv x.op x.n x.mod x.name ak x.args.length q w aO aQ a1 Z aa _ rfl
 rw [if_neg aa]
 by_cases aB:x.op=5
 . rw [if_pos aB]
   exact J4 K L d lv x.op x.n x.mod x.name ak x.args.length q w aO aQ a1 Z aB _ rfl
 rw [if_neg aB];exact J5 d lv x.op x.n x.mod x.name ak x.args.length q w U aa aB
theorem J7 (K:Kn) (L:Lc) (d lv:Value) (T:Int) (p s:ByteArray) (E a0 a6:OA) (a9 au k3 ah ae c3:Nat) (w:World) (aO:iW w d K) (aQ:jd w lv L) (a1:p.size<=maxLen) (Z:s.size<=maxLen) (aw:T=1) (f:Mg × Int) (Y:f=gv K L p s [0,2]) :
 dw 205 #[.agg #[d,lv],.agg #[di T,.string p,.string s,.slice E a9 ah,.slice a0 au ae,.slice a6 k3 c3]] w fun e G=>e = .returned (.tuple #[.agg #[di 1,di 0,di (if f.1.kind=0 then -1 else f.1.m),di f.1.at_,dt,dt,dt],di f.2])/\dm w G:=by
 have ao:=hid (tg K L d lv p s [0,2] 3 (w.heap.size+3) 2 (((w.alloc (.cells #[d,lv] 195)).alloc (jz T p s E a9 ah a0 au ae a6 k3 c3)).alloc (ek 0 0 0 0 none 0 0 none 0 0 none 0 0)) Ob (aO.later (gT _ _ _ _)) (aQ.later (gT _ _ _ _)) a1 Z N9);have ag:=hid (fun aj D R=>gT w aj D R);clear aO aQ a1 Z;rw [← Y] at ao;clear Y;obtain ⟨⟨o,a2,fm,a7⟩,er⟩:=f;simp only [Mg.val] at ao ⊢;generalize b3:(if o=0 then (-1:Int) else fm)=R;have br:=hid b3;clear b3;subst aw;go_enter func205,ntmps205;go_wp2_with fail;refine ao.mono ?_;rintro e dk ⟨rfl,aq⟩;have B:=hid (dp (ag _ _ _) aq);have ba:=aq.size;simp at ba;obtain ⟨aH,az,aK⟩:=oS aq;obtain ⟨ab,F,J,U,aa,aB,bj,ar⟩:=jI aK
 have ac:w.heap.size+2<dk.heap.size:=N7
 obtain ⟨af,a4,am,a5,ax,aG,u⟩:=ha az
 have H:w.heap.size+1<dk.heap.size:=N7
 clear aq ao aH az aK
 by_cases N:o=0
 . have z:Hid (R = -1):=br.symm.trans (if_pos N)
   subst N;clear br;go_wp2_with fail;refine bodyPost_ret (v:=.tuple #[.agg #[di 1,di 0,di (-1),di a7,dt,dt,dt],di er]) OT rfl ⟨Pv,?_⟩;exact RP
 . have z:Hid (R=fm):=br.symm.trans (if_neg N)
   clear br;go_wp2_with fail;refine bodyPost_ret (v:=.tuple #[.agg #[di 1,di 0,di fm,di a7,dt,dt,dt],di er]) OT rfl ⟨Pv,?_⟩;exact RP
theorem J8 (K:Kn) (L:Lc) (d lv:Value) (T:Int) (p s:ByteArray) (E a0 a6:OA) (a9 au k3 ah ae c3:Nat) (w:World) (aO:iW w d K) (aQ:jd w lv L) (a1:p.size<=maxLen) (Z:s.size<=maxLen) (aw:T=2) (f:Mg × Int) (Y:f=gv K L p s [3]) :
 dw 205 #[.agg #[d,lv],.agg #[di T,.string p,.string s,.slice E a9 ah,.slice a0 au ae,.slice a6 k3 c3]] w fun e G=>e = .returned (.tuple #[.agg #[di 2,di f.1.n,di f.1.m,di f.1.at_,dt,dt,dt],di f.2])/\dm w G:=by
 have ao:=hid (tg K L d lv p s [3] 3 (w.heap.size+3) 1 (((w.alloc (.cells #[d,lv] 195)).alloc (jz T p s E a9 ah a0 au ae a6 k3 c3)).alloc (ek 0 0 0 0 none 0 0 none 0 0 none 0 0)) Ob (aO.later (gT _ _ _ _)) (aQ.later (gT _ _ _ _)) a1 Z N9);have ag:=hid (fun aj D R=>gT w aj D R);clear aO aQ a1 Z;rw [← Y] at ao;clear Y;obtain ⟨⟨o,a2,fm,a7⟩,er⟩:=f;simp only [Mg.val] at ao ⊢;subst aw;go_enter func205,ntmps205;go_wp2_with fail;refine ao.mono ?_;rintro e dk ⟨rfl,aq⟩;have B:=hid (dp (ag _ _ _) aq);have ba:=aq.size;simp at ba;obtain ⟨aH,az,aK⟩:=oS aq;obtain ⟨ab,F,J,U,aa,aB,bj,ar⟩:=jI aK
 have ac:w.heap.size+2<dk.heap.size:=N7
 obtain ⟨af,a4,am,a5,ax,aG,u⟩:=ha az
 have H:w.heap.size+1<dk.heap.size:=N7
 clear aq ao aH az aK;go_wp2_with fail;refine bodyPost_ret (v:=.tuple #[.agg #[di 2,di a2,di fm,di a7,dt,dt,dt],di er]) OT rfl ⟨rfl,?_⟩;exact RP
theorem J9 (K:Kn) (L:Lc) (d lv:Value) (T:Int) (p s:ByteArray) (E a0 a6:OA) (a9 au k3 ah ae c3:Nat) (w:World) (aO:iW w d K) (aQ:jd w lv L) (a1:p.size<=maxLen) (Z:s.size<=maxLen) (aw:T=3) (f:Mg × Int) (Y:f=lI K L p s a9) :
 dw 205 #[.agg #[d,lv],.agg #[di T,.string p,.string s,.slice E a9 ah,.slice a0 au ae,.slice a6 k3 c3]] w fun e G=>e = .returned (.tuple #[.agg #[di 3,di 0,di f.1.m,di f.1.at_,dt,dt,dt],di f.2])/\dm w G:=by
 have ao:=hid (CF K L d lv p s a9 (((w.alloc (.cells #[d,lv] 195)).alloc (jz T p s E a9 ah a0 au ae a6 k3 c3)).alloc (ek 0 0 0 0 none 0 0 none 0 0 none 0 0)) (aO.later (gT _ _ _ _)) (aQ.later (gT _ _ _ _)) a1 Z);have ag:=hid (fun aj D R=>gT w aj D R);clear aO aQ a1 Z;rw [← Y] at ao;clear Y;obtain ⟨⟨o,a2,fm,a7⟩,er⟩:=f;simp only [Mg.val] at ao ⊢;subst aw;go_enter func205,ntmps205;go_wp2_with fail;refine ao.mono ?_;rintro e dk ⟨rfl,aq⟩;have B:=hid (dp (ag _ _ _) aq);have ba:=aq.size;simp at ba;obtain ⟨aH,az,aK⟩:=oS aq;obtain ⟨ab,F,J,U,aa,aB,bj,ar⟩:=jI aK
 have ac:w.heap.size+2<dk.heap.size:=N7
 obtain ⟨af,a4,am,a5,ax,aG,u⟩:=ha az
 have H:w.heap.size+1<dk.heap.size:=N7
 clear aq ao aH az aK;go_wp2_with fail;refine bodyPost_ret (v:=.tuple #[.agg #[di 3,di 0,di fm,di a7,dt,dt,dt],di er]) OT rfl ⟨rfl,?_⟩;exact RP
theorem Ka (d lv:Value) (T:Int) (p s:ByteArray) (E a0 a6:OA) (a9 au k3 ah ae c3:Nat) (w:World) (F:T≠1) (J:T≠2) (U:T≠3) :
 dw 205 #[.agg #[d,lv],.agg #[di T,.string p,.string s,.slice E a9 ah,.slice a0 au ae,.slice a6 k3 c3]] w fun e G=>e = .returned (.tuple #[.agg #[di T,di 0,di 0,di 0,dt,dt,dt],di 0])/\dm w G:=by
 have ag:=hid (fun aj D R=>gT w aj D R);go_enter func205,ntmps205;go_wp2_with fail;refine bodyPost_ret (v:=.tuple #[.agg #[di T,di 0,di 0,di 0,dt,dt,dt],di 0]) (by simp [results,results205,go_sem]) rfl ⟨rfl,ag _ _ _⟩
theorem Kb (K:Kn) (L:Lc) (d lv:Value) (x:St) (E a0 a6:OA) (ah ae c3:Nat) (w:World) (aO:iW w d K) (aQ:jd w lv L) (a1:x.mod.size<=maxLen) (Z:x.name.size<=maxLen) :
 dw 205 #[.agg #[d,lv],.agg #[di x.op,.string x.mod,.string x.name,.slice E x.args.length ah,.slice a0 x.body.length ae,.slice a6 x.other.length c3]] w fun e G=>e = .returned (.tuple #[(jG K L x).act,di (jG K L x).err])/\dm w G:=by
 unfold jG
 by_cases F:x.op=1
 . rw [if_pos F]
   exact J7 K L d lv x.op x.mod x.name E a0 a6 _ _ _ ah ae c3 w aO aQ a1 Z F _ rfl
 rw [if_neg F]
 by_cases J:x.op=2
 . rw [if_pos J]
   exact J8 K L d lv x.op x.mod x.name E a0 a6 _ _ _ ah ae c3 w aO aQ a1 Z J _ rfl
 rw [if_neg J]
 by_cases U:x.op=3
 . rw [if_pos U]
   exact J9 K L d lv x.op x.mod x.name E a0 a6 _ _ _ ah ae c3 w aO aQ a1 Z U _ rfl
 rw [if_neg U];exact Ka d lv x.op x.mod x.name E a0 a6 _ _ _ ah ae c3 w F J U
theorem Tryz.infoNode:(prog.info? 253).map (fun i=>(i.zero,i.size,i.bytes))=some (some (.agg #[di 0,di 0,di 0,di 0,dt]),5,56):=by kernel_rfl
def CG {α:Type} (lo:Nat) (b:List α->Nat) (ds:List α->List D) (r:Except Int (List α)) (e:Ending) (w:World):Prop:=
 match r with
 | .error c=>e = .returned (.tuple #[.slice none 0 0,.int .i64 c])/\c≠0
 | .ok l=>∃ a q,e = .returned (.tuple #[.slice a (b l) q,.int .i64 0])/\ee w (lo<=·) a (b l) (ds l)
def vp (l:List eA):Prop:=∀ (K:Kn) (L:Lc) (d lv:Value) (A:Nat->Prop) (a:OA) (q:Nat) (w:World),iW w d K->jd w lv L->dx w A a l.length (eV l)->
 dw 206 #[.agg #[d,lv],.slice a l.length q] w fun e G=>CG w.heap.size List.length es (gw K L l) e G/\dm w G
theorem sg {a:Al} (h:a.err=0):rY a = .ok a:=if_pos h
theorem CH {a:Al} (h:a.err≠0):rY a = .error a.err:=if_neg h
theorem Kc {x:eA} (h:(lc K L x).err≠0):mO K L x = .error (lc K L x).err:=by rw [xQ,CH h];rfl
theorem Kd {x:eA} (h:(lc K L x).err=0) (a7:gw K L x.args = .error c):mO K L x = .error c:=by rw [xQ,sg h,a7];rfl
theorem Ke {x:eA} (h:(lc K L x).err=0) (a7:gw K L x.args = .ok l):mO K L x = .ok (.mk (lc K L x).op (lc K L x).n (lc K L x).m (lc K L x).at_ l):=by rw [xQ,sg h,a7];rfl
theorem Kf {T n m g:Int} {a:OA} {q:Nat} (h:ee w A a l.length (es l)):eI w A (dB.mk T n m g l).ds [di T,di n,di m,di g,.slice a l.length q]:=by
 unfold dB.ds;exact .cons kl (.cons kl (.cons kl (.cons kl (.cons h.val .nil))))
theorem ml (h:w.heap[b]? = some (.cells #[af,a4] t (0,0))) :
 w.cell? (dj b 0)=some af/\w.cell? (dj b 1)=some a4/\∀ i,w.frozen? (dj b i)=false:=by
 refine ⟨?_,?_,fun i=>hD h i⟩<;>(rw [eZ h];rfl)
theorem CI (l:List eA) (aV:l.length<=5000) (ay:∀ j (h:j<l.length),vp l[j].args):vp l:=by
 intro K L d lv A a q w aO aQ an;have bJ:=hid aO;have b2:=hid aQ;have b0:=hid an;have y:=hid ay;clear aO aQ an ay;go_enter func206,ntmps206;go_wp2_with fail
 go_loopw [6,8,9,10,13] (fun v _ _ _ i wr=>∃ (j:Nat) (H:List dB),j<=l.length/\i=di j/\H.length=j/\gw K L (l.take j) = .ok H/\Row (w.heap.size+1) 253 5 wr v H.length (es H)/\wr.heap[w.heap.size]? = some (.cells #[d,lv] 195)/\dm w wr) (fun _ _ _ _ i _=>l.length - (intOf i).toNat)
 case atStart=>exact ⟨0,[],dY _,rfl,rfl,by rw [xB,gw],Row.nil _ _ _ _,dX _ _,dn _ _⟩
 case round=>
  obtain ⟨j,H,a2,rfl,hacc,ah,b5,hbx,I⟩:=hrel;have z:=hid ah;have P:=hid b5;have aZ:=hid hbx;have ag:=hid I;have bj:=I.size;have J:=lt_of_heap hbx;clear ah b5 I
  by_cases ac:j<l.length
  . obtain ⟨b,C,ak,R,rfl,S⟩:=(b0.later ag).ex j ac
    have b8:=hid (y j ac);have ca:=hid (fun c (ar:mO K L l[j] = .error c)=>Jn ac z ar);have bC:=hid (fun a3 (ar:mO K L l[j] = .ok a3)=>Jo ac z ar);obtain ⟨bb,af,a4,am,a5,ax,hargs,_,_,a1,Z⟩:=S;have aR:=hid hargs;clear hargs;generalize l[j]=x at *;have ao:=hid (J6 K L d lv x ak R (wr.alloc (kC x.op x.n x.mod x.name ak x.args.length R)) (bJ.later (dp ag (dn _ _))) (b2.later (dp ag (dn _ _))) a1 Z);obtain ⟨p,bx1,bY⟩:=ml aZ;clear a1 Z hbx;go_wp2_with fail;refine ao.mono ?_;generalize al:lc K L x=h at *;obtain ⟨ap,Z,a1,a7,ar⟩:=h;simp only [Al.node] at *;rintro e dk ⟨rfl,aq⟩;have B:=hid (dp (dn wr _) aq);have ba:=aq.size;simp at ba;have az:dk.heap[wr.heap.size]? = some (kC x.op x.n x.mod x.name ak x.args.length R):=(aq.block _ Ob).trans (dX _ _)
    have aK:=(B.block _ J).trans aZ;obtain ⟨D,ad,f,bi,b4,bx⟩:=ep az;obtain ⟨F,bx1',hfz'⟩:=ml aK;have bl:=hid aK
    have u:w.heap.size<dk.heap.size:=N7
    have E:wr.heap.size<dk.heap.size:=N7
    clear aq ao az aK p bx1 bY af a4 am a5 ax bx hfz'
    by_cases g:ar=0
    . subst g
      have aL:=hid al;clear al;have aG:=hid (b8 K L d lv A ak R (dk.alloc (fg ap Z a1 a7 none 0 0)) (bJ.later (dp (dp ag B) (dn _ _))) (b2.later (dp (dp ag B) (dn _ _))) (aR.later (dp B (dn _ _))));go_wp2_with fail;refine aG.mono ?_;rintro e w2 ⟨Y,aN⟩;have bA:=aN.size;simp at bA;have aW:w2.heap[dk.heap.size]? = some (fg ap Z a1 a7 none 0 0):=(aN.block _ Ob).trans (dX _ _);obtain ⟨bf,be,b9,bm,bk,bO⟩:=ep aW;have O:=hid (dp B (dp (dn _ _) aN))
      have n:dk.heap.size<w2.heap.size:=N7
      clear aN aG aW
      cases Q:gw K L x.args with
      | error c=>
        rw [Q] at Y;obtain ⟨rfl,W⟩:=Y;have aD:=hid (ca c (Kd PW Q));clear Q;go_wp2_with fail;go_ret2;exact ⟨by rw [aD.out];exact ⟨rfl,W⟩,(dp ag O).setCell (p:=(dj dk.heap.size 4)) OJ _⟩
      | ok r=>
        rw [Q] at Y;obtain ⟨a0,ae,rfl,hea⟩:=Y;have aD:=hid (bC _ (Ke PW Q));rw [aL.out] at aD;simp only [] at aD;have t:Hid (dm wr (w2.setCell (dj dk.heap.size 4) (.slice a0 r.length ae))):=O.setCell (p:=(dj dk.heap.size 4)) (by show wr.heap.size<=dk.heap.size;omega) _;have aM:=hid (P.later t);have cd:Hid (eI (w2.setCell (dj dk.heap.size 4) (.slice a0 r.length ae)) (dk.heap.size+1<=·) (dB.mk ap Z a1 a7 r).ds [di ap,di Z,di a1,di a7,.slice a0 r.length ae]):=Kf ((hea.moves ((dU.refl w2 _).set (p:=(dj dk.heap.size 4)) (by intro b _ I;simp at I;show b≠dk.heap.size;omega) _)).moves ⟨dA _,fun b _ h=>⟨by simp at h;exact h,rfl⟩⟩);have ce:=hid (fun k N=>(P.lt k N).2);have bX:Hid ((w2.setCell (dj dk.heap.size 4) (.slice a0 r.length ae)).heap[w.heap.size]? = some (.cells #[d,lv] 195)):=(t.block _ J).trans aZ
        have m:Hid ((w2.setCell (dj dk.heap.size 4) (.slice a0 r.length ae)).heap.size=w2.heap.size):=hk ..;clear hea Q
        go_wp2_with (at_builtin;refine nx rfl (.tmp 37) (.tmp 39) 107 rfl (w.heap.size+1) 253 _ 5 56 Tryz.underlying107 Tryz.infoNode rfl N9 (w2.setCell (dj dk.heap.size 4) (.slice a0 r.length ae)) u6 H.length (es H) (dB.mk ap Z a1 a7 r).ds rfl aM #[di ap,di Z,di a1,di a7,.slice a0 r.length ae] _ m.symm rfl rfl (dk.heap.size+1<=·) cd ?_ N7 N9 (by rw [m.out];omega) ?_)
        . intro b _ I
          have aB:dk.heap.size+1<=b:=I;exact ⟨N7,fun h=>by have:=ce b h;omega⟩
        . intro bL av dJ bP bu bV
          have T:=hid bP;have s:=hid bu;clear bP bu aM cd;go_wp2_with fail;go_roundw
          case rel=>exact ⟨j+1,H++[dB.mk ap Z a1 a7 r],N7,Ou,Qn,aD,by rw [B3,Jl,eM,hacc];exact T,(s.block _ N7).trans bX,(dp ag t).trans (s.mono N7)⟩
          case measure=>simp [intOf];omega
    . have aD:=hid (ca ar (by rw [Kc (by rw [al];exact g),al]))
      clear al;go_wp2_with fail;go_ret2;exact ⟨by rw [aD.out];exact ⟨rfl,g⟩,dp (dp ag B) (dn _ _)⟩
  . obtain rfl:j=l.length:=by omega
    have o:Hid (gw K L l = .ok H):=by have:=z.out;rw [gu] at this;exact this
    exact R7
theorem CJ:∀ (k:Nat) (l:List eA),hL k l=false->vp l
 | 0,l,h=>CI l (by simp [hL] at h;rw [h];simp) (by simp [hL] at h;subst h;intro j a2;simp at a2)
 | k+1,l,h=>by
   simp only [hL,hG] at h;have F:=of_decide_eq_false h.1
   refine CI l N7 fun j a2=>CJ k _ ?_
   have:=h.2;rw [ma] at this;simpa using this l[j] (eb _)
theorem Tryz.infoAct:(prog.info? 109).map (fun i=>(i.zero,i.size,i.bytes))=some (some (.agg #[di 0,di 0,di 0,di 0,dt,dt,dt]),7,104):=by kernel_rfl
def si (l:List St):Prop:=∀ (K:Kn) (L:Lc) (d lv:Value) (A:Nat->Prop) (a:OA) (q:Nat) (w:World),iW w d K->jd w lv L->dx w A a l.length (eE l)->
 dw 121 #[.agg #[d,lv],.slice a l.length q] w fun e G=>CG w.heap.size List.length eJ (fR K L l) e G/\dm w G
def Kg (lo:Nat) (r:Except Int du) (e:Ending) (w:World):Prop:=
 match r with
 | .error c=>∃ aj n m t E a9 ah a0 au ae a6 bn c3,e = .returned (.tuple #[.agg #[.int .i64 aj,.int .i64 n,.int .i64 m,.int .i64 t,.slice E a9 ah,.slice a0 au ae,.slice a6 bn c3],.int .i64 c])/\c≠0
 | .ok a3=>∃ E ah a0 ae a6 c3,e = .returned (.tuple #[.agg #[.int .i64 a3.op,.int .i64 a3.n,.int .i64 a3.m,.int .i64 a3.at_,.slice E a3.args.length ah,.slice a0 a3.body.length ae,.slice a6 a3.other.length c3],.int .i64 0])/\
   ee w (lo<=·) E a3.args.length (es a3.args)/\ee w (lo<=·) a0 a3.body.length (eJ a3.body)/\ee w (lo<=·) a6 a3.other.length (eJ a3.other)
def CK (x:St):Prop:=∀ (K:Kn) (L:Lc) (d lv:Value) (A:Nat->Prop) (E:OA) (ah:Nat) (a0:OA) (ae:Nat) (a6:OA) (c3:Nat) (w:World),iW w d K->jd w lv L->x.mod.size<=maxLen->x.name.size<=maxLen->
 dx w A E x.args.length (eV x.args)->dx w A a0 x.body.length (eE x.body)->dx w A a6 x.other.length (eE x.other)->
 dw 162 #[.agg #[d,lv],.agg #[di x.op,.string x.mod,.string x.name,.slice E x.args.length ah,.slice a0 x.body.length ae,.slice a6 x.other.length c3]] w fun e G=>Kg w.heap.size (km K L x) e G/\dm w G
theorem Kh {y:du} {E a0 a6:OA} {ah ae c3:Nat} (F:ee w A E y.args.length (es y.args)) (J:ee w A a0 y.body.length (eJ y.body)) (U:ee w A a6 y.other.length (eJ y.other)) :
 eI w A y.ds [di y.op,di y.n,di y.m,di y.at_,.slice E y.args.length ah,.slice a0 y.body.length ae,.slice a6 y.other.length c3]:=by
 obtain ⟨T,n,m,g,O,ac,Z⟩:=y;unfold du.ds;exact .cons kl (.cons kl (.cons kl (.cons kl (.cons F.val (.cons J.val (.cons U.val .nil))))))
theorem CL (l:List St) (aV:l.length<=5000) (ay:∀ j (h:j<l.length),CK l[j]):si l:=by
 intro K L d lv A a q w aO aQ an;have bJ:=hid aO;have b2:=hid aQ;have b0:=hid an;have y:=hid ay;clear aO aQ an ay;go_enter func121,ntmps121;go_wp2_with fail
 go_loopw [6,8,9,10,13] (fun v _ _ _ i wr=>∃ (j:Nat) (H:List du),j<=l.length/\i=di j/\H.length=j/\fR K L (l.take j) = .ok H/\Row (w.heap.size+1) 109 7 wr v H.length (eJ H)/\wr.heap[w.heap.size]? = some (.cells #[d,lv] 195)/\dm w wr) (fun _ _ _ _ i _=>l.length - (intOf i).toNat)
 case atStart=>exact ⟨0,[],dY _,rfl,rfl,by rw [xB,fR],Row.nil _ _ _ _,dX _ _,dn _ _⟩
 case round=>
  obtain ⟨j,H,a2,rfl,hacc,ah,b5,hbx,I⟩:=hrel;have z:=hid ah;have P:=hid b5;have aZ:=hid hbx;have ag:=hid I;have bj:=I.size;have J:=lt_of_heap hbx;clear ah b5 I
  by_cases ac:j<l.length
  . obtain ⟨b,C,E,bo,a0,ei,a6,e2,rfl,S⟩:=(b0.later ag).st j ac
    have b8:=hid (y j ac);have ca:=hid (fun c (ar:km K L l[j] = .error c)=>Jp ac z ar);have bC:=hid (fun a3 (ar:km K L l[j] = .ok a3)=>Jq ac z ar);obtain ⟨bb,af,a4,am,a5,ax,aG,hargs,hbody,hother,_,a1,Z⟩:=S;generalize l[j]=x at *;have ao:=hid (b8 K L d lv A E bo a0 ei a6 e2 (wr.alloc (jz x.op x.mod x.name E x.args.length bo a0 x.body.length ei a6 x.other.length e2)) (bJ.later (dp ag (dn _ _))) (b2.later (dp ag (dn _ _))) a1 Z (hargs.later (dn _ _)) (hbody.later (dn _ _)) (hother.later (dn _ _)));obtain ⟨p,bx1,bY⟩:=ml aZ;clear a1 Z hbx hargs hbody hother;go_wp2_with fail;refine ao.mono ?_;rintro e dk ⟨Y,aq⟩;have B:=hid (dp (dn wr _) aq);have ba:=aq.size;simp at ba;clear aq ao p bx1 bY af a4 am a5 ax aG
    cases Q:km K L x with
    | error c=>
      rw [Q] at Y;obtain ⟨aj,n,m,t,bz,a9,aJ,bO,au,aI,c1,bn,bq,rfl,W⟩:=Y;have aD:=hid (ca c Q);clear Q;go_wp2_with fail;go_ret2;exact ⟨by rw [aD.out];exact ⟨rfl,W⟩,dp (dp ag B) (dn _ _)⟩
    | ok a3=>
      rw [Q] at Y;obtain ⟨bt,aT,bv,aU,aR,bh,rfl,he1,F,he3⟩:=Y;have aD:=hid (bC _ Q);have u:=hid ((P.later B).alloc (ek a3.op a3.n a3.m a3.at_ bt a3.args.length aT bv a3.body.length aU aR a3.other.length bh))
      have aa:Hid (eI (dk.alloc (ek a3.op a3.n a3.m a3.at_ bt a3.args.length aT bv a3.body.length aU aR a3.other.length bh)) (wr.heap.size+1<=·) a3.ds [di a3.op,di a3.n,di a3.m,di a3.at_,.slice bt a3.args.length aT,.slice bv a3.body.length aU,.slice aR a3.other.length bh]):=by
       have a1:dU dk ((wr.alloc (jz x.op x.mod x.name E x.args.length bo a0 x.body.length ei a6 x.other.length e2)).heap.size<=·) (dk.alloc (ek a3.op a3.n a3.m a3.at_ bt a3.args.length aT bv a3.body.length aU aR a3.other.length bh)) (wr.heap.size+1<=·):=
        ((dU.refl dk _).alloc _).trans ⟨dA _,fun b _ h=>⟨by simp at h;exact h,rfl⟩⟩
       exact Kh (he1.moves a1) (F.moves a1) (he3.moves a1)
      have ce:=hid (fun k N=>(P.lt k N).2);have bl:=hid ((dp B (dn dk (ek a3.op a3.n a3.m a3.at_ bt a3.args.length aT bv a3.body.length aU aR a3.other.length bh))).block _ J |>.trans aZ);have r:=hid (dp (dp ag B) (dn dk (ek a3.op a3.n a3.m a3.at_ bt a3.args.length aT bv a3.body.length aU aR a3.other.length bh)));clear he1 F he3 Q
      go_wp2_with (at_builtin;refine nx rfl (.tmp 26) (.tmp 28) 40 rfl (w.heap.size+1) 109 _ 7 104 Tryz.underlying40 Tryz.infoAct rfl N9 (dk.alloc (ek a3.op a3.n a3.m a3.at_ bt a3.args.length aT bv a3.body.length aU aR a3.other.length bh)) u6 H.length (eJ H) a3.ds rfl u #[di a3.op,di a3.n,di a3.m,di a3.at_,.slice bt a3.args.length aT,.slice bv a3.body.length aU,.slice aR a3.other.length bh] _ Ob rfl rfl (wr.heap.size+1<=·) aa ?_ N7 N9 Of ?_)
      . exact Sb
      . intro bL av dJ bP bu bV
        have T:=hid bP;have s:=hid bu;clear bP bu u aa;go_wp2_with fail;go_roundw
        case rel=>exact ⟨j+1,H++[a3],N7,Ou,Qn,aD,by rw [B4,Jm,eM,hacc];exact T,(s.block _ N7).trans bl,r.trans (s.mono N7)⟩
        case measure=>simp [intOf];omega
  . obtain rfl:j=l.length:=by omega
    have o:Hid (fR K L l = .ok H):=by have:=z.out;rw [gu] at this;exact this
    exact R7
theorem ee.later {G:World} {a:OA} {n:Nat} {ds:List D} (h:ee w A a n ds) (I:dm w G):ee G A a n ds:=h.moves (dU.of_below I A)
theorem Ki (h:(jG K L x).err≠0):km K L x = .error (jG K L x).err:=by rw [tc,CH h];rfl
theorem Kj (h:(jG K L x).err=0) (F:gw K L x.args = .error c):km K L x = .error c:=by rw [tc,sg h,F];rfl
theorem Kk (h:(jG K L x).err=0) (F:gw K L x.args = .ok l) (J:fR K L x.body = .error c):km K L x = .error c:=by rw [tc,sg h,F,J];rfl
theorem Kl {b:List du} (h:(jG K L x).err=0) (F:gw K L x.args = .ok l) (J:fR K L x.body = .ok b) (U:fR K L x.other = .error c):km K L x = .error c:=by rw [tc,sg h,F,J,U];rfl
theorem Km {b o:List du} (h:(jG K L x).err=0) (F:gw K L x.args = .ok l) (J:fR K L x.body = .ok b) (U:fR K L x.other = .ok o):km K L x = .ok (.mk (jG K L x).op (jG K L x).n (jG K L x).m (jG K L x).at_ l b o):=by rw [tc,sg h,F,J,U];rfl
theorem Ko (x:St) (Z:vp x.args) (I:si x.body) (ap:si x.other):CK x:=by
 intro K L d lv A E ah a0 ae a6 c3 w aO aQ a1 bF aJ V hd3;have ao:=hid (Kb K L d lv x E a0 a6 ah ae c3 (((w.alloc (.cells #[d,lv] 195)).alloc (jz x.op x.mod x.name E x.args.length ah a0 x.body.length ae a6 x.other.length c3)).alloc (ek 0 0 0 0 none 0 0 none 0 0 none 0 0)) (aO.later (gT _ _ _ _)) (aQ.later (gT _ _ _ _)) a1 bF);have bJ:=hid aO;have b2:=hid aQ;have aW:=hid aJ;have b0:=hid V;have P:=hid hd3;have aV:=hid Z;have au:=hid I;have ab:=hid ap;have ag:=hid (fun aj D R=>gT w aj D R);clear Z I ap aO aQ a1 bF aJ V hd3;go_enter func162,ntmps162;go_wp2_with fail;refine ao.mono ?_
 have bz:Hid (∀ h,jG K L x=h->jG K L x=h):=fun h e=>e
 generalize al:jG K L x=h at ao ⊢;obtain ⟨ap,Z,a1,a7,ar⟩:=h;simp only [Al.act];rintro e dk ⟨rfl,aq⟩;have B:=hid (dp (ag _ _ _) aq);have ba:=aq.size;simp at ba;obtain ⟨aH,az,aK⟩:=oS aq;have aL:=hid al;have v:=hid aH;have J:=hid az;have q:=hid aK;clear aq ao aH az aK al bz;obtain ⟨a,b1_,i⟩:=ml v;obtain ⟨U,ay,b1,eU,bH,s5,sf⟩:=ha J;obtain ⟨bG,r1_,r2_,r3_,r4,r5,r6,rf⟩:=jI q;have bK:=lt_of_heap v;have bg:=lt_of_heap J;have a9:=lt_of_heap q
 by_cases g:ar=0
 case neg=>
  have aD:=hid ((Ki (by rw [aL.out];exact g)).trans PW:km K L x = .error ar);have aX:=g;go_wp2_with fail;refine bodyPost_ret (v:=.tuple #[.agg #[di 0,di 0,di 0,di 0,dt,dt,dt],di ar]) OE rfl ⟨OV,?_⟩;exact RP
 subst g;have M:Hid ((dk.alloc (ek ap Z a1 a7 none 0 0 none 0 0 none 0 0)).heap[dk.heap.size]? = some (ek ap Z a1 a7 none 0 0 none 0 0 none 0 0)):=dX _ _;have a2:Hid ((dk.alloc (ek ap Z a1 a7 none 0 0 none 0 0 none 0 0)).heap[w.heap.size]? = some (.cells #[d,lv] 195)):=eR v;have a5:Hid ((dk.alloc (ek ap Z a1 a7 none 0 0 none 0 0 none 0 0)).heap[w.heap.size+1]? = some (jz x.op x.mod x.name E x.args.length ah a0 x.body.length ae a6 x.other.length c3)):=eR J;have W:Hid ((dk.alloc (ek ap Z a1 a7 none 0 0 none 0 0 none 0 0)).heap[w.heap.size+2]? = some (ek 0 0 0 0 none 0 0 none 0 0 none 0 0)):=eR q;have X:Hid (dm w (dk.alloc (ek ap Z a1 a7 none 0 0 none 0 0 none 0 0))):=dp B (dn _ _);have aG:=hid (aV K L d lv A E ah (dk.alloc (ek ap Z a1 a7 none 0 0 none 0 0 none 0 0)) (bJ.later X) (b2.later X) (aW.later X))
 go_wp2_with fail;refine aG.mono ?_;rintro e w2 ⟨Y,aN⟩;have bA:=aN.size;simp at bA;have y:Hid (w2.heap[w.heap.size]? = some (.cells #[d,lv] 195)):=(aN.block _ (lt_of_heap a2)).trans a2;have C:Hid (w2.heap[w.heap.size+1]? = some (jz x.op x.mod x.name E x.args.length ah a0 x.body.length ae a6 x.other.length c3)):=(aN.block _ (lt_of_heap a5)).trans a5;have j:Hid (w2.heap[w.heap.size+2]? = some (ek 0 0 0 0 none 0 0 none 0 0 none 0 0)):=(aN.block _ (lt_of_heap W)).trans W;have p:Hid (w2.heap[dk.heap.size]? = some (ek ap Z a1 a7 none 0 0 none 0 0 none 0 0)):=(aN.block _ (lt_of_heap M)).trans M;have O:=hid (dp X aN);clear aN aG v J q a2 a5 W M a b1_ i U ay b1 eU bH s5 sf bG r1_ r2_ r3_ r4 r5 r6 rf bK bg a9;obtain ⟨a,b1_,i⟩:=ml y
 obtain ⟨U,ay,b1,eU,bH,s5,sf⟩:=ha C;obtain ⟨bG,r1_,r2_,r3_,r4,r5,r6,rf⟩:=jI j;obtain ⟨bT,b8,b7,b6,aB,k,ax,tf⟩:=jI p;have bK:=lt_of_heap y;have bg:=lt_of_heap C;have a9:=lt_of_heap j;have bf:=lt_of_heap p
 cases r:gw K L x.args with
 | error c=>
   rw [r] at Y;obtain ⟨rfl,aX⟩:=Y;have aD:=hid (Kj PW r);clear r;go_wp2_with fail;refine bodyPost_ret (v:=.tuple #[.agg #[di 0,di 0,di 0,di 0,dt,dt,dt],di c]) OE rfl ⟨OV,?_⟩;exact oR (O.setCell (p:=(dj dk.heap.size 4)) OJ _) N7 _ _ _ _ _ _ _
 | ok bp=>
   rw [r] at Y;obtain ⟨bt,aT,rfl,he1⟩:=Y;have b4:=hid r;have aa:=hid he1;clear r he1;have ac:Hid ((w2.setCell (dj dk.heap.size 4) (.slice bt bp.length aT)).heap[w.heap.size]? = some (.cells #[d,lv] 195)):=(eh (by show w.heap.size≠dk.heap.size;omega) _).trans y;have am:Hid ((w2.setCell (dj dk.heap.size 4) (.slice bt bp.length aT)).heap[w.heap.size+1]? = some (jz x.op x.mod x.name E x.args.length ah a0 x.body.length ae a6 x.other.length c3)):=(eh (by show w.heap.size+1≠dk.heap.size;omega) _).trans C;have a3:Hid ((w2.setCell (dj dk.heap.size 4) (.slice bt bp.length aT)).heap[w.heap.size+2]? = some (ek 0 0 0 0 none 0 0 none 0 0 none 0 0)):=(eh (by show w.heap.size+2≠dk.heap.size;omega) _).trans j;have an:Hid ((w2.setCell (dj dk.heap.size 4) (.slice bt bp.length aT)).heap[dk.heap.size]? = some (ek ap Z a1 a7 bt bp.length aT none 0 0 none 0 0)):=heap_set p _
   have t:Hid (dm w (w2.setCell (dj dk.heap.size 4) (.slice bt bp.length aT))):=O.setCell (p:=(dj dk.heap.size 4)) OJ _;have af:Hid (ee (w2.setCell (dj dk.heap.size 4) (.slice bt bp.length aT)) (dk.heap.size+1<=·) bt bp.length (es bp)):=(aa.moves ((dU.refl w2 _).set (p:=(dj dk.heap.size 4)) (by intro b _ I;simp at I;show b≠dk.heap.size;omega) _)).moves ⟨dA _,fun b _ h=>⟨by simp at h;exact h,rfl⟩⟩;have aZ:=hid (au K L d lv A a0 ae (w2.setCell (dj dk.heap.size 4) (.slice bt bp.length aT)) (bJ.later t) (b2.later t) (b0.later t));have m:Hid ((w2.setCell (dj dk.heap.size 4) (.slice bt bp.length aT)).heap.size=w2.heap.size):=hk ..;clear aa y C j p;go_wp2_with fail;refine aZ.mono ?_;rintro e dC ⟨Y,T⟩;have bX:=T.size
   rw [m.out] at bX;have G:Hid (dC.heap[w.heap.size]? = some (.cells #[d,lv] 195)):=(T.block _ (lt_of_heap ac)).trans ac;have s:Hid (dC.heap[w.heap.size+1]? = some (jz x.op x.mod x.name E x.args.length ah a0 x.body.length ae a6 x.other.length c3)):=(T.block _ (lt_of_heap am)).trans am;have l:Hid (dC.heap[w.heap.size+2]? = some (ek 0 0 0 0 none 0 0 none 0 0 none 0 0)):=(T.block _ (lt_of_heap a3)).trans a3;have n:Hid (dC.heap[dk.heap.size]? = some (ek ap Z a1 a7 bt bp.length aT none 0 0 none 0 0)):=(T.block _ (lt_of_heap an)).trans an;have ak:=hid (dp t T);have z:=hid (af.later T);clear T aZ ac am a3 an af t;clear a b1_ i U ay b1 eU bH s5 sf bG r1_ r2_ r3_ r4 r5 r6 rf bT b8 b7 b6 aB k ax tf bK bg a9 bf;obtain ⟨a,b1_,i⟩:=ml G
   obtain ⟨U,ay,b1,eU,bH,s5,sf⟩:=ha s;obtain ⟨bG,r1_,r2_,r3_,r4,r5,r6,rf⟩:=jI l;obtain ⟨bT,b8,b7,b6,aB,k,ax,tf⟩:=jI n;have bK:=lt_of_heap G;have bg:=lt_of_heap s;have a9:=lt_of_heap l;have bf:=lt_of_heap n
   cases S:fR K L x.body with
   | error c=>
     rw [S] at Y;obtain ⟨rfl,aX⟩:=Y;have aD:=hid (Kk PW b4 S);clear S;go_wp2_with fail;refine bodyPost_ret (v:=.tuple #[.agg #[di 0,di 0,di 0,di 0,dt,dt,dt],di c]) OE rfl ⟨OV,?_⟩;exact oR (ak.setCell (p:=(dj dk.heap.size 5)) OJ _) N7 _ _ _ _ _ _ _
   | ok bx=>
     rw [S] at Y;obtain ⟨bv,aU,rfl,F⟩:=Y;have aY:=hid S;have av:=hid F;clear S F;have Q:Hid ((dC.setCell (dj dk.heap.size 5) (.slice bv bx.length aU)).heap[w.heap.size]? = some (.cells #[d,lv] 195)):=(eh (by show w.heap.size≠dk.heap.size;omega) _).trans G;have N:Hid ((dC.setCell (dj dk.heap.size 5) (.slice bv bx.length aU)).heap[w.heap.size+1]? = some (jz x.op x.mod x.name E x.args.length ah a0 x.body.length ae a6 x.other.length c3)):=(eh (by show w.heap.size+1≠dk.heap.size;omega) _).trans s;have a4:Hid ((dC.setCell (dj dk.heap.size 5) (.slice bv bx.length aU)).heap[w.heap.size+2]? = some (ek 0 0 0 0 none 0 0 none 0 0 none 0 0)):=(eh (by show w.heap.size+2≠dk.heap.size;omega) _).trans l;have ad:Hid ((dC.setCell (dj dk.heap.size 5) (.slice bv bx.length aU)).heap[dk.heap.size]? = some (ek ap Z a1 a7 bt bp.length aT bv bx.length aU none 0 0)):=heap_set n _
     have bu:Hid (dm w (dC.setCell (dj dk.heap.size 5) (.slice bv bx.length aU))):=ak.setCell (p:=(dj dk.heap.size 5)) OJ _;have ai:dU dC (dk.heap.size+1<=·) (dC.setCell (dj dk.heap.size 5) (.slice bv bx.length aU)) (dk.heap.size+1<=·):=(dU.refl dC _).set (p:=(dj dk.heap.size 5)) Po _;have af:Hid (ee (dC.setCell (dj dk.heap.size 5) (.slice bv bx.length aU)) (dk.heap.size+1<=·) bt bp.length (es bp)):=z.moves ai;have H:Hid (ee (dC.setCell (dj dk.heap.size 5) (.slice bv bx.length aU)) (dk.heap.size+1<=·) bv bx.length (eJ bx)):=(av.moves ⟨dA _,fun b _ h=>⟨by rw [m.out] at h;show dk.heap.size+1<=b;omega,rfl⟩⟩:ee dC (dk.heap.size+1<=·) bv bx.length (eJ bx)).moves ai;have b9:=hid (ab K L d lv A a6 c3 (dC.setCell (dj dk.heap.size 5) (.slice bv bx.length aU)) (bJ.later bu) (b2.later bu) (P.later bu))
     have cx:Hid ((dC.setCell (dj dk.heap.size 5) (.slice bv bx.length aU)).heap.size=dC.heap.size):=hk ..;clear av G s l n z ak ai;go_wp2_with fail;refine b9.mono ?_;rintro e dJ ⟨Y,br⟩;have bV:=br.size;rw [cx.out] at bV;have aE:Hid (dJ.heap[w.heap.size]? = some (.cells #[d,lv] 195)):=(br.block _ (lt_of_heap Q)).trans Q;have aP:Hid (dJ.heap[w.heap.size+1]? = some (jz x.op x.mod x.name E x.args.length ah a0 x.body.length ae a6 x.other.length c3)):=(br.block _ (lt_of_heap N)).trans N;have aA:Hid (dJ.heap[w.heap.size+2]? = some (ek 0 0 0 0 none 0 0 none 0 0 none 0 0)):=(br.block _ (lt_of_heap a4)).trans a4;have aI:Hid (dJ.heap[dk.heap.size]? = some (ek ap Z a1 a7 bt bp.length aT bv bx.length aU none 0 0)):=(br.block _ (lt_of_heap ad)).trans ad
     have bW:=hid (dp bu br);have z:=hid (af.later br);have aS:=hid (H.later br);clear br b9 Q N a4 ad af H bu;clear a b1_ i U ay b1 eU bH s5 sf bG r1_ r2_ r3_ r4 r5 r6 rf bT b8 b7 b6 aB k ax tf bK bg a9 bf;obtain ⟨a,b1_,i⟩:=ml aE;obtain ⟨U,ay,b1,eU,bH,s5,sf⟩:=ha aP;obtain ⟨bG,r1_,r2_,r3_,r4,r5,r6,rf⟩:=jI aA;obtain ⟨bT,b8,b7,b6,aB,k,ax,tf⟩:=jI aI;have bK:=lt_of_heap aE;have bg:=lt_of_heap aP;have a9:=lt_of_heap aA;have bf:=lt_of_heap aI
     cases f:fR K L x.other with
     | error c=>
       rw [f] at Y;obtain ⟨rfl,aX⟩:=Y;have aD:=hid (Kl PW b4 aY f);clear f;go_wp2_with fail;refine bodyPost_ret (v:=.tuple #[.agg #[di ap,di Z,di a1,di a7,.slice bt bp.length aT,.slice bv bx.length aU,dt],di c]) OE rfl ⟨OV,?_⟩;exact SV
     | ok bQ=>
       rw [f] at Y;obtain ⟨aR,bh,rfl,he3⟩:=Y;have aD:=hid (Km PW b4 aY f);rw [aL.out] at aD;simp only [] at aD;have bc:Hid (ee dJ (dk.heap.size+1<=·) aR bQ.length (eJ bQ)):=he3.moves ⟨dA _,fun b _ h=>⟨by rw [cx.out] at h;show dk.heap.size+1<=b;omega,rfl⟩⟩
       have bB:Hid (∀ aw aF aM bl a8 u o,dU dJ (dk.heap.size+1<=·) (((set5 (dJ.setCell (dj dk.heap.size 6) (.slice aR bQ.length bh)) (w.heap.size+1+1) aw aF aM bl a8).setCell ⟨w.heap.size+1+1,5,none⟩ u).setCell ⟨w.heap.size+1+1,6,none⟩ o) (w.heap.size<=·)):=fun aw aF aM bl a8 u o=>
        (((((dU.refl dJ (dk.heap.size+1<=·)).set (p:=(dj dk.heap.size 6)) Po _).set5 (b:=w.heap.size+1+1) (by intro b _ I;have:dk.heap.size+1<=b:=I;omega) aw aF aM bl a8).set (p:=⟨w.heap.size+1+1,5,none⟩) Pi u).set (p:=⟨w.heap.size+1+1,6,none⟩) Pi o).trans ⟨dA _,fun b _ h=>⟨by have:dk.heap.size+1<=b:=h;show w.heap.size<=b;omega,rfl⟩⟩
       clear f he3;go_wp2_with fail;refine bodyPost_ret (v:=.tuple #[.agg #[di ap,di Z,di a1,di a7,.slice bt bp.length aT,.slice bv bx.length aU,.slice aR bQ.length bh],di 0]) OE rfl ⟨by rw [aD.out];exact ⟨bt,aT,bv,aU,aR,bh,rfl,z.moves (bB _ _ _ _ _ _ _),aS.moves (bB _ _ _ _ _ _ _),bc.moves (bB _ _ _ _ _ _ _)⟩,?_⟩;exact SV
theorem vq:∀ (k:Nat) (l:List St),gx k l=false->si l
 | 0,l,h=>by simp [gx] at h
 | k+1,l,h=>by
   simp only [gx,hG] at h;have F:=of_decide_eq_false h.1
   refine CL l N7 fun j a2=>?_
   have:=h.2;rw [ma] at this;have S:=this l[j] (eb _);simp only [nE,hG,sX] at S;have c:si []:=CL [] Ob (fun j a2=>by simp at a2)
   have a:∀ b:List St,decide (0<b.length)=false->si b:=fun b h=>by
    have:b=[]:=hF (by have:=of_decide_eq_false h;omega)
    rw [this];exact c
   exact Ko _ (CJ 6 _ S.1) (S.2.1.elim (fun h=>a _ h.2) (vq k _)) (S.2.2.elim (a _) (vq k _))
end Go.Proofs.YtndkhgakfodldaaGreatDoor
