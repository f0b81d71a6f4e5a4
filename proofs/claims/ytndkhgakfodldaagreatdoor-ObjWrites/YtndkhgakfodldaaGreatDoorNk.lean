import Derived.Test.YtndkhgakfodldaaGreatDoorNh
namespace Go.Proofs.YtndkhgakfodldaaGreatDoor
set_option maxRecDepth 100000
set_option maxHeartbeats 1600000
open Go.RowKit Go.Maps Go.WideMaps
set_option linter.unusedSimpArgs false
set_option linter.unusedVariables false
def grw:Nat->Nat
 | 0=>0
 | k+1=>3*grw k+4
theorem zma {f:Nd->Wrt->Wrt} {g:Nat}:∀ (l:List Nd),(∀ y ∈ l,∀ s,(f y s).code.length<=s.code.length+g)->∀ s,(zh2 f l s).code.length<=s.code.length+l.length*g
 | [],_,s=>by simp [zh2]
 | x :: r,h,s=>by
   have h1:=h x (vam ..) s;have h2:=zma r (fun y hy=>h y (vaf _ hy)) (f x s);show (zh2 f r (f x s)).code.length<=_;simp only [vas,Nat.add_mul,vdn];omega
def Few (c:Ck):Prop:=∀ m at_ k:Int,zk0 c m at_ k=true->k<=3
theorem zz0 {c:Ck} (hc:Few c) {x:Nd} (h:za5 c x=true):x.args.length<=3:=by
 obtain ⟨op,n,m,at_,args⟩:=x;show args.length<=3
 by_cases e1:op=1
 . subst e1;simp [za5,Nd.op,Nd.args] at h;rw [h.1];simp
 by_cases e3:op=16
 . subst e3;simp [za5,Nd.op,Nd.args] at h;rw [h.1];simp
 by_cases e4:op=3
 . subst e4;simp [za5,Nd.op,Nd.args] at h;rw [h.1];simp
 by_cases e5:op=4
 . subst e5;have:=zzz h;omega
 by_cases e6:op=5
 . subst e6
   simp [za5,Nd.op,Nd.args,Nd.m,Nd.at_] at h;have:=hc _ _ _ h.2;omega
 have hl:=zt7 h e1 e3 e4 e5 e6;unfold argsOf at hl
 split at hl
 . omega
 . split at hl
   . omega
   . split at hl<;>omega
theorem z3e {c:Ck} (hc:Few c):∀ (k:Nat) (x:Nd),za5 c x=true->zhd c k x.args=true->∀ s,(ndW (k+1) x s).code.length<=s.code.length+grw (k+1):=by
 have key:∀ (k:Nat) (x:Nd),za5 c x=true->(∀ y ∈ x.args,∀ s,(ndW k y s).code.length<=s.code.length+grw k)->∀ s,(ndW (k+1) x s).code.length<=s.code.length+grw (k+1):=by
  intro k x hx hN s;have hl:=zz0 hc hx;obtain ⟨op,n,m,at_,args⟩:=x
  have hA:∀ i s,(ndW k (argN args i) s).code.length<=s.code.length+grw k:=fun i s=>by
   by_cases hi:i<args.length
   . rw [zhu _ _ hi];exact hN _ (vap hi) s
   . have:argN args i=nd0:=by simp [argN,vbl,vbs (Nat.le_of_not_lt hi)]
     rw [this]
     cases k with
     | zero=>exact vef ..
     | succ k=>
       show (zb1 10 0 0 (zh2 (ndW k) [] s)).code.length<=_;rw [zah];show s.code.length+1<=s.code.length+(3*grw k+4);omega
  have hall:=zma (f:=ndW k) (g:=grw k) args hN s;have hm:args.length*grw k<=3*grw k:=vdr _ hl;have h0:=hA 0 s;have h1:=hA 1 (zdg 12 0 (ndW k (argN args 0) s));have h2:=hA 1 (zcv (ndW k (argN args 0) s).code.length (zdg 11 0 (zb1 1 1 0 (zdg 12 0 (ndW k (argN args 0) s)))));rw [ndW_succ];unfold ndStep;simp only [grw];simp only [zam,zas,zah] at h1 h2
  repeat' split
  all_goals (simp only [zah,za9,zn7,zh3,z15,orW,zam,zas];omega)
 intro k
 induction k with
 | zero=>intro x h1 h2;exact key 0 x h1 (fun y hy s=>vef ..)
 | succ k ih=>
   intro x h1 h2;refine key (k+1) x h1 (fun y hy=>?_);rw [show zhd c (k+1) x.args=x.args.all (fun x=>za5 c x&&zhd c k x.args) from rfl,vax] at h2;have h4:=h2 y hy;rw [vad] at h4;exact ih y h4.1 h4.2
theorem zi3 {f:Ac->Wrt->Wrt} {g:Nat}:∀ (l:List Ac),(∀ y ∈ l,∀ s,(f y s).code.length<=max s.code.length 2048+g)->∀ s,(zd8 f l s).code.length<=max s.code.length (2048+g)
 | [],_,s=>Nat.le_max_left ..
 | x :: r,h,s=>by
   have h1:=h x (vam ..) s;have h2:=zi3 r (fun y hy=>h y (vaf _ hy));show (zd8 f r (if ziq s=true then s else f x s)).code.length<=_;split
   . exact h2 s
   . rename_i hf
     have:=h2 (f x s);unfold ziq at hf;simp only [decide_eq_true_eq] at hf;omega
theorem zz1 {c:Ck} {k:Nat} {l:List Ac} (h:zfm c (k+1) l=true) {y:Ac} (hy:y ∈ l):zcj c y=true/\zhd c 6 y.args=true/\(zfm c k y.body=true\/y.body.length=0)/\(zfm c k y.other=true\/y.other.length=0):=by
 simp only [zfm,vad,vax] at h;obtain ⟨h1,h2,h3⟩:=h.2 y hy;refine ⟨h1,h2,?_⟩
 split at h3
 . rw [vad] at h3;exact ⟨Or.inl h3.1,Or.inl h3.2⟩
 . split at h3
   . rw [vad] at h3;exact ⟨Or.inl h3.1,Or.inr (of_decide_eq_true h3.2)⟩
   . rw [vad] at h3;exact ⟨Or.inr (of_decide_eq_true h3.1),Or.inr (of_decide_eq_true h3.2)⟩
theorem zqf {c:Ck} (hc:Few c):∀ (k:Nat) (l:List Ac),zfm c k l=true->∀ y ∈ l,∀ s,(acW k y s).code.length<=max s.code.length 2048+5000*k
 | 0,l,h=>by simp [zfm] at h
 | k + 1,l,h=>fun y hy s=>by
   obtain ⟨h1,h2,h3,h4⟩:=zz1 h hy;obtain ⟨op,n,m,at_,args,body,other⟩:=y;obtain ⟨⟨o1,o7⟩,l2,l1⟩:=zl9 h1;simp only [Ac.args,Ac.body,Ac.other] at h2 h3 h4
   have hN:∀ z ∈ args,∀ s,(ndW 6 z s).code.length<=s.code.length+1456:=fun z hz s=>by
    rw [show zhd c 6 args=args.all (fun x=>za5 c x&&zhd c 5 x.args) from rfl,vax] at h2;have h5:=h2 z hz;rw [vad] at h5;exact z3e hc 5 z h5.1 h5.2 s
   have hA:∀ i,i<args.length->∀ s,(ndW 6 (argN args i) s).code.length<=s.code.length+1456:=fun i hi s=>by
    rw [zhu _ _ hi];exact hN _ (vap hi) s
   have nil:∀ (q:List Ac),q.length=0->∀ s,(zd8 (acW k) q s).code.length<=max s.code.length (2048+5000*k):=fun q hq s=>by
    rw [vao hq];exact Nat.le_max_left ..
   have hB:∀ s,(zd8 (acW k) body s).code.length<=max s.code.length (2048+5000*k):=by
    rcases h3 with h3 | h3
    . exact zi3 _ (zqf hc k _ h3)
    . exact nil _ h3
   have hO:∀ s,(zd8 (acW k) other s).code.length<=max s.code.length (2048+5000*k):=by
    rcases h4 with h4 | h4
    . exact zi3 _ (zqf hc k _ h4)
    . exact nil _ h4
   rw [zqe];unfold zv2
   by_cases e3:op=3
   . subst e3
     have hp:args.length<=3:=by
      simp [zcj,Ac.op,Ac.args,Ac.m,Ac.at_] at h1;have:=hc _ _ _ h1.2;omega
     have h5:=zma (f:=ndW 6) (g:=1456) args hN s;have h6:args.length*1456<=3*1456:=vdr _ hp;simp only [show ¬ ((3:Int)=1) from by decide,show ¬ ((3:Int)=2) from by decide,if_true,if_false,zah,zh3,za9];omega
   have hl0:0<args.length:=by
    by_cases e2:op=2
    . have:=l2 e2;omega
    . have:=l1 e2 e3;omega
   have h0:=hA 0 hl0 s;have b1:=hB (zdg 12 0 (ndW 6 (argN args 0) s));have b2:=hO (zcv (ndW 6 (argN args 0) s).code.length (zdg 11 0 (zd8 (acW k) body (zdg 12 0 (ndW 6 (argN args 0) s)))));have b3:=hB (zb1 16 0 0 (zdg 12 0 (ndW 6 (argN args 0) s)));simp only [zam,zas,zah] at b1 b2 b3
   by_cases e2:op=2
   . subst e2
     have h7:=hA 1 (by have:=l2 rfl;omega) (zn7 (ndW 6 (argN args 0)) n m at_ s);simp only [show ¬ ((2:Int)=1) from by decide,if_true,if_false,zah];simp only [zn7,za9] at h7 ⊢;omega
   repeat' split
   all_goals first
    | omega
    | (simp only [zah,z5t,brW,whW];omega)
    | (unfold z5t;split<;>simp only [zah,za9]<;>omega)
    | (unfold brW;split<;>simp only [zam]<;>omega)
    | (unfold whW;simp only [zam,zas];omega)
theorem zot {c:Ck} (hc:Few c) (p:Pt) (h:zfm c 6 p.body=true) (s:Wrt):(zrh p s).code.length<=max s.code.length 32048+3:=by
 have:=zi3 p.body (zqf hc 6 p.body h) (zb1 14 p.params p.locals s);simp only [zah] at this;simp only [zrh,zah];omega
theorem zsd {w0 w:World} {R:Nat} {K:List (Nat × Obj)} {s:Wrt} {A:Nat->Prop} {p:Pt} {a:OA} {cap:Nat} {c:Ck} (hp:zfm c 6 p.body=true) (hD:DAt w0 A a p.body.length (zew p.body)) (h:Wri w0 w R K s) (hr:(zrh p s).code.length<=1000000) :
 Calls Tryz.prog 79 #[.pointer (some ⟨R,0,none⟩),.agg #[.int .i64 p.params,.int .i64 p.locals,.slice a p.body.length cap]] w fun e w'=>e = .returned (.tuple #[])/\Wri w0 w' R K (zrh p s):=by
 have HW:Hid (Wri w0 (w.alloc (.cells #[.int .i64 p.params,.int .i64 p.locals,.slice a p.body.length cap] 106)) R ((w.heap.size,.cells #[.int .i64 p.params,.int .i64 p.locals,.slice a p.body.length cap] 106) :: K) s):=h.box _;have m1:=zcz (zgs 6) p.body (zb1 14 p.params p.locals s)
 have r1:(zd8 (acW 6) p.body (zb1 14 p.params p.locals s)).code.length+2<=1000000:=by simp only [zrh,zah] at hr;omega
 rw [zah] at m1;have HB:=hid (fun (K:List (Nat × Obj)) (s:Wrt) (w:World)=>zf6 (w:=w) (K:=K) (s:=s) (cap:=cap) (zk9 (w0:=w0) (R:=R) 6 p.body hp) hD);clear h hp hD;go_enter Tryz.func79,Tryz.ntmps79;go_wp2_with fail;refine (zcd 14 p.params p.locals HW.out (by omega)).mono ?_;rintro e w1 ⟨rfl,h1⟩;have H1:=hid h1;clear h1;obtain ⟨q0,q1,q2, -⟩:=zbm H1.out.head;go_wp2_with fail;refine (HB.out _ _ _ H1.out (by omega)).mono ?_;rintro e w2 ⟨rfl,h2⟩;have H2:=hid h2;clear h2 q0 q1 q2;go_wp2_with fail;refine (zcd 1 0 0 H2.out (by omega)).mono ?_;rintro e w3 ⟨rfl,h3⟩;have H3:=hid h3;clear h3;go_wp2_with fail;refine (zcd 15 0 0 H3.out (by rw [zah];omega)).mono ?_;rintro e w4 ⟨rfl,h4⟩;have H4:=hid h4;clear h4;go_wp2_with fail;go_end0;exact ⟨rfl,H4.out.tail⟩
def zj7 (m at_ n:Int):Bool:=decide (n=1/\at_=512)||z2g 512 at_ n
def zjx (m at_ k:Int):Bool:=decide (0<=at_/\at_<6)&&decide (k<=3)
theorem zqg (m at_ n:Int) (w:World) (ha:(Lit.int .i64 at_).wf=true) (h1:1<=n) (h2:n<=32) :
 Calls Tryz.prog 327 #[.agg #[],.int .i64 m,.int .i64 at_,.int .i64 n] w fun e w'=>e = .returned (.bool (zj7 m at_ n))/\Below w.heap.size w w':=by
 by_cases t1:n=1
 . by_cases t2:at_=512
   . have HR:Hid (zj7 m at_ n=true):=by show _=_;unfold zj7;rw [decide_eq_true ⟨t1,t2⟩];rfl
     subst t1;subst t2;clear ha h1 h2;go_enter Tryz.func327,Tryz.ntmps327;go_wp2_with fail;go_ret;exact ⟨zaa HR.out.symm,al1 _ _⟩
   . have HR:Hid (zj7 m at_ n=z2g 512 at_ n):=by show _=_;unfold zj7;rw [decide_eq_false (fun h=>t2 h.2)];rfl
     have HL:=hid (zmu 512 at_ n (w.alloc (.cells #[] 133)) (by decide) (by decide) h1 h2 ha);subst t1;clear ha h1 h2;go_enter Tryz.func327,Tryz.ntmps327;go_wp2_with fail;refine HL.out.mono ?_;rintro e w1 ⟨rfl,rfl⟩;go_wp2_with fail;go_ret;exact ⟨zaa (by first | exact HR.out.symm | (rw [HR.out]<;>first | (simp;omega) | (simp [*];done))),al1 _ _⟩
 . have HR:Hid (zj7 m at_ n=z2g 512 at_ n):=by show _=_;unfold zj7;rw [decide_eq_false (fun h=>t1 h.1)];rfl
   have HL:=hid (zmu 512 at_ n (w.alloc (.cells #[] 133)) (by decide) (by decide) h1 h2 ha);clear ha h1 h2;go_enter Tryz.func327,Tryz.ntmps327;go_wp2_with fail;refine HL.out.mono ?_;rintro e w1 ⟨rfl,rfl⟩;go_wp2_with fail;go_ret;exact ⟨zaa HR.out.symm,al1 _ _⟩
theorem znp (m at_:Int) (k:Nat) (w:World) :
 Calls Tryz.prog 328 #[.agg #[],.int .i64 m,.int .i64 at_,.int .i64 k] w fun e w'=>e = .returned (.bool (zjx m at_ k))/\Below w.heap.size w w':=by
 by_cases t1:0<=at_
 . by_cases t2:at_<6
   . have HR:Hid (zjx m at_ k=decide ((k:Int)<=3)):=by show _=_;unfold zjx;rw [decide_eq_true ⟨t1,t2⟩];rfl
     go_enter Tryz.func328,Tryz.ntmps328;go_wp2_with fail;go_ret;exact ⟨zaa HR.out.symm,al1 _ _⟩
   . have HR:Hid (zjx m at_ k=false):=by show _=_;unfold zjx;rw [decide_eq_false (fun h=>t2 h.2)];rfl
     have t2':6<=at_:=by omega
     clear t2;go_enter Tryz.func328,Tryz.ntmps328;go_wp2_with fail;go_ret;exact ⟨zaa HR.out.symm,al1 _ _⟩
 . have HR:Hid (zjx m at_ k=false):=by show _=_;unfold zjx;rw [decide_eq_false (fun h=>t1 h.1)];rfl
   have t1':at_<0:=by omega
   clear t1;go_enter Tryz.func328,Tryz.ntmps328;go_wp2_with fail;go_ret;exact ⟨zaa HR.out.symm,al1 _ _⟩
theorem zt8 (w:World) (u:Un) (lc:Int):UsAt w (zjz u zj7 zjx lc) 327 328 (.agg #[]):=
 ⟨fun W _ m at_ n _ ha h1 h2=>zqg m at_ n W ha h1 h2,fun W _ m at_ k _ _ _=>znp m at_ k W⟩
theorem zse (u:Un) (x1:OA) (y1:Nat) (x2:OA) (y2:Nat) (x3:OA) (y3:Nat) (w:World) (hU:UvAt w u x1 y1 x2 y2 x3 y3) :
 Calls Tryz.prog 77 #[.agg #[.string u.name,.slice x1 u.uses.length y1,.int .i64 u.data,.slice x2 u.parts.length y2,.slice x3 u.main.length y3],.iface 133 (.agg #[])] w fun e w'=>e = .returned (.bool (zf0 u zj7 zjx))/\Below w.heap.size w w':=
 z28 u zj7 zjx x1 y1 x2 y2 x3 y3 133 (.agg #[]) w hU (fun hh lc W hW=>by
  have hd:=zj6 hh
  exact ckS (zjz u zj7 zjx lc) u.name x1 y1 x2 y2 x3 u.main.length y3 W hd.1 hd.2 (hU.later hW).uses.bound (hU.later hW).parts (zt8 W u lc))
structure Ob where
 name:ByteArray
 uses:List ByteArray
 data:Int
 code:List Gi
 fixes:List Gf
 entries:List Int
 main:Int
def wr0:Wrt:=⟨[],[]⟩
def zce (l:List Pt):Wrt:=l.foldl (fun s p=>zrh p s) wr0
def entsW (l:List Pt):List Int:=(List.range l.length).map (fun i=>((zce (l.take i)).code.length:Int))
def genS (u:Un):Wrt:=zrh ⟨0,0,u.main⟩ (zce u.parts)
def zqh (u:Un):Ob:=⟨u.name,u.uses,u.data,(genS u).code,(genS u).fixes,entsW u.parts,(zce u.parts).code.length⟩
def zxl (u:Un):Except Int Ob:=
 if (Go.Lib.containsS u.uses u.name || !zf0 u zj7 zjx)=true then .error 1
 else if ziq (genS u)=true then .error 2
 else .ok (zqh u)
theorem zig (l:List Pt) (j:Nat) (h:j<l.length):zce (l.take (j+1))=zrh l[j] (zce (l.take j)):=by
 rw [vag h];unfold zce;rw [vbn]
 rfl
def zko (l:List Pt) (j:Nat):List Int:=(List.range j).map (fun i=>((zce (l.take i)).code.length:Int))
theorem zt9 (l:List Pt) (j:Nat):zko l (j+1)=zko l j++[((zce (l.take j)).code.length:Int)]:=by
 unfold zko;rw [List.range_succ,vdf]
 rfl
theorem zec (l:List Pt) (j:Nat):(zko l j).length=j:=by simp [zko]
theorem zb7 {u:Un} {num prt:Int->Int->Int->Bool} (h:zf0 u num prt=true):(∀ p ∈ u.parts,zfm (zjz u num prt (p.params+p.locals)) 6 p.body=true)/\zfm (zjz u num prt 0) 6 u.main=true/\zeg u=true:=by
 unfold zf0 at h;simp only [vad,vax] at h;exact ⟨h.2.1,h.2.2,h.1⟩
theorem zv3 {u:Un} (h:zeg u=true) (lc:Int):Few (zjz u zj7 zjx lc):=fun m at_ k hk=>by
 unfold zk0 at hk
 split at hk
 . unfold zwq at hk
   rw [vad] at hk;obtain ⟨_,h2⟩:=hk;unfold zeg at h;simp only [vad,vax] at h;simp only [zjz] at h2
   cases hq:u.parts[at_.toNat]? with
   | none=>rw [hq] at h2;cases h2
   | some p=>
     rw [hq] at h2;have h3:=of_decide_eq_true h2;have h4:=h.2.1 p (vds hq);unfold ptB at h4;rw [vad] at h4;have h5:=of_decide_eq_true h4.1;omega
 . rw [vad] at hk
   simp only [zjz,zjx,vad] at hk;exact of_decide_eq_true hk.2.2
theorem zmb {u:Un} (h:zf0 u zj7 zjx=true):∀ j,j<=u.parts.length->(zce (u.parts.take j)).code.length<=32051+3*j
 | 0,_=>by simp [zce,wr0]
 | j+1,hj=>by
   have h1:=zmb h j (by omega);obtain ⟨hp,_,hh⟩:=zb7 h;have h2:=zot (zv3 hh _) u.parts[j] (hp _ (vap (by omega))) (zce (u.parts.take j));rw [zig _ _ (by omega)];omega
theorem zi4 {u:Un} (h:zeg u=true):u.parts.length<=6:=by
 unfold zeg at h;simp only [vad] at h;exact of_decide_eq_true h.2.2.2
theorem zua {u:Un} (h:zf0 u zj7 zjx=true):(genS u).code.length<=33000:=by
 obtain ⟨_,hm,hh⟩:=zb7 h;have h1:=zmb h u.parts.length (vaa _);rw [vaz] at h1;have h2:=zi4 hh;have h3:=zot (zv3 hh 0) ⟨0,0,u.main⟩ hm (zce u.parts);unfold genS;omega
end Go.Proofs.YtndkhgakfodldaaGreatDoor

namespace Go.Proofs.YtndkhgakfodldaaGreatDoor
set_option linter.unusedSimpArgs false
set_option linter.unusedVariables false
def inR (i:Gi) (n:Nat):Prop:=(1<=i.op/\i.op<=22)/\(0<=i.a/\i.a<=1099511627776+n)/\(0<=i.b/\i.b<=64)
theorem inR.mono {i:Gi} {n n':Nat} (h:inR i n) (hn:n<=n'):inR i n':=by unfold inR at *;omega
theorem zz2 (op a b:Int) (h:(1<=op/\op<=22)/\(0<=a/\a<=1099511627776)/\(0<=b/\b<=64)):inR ⟨op,a,b⟩ 0:=by unfold inR;simp only;omega
def z8e (us:Int) (J:Nat->Prop) (lo hi k:Nat) (f:Gf) (a:Int):Prop:=
 (f.kind=1/\f.m=0/\(J k\/((lo:Int)<=a/\a<=hi)))\/((f.kind=2\/f.kind=3)/\¬ J k/\(0<=a/\a<=2048)/\(0<=f.m/\f.m<=us))
theorem z8e.mono {us:Int} {J J':Nat->Prop} {lo hi hi' k:Nat} {f:Gf} {a:Int} (h:z8e us J lo hi k f a) (hJ:J' k↔J k) (hh:hi<=hi'):z8e us J' lo hi' k f a:=by
 rcases h with ⟨h1,h2,h3⟩ | ⟨h1,h2,h3⟩
 . refine Or.inl ⟨h1,h2,?_⟩
   rcases h3 with h3 | h3
   . exact Or.inl (hJ.2 h3)
   . exact Or.inr (by omega)
 . exact Or.inr ⟨h1,fun h=>h2 (hJ.1 h),h3⟩
structure Adds (us:Int) (J:Nat->Prop) (s t:Wrt):Prop where
 le:s.code.length<=t.code.length
 pre:∀ k,k<s.code.length->t.code[k]? = s.code[k]?
 ins:∀ (k:Nat) (i:Gi),s.code.length<=k->t.code[k]? = some i->inR i t.code.length
 jb:∀ k,J k->s.code.length<=k/\k<t.code.length
 fx:∃ e,t.fixes=s.fixes++e/\e.Pairwise (fun f g=>f.at_<g.at_)/\∀ f ∈ e,∃ (k:Nat) (i:Gi),t.code[k]? = some i/\f.at_=(k:Int)/\s.code.length<=k/\z8e us J s.code.length t.code.length k f i.a
theorem zex {α:Type} {l:List α} {k:Nat} {x:α} (h:l[k]? = some x):k<l.length:=by
 rcases vbj k l.length with h1 | h1
 . exact h1
 . rw [vbs h1] at h;cases h
section
variable {us:Int} {J J':Nat->Prop} {s t u:Wrt}
theorem Adds.cong (h:Adds us J s t) (hJ:∀ k,J' k↔J k):Adds us J' s t:=by
 obtain rfl:J'=J:=funext fun k=>propext (hJ k)
 exact h
theorem Adds.refl (s:Wrt):Adds us (fun _=>False) s s:=
 ⟨vaa _,fun _ _=>rfl,fun k i h1 h2=>by have:=zex h2;omega,fun _ h=>h.elim,[],by simp,List.Pairwise.nil,fun f hf=>by cases hf⟩
theorem Adds.snoc (h:Adds us J s t) (i:Gi) (hi:inR i 0\/inR i (t.code.length+1)) (hJ:∀ k,k<t.code.length->(J' k↔J k)) (hJb:∀ k,J' k->s.code.length<=k/\k<=t.code.length) (e':List Gf)
 (he':e'=[]\/∃ f,e'=[f]/\f.at_=(t.code.length:Int)/\z8e us J' s.code.length (t.code.length+1) t.code.length f i.a):Adds us J' s ⟨t.code++[i],t.fixes++e'⟩:=by
 obtain ⟨e,he,hp,hf⟩:=h.fx;have hl:=h.le
 have hlen:(t.code++[i]).length=t.code.length+1:=by simp
 have old:∀ k,k<t.code.length->(t.code++[i])[k]? = t.code[k]?:=fun k hk=>vbi hk
 have new:(t.code++[i])[t.code.length]? = some i:=by simp
 have hi':inR i (t.code.length+1):=by rcases hi with h1 | h1;exact h1.mono (vae _);exact h1
 refine ⟨by simp only [hlen];omega,fun k hk=>(old k (by omega)).trans (h.pre k hk),fun k x hk hx=>?_,fun k hk=>by have:=hJb k hk;simp only [hlen];omega,e++e',by simp only [he,vaq],?_,fun f hfm=>?_⟩
 . simp only [hlen]
   have hx':=zex hx;rw [hlen] at hx'
   rcases vbj k t.code.length with h1 | h1
   . exact (h.ins k x hk ((old k h1).symm.trans hx)).mono (by omega)
   . obtain rfl:k=t.code.length:=by omega
     obtain rfl:i=x:=by rw [new] at hx;exact vac hx
     exact hi'
 . refine List.pairwise_append.2 ⟨hp,?_,fun f hfm g hg=>?_⟩
   . rcases he' with rfl | ⟨f,rfl,_⟩
     . exact List.Pairwise.nil
     . exact List.pairwise_singleton ..
   . obtain ⟨k,x,hx,hk,_⟩:=hf f hfm
     have:=zex hx
     rcases he' with rfl | ⟨f',rfl,ha,_⟩
     . cases hg
     . rw [vcd] at hg;subst hg;omega
 . rcases vcf.1 hfm with h1 | h1
   . obtain ⟨k,x,hx,hk,hs,hr⟩:=hf f h1
     have hkl:=zex hx;exact ⟨k,x,(old k hkl).trans hx,hk,hs,hr.mono (hJ k hkl) (by simp only [hlen];omega)⟩
   . rcases he' with rfl | ⟨f',rfl,ha,hr⟩
     . cases h1
     . rw [vcd] at h1;subst h1
       exact ⟨t.code.length,i,new,ha,hl,by simp only [hlen];exact hr⟩
theorem Adds.put (h:Adds us J s t) (op a b:Int) (hi:(1<=op/\op<=22)/\(0<=a/\a<=1099511627776)/\(0<=b/\b<=64)):Adds us J s (zb1 op a b t):=by
 have:=h.snoc (J':=J) ⟨op,a,b⟩ (Or.inl (zz2 _ _ _ hi)) (fun _ _=>Iff.rfl) (fun k hk=>by have:=h.jb k hk;omega) [] (Or.inl rfl);rw [vbe] at this;exact this
theorem Adds.fix (h:Adds us J s t) (kind m op a b:Int) (hk:kind=2\/kind=3) (hi:(1<=op/\op<=22)/\(0<=a/\a<=2048)/\(0<=b/\b<=64)) (hm:0<=m/\m<=us):Adds us J s (zvf kind m ⟨op,a,b⟩ t):=
 h.snoc (J':=J) ⟨op,a,b⟩ (Or.inl (zz2 _ _ _ (by omega))) (fun _ _=>Iff.rfl) (fun k hk=>by have:=h.jb k hk;omega) [⟨t.code.length,kind,m⟩]
  (Or.inr ⟨_,rfl,rfl,Or.inr ⟨hk,fun hj=>by have:=(h.jb _ hj).2;omega,hi.2.1,hm⟩⟩)
theorem Adds.jump (h:Adds us J s t) (op:Int) (ho:1<=op/\op<=22):Adds us (fun x=>J x\/x=t.code.length) s (zdg op 0 t):=
 h.snoc ⟨op,0,0⟩ (Or.inl (zz2 _ _ _ (by omega))) (fun k hk=>⟨fun h=>h.elim id (fun e=>by omega),Or.inl⟩) (fun k hk=>by rcases hk with hk | rfl;have:=h.jb k hk;omega;exact ⟨h.le,vaa _⟩) [⟨t.code.length,1,0⟩]
  (Or.inr ⟨_,rfl,rfl,Or.inl ⟨rfl,rfl,Or.inl (Or.inr rfl)⟩⟩)
theorem Adds.back (h:Adds us J s t) (op:Int) (ho:1<=op/\op<=22):Adds us J s (zdg op s.code.length t):=
 have hl:=h.le
 h.snoc (J':=J) ⟨op,s.code.length,0⟩ (Or.inr (by unfold inR;simp only;omega)) (fun _ _=>Iff.rfl) (fun k hk=>by have:=h.jb k hk;omega) [⟨t.code.length,1,0⟩]
  (Or.inr ⟨_,rfl,rfl,Or.inl ⟨rfl,rfl,Or.inr (by simp only;omega)⟩⟩)
theorem zub (t:Wrt) {j k:Nat} (h:j≠k):(zcv k t).code[j]? = t.code[j]?:=by
 simp only [zcv,List.getElem?_modify];rw [show (fun a=>if k=j then z7l (t.code.length:Int) a else a)=id from funext fun a=>if_neg (fun e=>h e.symm)];simp
theorem zz3 (t:Wrt) {k:Nat} {i:Gi} (h:t.code[k]? = some i):(zcv k t).code[k]? = some (z7l t.code.length i):=by
 simp only [zcv,List.getElem?_modify,h];simp
theorem Adds.land (h:Adds us J s t) {k:Nat} (hk:J k):Adds us (fun x=>J x/\x≠k) s (zcv k t):=by
 obtain ⟨e,he,hp,hf⟩:=h.fx;have hl:=h.le;have hkb:=h.jb k hk;refine ⟨by rw [zam];exact hl,fun j hj=>(zub t (by omega)).trans (h.pre j hj),fun j i hj hi=>?_,fun j hj=>by rw [zam];exact h.jb j hj.1,e,he,hp,fun f hfm=>?_⟩
 . rw [zam]
   by_cases e:j=k
   . subst e
     have hg:t.code[j]? = some t.code[j]:=vaj hkb.2;rw [zz3 t hg] at hi;obtain rfl:=vac hi;have:=h.ins j _ hj hg;unfold inR at this ⊢;simp only [z7l];omega
   . rw [zub t e] at hi;exact h.ins j i hj hi
 . obtain ⟨j,i,hi,ha,hs,hr⟩:=hf f hfm
   rw [zam]
   by_cases e:j=k
   . subst e
     refine ⟨j,_,zz3 t hi,ha,hs,?_⟩
     rcases hr with ⟨h1,h2,_⟩ | ⟨_,h2,_⟩
     . exact Or.inl ⟨h1,h2,Or.inr (by simp only [z7l];omega)⟩
     . exact absurd hk h2
   . exact ⟨j,i,(zub t e).trans hi,ha,hs,hr.mono ⟨fun h=>h.1,fun h=>⟨h,e⟩⟩ (vaa _)⟩
theorem Adds.then (h:Adds us J s t) (g:Adds us (fun _=>False) t u):Adds us J s u:=by
 obtain ⟨e,he,hp,hf⟩:=h.fx;obtain ⟨e',he',hp',hf'⟩:=g.fx;have hl:=h.le;have gl:=g.le;refine ⟨by omega,fun k hk=>(g.pre k (by omega)).trans (h.pre k hk),fun k i hk hi=>?_,fun k hk=>by have:=h.jb k hk;omega,e++e',by rw [he',he,vaq],?_,fun f hfm=>?_⟩
 . rcases vbj k t.code.length with h1 | h1
   . exact (h.ins k i hk ((g.pre k h1).symm.trans hi)).mono gl
   . exact g.ins k i h1 hi
 . refine List.pairwise_append.2 ⟨hp,hp',fun f hfm x hx=>?_⟩
   obtain ⟨k,i,hi,ha,_⟩:=hf f hfm;obtain ⟨k',i',hi',ha',hs',_⟩:=hf' x hx;have:=zex hi;omega
 . rcases vcf.1 hfm with h1 | h1
   . obtain ⟨k,i,hi,ha,hs,hr⟩:=hf f h1
     exact ⟨k,i,(g.pre k (zex hi)).trans hi,ha,hs,hr.mono Iff.rfl gl⟩
   . obtain ⟨k,i,hi,ha,hs,hr⟩:=hf' f h1
     refine ⟨k,i,hi,ha,by omega,?_⟩
     rcases hr with ⟨h1,h2,h3⟩ | ⟨h1,h2,h3⟩
     . exact Or.inl ⟨h1,h2,Or.inr (by rcases h3 with h3 | h3;exact h3.elim;omega)⟩
     . exact Or.inr ⟨h1,fun hj=>by have:=(h.jb k hj).2;omega,h3⟩
end
def zed (us:Int) (f:Wrt->Wrt):Prop:=∀ s,Adds us (fun _=>False) s (f s)
theorem zla {us:Int} {f:Nd->Wrt->Wrt}:∀ {l:List Nd},(∀ y ∈ l,zed us (f y))->zed us (zh2 f l)
 | [],_,s=>Adds.refl s
 | x :: r,h,s=>(h x (vam ..) s).then (zla (fun y hy=>h y (vaf _ hy)) (f x s))
theorem zlb {us:Int} {f:Ac->Wrt->Wrt}:∀ {l:List Ac},(∀ y ∈ l,zed us (f y))->zed us (zd8 f l)
 | [],_,s=>Adds.refl s
 | x :: r,h,s=>by
   show Adds us _ s (zd8 f r (if ziq s=true then s else f x s));have h2:=zlb (l:=r) (fun y hy=>h y (vaf _ hy));split
   . exact h2 s
   . exact (h x (vam ..) s).then (h2 _)
theorem z3f {us:Int} {f g:Wrt->Wrt} (hf:zed us f) (hg:zed us g):zed us (z15 f g):=fun s=>by
 have h3:=((hf s).jump 12 (by decide)).then (hg _);have hl:=(hg (zdg 12 0 (f s))).le;rw [zas] at hl;have h5:=(h3.put 22 0 0 (by decide)).jump 11 (by decide);have h7:=(h5.land (k:=(f s).code.length) (Or.inl (Or.inr rfl))).put 1 0 0 (by decide);have h8:=h7.land (k:=(zb1 22 0 0 (g (zdg 12 0 (f s)))).code.length) ⟨Or.inr rfl,by rw [zah];omega⟩;exact h8.cong (fun k=>⟨False.elim,fun h=>by simp only [false_or] at h;omega⟩)
theorem z6g {us:Int} {f g:Wrt->Wrt} (hf:zed us f) (hg:zed us g):zed us (orW f g):=fun s=>by
 have h5:=(((hf s).jump 12 (by decide)).put 1 1 0 (by decide)).jump 11 (by decide);have h6:=h5.land (k:=(f s).code.length) (Or.inl (Or.inr rfl));have h7:=(h6.then (hg _)).put 22 0 0 (by decide);have h8:=h7.land (k:=(zb1 1 1 0 (zdg 12 0 (f s))).code.length) ⟨Or.inr rfl,by rw [zah,zas];omega⟩;exact h8.cong (fun k=>⟨False.elim,fun h=>by simp only [false_or] at h;omega⟩)
theorem z6h {us:Int} {f g h:Wrt->Wrt} (hf:zed us f) (hg:zed us g) (hh:zed us h) (e:Bool):zed us (brW f g h e):=fun s=>by
 have h3:=((hf s).jump 12 (by decide)).then (hg _);have hl:=(hg (zdg 12 0 (f s))).le;rw [zas] at hl;unfold brW;simp only;split
 . exact (h3.land (k:=(f s).code.length) (Or.inr rfl)).cong (fun k=>⟨False.elim,fun h=>by simp only [false_or] at h;omega⟩)
 . have h5:=(h3.jump 11 (by decide)).land (k:=(f s).code.length) (Or.inl (Or.inr rfl))
   have h8:=(h5.then (hh _)).land (k:=(g (zdg 12 0 (f s))).code.length) ⟨Or.inr rfl,by omega⟩;exact h8.cong (fun k=>⟨False.elim,fun h=>by simp only [false_or] at h;omega⟩)
theorem z6i {us:Int} {f g:Wrt->Wrt} (hf:zed us f) (hg:zed us g):zed us (whW f g):=fun s=>by
 have h3:=((((hf s).jump 12 (by decide)).put 16 0 0 (by decide)).then (hg _)).back 11 (by decide);exact (h3.land (k:=(f s).code.length) (Or.inr rfl)).cong (fun k=>⟨False.elim,fun h=>by simp only [false_or] at h;omega⟩)
structure Sane (c:Ck):Prop where
 hn:∀ m at_ n:Int,1<=n->numB c m at_ n=true->(0<=at_/\at_<=2048)/\(0<=m/\m<=c.uses)
 hp:∀ m at_ k:Int,zk0 c m at_ k=true->(0<=at_/\at_<=2048)/\(0<=m/\m<=c.uses)
 hl:c.locals<=64
theorem z6j {c:Ck} (hc:Sane c):∀ (k:Nat) (x:Nd),za5 c x=true->zhd c k x.args=true->zed c.uses (ndW (k+1) x):=by
 have key:∀ (k:Nat) (x:Nd),za5 c x=true->(∀ y ∈ x.args,zed c.uses (ndW k y))->zed c.uses (ndW (k+1) x):=by
  intro k x hx hN s;obtain ⟨op,n,m,at_,args⟩:=x
  have hA:∀ i,zed c.uses (ndW k (argN args i)):=fun i s=>by
   by_cases hi:i<args.length
   . rw [zhu _ _ hi];exact hN _ (vap hi) s
   . have:argN args i=nd0:=by simp [argN,vbl,vbs (Nat.le_of_not_lt hi)]
     rw [this]
     cases k with
     | zero=>exact Adds.refl s
     | succ k=>exact (Adds.refl s).put 10 0 0 (by decide)
  rw [ndW_succ];unfold ndStep
  by_cases e1:op=1
  . subst e1
    have hx':(decide (args.length=0)&&(decide (0<=n/\n<=1099511627775)&&(decide (m=0)&&decide (at_=0))))=true:=hx;simp only [vad,decide_eq_true_eq] at hx';rw [if_pos rfl];exact (Adds.refl s).put _ _ _ (by omega)
  rw [if_neg e1]
  by_cases e2:op=2
  . rw [if_pos e2];exact (Adds.refl s).put _ _ _ (by decide)
  rw [if_neg e2]
  by_cases e3:op=16
  . subst e3
    have:=hc.hl;have hx':(decide (args.length=0)&&(decide (n=0)&&(decide (m=0)&&zym c at_)))=true:=hx;simp only [zym,vad,decide_eq_true_eq] at hx';rw [if_pos rfl];exact (Adds.refl s).put _ _ _ (by omega)
  rw [if_neg e3]
  by_cases e4:op=3
  . subst e4
    have hx':(decide (args.length=0)&&(decide (n=0)&&numB c m at_ 1))=true:=hx;simp only [vad] at hx';rw [if_pos rfl];have:=hc.hn _ _ _ (by decide) hx'.2.2;exact (Adds.refl s).fix _ _ _ _ _ (Or.inr rfl) (by omega) this.2
  rw [if_neg e4]
  by_cases e5:op=4
  . subst e5
    have hx':(decide (args.length=1)&&(decide (1<=n/\n<=32)&&numB c m at_ n))=true:=hx;simp only [vad,decide_eq_true_eq] at hx';rw [if_pos rfl];have:=hc.hn _ _ _ hx'.2.1.1 hx'.2.2;exact ((hA 0 s).fix _ _ _ _ _ (Or.inr rfl) (by omega) this.2).put _ _ _ (by decide)
  rw [if_neg e5]
  by_cases e6:op=5
  . subst e6
    have hx':(decide (n=0)&&zk0 c m at_ args.length)=true:=hx;simp only [vad] at hx';rw [if_pos rfl];have:=hc.hp _ _ _ hx'.2;exact (zla hN s).fix _ _ _ _ _ (Or.inl rfl) (by omega) this.2
  rw [if_neg e6];have hl:=zt7 hx e1 e3 e4 e5 e6
  by_cases e7:op=6
  . rw [if_pos e7];exact (hA 0 s).put _ _ _ (by decide)
  rw [if_neg e7]
  by_cases e8:op=7
  . rw [if_pos e8];exact z3f (hA 0) (hA 1) s
  rw [if_neg e8]
  by_cases e9:op=8
  . rw [if_pos e9];exact z6g (hA 0) (hA 1) s
  rw [if_neg e9];refine (zla hN s).put _ _ _ ?_;unfold argsOf at hl;rw [if_neg e2,if_neg e7] at hl
  split at hl<;>omega
 intro k
 induction k with
 | zero=>intro x h1 h2;exact key 0 x h1 (fun y hy s=>Adds.refl s)
 | succ k ih=>
   intro x h1 h2;refine key (k+1) x h1 (fun y hy=>?_);rw [show zhd c (k+1) x.args=x.args.all (fun x=>za5 c x&&zhd c k x.args) from rfl,vax] at h2;have h4:=h2 y hy;rw [vad] at h4;exact ih y h4.1 h4.2
theorem zuc {c:Ck} (hc:Sane c):∀ (k:Nat) (l:List Ac),zfm c k l=true->∀ y ∈ l,zed c.uses (acW k y)
 | 0,l,h=>by simp [zfm] at h
 | k + 1,l,h=>fun y hy s=>by
   obtain ⟨h1,h2,h3,h4⟩:=zz1 h hy;obtain ⟨op,n,m,at_,args,body,other⟩:=y;obtain ⟨⟨o1,o7⟩,l2,l1⟩:=zl9 h1;simp only [Ac.args,Ac.body,Ac.other] at h2 h3 h4
   have hN:∀ z ∈ args,zed c.uses (ndW 6 z):=fun z hz=>by
    rw [show zhd c 6 args=args.all (fun x=>za5 c x&&zhd c 5 x.args) from rfl,vax] at h2;have h5:=h2 z hz;rw [vad] at h5;exact z6j hc 5 z h5.1 h5.2
   have hA:∀ i,i<args.length->zed c.uses (ndW 6 (argN args i)):=fun i hi=>by
    rw [zhu _ _ hi];exact hN _ (vap hi)
   have nil:∀ (q:List Ac),q.length=0->zed c.uses (zd8 (acW k) q):=fun q hq s=>by
    rw [vao hq];exact Adds.refl s
   have hB:zed c.uses (zd8 (acW k) body):=by
    rcases h3 with h3 | h3
    . exact zlb (zuc hc k _ h3)
    . exact nil _ h3
   have hO:zed c.uses (zd8 (acW k) other):=by
    rcases h4 with h4 | h4
    . exact zlb (zuc hc k _ h4)
    . exact nil _ h4
   rw [zqe];unfold zv2
   by_cases e3:op=3
   . subst e3
     have h1':(decide (n=0)&&zk0 c m at_ args.length)=true:=h1;simp only [vad] at h1';have:=hc.hp _ _ _ h1'.2;simp only [show ¬ ((3:Int)=1) from by decide,show ¬ ((3:Int)=2) from by decide,if_true,if_false];exact ((zla hN s).fix _ _ _ _ _ (Or.inl rfl) (by omega) this.2).put _ _ _ (by decide)
   have hl0:0<args.length:=by
    by_cases e2:op=2
    . have:=l2 e2;omega
    . have:=l1 e2 e3;omega
   have h0:=hA 0 hl0
   by_cases e1:op=1
   . subst e1
     have h1':(decide (args.length=1)&&(decide (n=0)&&(if m = -1 then zym c at_ else numB c m at_ 1)))=true:=h1;rw [vad,vad] at h1';have h5:=h1'.2.2;rw [if_pos rfl];unfold z5t;split
     . rename_i em
       rw [if_pos em] at h5;have:=hc.hl;simp only [zym,decide_eq_true_eq] at h5;exact (h0 s).put _ _ _ (by omega)
     . rename_i em
       rw [if_neg em] at h5;have:=hc.hn _ _ _ (by decide) h5;exact (h0 s).fix _ _ _ _ _ (Or.inr rfl) (by omega) this.2
   rw [if_neg e1]
   by_cases e2:op=2
   . subst e2
     have h7:=hA 1 (by have:=l2 rfl;omega);have h1':(decide (args.length=2)&&(decide (1<=n/\n<=32)&&numB c m at_ n))=true:=h1;simp only [vad,decide_eq_true_eq] at h1';have:=hc.hn _ _ _ h1'.2.1.1 h1'.2.2;rw [if_pos rfl];exact (((h0 s).fix _ _ _ _ _ (Or.inr rfl) (by omega) this.2).then (h7 _)).put _ _ _ (by decide)
   rw [if_neg e2,if_neg e3]
   by_cases e4:op=4
   . rw [if_pos e4];exact z6h h0 hB hO _ s
   rw [if_neg e4]
   by_cases e5:op=5
   . rw [if_pos e5];exact z6i h0 hB s
   rw [if_neg e5]
   by_cases e6:op=6
   . rw [if_pos e6];exact (h0 s).put _ _ _ (by decide)
   rw [if_neg e6]
   by_cases e7:op=7
   . rw [if_pos e7];exact (h0 s).put _ _ _ (by decide)
   rw [if_neg e7];exact Adds.refl s
theorem zsf {c:Ck} (hc:Sane c) (p:Pt) (h:zfm c 6 p.body=true) (hp:ptB p=true) (s:Wrt):∃ t,Adds c.uses (fun _=>False) s t/\s.code.length<t.code.length/\zrh p s=zb1 15 0 0 (zb1 1 0 0 t):=by
 unfold ptB at hp;simp only [vad,decide_eq_true_eq] at hp;have h1:=(Adds.refl (us:=c.uses) s).put 14 p.params p.locals (by omega);have h2:=zlb (zuc hc 6 p.body h) (zb1 14 p.params p.locals s);have:=h2.le;rw [zah] at this;exact ⟨_,h1.then h2,by omega,rfl⟩
end Go.Proofs.YtndkhgakfodldaaGreatDoor

namespace Go.Proofs.YtndkhgakfodldaaGreatDoor
set_option maxRecDepth 100000
open Go.RowKit Go.Maps Go.WideMaps
set_option linter.unusedSimpArgs false
set_option linter.unusedVariables false
def intV (l:List Int):List Value:=l.map (Value.int .i64 ·)
theorem zmc (l:List Int) (x:Int):intV (l++[x])=intV l++[.int .i64 x]:=by simp [intV]
def Ent (B:Nat) (v:Value) (es:List Int) (E:List (Nat × Obj)):Prop:=
 (es=[]/\v = .slice none 0 0/\E=[])\/∃ g cap cur,v = .slice (some ⟨g,0,none⟩) es.length cap/\E=[(g,.cells cur 3)]/\B<=g/\es.length<=cap/\cap<=maxLen/\cur.size=cap*1/\cur.toList.take (es.length*1)=intV es
def Wre (w0 w:World) (R:Nat) (K:List (Nat × Obj)) (s:Wrt) (v:Value) (es:List Int):Prop:=∃ E,Ent w0.heap.size v es E/\Wri w0 w R (E++K) s/\∀ x ∈ K,v.ownBlock≠some x.1
section
variable {w0 w w':World} {R:Nat} {K:List (Nat × Obj)} {s:Wrt} {v:Value} {es:List Int}
theorem Wre.start (h:Wri w0 w R K s):Wre w0 w R K s (.slice none 0 0) []:=⟨[],Or.inl ⟨rfl,rfl,rfl⟩,h,fun x _ e=>by simp [Value.ownBlock] at e⟩
theorem Wre.own (h:Wre w0 w R K s v es):w.ownsRow w0.heap.size 3 1 v es.length (intV es):=by
 obtain ⟨E,hE,hw,_⟩:=h;refine ⟨by simp [intV],?_⟩
 rcases hE with ⟨h1,h2,_⟩ | ⟨g,cap,cur,hv,hE,hB,h3,h4,h5,h6⟩
 . exact Or.inl ⟨h2,by rw [h1];rfl⟩
 . subst hE
   exact Or.inr ⟨g,cap,cur,hv,hB,hw.head,h3,h4,h5,h6⟩
theorem Wre.form (h:Wre w0 w R K s v es):∃ a cap,v = .slice a es.length cap/\es.length<=cap/\cap<=maxLen:=zau h.own
theorem Wre.wri (h:Wre w0 w R K s v es):Wri w0 w R K s:=by
 obtain ⟨E,_,hw,_⟩:=h;exact hw.sub (fun x hx=>vck _ hx)
theorem Wre.later (h:Wre w0 w R K s v es) (hb:Below w.heap.size w w'):Wre w0 w' R K s v es:=by
 obtain ⟨E,hE,hw,hx⟩:=h;exact ⟨E,hE,hw.later hb,hx⟩
theorem Wre.alloc (h:Wre w0 w R K s v es) (o:Obj):Wre w0 (w.alloc o) R K s v es:=h.later ((Below.refl _ _).alloc (vaa _) o)
theorem Wre.box (h:Wre w0 w R K s v es) (o:Obj):Wre w0 (w.alloc o) R ((w.heap.size,o) :: K) s v es:=by
 have hown:=h.own;obtain ⟨E,hE,hw,hx⟩:=h;refine ⟨E,hE,(hw.box o).sub (fun x hx=>?_),fun x hm=>?_⟩
 . rcases vcf.1 hx with h1 | h1
   . exact vaf _ (vdt _ h1)
   . rcases vcm.1 h1 with rfl | h1
     . exact vam ..
     . exact vaf _ (vck _ h1)
 . rcases vcm.1 hm with rfl | hm
   . intro e
     have:=(hown.lt _ e).2;simp only at this;omega
   . exact hx x hm
theorem Wre.tail {x:Nat × Obj} (h:Wre w0 w R (x :: K) s v es):Wre w0 w R K s v es:=by
 obtain ⟨E,hE,hw,hx⟩:=h;refine ⟨E,hE,hw.sub (fun y hy=>?_),fun y hy=>hx y (vaf _ hy)⟩
 rcases vcf.1 hy with h1 | h1
 . exact vdt _ h1
 . exact vck _ (vaf _ h1)
theorem Wre.call {P:Program} {f:FuncId} {args:Array Value} {s':Wrt} (h:Wre w0 w R K s v es) (hc:∀ K',Wri w0 w R K' s->Calls P f args w fun e w'=>e = .returned (.tuple #[])/\Wri w0 w' R K' s') :
 Calls P f args w fun e w'=>e = .returned (.tuple #[])/\Wre w0 w' R K s' v es:=by
 obtain ⟨E,hE,hw,hx⟩:=h;exact (hc _ hw).mono (fun e w' h=>⟨h.1,E,hE,h.2,hx⟩)
theorem Wre.onto {x:Int} {g cap:Nat} (h:Wre w0 w R K s v es) (ho:Onto w w' w0.heap.size 3 1 v es.length g cap (intV es++[.int .i64 x])) :
 Wre w0 w' R K s (.slice (some ⟨g,0,none⟩) (es.length+1) cap) (es++[x]):=by
 have hown:=h.own;obtain ⟨E,hE,⟨hl,cv,fv,hw⟩,hx⟩:=h
 have hv:∀ k,v.ownBlock=some k->k≠R/\cv.ownBlock≠some k/\fv.ownBlock≠some k:=fun k hk=>by
  rcases hE with ⟨_,h2,_⟩ | ⟨g',cap',cur,hv,hE,_⟩
  . rw [h2] at hk;simp [Value.ownBlock] at hk
  . subst hE
    rw [hv] at hk;simp only [Value.ownBlock,vbh] at hk;subst hk;obtain ⟨_,h2,h3,h4⟩:=hw.kp (g',.cells cur 3) (vdt _ (vam ..));exact ⟨h2,h3,h4⟩
 have hnew:∀ k,k<w.heap.size->v.ownBlock≠some k->g≠k:=fun k hk hne e=>by
  rcases ho.at_ with h1 | h1
  . exact hne (by rw [h1,e])
  . omega
 rcases ho.own.2 with ⟨h1,_⟩ | ⟨g',cap',cur,hv',hB,hg,h3,h4,h5,h6⟩
 . cases h1
 cases hv'
 have hcv:∀ k,cv.ownBlock=some k->v.ownBlock≠some k:=fun k h1 h2=>(hv k h2).2.1 h1
 have hfv:∀ k,fv.ownBlock=some k->v.ownBlock≠some k:=fun k h1 h2=>(hv k h2).2.2 h1
 have keep:∀ k,k<w.heap.size->v.ownBlock≠some k->w'.heap[k]? = w.heap[k]?:=fun k hk hne=>
  (ho.old k _ (vci hk) hne).trans (vci hk).symm
 refine ⟨[(g,.cells cur 3)],Or.inr ⟨g,cap,cur,by rw [vab];rfl,rfl,hB,by rw [vab];exact h3,h4,h5,by rw [vab,zmc];exact h6⟩,⟨hl,cv,fv,?_⟩,fun y hy e=>?_⟩
 . exact {
    blk:=(keep R hw.ltR (fun e=>(hv R e).1 rfl)).trans hw.blk
    hR:=hw.hR
    code:=zbd hw.code (fun k hk=>keep k (hw.code.lt k hk).2 (hcv k hk))
    fix:=zbd hw.fix (fun k hk=>keep k (hw.fix.lt k hk).2 (hfv k hk))
    apt:=hw.apt
    nc:=hw.nc
    nf:=hw.nf
    below:=hw.below.trans ho.below
    kp :=fun y hy=>by
     rcases vcf.1 hy with h7 | h7
     . rw [vcd] at h7
       subst h7;refine ⟨hg,hnew R hw.ltR (fun e=>(hv R e).1 rfl),fun e=>?_,fun e=>?_⟩
       . exact hnew g (hw.code.lt g e).2 (hcv g e) rfl
       . exact hnew g (hw.fix.lt g e).2 (hfv g e) rfl
     . obtain ⟨k1,k2,k3,k4⟩:=hw.kp y (vck _ h7)
       exact ⟨ho.old _ _ k1 (hx y h7),k2,k3,k4⟩}
 . have k1:=(hw.kp y (vck _ hy)).1
   simp only [Value.ownBlock,vbh] at e;exact hnew y.1 (zab k1) (hx y hy) e
end
set_option maxHeartbeats 3200000
theorem zgi (l:List ByteArray) (x:ByteArray) (a:OA) (cap:Nat) (w:World) (h:DAt w Tt a l.length (zao l)) :
 Calls Tryz.prog 76 #[.slice a l.length cap,.string x] w fun e w'=>e = .returned (.bool (Go.Lib.containsS l x))/\w'=w:=by
 have hb:=h.bound
 rcases (zef h).1 with rfl | ⟨b,off,rfl,_,hc⟩
 . have:Go.Lib.containsS [] x=false:=by
    cases hq:Go.Lib.containsS [] x with
    | false=>rfl
    | true=>have:=(Go.Lib.containsS_iff [] x).1 hq;simp at this
   rw [this];exact Tryz.slices_Contains_string_empty a cap x w
 . have:=Tryz.slices_Contains_string b off l.length cap l x w (vaa _) (by omega) (fun j hj=>by rw [hc j hj];simp [vbl,hj])
   rw [vaz] at this;exact this
def zkp (w:World) (u:Un) (e:Ending) (w':World):Prop:=
 match zxl u with
 | .error c=>e = .returned (.tuple #[.agg #[.string ⟨#[]⟩,.slice none 0 0,.int .i64 0,.slice none 0 0,.slice none 0 0,.slice none 0 0,.int .i64 0],.int .i64 c])
 | .ok o=>∃ ua uc ca cc fa fc ea ec,e = .returned (.tuple #[.agg #[.string o.name,.slice ua o.uses.length uc,.int .i64 o.data,.slice ca o.code.length cc,.slice fa o.fixes.length fc,.slice ea o.entries.length ec,.int .i64 o.main],.int .i64 0])/\
  w'.ownsRow w.heap.size 9 1 (.slice ua o.uses.length uc) o.uses.length (strV o.uses)/\w'.ownsRow w.heap.size 69 3 (.slice ca o.code.length cc) o.code.length (zln o.code)/\
  w'.ownsRow w.heap.size 67 3 (.slice fa o.fixes.length fc) o.fixes.length (ztc o.fixes)/\w'.ownsRow w.heap.size 3 1 (.slice ea o.entries.length ec) o.entries.length (intV o.entries)
theorem zz4 {B:Nat} {w w':World} {b:Nat} (h:Below B w w') (hb:B<=b) (v0 v1 v2 v3 v4 v5 v6:Value) :
 Below B w (((((((w'.setCell ⟨b,0,none⟩ v0).setCell ⟨b,1,none⟩ v1).setCell ⟨b,2,none⟩ v2).setCell ⟨b,3,none⟩ v3).setCell ⟨b,4,none⟩ v4).setCell ⟨b,5,none⟩ v5).setCell ⟨b,6,none⟩ v6):=
 (((((((h.setCell (p:=⟨b,0,none⟩) hb v0).setCell (p:=⟨b,1,none⟩) hb v1).setCell (p:=⟨b,2,none⟩) hb v2).setCell (p:=⟨b,3,none⟩) hb v3).setCell (p:=⟨b,4,none⟩) hb v4).setCell (p:=⟨b,5,none⟩) hb v5).setCell (p:=⟨b,6,none⟩) hb v6)
theorem z3g (u:Un) (x1:OA) (y1:Nat) (x2:OA) (y2:Nat) (x3:OA) (y3:Nat) (w:World) (hU:UvAt w u x1 y1 x2 y2 x3 y3) (hc:(Go.Lib.containsS u.uses u.name || !zf0 u zj7 zjx)=true) :
 Calls Tryz.prog 31 #[.agg #[.string u.name,.slice x1 u.uses.length y1,.int .i64 u.data,.slice x2 u.parts.length y2,.slice x3 u.main.length y3]] w fun e w'=>zkp w u e w'/\Below w.heap.size w w':=by
 have HG:Hid (zxl u = .error 1):=if_pos hc;have HB2:Hid (Below w.heap.size w ((w.alloc (.cells #[.string u.name,.slice x1 u.uses.length y1,.int .i64 u.data,.slice x2 u.parts.length y2,.slice x3 u.main.length y3] 42)).alloc (.cells #[.string ⟨#[]⟩,.slice none 0 0,.int .i64 0,.slice none 0 0,.slice none 0 0,.slice none 0 0,.int .i64 0] 62))):=((Below.refl _ _).alloc (vaa _) _).alloc (by simp) _;have HC:=hid (zgi u.uses u.name x1 y1 _ (hU.later HB2.out).uses);have HH:=hid (zse u x1 y1 x2 y2 x3 y3 _ (hU.later HB2.out));have hb1:=hU.uses.bound
 cases hq:Go.Lib.containsS u.uses u.name with
 | true=>
   rw [hq] at HC;clear hc hU HH hq;go_enter Tryz.func31,Tryz.ntmps31;go_wp2_with fail;refine HC.out.mono ?_;rintro e w' ⟨rfl,rfl⟩;go_wp2_with fail;refine bodyPost_ret (v:=.tuple #[.agg #[.string ⟨#[]⟩,.slice none 0 0,.int .i64 0,.slice none 0 0,.slice none 0 0,.slice none 0 0,.int .i64 0],.int .i64 1]) (by simp [results,Tryz.results31,go_sem]) rfl ⟨by unfold zkp;rw [HG.out],?_⟩;exact HB2.out
 | false=>
   rw [hq] at HC hc
   have hh:zf0 u zj7 zjx=false:=by simpa using hc
   rw [hh] at HH;clear hc hU hq hh;go_enter Tryz.func31,Tryz.ntmps31;go_wp2_with fail;refine HC.out.mono ?_;rintro e w' ⟨rfl,rfl⟩;go_wp2_with fail;refine HH.out.mono ?_;rintro e w3 ⟨rfl,hb3⟩;have HB3:=hid (thenB HB2.out hb3)
   have hk:w3.heap[w.heap.size+1]? = some (.cells #[.string ⟨#[]⟩,.slice none 0 0,.int .i64 0,.slice none 0 0,.slice none 0 0,.slice none 0 0,.int .i64 0] 62):=by
    have h1:=heap_newP (w.alloc (.cells #[.string u.name,.slice x1 u.uses.length y1,.int .i64 u.data,.slice x2 u.parts.length y2,.slice x3 u.main.length y3] 42)) (.cells #[.string ⟨#[]⟩,.slice none 0 0,.int .i64 0,.slice none 0 0,.slice none 0 0,.slice none 0 0,.int .i64 0] 62);rw [vdd] at h1;exact (hb3.block (w.heap.size+1) (by simp)).trans h1
   obtain ⟨q0,q1,q2,q3,q4,q5,q6,qz⟩:=zaj hk;have hlt:=zab hk
   have hf:∀ j,w3.frozen? ⟨w.heap.size+1,j,none⟩=false:=fun j=>vep hk j
   clear hb3 hk;go_wp2_with fail;refine bodyPost_ret (v:=.tuple #[.agg #[.string ⟨#[]⟩,.slice none 0 0,.int .i64 0,.slice none 0 0,.slice none 0 0,.slice none 0 0,.int .i64 0],.int .i64 1]) (by simp [results,Tryz.results31,go_sem,q0,q1,q2,q3,q4,q5,q6,hlt]) rfl ⟨by unfold zkp;rw [HG.out],?_⟩;exact zz4 HB3.out (by omega) _ _ _ _ _ _ _
set_option maxHeartbeats 6400000
theorem Tryz.infoInt:(Tryz.prog.info? 3).map (fun i=>(i.zero,i.size,i.bytes))=some (some (.int .i64 0),1,8):=by kernel_rfl
theorem Wri.new {w0 w:World} {K:List (Nat × Obj)} (hb:Below w0.heap.size w0 w) (hK:∀ x ∈ K,w.heap[x.1]? = some x.2):Wri w0 (w.alloc (.cells #[.slice none 0 0,.slice none 0 0] 136)) w.heap.size K wr0:=
 ⟨vaa _,_,_,{
  blk:=heap_newP _ _
  hR:=hb.size
  code:=ves _ _ _ _
  fix:=ves _ _ _ _
  apt:=Apt.nil _
  nc:=fun e=>by simp [Value.ownBlock] at e
  nf:=fun e=>by simp [Value.ownBlock] at e
  below:=hb.alloc hb.size _
  kp:=fun x hx=>⟨zae (hK x hx),fun e=>by have:=zab (hK x hx);omega,fun e=>by simp [Value.ownBlock] at e,fun e=>by simp [Value.ownBlock] at e⟩}⟩
theorem zj8 {u:Un} (h:zeg u=true):u.uses.length<=3:=by
 unfold zeg at h;rw [vad] at h;exact (zga (zq4 (of_decide_eq_true h.1))).1
theorem z9c {W:World} {B:Nat} {e:TypeId} {sz:Nat} {v:Value} {n:Nat} {xs:List Value} {b:Nat} (h:W.ownsRow B e sz v n xs) (hb:v.ownBlock≠some b) (v0 v1 v2 v3 v4 v5 v6:Value) :
 (((((((W.setCell ⟨b,0,none⟩ v0).setCell ⟨b,1,none⟩ v1).setCell ⟨b,2,none⟩ v2).setCell ⟨b,3,none⟩ v3).setCell ⟨b,4,none⟩ v4).setCell ⟨b,5,none⟩ v5).setCell ⟨b,6,none⟩ v6).ownsRow B e sz v n xs:=by
 refine zbd h (fun k hk=>?_)
 have hne:k≠b:=fun e=>hb (by rw [hk,e])
 rw [zac (p:=⟨b,6,none⟩) hne,zac (p:=⟨b,5,none⟩) hne,zac (p:=⟨b,4,none⟩) hne,zac (p:=⟨b,3,none⟩) hne,zac (p:=⟨b,2,none⟩) hne,zac (p:=⟨b,1,none⟩) hne,zac (p:=⟨b,0,none⟩) hne]
theorem zcp {W:World} {B B':Nat} {e:TypeId} {sz:Nat} {v:Value} {n:Nat} {xs:List Value} (h:W.ownsRow B e sz v n xs) (hb:B'<=B):W.ownsRow B' e sz v n xs:=by
 refine ⟨h.1,?_⟩
 rcases h.2 with h1 | ⟨g,cap,cur,hv,hB,hr⟩
 . exact Or.inl h1
 . exact Or.inr ⟨g,cap,cur,hv,vai hb hB,hr⟩
theorem Wre.has {w0 w:World} {R:Nat} {K:List (Nat × Obj)} {s:Wrt} {v:Value} {es:List Int} (h:Wre w0 w R K s v es) {b:Nat} {o:Obj} (hx:(b,o) ∈ K):w.heap[b]? = some o:=h.wri.has hx
theorem z8f (u:Un) (x1:OA) (y1:Nat) (x2:OA) (y2:Nat) (x3:OA) (y3:Nat) (w:World) (hU:UvAt w u x1 y1 x2 y2 x3 y3) (hc:Go.Lib.containsS u.uses u.name=false) (hh:zf0 u zj7 zjx=true) :
 Calls Tryz.prog 31 #[.agg #[.string u.name,.slice x1 u.uses.length y1,.int .i64 u.data,.slice x2 u.parts.length y2,.slice x3 u.main.length y3]] w fun e w'=>zkp w u e w'/\Below w.heap.size w w':=by
 have HB2:Hid (Below w.heap.size w ((w.alloc (.cells #[.string u.name,.slice x1 u.uses.length y1,.int .i64 u.data,.slice x2 u.parts.length y2,.slice x3 u.main.length y3] 42)).alloc (.cells #[.string ⟨#[]⟩,.slice none 0 0,.int .i64 0,.slice none 0 0,.slice none 0 0,.slice none 0 0,.int .i64 0] 62))):=((Below.refl _ _).alloc (vaa _) _).alloc (by simp) _;have HC:=hid (zgi u.uses u.name x1 y1 _ (hU.later HB2.out).uses);have HH:=hid (zse u x1 y1 x2 y2 x3 y3 _ (hU.later HB2.out));have hb1:=hU.uses.bound;have hbp:=hU.parts.bound;have HU:=hid hU;have HL:=hid (fun j hj=>zmb hh j hj);have HP:=hid (zb7 hh);have h6:=zi4 HP.out.2.2;have hu3:u.uses.length<=3:=zj8 HP.out.2.2;have HE:=hid (zua hh)
 have HNe:Hid (¬ (Go.Lib.containsS u.uses u.name || !zf0 u zj7 zjx)=true):=by show ¬ _;rw [hc,hh];decide
 rw [hc] at HC;rw [hh] at HH;clear hc hh hU;go_enter Tryz.func31,Tryz.ntmps31;go_wp2_with fail;refine HC.out.mono ?_;rintro e w' ⟨rfl,rfl⟩;go_wp2_with fail;refine HH.out.mono ?_;rintro e w3 ⟨rfl,hb3⟩
 have HK:Hid (∀ x ∈ [(w.heap.size,(.cells #[.string u.name,.slice x1 u.uses.length y1,.int .i64 u.data,.slice x2 u.parts.length y2,.slice x3 u.main.length y3] 42)),(w.heap.size+1,(.cells #[.string ⟨#[]⟩,.slice none 0 0,.int .i64 0,.slice none 0 0,.slice none 0 0,.slice none 0 0,.int .i64 0] 62))],w3.heap[x.1]? = some x.2):=fun x hx=>by
  have h1:=heap_newP (w.alloc (.cells #[.string u.name,.slice x1 u.uses.length y1,.int .i64 u.data,.slice x2 u.parts.length y2,.slice x3 u.main.length y3] 42)) (.cells #[.string ⟨#[]⟩,.slice none 0 0,.int .i64 0,.slice none 0 0,.slice none 0 0,.slice none 0 0,.int .i64 0] 62);rw [vdd] at h1;have h2:((w.alloc (.cells #[.string u.name,.slice x1 u.uses.length y1,.int .i64 u.data,.slice x2 u.parts.length y2,.slice x3 u.main.length y3] 42)).alloc (.cells #[.string ⟨#[]⟩,.slice none 0 0,.int .i64 0,.slice none 0 0,.slice none 0 0,.slice none 0 0,.int .i64 0] 62)).heap[w.heap.size]? = some (.cells #[.string u.name,.slice x1 u.uses.length y1,.int .i64 u.data,.slice x2 u.parts.length y2,.slice x3 u.main.length y3] 42):=zae (heap_newP w (.cells #[.string u.name,.slice x1 u.uses.length y1,.int .i64 u.data,.slice x2 u.parts.length y2,.slice x3 u.main.length y3] 42))
  rcases vcm.1 hx with rfl | hx
  . exact (hb3.block w.heap.size (by simp;omega)).trans h2
  . rw [vcd] at hx
    subst hx;exact (hb3.block (w.heap.size+1) (by simp)).trans h1
 have HW:=hid (Wri.new (thenB HB2.out hb3) HK.out);obtain ⟨u0,u1,u2,u3,u4,uf⟩:=zad (HK.out (w.heap.size,(.cells #[.string u.name,.slice x1 u.uses.length y1,.int .i64 u.data,.slice x2 u.parts.length y2,.slice x3 u.main.length y3] 42)) (vam ..));have hlu:=zab (HK.out (w.heap.size,(.cells #[.string u.name,.slice x1 u.uses.length y1,.int .i64 u.data,.slice x2 u.parts.length y2,.slice x3 u.main.length y3] 42)) (vam ..));clear hb3;go_wp2_with fail;clear u0 u1 u2 u3 u4 uf hlu;generalize hR:w3.heap.size=R at *;generalize hw4:w3.alloc (.cells #[.slice none 0 0,.slice none 0 0] 136)=w4 at *
 go_loopw [5,28] (fun v i wr=>∃ j:Nat,j<=u.parts.length/\i = .int .i64 j/\Wre w wr R [(w.heap.size,(.cells #[.string u.name,.slice x1 u.uses.length y1,.int .i64 u.data,.slice x2 u.parts.length y2,.slice x3 u.main.length y3] 42)),(w.heap.size+1,(.cells #[.string ⟨#[]⟩,.slice none 0 0,.int .i64 0,.slice none 0 0,.slice none 0 0,.slice none 0 0,.int .i64 0] 62))] (zce (u.parts.take j)) v (zko u.parts j)) (fun _ i _=>u.parts.length - (intOf i).toNat)
 case atStart=>exact ⟨0,vae _,rfl,Wre.start HW.out⟩
 case round=>
  obtain ⟨j,hj,rfl,hw⟩:=hrel;have H1:=hid hw;obtain ⟨ea,ec,rfl, -, -⟩:=hw.form;rw [zec] at *;clear hw
  by_cases hlt:j<u.parts.length
  . obtain ⟨b,off,pa,pc,rfl,hx⟩:=HU.out.parts.pt j hlt
    have hB:=H1.out.wri.below;have hbl:b<wr.heap.size:=vah hx.lt hB.size;have z0:=(hB.cell (p:=⟨b,off+j*3,none⟩) hx.lt).trans hx.c0;have z1:=(hB.cell (p:=⟨b,off+j*3+1,none⟩) hx.lt).trans hx.c1;have z2:=(hB.cell (p:=⟨b,off+j*3+2,none⟩) hx.lt).trans hx.c2;have HA:=hid hx.body';have HT:=hid (zig u.parts j hlt);have HQ:=hid (HP.out.1 _ (vap hlt));have HS:=hid (HL.out (j+1) (by omega));have HS0:=hid (HL.out j hj);rw [HT.out] at HS;clear hx hB;generalize u.parts[j]=p at *;have HB:=hid (H1.out.box (.cells #[.int .i64 p.params,.int .i64 p.locals,.slice pa p.body.length pc] 106));have HBo:=hid HB.out.own;rw [zec] at HBo;go_wp2_with fail;refine (zhv HB.out.wri).mono ?_;rintro e w5 ⟨rfl,rfl⟩
    go_wp2_with (at_builtin;refine zw5 rfl (.tmp 32) (.tmp 35) 49 rfl w.heap.size 3 _ 1 8 Tryz.underlying49 Tryz.infoInt rfl (by decide) (wr.alloc (.cells #[.int .i64 p.params,.int .i64 p.locals,.slice pa p.body.length pc] 106)) (.slice ea j ec) j (intV (zko u.parts j)) rfl HBo.out #[.int .i64 (zce (u.parts.take j)).code.length] (wr.heap.size+1) (by simp) rfl rfl (by simp;rfl) (by omega) (by decide) HB.out.wri.below.size _ rfl ?_;intro g5 c5 w5 ho;have HO:=hid (HB.out.onto (x:=((zce (u.parts.take j)).code.length:Int)) (by rw [zec];exact ho));rw [zec,← zt9] at HO;obtain ⟨q0,q1,q2, -⟩:=zbm (HO.out.has (vam ..));clear ho)
    refine (HO.out.call (fun K' h=>zsd (cap:=pc) HQ.out HA.out h (by have:=HS.out;omega))).mono ?_;rintro e w6 ⟨rfl,h6'⟩;have H6:=hid h6';clear h6' q0 q1 q2;go_wp2_with fail;go_roundw
    case rel=>exact ⟨j+1,by omega,by go_num,by rw [HT.out];exact H6.out.tail⟩
    case measure=>simp [intOf];omega
  . obtain rfl:j=u.parts.length:=by omega
    rw [vaz] at H1;have HM0:=hid (HL.out _ (vaa _));rw [vaz] at HM0;obtain ⟨u0,u1,u2,u3,u4,uf⟩:=zad (H1.out.has (vam ..));go_wp2_with fail;refine (zhv H1.out.wri).mono ?_;rintro e w5 ⟨rfl,rfl⟩;go_wp2_with fail;refine (H1.out.call (fun K' h=>zsd (p:=⟨0,0,u.main⟩) (cap:=y3) HP.out.2.1 HU.out.main h (by have:=HE.out;unfold genS at this;omega))).mono ?_;rintro e w6 ⟨rfl,h6'⟩;have H6:Hid (Wre w w6 R [(w.heap.size,(.cells #[.string u.name,.slice x1 u.uses.length y1,.int .i64 u.data,.slice x2 u.parts.length y2,.slice x3 u.main.length y3] 42)),(w.heap.size+1,(.cells #[.string ⟨#[]⟩,.slice none 0 0,.int .i64 0,.slice none 0 0,.slice none 0 0,.slice none 0 0,.int .i64 0] 62))] (genS u) (.slice ea u.parts.length ec) (zko u.parts u.parts.length)):=h6';clear h6' u0 u1 u2 u3 u4 uf;go_wp2_with fail
    refine (zpm H6.out.wri).mono ?_
    cases hf:ziq (genS u) with
    | true=>
      rintro e w7 ⟨rfl,rfl⟩
      have HG:Hid (zxl u = .error 2):=by show _=_;unfold zxl;rw [if_neg HNe.out,if_pos hf]
      have hk:=H6.out.has (b:=w.heap.size+1) (vaf _ (vam ..));obtain ⟨q0,q1,q2,q3,q4,q5,q6,qz⟩:=zaj hk;have hlt':=zab hk
      have hfz:∀ j,w7.frozen? ⟨w.heap.size+1,j,none⟩=false:=fun j=>vep hk j
      have HB6:=hid H6.out.wri.below;clear hk hf;go_wp2_with fail;refine bodyPost_ret (v:=.tuple #[.agg #[.string ⟨#[]⟩,.slice none 0 0,.int .i64 0,.slice none 0 0,.slice none 0 0,.slice none 0 0,.int .i64 0],.int .i64 2]) (by simp [results,Tryz.results31,go_sem,q0,q1,q2,q3,q4,q5,q6,hlt']) rfl ⟨by unfold zkp;rw [HG.out],?_⟩;exact zz4 HB6.out (by omega) _ _ _ _ _ _ _
    | false=>
      rintro e w7 ⟨rfl,rfl⟩
      have HG:Hid (zxl u = .ok (zqh u)):=by show _=_;unfold zxl;rw [if_neg HNe.out,if_neg (by rw [hf];decide)]
      obtain ⟨u0,u1,u2,u3,u4,uf⟩:=zad (H6.out.has (vam ..));have hub:=zab (H6.out.has (vam ..));have hob:=H6.out.has (b:=w.heap.size+1) (vaf _ (vam ..));obtain ⟨v',w8,hr8,ho8,hg8⟩:=zck w7.heap.size 22 (.slice none 0 0) 0 [] (ves _ _ _ _) u.uses x1 y1 (zef (HU.out.later H6.out.wri.below).uses).1 (by omega) (vaa _);rw [vbq,vcw] at ho8;have hb8:Below w7.heap.size w7 w8:=(Below.refl _ w7).grown hg8 (vaa _) (fun k hk=>by simp [Value.ownBlock] at hk);have HO8:=hid ho8;have HRn:=hid hr8;have hE8:=H6.out.later hb8;obtain ⟨E,hE,⟨hfl,cv,fv,hA⟩,hxx⟩:=hE8;have hEn:=(H6.out.later hb8).own;rw [zec] at hEn
      have hob8:=(hA.kp (w.heap.size+1,(.cells #[.string ⟨#[]⟩,.slice none 0 0,.int .i64 0,.slice none 0 0,.slice none 0 0,.slice none 0 0,.int .i64 0] 62)) (vck _ (vaf _ (vam ..))))
      have hub8:=(hA.kp (w.heap.size,(.cells #[.string u.name,.slice x1 u.uses.length y1,.int .i64 u.data,.slice x2 u.parts.length y2,.slice x3 u.main.length y3] 42)) (vck _ (vam ..))).1;have HNe8:=hid (hxx (w.heap.size+1,(.cells #[.string ⟨#[]⟩,.slice none 0 0,.int .i64 0,.slice none 0 0,.slice none 0 0,.slice none 0 0,.int .i64 0] 62)) (vaf _ (vam ..)))
      have HNo:Hid (v'.ownBlock≠some (w.heap.size+1)):=fun e=>by
       have h1:=(HO8.out.lt _ e).1;have h2:=zab hob;omega
      have HAt:=hid hA;have HEn:=hid hEn;have HOb:=hid hob8;obtain ⟨ua,uc,rfl, -⟩:=zjh ho8;obtain ⟨ca,cc,rfl, -, -⟩:=zau hA.code;obtain ⟨fa,fc,rfl, -, -⟩:=zau hA.fix;obtain ⟨c0,c1, -⟩:=HAt.out.cells;have hRl:=HAt.out.ltR;obtain ⟨q0,q1,q2,q3,q4,q5,q6,qz⟩:=zaj hob8.1
      have hfz:∀ j,w8.frozen? ⟨w.heap.size+1,j,none⟩=false:=fun j=>vep hob8.1 j
      have hlo:=zab hob8.1;clear hb8 ho8 hg8 hr8 hf hE hfl hA hxx hEn hob hob8
      go_wp2_with (at_builtin;refine Lib.wpList_append_run _ rfl _ _ _ _ rfl _ _ rfl rfl _ w8 HRn.out ?_)
      clear u0 u1 u2 u3 u4 uf hub;obtain ⟨u0,u1,u2,u3,u4,uf⟩:=zad hub8;have hub:=zab hub8;clear hub8;have HLe:Hid (w.heap.size<=w7.heap.size):=H6.out.wri.below.size
      go_region
      go_wp2_with fail;refine bodyPost_ret (v:=.tuple #[.agg #[.string u.name,.slice ua u.uses.length uc,.int .i64 u.data,.slice ca (genS u).code.length cc,.slice fa (genS u).fixes.length fc,.slice ea u.parts.length ec,.int .i64 (zce u.parts).code.length],.int .i64 0]) (by simp [results,Tryz.results31,go_sem,q0,q1,q2,q3,q4,q5,q6,hlo]) rfl ⟨?_,?_⟩
      . unfold zkp
        rw [HG.out];have hel:(zqh u).entries.length=u.parts.length:=zec ..;refine ⟨ua,uc,ca,cc,fa,fc,ea,ec,by rw [hel];rfl,?_,?_,?_,?_⟩
        . exact (zcp (z9c HO8.out HNo.out _ _ _ _ _ _ _) HLe.out).drew
        . exact (z9c HAt.out.code HOb.out.2.2.1 _ _ _ _ _ _ _).drew
        . exact (z9c HAt.out.fix HOb.out.2.2.2 _ _ _ _ _ _ _).drew
        . rw [hel]
          exact (z9c HEn.out HNe8.out _ _ _ _ _ _ _).drew
      . exact (zz4 HAt.out.below (by omega) _ _ _ _ _ _ _).drew
theorem z6k (u:Un) (x1:OA) (y1:Nat) (x2:OA) (y2:Nat) (x3:OA) (y3:Nat) (w:World) (hU:UvAt w u x1 y1 x2 y2 x3 y3) :
 Calls Tryz.prog 31 #[.agg #[.string u.name,.slice x1 u.uses.length y1,.int .i64 u.data,.slice x2 u.parts.length y2,.slice x3 u.main.length y3]] w fun e w'=>zkp w u e w'/\Below w.heap.size w w':=by
 by_cases hc:(Go.Lib.containsS u.uses u.name || !zf0 u zj7 zjx)=true
 . exact z3g u x1 y1 x2 y2 x3 y3 w hU hc
 . simp only [vdc,vay] at hc
   exact z8f u x1 y1 x2 y2 x3 y3 w hU hc.1 (by simpa using hc.2)
end Go.Proofs.YtndkhgakfodldaaGreatDoor
