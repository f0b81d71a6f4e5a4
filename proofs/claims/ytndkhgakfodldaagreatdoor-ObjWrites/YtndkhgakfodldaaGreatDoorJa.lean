import Derived.Test.YtndkhgakfodldaaGreatDoorNk
namespace Go.Proofs.YtndkhgakfodldaaGreatDoor
set_option maxRecDepth 100000
open Go.RowKit Go.Maps Go.WideMaps
set_option linter.unusedSimpArgs false
set_option linter.unusedVariables false
def Gi.ds (i:Gi):List D:=[.int i.op,.int i.a,.int i.b]
def zri (l:List Gi):List D:=l.flatMap Gi.ds
def Gf.ds (f:Gf):List D:=[.int f.at_,.int f.kind,.int f.m]
def zyi (l:List Gf):List D:=l.flatMap Gf.ds
def zk8 (l:List Int):List D:=l.map D.int
def Ob.ds (o:Ob):List D:=[.str o.name,.list o.uses.length (zao o.uses),.int o.data,.list o.code.length (zri o.code),.list o.fixes.length (zyi o.fixes),.list o.entries.length (zk8 o.entries),.int o.main]
structure OvAt (w:World) (o:Ob) (x1:OA) (x3:OA) (x4:OA) (x5:OA):Prop where
 wn:o.name.size<=maxLen
 uses:DAt w Tt x1 o.uses.length (zao o.uses)
 wd:(Lit.int .i64 o.data).wf=true
 code:DAt w Tt x3 o.code.length (zri o.code)
 fixes:DAt w Tt x4 o.fixes.length (zyi o.fixes)
 entries:DAt w Tt x5 o.entries.length (zk8 o.entries)
 wm:(Lit.int .i64 o.main).wf=true
theorem OvAt.later {w w':World} {o:Ob} {x1 x3 x4 x5:OA} (h:OvAt w o x1 x3 x4 x5) (hb:Below w.heap.size w w'):OvAt w' o x1 x3 x4 x5:=
 ⟨h.wn,h.uses.later hb,h.wd,h.code.later hb,h.fixes.later hb,h.entries.later hb,h.wm⟩
def zhy (o:Ob):Bool:=decide (3<o.uses.length)||(decide (6<o.entries.length)||(decide (o.code.length<1)||decide (2048<o.code.length)))
def zbv (o:Ob) (x:Int):Bool:=decide (0<=x/\x<o.code.length)
theorem zrz (s:ByteArray) (w:World) (hs:s.size<=maxLen) :
 Calls Tryz.prog 131 #[.string s] w fun e w'=>e = .returned (.bool (Lx.zbx s.data.toList))/\Below w.heap.size w w':=by
 have HK:Hid ((zdr [⟨1,0,s⟩] == 0)=Lx.zbx s.data.toList):=by rw [← zwk];exact zo4 ⟨1,0,s⟩ rfl
 have HC:Hid (∀ (w1:World) (n:Nat),n=w1.heap.size->Calls Tryz.prog 116 #[.slice (some ⟨n,0,none⟩) 1 1] (w1.alloc (.cells #[.int .i64 1,.int .i64 0,.string s] 184)) fun e w'=>e = .returned (.int .i64 (zdr [⟨1,0,s⟩]))/\Below w1.heap.size w1 w'):=
  fun w1 n hn=>by
   subst hn;refine (zr9 _ 1 [⟨1,0,s⟩] _ (z0y ⟨1,0,s⟩ w1 hs) (by simp)).mono ?_;rintro e w' ⟨rfl,hb⟩;exact ⟨rfl,((Below.refl _ _).alloc (vaa _) _).trans (hb.mono (by simp))⟩
 go_enter Tryz.func131,Tryz.ntmps131
 go_wp2_with (go_at_call 116;refine (HC.out _ _ (by simp)).mono ?_;rintro e w' ⟨rfl,hb⟩)
 go_ret;exact ⟨zaa HK.out,hb⟩
theorem zoi (o:Ob) (s:ByteArray) (x1:OA) (n1 y1:Nat) (d:Int) (x3:OA) (y3:Nat) (x4:OA) (n4 y4:Nat) (x5:OA) (n5 y5:Nat) (m x:Int) (w:World) (hb:o.code.length<=17592186044416) :
 Calls Tryz.prog 132 #[.agg #[.string s,.slice x1 n1 y1,.int .i64 d,.slice x3 o.code.length y3,.slice x4 n4 y4,.slice x5 n5 y5,.int .i64 m],.int .i64 x] w fun e w'=>e = .returned (.bool (zbv o x))/\Below w.heap.size w w':=by
 by_cases t:0<=x
 . have HR:Hid (zbv o x=decide (x<o.code.length)):=by show _=_;unfold zbv;exact decide_eq_decide.2 ⟨fun h=>h.2,fun h=>⟨t,h⟩⟩
   go_enter Tryz.func132,Tryz.ntmps132;go_wp2_with fail;go_ret;exact ⟨zaa (by first | exact HR.out.symm | (rw [HR.out]<;>first | (simp;omega) | (simp [*];done))),al1 _ _⟩
 . have HR:Hid (zbv o x=false):=by show _=_;unfold zbv;exact decide_eq_false (fun h=>t h.1)
   have t':x<0:=by omega
   clear t;go_enter Tryz.func132,Tryz.ntmps132;go_wp2_with fail;go_ret;exact ⟨zaa (by first | exact HR.out.symm | (rw [HR.out]<;>first | (simp;omega) | (simp [*];done))),al1 _ _⟩
theorem zzf (o:Ob) (s:ByteArray) (x1:OA) (y1:Nat) (d:Int) (x3:OA) (y3:Nat) (x4:OA) (n4 y4:Nat) (x5:OA) (y5:Nat) (m:Int) (w:World) (h1:o.uses.length<=17592186044416) (h3:o.code.length<=17592186044416) (h5:o.entries.length<=17592186044416) :
 Calls Tryz.prog 81 #[.agg #[.string s,.slice x1 o.uses.length y1,.int .i64 d,.slice x3 o.code.length y3,.slice x4 n4 y4,.slice x5 o.entries.length y5,.int .i64 m]] w fun e w'=>e = .returned (.bool (zhy o))/\Below w.heap.size w w':=by
 have HR:Hid (zhy o=(decide (3<o.uses.length)||(decide (6<o.entries.length)||(decide (o.code.length<1)||decide (2048<o.code.length))))):=rfl
 by_cases t1:3<o.uses.length
 . have HT:Hid (zhy o=true):=by show _=_;rw [HR.out,decide_eq_true t1];rfl
   have t1':(3:Int)<o.uses.length:=by omega
   go_enter Tryz.func81,Tryz.ntmps81;go_wp2_with fail;go_ret;exact ⟨zaa (by first | exact HT.out.symm | (rw [HT.out]<;>first | (simp;omega) | (simp [*];done))),al1 _ _⟩
 by_cases t2:6<o.entries.length
 . have HT:Hid (zhy o=true):=by show _=_;rw [HR.out,decide_eq_true t2,decide_eq_false t1];rfl
   have t1':¬ (3:Int)<o.uses.length:=by omega
   have t2':(6:Int)<o.entries.length:=by omega
   go_enter Tryz.func81,Tryz.ntmps81;go_wp2_with fail;go_ret;exact ⟨zaa (by first | exact HT.out.symm | (rw [HT.out]<;>first | (simp;omega) | (simp [*];done))),al1 _ _⟩
 have t1':¬ (3:Int)<o.uses.length:=by omega
 have t2':¬ (6:Int)<o.entries.length:=by omega
 by_cases t3:o.code.length<1
 . have HT:Hid (zhy o=true):=by show _=_;rw [HR.out,decide_eq_true t3,decide_eq_false t1,decide_eq_false t2];rfl
   have t3':(o.code.length:Int)<1:=by omega
   clear t3;go_enter Tryz.func81,Tryz.ntmps81;go_wp2_with fail;go_ret;exact ⟨zaa (by first | exact HT.out.symm | (rw [HT.out]<;>first | (simp;omega) | (simp [*];done))),al1 _ _⟩
 . have HT:Hid (zhy o=decide (2048<o.code.length)):=by show _=_;rw [HR.out,decide_eq_false t3,decide_eq_false t1,decide_eq_false t2];rfl
   have t3':¬ (o.code.length:Int)<1:=by omega
   clear t3;go_enter Tryz.func81,Tryz.ntmps81;go_wp2_with fail;go_ret;exact ⟨zaa (by first | exact HT.out.symm | (rw [HT.out]<;>first | (simp;omega) | (simp [*];done))),al1 _ _⟩
abbrev oC (o:Ob) (a:OA) (b:Nat) (c:OA) (e:Nat) (f:OA) (g:Nat) (h:OA) (i:Nat):Obj:=.cells #[.string o.name,.slice a o.uses.length b,.int .i64 o.data,.slice c o.code.length e,.slice f o.fixes.length g,.slice h o.entries.length i,.int .i64 o.main] 62
structure GiAt (w:World) (b o:Nat) (x:Gi):Prop where
 lt:b<w.heap.size
 c0:w.cell? ⟨b,o,none⟩=some (.int .i64 x.op)
 c1:w.cell? ⟨b,o+1,none⟩=some (.int .i64 x.a)
 c2:w.cell? ⟨b,o+2,none⟩=some (.int .i64 x.b)
 w0:(Lit.int .i64 x.op).wf=true
 w1:(Lit.int .i64 x.a).wf=true
 w2:(Lit.int .i64 x.b).wf=true
theorem DAt.gi {w:World} {A:Nat->Prop} {a:OA} {l:List Gi} (h:DAt w A a l.length (zri l)) (i:Nat) (hi:i<l.length):∃ b off,a=some ⟨b,off,none⟩/\GiAt w b (off+i*3) l[i]:=by
 obtain ⟨b,off,ha,hb,hc⟩:=h.cell (by omega);generalize hx:l[i]=x;obtain ⟨op,a',b'⟩:=x
 have g:∀ j d,j<3->(Gi.mk op a' b').ds[j]? = some d->∃ v,w.cell? ⟨b,off+i*3+j,none⟩=some v/\zd0 w A d v:=fun j d hj hd=>by
  rw [vbt];exact hc (i*3+j) d ((zc3 Gi.ds 3 (fun _=>rfl) l i hi j hj).trans (by rw [hx];exact hd))
 obtain ⟨v0,q0,d0⟩:=g 0 (.int op) (by omega) (by simp [Gi.ds]);obtain ⟨v1,q1,d1⟩:=g 1 (.int a') (by omega) (by simp [Gi.ds]);obtain ⟨v2,q2,d2⟩:=g 2 (.int b') (by omega) (by simp [Gi.ds]);obtain ⟨rfl,w0⟩:=zbb d0;obtain ⟨rfl,w1⟩:=zbb d1;obtain ⟨rfl,w2⟩:=zbb d2;exact ⟨b,off,ha,hb,q0,q1,q2,w0,w1,w2⟩
structure GfAt (w:World) (b o:Nat) (x:Gf):Prop where
 lt:b<w.heap.size
 c0:w.cell? ⟨b,o,none⟩=some (.int .i64 x.at_)
 c1:w.cell? ⟨b,o+1,none⟩=some (.int .i64 x.kind)
 c2:w.cell? ⟨b,o+2,none⟩=some (.int .i64 x.m)
 w0:(Lit.int .i64 x.at_).wf=true
 w1:(Lit.int .i64 x.kind).wf=true
 w2:(Lit.int .i64 x.m).wf=true
theorem DAt.gf {w:World} {A:Nat->Prop} {a:OA} {l:List Gf} (h:DAt w A a l.length (zyi l)) (i:Nat) (hi:i<l.length):∃ b off,a=some ⟨b,off,none⟩/\GfAt w b (off+i*3) l[i]:=by
 obtain ⟨b,off,ha,hb,hc⟩:=h.cell (by omega);generalize hx:l[i]=x;obtain ⟨op,a',b'⟩:=x
 have g:∀ j d,j<3->(Gf.mk op a' b').ds[j]? = some d->∃ v,w.cell? ⟨b,off+i*3+j,none⟩=some v/\zd0 w A d v:=fun j d hj hd=>by
  rw [vbt];exact hc (i*3+j) d ((zc3 Gf.ds 3 (fun _=>rfl) l i hi j hj).trans (by rw [hx];exact hd))
 obtain ⟨v0,q0,d0⟩:=g 0 (.int op) (by omega) (by simp [Gf.ds]);obtain ⟨v1,q1,d1⟩:=g 1 (.int a') (by omega) (by simp [Gf.ds]);obtain ⟨v2,q2,d2⟩:=g 2 (.int b') (by omega) (by simp [Gf.ds]);obtain ⟨rfl,w0⟩:=zbb d0;obtain ⟨rfl,w1⟩:=zbb d1;obtain ⟨rfl,w2⟩:=zbb d2;exact ⟨b,off,ha,hb,q0,q1,q2,w0,w1,w2⟩
theorem DAt.num {w:World} {A:Nat->Prop} {a:OA} {l:List Int} (h:DAt w A a l.length (zk8 l)) (i:Nat) (hi:i<l.length):∃ b off,a=some ⟨b,off,none⟩/\b<w.heap.size/\w.cell? ⟨b,off+i,none⟩=some (.int .i64 l[i])/\(Lit.int .i64 l[i]).wf=true:=by
 obtain ⟨b,off,ha,hb,hc⟩:=h.cell (by omega);obtain ⟨v0,q0,d0⟩:=hc i (.int l[i]) (by simp [zk8,hi]);obtain ⟨rfl,w0⟩:=zbb d0;exact ⟨b,off,ha,hb,q0,w0⟩
def okF (a far m uses:Int):Bool:=decide (0<=a)&&(decide (a<=far)&&(decide (0<=m)&&decide (m<=uses)))
def aAt (o:Ob) (x:Int):Int:=match o.code[x.toNat]? with | some i=>i.a | none=>0
def zzg (o:Ob) (f:Gf):Bool:=
 if f.kind=1 then okF (aAt o f.at_) o.code.length f.m 0
 else if f.kind=2\/f.kind=3 then okF (aAt o f.at_) 2048 f.m o.uses.length
 else false
def zic (n:Nat) (q:Nat->Bool):Bool:=(List.range n).all q
theorem zbk {n:Nat} {q:Nat->Bool}:zic n q=true↔∀ i,i<n->q i=true:=by simp [zic]
theorem zc7 {n:Nat} {q:Nat->Bool} {i:Nat} (h:i<n) (hq:q i=false):zic n q=false:=by
 cases e:zic n q with
 | false=>rfl
 | true=>rw [zbk.1 e i h] at hq;cases hq
theorem zfh {q:Nat->Bool} {j:Nat} (h:∀ k,k<j->q k=true) (hq:q j=true):∀ k,k<j+1->q k=true:=fun k hk=>by
 rcases vbj k j with h1 | h1
 . exact h k h1
 . obtain rfl:k=j:=by omega
   exact hq
theorem zp4 (a b:ByteArray):(a.toList == b.toList)=decide (a=b):=by
 rw [vcq];simp only [beq_iff_eq,decide_eq_true_eq]
 constructor
 . intro h
   rw [vba,vba] at h;exact zji h
 . rintro rfl;rfl
def opB (i:Gi):Bool:=decide (1<=i.op/\i.op<=22)
def z22 (o:Ob) (j:Nat):Bool:=match o.code[j]? with | some i=>opB i | none=>true
def znm (o:Ob) (j:Nat):Bool:=match o.entries[j]? with | some x=>zbv o x | none=>true
def ztq (o:Ob):Bool:=zbv o o.main&&decide (0<=o.data/\o.data<=512)
def zd3 (o:Ob):Bool:=zic o.code.length (z22 o)&&(zic o.entries.length (znm o)&&ztq o)
def zkw (o:Ob) (i:Nat):Bool:=match o.uses[i]? with | some x=>Lx.zbx x.data.toList&&(!decide (x=o.name) && !Go.Lib.containsS (o.uses.take i) x) | none=>true
def zd9 (o:Ob):Bool:=Lx.zbx o.name.data.toList&&zic o.uses.length (zkw o)
def lastAt (o:Ob):Nat->Int
 | 0=>-1
 | j+1=>match o.fixes[j]? with | some f=>f.at_ | none=>-1
def zg1 (o:Ob) (j:Nat):Bool:=match o.fixes[j]? with | some f=>decide (lastAt o j<f.at_)&&(zbv o f.at_&&zzg o f) | none=>true
def zea (o:Ob):Bool:=zic o.fixes.length (zg1 o)
def oChk (o:Ob):Int:=if zhy o=true then 2 else if (zd9 o&&(zd3 o&&zea o))=true then 0 else 1
end Go.Proofs.YtndkhgakfodldaaGreatDoor

namespace Go.Proofs.YtndkhgakfodldaaGreatDoor
set_option linter.unusedSimpArgs false
set_option linter.unusedVariables false
def zzh (B:List Nat) (s:Wrt):Prop:=(∀ b ∈ B,b<=s.code.length)/\∀ f ∈ s.fixes,f.kind=1->∃ (k:Nat) (i:Gi),s.code[k]? = some i/\f.at_=(k:Int)/\i.a<s.code.length/\∀ b ∈ B,(k<b->i.a<b)/\(b<=k->(b:Int)<=i.a)
theorem zzh.mem {B B':List Nat} {s:Wrt} (h:zzh B s) (hB:∀ b ∈ B',b ∈ B):zzh B' s:=
 ⟨fun b hb=>h.1 b (hB b hb),fun f hf hk=>by
  obtain ⟨k,i,h1,h2,h3,h4⟩:=h.2 f hf hk
  exact ⟨k,i,h1,h2,h3,fun b hb=>h4 b (hB b hb)⟩⟩
theorem zzh.more {B:List Nat} {s:Wrt} (h:zzh B s):zzh (s.code.length :: B) s:=by
 refine ⟨fun b hb=>?_,fun f hf hk=>?_⟩
 . rcases vcm.1 hb with rfl | hb
   . exact vaa _
   . exact h.1 b hb
 . obtain ⟨k,i,h1,h2,h3,h4⟩:=h.2 f hf hk
   refine ⟨k,i,h1,h2,h3,fun b hb=>?_⟩
   rcases vcm.1 hb with rfl | hb
   . have:=zex h1
     exact ⟨fun _=>h3,fun h=>by omega⟩
   . exact h4 b hb
theorem zzh.body {us:Int} {B:List Nat} {s t:Wrt} (h:zzh B s) (ha:Adds us (fun _=>False) s t):zzh B (zb1 15 0 0 (zb1 1 0 0 t)):=by
 obtain ⟨e,he,_,hf⟩:=ha.fx;have hl:=ha.le
 have len:(zb1 15 0 0 (zb1 1 0 0 t)).code.length=t.code.length+2:=by rw [zah,zah]
 have old:∀ k,k<t.code.length->(zb1 15 0 0 (zb1 1 0 0 t)).code[k]? = t.code[k]?:=fun k hk=>by
  simp only [zb1];rw [vbi (by simp;omega),vbi hk]
 refine ⟨fun b hb=>by have:=h.1 b hb;rw [len];omega,fun f hfm hk=>?_⟩
 have hfm':f ∈ s.fixes++e:=by rw [← he];exact hfm
 rw [len]
 rcases vcf.1 hfm' with h1 | h1
 . obtain ⟨k,i,h1,h2,h3,h4⟩:=h.2 f h1 hk
   have hks:=zex h1;exact ⟨k,i,(old k (by omega)).trans ((ha.pre k hks).trans h1),h2,by omega,h4⟩
 . obtain ⟨k,i,h1,h2,h3,h4⟩:=hf f h1
   refine ⟨k,i,(old k (zex h1)).trans h1,h2,?_,fun b hb=>?_⟩
   all_goals rcases h4 with ⟨_,_,h5 | h5⟩ | ⟨h5,_⟩
   . exact h5.elim
   . omega
   . omega
   . exact h5.elim
   . have:=h.1 b hb
     exact ⟨fun _=>by omega,fun _=>by omega⟩
   . omega
theorem zzi {u:Un} (h:zeg u=true) (lc:Int) (hl:lc<=64):Sane (zjz u zj7 zjx lc):=by
 have h6:=zi4 h;have hd:=zj6 h;refine ⟨fun m at_ n hn h=>?_,fun m at_ k h=>?_,hl⟩
 . unfold numB at h
   split at h
   . rename_i e
     have h:0<=at_/\at_+n<=u.data:=of_decide_eq_true h;subst e;exact ⟨by omega,by omega,by simp only [zjz];omega⟩
   . rw [vad] at h
     obtain ⟨h1,h2⟩:=h;have h1:1<=m/\m<=u.uses.length:=of_decide_eq_true h1;have h2:zj7 m at_ n=true:=h2;simp only [zj7,vei,z2g,decide_eq_true_eq] at h2;exact ⟨by omega,by omega,by simp only [zjz];omega⟩
 . unfold zk0 at h
   split at h
   . rename_i e
     have h:zwq u.parts at_ k=true:=h;unfold zwq at h;rw [vad,decide_eq_true_eq] at h;obtain ⟨h1,h2⟩:=h
     cases hq:u.parts[at_.toNat]? with
     | none=>rw [hq] at h2;cases h2
     | some p=>
       have:=zex hq;subst e;exact ⟨by omega,by omega,by simp only [zjz];omega⟩
   . rw [vad] at h
     obtain ⟨h1,h2⟩:=h;have h1:1<=m/\m<=u.uses.length:=of_decide_eq_true h1;have h2:zjx m at_ k=true:=h2;simp only [zjx,vad,decide_eq_true_eq] at h2;exact ⟨by omega,by omega,by simp only [zjz];omega⟩
def startsTo (l:List Pt) (j:Nat):List Nat:=(List.range j).map (fun i=>(zce (l.take i)).code.length)
theorem zoj {u:Un} (h:zf0 u zj7 zjx=true):∀ j,j<=u.parts.length->Adds u.uses.length (fun _=>False) wr0 (zce (u.parts.take j))/\zzh (startsTo u.parts j) (zce (u.parts.take j))
 | 0,_=>⟨Adds.refl _,fun b hb=>by simp [startsTo] at hb,fun f hf=>by cases hf⟩
 | j + 1,hj=>by
   obtain ⟨h1,h2⟩:=zoj h j (by omega);obtain ⟨hp,_,hh⟩:=zb7 h
   have hpt:ptB u.parts[j]=true:=by
    unfold zeg at hh;simp only [vad,vax] at hh;exact hh.2.1 _ (vap (by omega))
   have hlc:u.parts[j].params+u.parts[j].locals<=64:=by
    have:=hpt;unfold ptB at this;simp only [vad,decide_eq_true_eq] at this;omega
   obtain ⟨t,ha,_,hb⟩:=zsf (zzi hh _ hlc) u.parts[j] (hp _ (vap (by omega))) hpt (zce (u.parts.take j));rw [zig _ _ (by omega),hb];refine ⟨((h1.then ha).put 1 0 0 (by decide)).put 15 0 0 (by decide),(h2.more.body ha).mem (fun b hb=>?_)⟩;unfold startsTo at hb;rw [List.range_succ,vdf,vcf] at hb
   rcases hb with hb | hb
   . exact vaf _ hb
   . simp only [vcz,vej,vcd] at hb
     subst hb;exact vam ..
theorem z23 {u:Un} (h:zf0 u zj7 zjx=true):Adds u.uses.length (fun _=>False) wr0 (genS u)/\zzh ((zce u.parts).code.length :: startsTo u.parts u.parts.length) (genS u)/\(zce u.parts).code.length<(genS u).code.length/\∀ b ∈ startsTo u.parts u.parts.length,b<=(zce u.parts).code.length:=by
 obtain ⟨h1,h2⟩:=zoj h _ (vaa _);rw [vaz] at h1 h2;obtain ⟨_,hm,hh⟩:=zb7 h;obtain ⟨t,ha,hl,hb⟩:=zsf (zzi hh 0 (by decide)) ⟨0,0,u.main⟩ hm rfl (zce u.parts);unfold genS;rw [hb];refine ⟨((h1.then ha).put 1 0 0 (by decide)).put 15 0 0 (by decide),h2.more.body ha,?_,h2.1⟩;rw [zah,zah];omega
theorem ztr (l:List Pt):entsW l=(startsTo l l.length).map (fun n:Nat=>(n:Int)):=by
 unfold entsW startsTo;rw [List.map_map]
 rfl
end Go.Proofs.YtndkhgakfodldaaGreatDoor

namespace Go.Proofs.YtndkhgakfodldaaGreatDoor
set_option maxRecDepth 100000
set_option maxHeartbeats 3200000
open Go.RowKit Go.Maps Go.WideMaps
set_option linter.unusedSimpArgs false
set_option linter.unusedVariables false
theorem zvy (o:Ob):zd3 o=(zic o.code.length (z22 o)&&(zic o.entries.length (znm o)&&ztq o)):=rfl
theorem zp5 (o:Ob) (x1:OA) (y1:Nat) (x3:OA) (y3:Nat) (x4:OA) (y4:Nat) (x5:OA) (y5:Nat) (w:World) (hO:OvAt w o x1 x3 x4 x5) :
 Calls Tryz.prog 83 #[.agg #[.string o.name,.slice x1 o.uses.length y1,.int .i64 o.data,.slice x3 o.code.length y3,.slice x4 o.fixes.length y4,.slice x5 o.entries.length y5,.int .i64 o.main]] w fun e w'=>e = .returned (.bool (zd3 o))/\Below w.heap.size w w':=by
 have hb3:=hO.code.bound;have hb5:=hO.entries.bound;have HO:=hid hO;have HP:=hid (fun (x:Int) (W:World)=>zoi o o.name x1 o.uses.length y1 o.data x3 y3 x4 o.fixes.length y4 x5 o.entries.length y5 o.main x W hb3);clear hO;go_enter Tryz.func83,Tryz.ntmps83;go_wp2_with fail
 go_loopw [10] (fun i wr=>∃ j:Nat,j<=o.code.length/\i = .int .i64 j/\(∀ k,k<j->z22 o k=true)/\Below w.heap.size w wr/\wr.heap[w.heap.size]? = some (oC o x1 y1 x3 y3 x4 y4 x5 y5)) (fun i _=>o.code.length - (intOf i).toNat)
 case atStart=>exact ⟨0,vae _,rfl,fun k hk=>absurd hk (vcv k),al1 _ _,heap_newP w (oC o x1 y1 x3 y3 x4 y4 x5 y5)⟩
 case round=>
  obtain ⟨j,hj,rfl,hall,hb,hB⟩:=hrel;obtain ⟨q0,q1,q2,q3,q4,q5,q6,_⟩:=zaj hB;have qz:=zab hB;have HB:=hid hb;have HX:=hid hB;have HL:=hid hall;clear hall hB hb
  by_cases hlt:j<o.code.length
  . obtain ⟨b,off,rfl,hx⟩:=(HO.out.later HB.out).code.gi j hlt
    have HE:Hid (z22 o j=opB o.code[j]):=by show _=_;unfold z22;rw [vaj hlt]
    have HF:=hid (fun (h:opB o.code[j]=false)=>(by rw [zvy,zc7 hlt (HE.out.trans h)];rfl:zd3 o=false));have HT:=hid (fun (h:opB o.code[j]=true)=>zfh HL.out (HE.out.trans h));obtain ⟨hbl,p0,p1,p2,_,_,_⟩:=hx;generalize o.code[j]=p at *
    by_cases t1:p.op<1
    . have HF':=hid (HF.out (by unfold opB;exact decide_eq_false (by omega)))
      go_wp2_with fail;go_ret;exact ⟨zaa (by first | exact HF'.out.symm | (rw [HF'.out]<;>first | (simp;omega) | (simp [*];done))),thenB HB.out (al1 _ _)⟩
    by_cases t2:22<p.op
    . have HF':=hid (HF.out (by unfold opB;exact decide_eq_false (by omega)))
      have t1':1<=p.op:=by omega
      clear t1;go_wp2_with fail;go_ret;exact ⟨zaa (by first | exact HF'.out.symm | (rw [HF'.out]<;>first | (simp;omega) | (simp [*];done))),thenB HB.out (al1 _ _)⟩
    have HT':=hid (HT.out (by unfold opB;exact decide_eq_true (by omega)))
    have t1':1<=p.op:=by omega
    have t2':p.op<=22:=by omega
    clear t1 t2;go_wp2_with fail;go_roundw
    case rel=>exact ⟨j+1,by omega,by go_num,HT'.out,thenB HB.out (al1 _ _),zae HX.out⟩
    case measure=>simp [intOf];omega
  . obtain rfl:j=o.code.length:=by omega
    have HC:Hid (zd3 o=(zic o.entries.length (znm o)&&ztq o)):=by show _=_;rw [zvy,zbk.2 HL.out];rfl
    go_wp2_with fail
    go_loopw [26] (fun i wr=>∃ j:Nat,j<=o.entries.length/\i = .int .i64 j/\(∀ k,k<j->znm o k=true)/\Below w.heap.size w wr/\wr.heap[w.heap.size]? = some (oC o x1 y1 x3 y3 x4 y4 x5 y5)) (fun i _=>o.entries.length - (intOf i).toNat)
    case atStart=>exact ⟨0,vae _,rfl,fun k hk=>absurd hk (vcv k),HB.out,HX.out⟩
    case round=>
     clear q0 q1 q2 q3 q4 q5 q6 qz;obtain ⟨j,hj,rfl,hall,hb,hB⟩:=hrel;obtain ⟨q0,q1,q2,q3,q4,q5,q6,_⟩:=zaj hB;have qz:=zab hB;have HB:=hid hb;have HX:=hid hB;have HL:=hid hall;clear hall hB hb
     by_cases hlt:j<o.entries.length
     . obtain ⟨b,off,rfl,hbl,p0,_⟩:=(HO.out.later HB.out).entries.num j hlt
       have HE:Hid (znm o j=zbv o o.entries[j]):=by show _=_;unfold znm;rw [vaj hlt]
       have HF:=hid (fun (h:zbv o o.entries[j]=false)=>(by rw [HC.out,zc7 hlt (HE.out.trans h)];rfl:zd3 o=false));have HT:=hid (fun (h:zbv o o.entries[j]=true)=>zfh HL.out (HE.out.trans h));generalize o.entries[j]=p at *;go_wp2_with fail;refine (HP.out p _).mono ?_;rintro e w1 ⟨rfl,hb1⟩;have HB1:=hid (thenB HB.out hb1);have HX1:=hid ((hb1.block _ qz).trans HX.out);clear q0 q1 q2 q3 q4 q5 q6 qz hb1
       cases hp:zbv o p with
       | false=>
         have HF':=hid (HF.out hp);go_wp2_with fail;go_ret;exact ⟨zaa (by first | exact HF'.out.symm | (rw [HF'.out]<;>first | (simp;omega) | (simp [*];done))),HB1.out⟩
       | true=>
         have HT':=hid (HT.out hp);go_wp2_with fail;go_roundw
         case rel=>exact ⟨j+1,by omega,by go_num,HT'.out,HB1.out,HX1.out⟩
         case measure=>simp [intOf];omega
     . obtain rfl:j=o.entries.length:=by omega
       have HD:Hid (zd3 o=(zbv o o.main&&decide (0<=o.data/\o.data<=512))):=by show _=_;rw [HC.out,zbk.2 HL.out];rfl
       go_wp2_with fail;refine (HP.out o.main _).mono ?_;rintro e w1 ⟨rfl,hb1⟩;have HB1:=hid (thenB HB.out hb1);have HX1:=hid ((hb1.block _ qz).trans HX.out);clear q0 q1 q2 q3 q4 q5 q6 qz hb1;obtain ⟨q0,q1,q2,q3,q4,q5,q6,_⟩:=zaj HX1.out;have qz:=zab HX1.out
       cases hp:zbv o o.main with
       | false=>
         have HR:Hid (zd3 o=false):=by show _=_;rw [HD.out,hp];rfl
         go_wp2_with fail;go_ret;exact ⟨zaa HR.out.symm,HB1.out⟩
       | true=>
         by_cases t1:0<=o.data
         . have HR:Hid (zd3 o=decide (o.data<=512)):=by show _=_;rw [HD.out,hp,vdb];exact decide_eq_decide.2 ⟨fun h=>h.2,fun h=>⟨t1,h⟩⟩
           go_wp2_with fail;go_ret;exact ⟨zaa HR.out.symm,HB1.out⟩
         . have HR:Hid (zd3 o=false):=by show _=_;rw [HD.out,hp,vdb];exact decide_eq_false (fun h=>t1 h.1)
           have t1':o.data<0:=by omega
           clear t1;go_wp2_with fail;go_ret;exact ⟨zaa HR.out.symm,HB1.out⟩
theorem zr0 (o:Ob):zd9 o=(Lx.zbx o.name.data.toList&&zic o.uses.length (zkw o)):=rfl
theorem zav.take {w:World} {lo:Nat->Prop}:∀ {l:List D} {cs:List Value},zav w lo l cs->∀ j,zav w lo (l.take j) (cs.take j)
 | [],cs,h,j=>by unfold zav at h;subst h;simp only [List.take_nil];exact zav.nil
 | d :: ds,cs,h,0=>by simp only [vcg];exact zav.nil
 | d :: ds,cs,h,j+1=>by
   unfold zav at h;obtain ⟨v,r,rfl,h1,h2⟩:=h;exact zav.cons h1 (zav.take h2 j)
theorem zzj {w:World} {A:Nat->Prop} {a:OA} {l:List ByteArray} (h:DAt w A a l.length (zao l)) (j:Nat):DAt w A a (l.take j).length (zao (l.take j)):=by
 obtain ⟨h1,h2,h3⟩:=h
 have e:zao (l.take j)=(zao l).take j:=by simp [zao,List.map_take]
 have hn:(zao l).length=l.length:=by simp [zao]
 refine ⟨by rw [e,vbb,vbb,hn];exact vaa _,by rw [e,vbb];omega,?_⟩
 rcases h3 with h4 | ⟨b,off,cs,ha,hl,hb,hc,hx⟩
 . exact Or.inl (by rw [vbb];omega)
 . exact Or.inr ⟨b,off,cs.take j,ha,hl,hb,fun k u hk=>hc k u (by rw [vea] at hk;split at hk;exact hk;cases hk),by rw [e];exact hx.take j⟩
theorem zp6 (o:Ob) (x1:OA) (y1:Nat) (x3:OA) (y3:Nat) (x4:OA) (y4:Nat) (x5:OA) (y5:Nat) (w:World) (hO:OvAt w o x1 x3 x4 x5) (h3:o.uses.length<=3) (hcp:o.uses.length<=y1) :
 Calls Tryz.prog 82 #[.agg #[.string o.name,.slice x1 o.uses.length y1,.int .i64 o.data,.slice x3 o.code.length y3,.slice x4 o.fixes.length y4,.slice x5 o.entries.length y5,.int .i64 o.main]] w fun e w'=>e = .returned (.bool (zd9 o))/\Below w.heap.size w w':=by
 have HO:=hid hO;have HN:=hid (zrz o.name (w.alloc (oC o x1 y1 x3 y3 x4 y4 x5 y5)) hO.wn);clear hO;go_enter Tryz.func82,Tryz.ntmps82;go_wp2_with fail;refine HN.out.mono ?_;rintro e w1 ⟨rfl,hb1⟩;have HB1:=hid (thenB (al1 w _) hb1);have HX1:=hid ((hb1.block _ (by simp)).trans (heap_newP w (oC o x1 y1 x3 y3 x4 y4 x5 y5)));clear hb1
 cases hn:Lx.zbx o.name.data.toList with
 | false=>
   have HR:Hid (zd9 o=false):=by show _=_;rw [zr0,hn];rfl
   go_wp2_with fail;go_ret;exact ⟨zaa HR.out.symm,HB1.out⟩
 | true=>
 have HC:Hid (zd9 o=zic o.uses.length (zkw o)):=by show _=_;rw [zr0,hn];rfl
 clear hn;obtain ⟨q0,q1,q2,q3,q4,q5,q6,_⟩:=zaj HX1.out;have qz:=zab HX1.out;go_wp2_with fail
 go_loopw [12] (fun i wr=>∃ j:Nat,j<=o.uses.length/\i = .int .i64 j/\(∀ k,k<j->zkw o k=true)/\Below w.heap.size w wr/\wr.heap[w.heap.size]? = some (oC o x1 y1 x3 y3 x4 y4 x5 y5)) (fun i _=>o.uses.length - (intOf i).toNat)
 case atStart=>exact ⟨0,vae _,rfl,fun k hk=>absurd hk (vcv k),HB1.out,HX1.out⟩
 case round=>
  clear q0 q1 q2 q3 q4 q5 q6 qz;obtain ⟨j,hj,rfl,hall,hb,hB⟩:=hrel;obtain ⟨q0,q1,q2,q3,q4,q5,q6,_⟩:=zaj hB;have qz:=zab hB;have HB:=hid hb;have HX:=hid hB;have HL:=hid hall;clear hall hB hb
  by_cases hlt:j<o.uses.length
  . obtain ⟨b,off,rfl,hbl,p0,hw⟩:=(HO.out.later HB.out).uses.str j hlt
    have HE:Hid (zkw o j=(Lx.zbx o.uses[j].data.toList&&(!decide (o.uses[j]=o.name) && !Go.Lib.containsS (o.uses.take j) o.uses[j]))):=by show _=_;unfold zkw;rw [vaj hlt]
    have HF:=hid (fun (h:zkw o j=false)=>(by rw [HC.out,zc7 hlt h]:zd9 o=false));have HT:=hid (fun (h:zkw o j=true)=>zfh HL.out (h));have HU:=hid (fun (W:World) (hW:Below wr.heap.size wr W) (y:Nat)=>(by have h:=zgi (o.uses.take j) o.uses[j] (some ⟨b,off,none⟩) y W (zzj ((HO.out.later HB.out).later hW).uses j);rw [vbb,vdw hj] at h;exact h:Calls Tryz.prog 76 #[.slice (some ⟨b,off,none⟩) j y,.string o.uses[j]] W fun e w'=>e = .returned (.bool (Go.Lib.containsS (o.uses.take j) o.uses[j]))/\w'=W))
    have hjc:j<=y1:=by omega
    generalize o.uses[j]=x at *;go_wp2_with fail;refine (zrz x _ hw).mono ?_;rintro e w1 ⟨rfl,hb1⟩;have HB1:=hid (thenB HB.out hb1);have HX1:=hid ((hb1.block _ qz).trans HX.out);have HV:=hid (HU.out w1 hb1);clear q0 q1 q2 q3 q4 q5 q6 qz hb1 p0 hbl;obtain ⟨q0,q1,q2,q3,q4,q5,q6,_⟩:=zaj HX1.out;have qz:=zab HX1.out
    cases hn:Lx.zbx x.data.toList with
    | false=>
      have HR:=hid (HF.out (by rw [HE.out,hn];rfl));go_wp2_with fail;go_ret;exact ⟨zaa HR.out.symm,HB1.out⟩
    | true=>
      by_cases hx:x=o.name
      . have HR:=hid (HF.out (by rw [HE.out,hn,decide_eq_true hx];rfl))
        have hx':(x.toList == o.name.toList)=true:=(zp4 _ _).trans (decide_eq_true hx);clear hx;go_wp2_with fail;go_ret;exact ⟨zaa HR.out.symm,HB1.out⟩
      . have hx':(x.toList == o.name.toList)=false:=(zp4 _ _).trans (decide_eq_false hx)
        have HE':Hid (zkw o j = !Go.Lib.containsS (o.uses.take j) x):=by show _=_;rw [HE.out,hn,decide_eq_false hx];simp
        clear hx;go_wp2_with fail;refine (HV.out _).mono ?_;rintro e w2 ⟨rfl,rfl⟩
        cases hc:Go.Lib.containsS (o.uses.take j) x with
        | true=>
          have HR:=hid (HF.out (by rw [HE'.out,hc];rfl));go_wp2_with fail;go_ret;exact ⟨zaa HR.out.symm,HB1.out⟩
        | false=>
          have HT':=hid (HT.out (by rw [HE'.out,hc];rfl));go_wp2_with fail;go_roundw
          case rel=>exact ⟨j+1,by omega,by go_num,HT'.out,HB1.out,HX1.out⟩
          case measure=>simp [intOf];omega
  . obtain rfl:j=o.uses.length:=by omega
    have HR:Hid (zd9 o=true):=by show _=_;rw [HC.out,zbk.2 HL.out]
    go_wp2_with fail;go_ret;exact ⟨zaa HR.out.symm,HB.out⟩
theorem z9m (o:Ob) (x1:OA) (y1:Nat) (x3:OA) (y3:Nat) (x4:OA) (y4:Nat) (x5:OA) (y5:Nat) (j:Nat) (m:Int) (w:World) (hj:j<o.code.length) (hC:DAt w Tt x3 o.code.length (zri o.code)) (hu:o.uses.length<=17592186044416) :
 Calls Tryz.prog 133 #[.agg #[.string o.name,.slice x1 o.uses.length y1,.int .i64 o.data,.slice x3 o.code.length y3,.slice x4 o.fixes.length y4,.slice x5 o.entries.length y5,.int .i64 o.main],.agg #[.int .i64 (j:Int),.int .i64 1,.int .i64 m]] w fun e w'=>e = .returned (.bool (okF o.code[j].a (o.code.length:Int) m 0))/\Below w.heap.size w w':=by
 have hbd:=hC.bound;obtain ⟨b,off,rfl,hx⟩:=hC.gi j hj;obtain ⟨hbl,_,z1,_,_,_,_⟩:=hx;generalize o.code[j].a=a at *;clear hC
 by_cases t0:0<=a
 case neg=>
  have HR:Hid (okF a (o.code.length:Int) m 0=false):=by show _=_;simp [okF,t0]
  have n0:a<0:=by omega
  clear t0;go_enter Tryz.func133,Tryz.ntmps133;go_wp2_with fail
  go_region
  go_wp2_with fail;go_ret;exact ⟨zaa HR.out.symm,(by first | exact bl2 _ _ _ | exact (bl2 _ _ _).drew | exact thenB (za7 _ _) (al1 _ _) | exact thenB (al1 _ _) (za7 _ _))⟩
 by_cases t1:a<=(o.code.length:Int)
 case neg=>
  have HR:Hid (okF a (o.code.length:Int) m 0=false):=by show _=_;simp [okF,t1]
  have n1:(o.code.length:Int)<a:=by omega
  clear t1;go_enter Tryz.func133,Tryz.ntmps133;go_wp2_with fail
  go_region
  go_wp2_with fail;go_ret;exact ⟨zaa HR.out.symm,(by first | exact bl2 _ _ _ | exact (bl2 _ _ _).drew | exact thenB (za7 _ _) (al1 _ _) | exact thenB (al1 _ _) (za7 _ _))⟩
 by_cases t2:0<=m
 case neg=>
  have HR:Hid (okF a (o.code.length:Int) m 0=false):=by show _=_;simp [okF,t2]
  have n2:m<0:=by omega
  clear t2;go_enter Tryz.func133,Tryz.ntmps133;go_wp2_with fail
  go_region
  go_wp2_with fail;go_ret;exact ⟨zaa HR.out.symm,(by first | exact bl2 _ _ _ | exact (bl2 _ _ _).drew | exact thenB (za7 _ _) (al1 _ _) | exact thenB (al1 _ _) (za7 _ _))⟩
 have HR:Hid (okF a (o.code.length:Int) m 0=decide (m<=0)):=by show _=_;simp [okF,t0,t1,t2]
 go_enter Tryz.func133,Tryz.ntmps133;go_wp2_with fail
 go_region
 go_wp2_with fail;go_ret;exact ⟨zaa HR.out.symm,(by first | exact bl2 _ _ _ | exact (bl2 _ _ _).drew | exact thenB (za7 _ _) (al1 _ _) | exact thenB (al1 _ _) (za7 _ _))⟩
theorem z9n (o:Ob) (x1:OA) (y1:Nat) (x3:OA) (y3:Nat) (x4:OA) (y4:Nat) (x5:OA) (y5:Nat) (j:Nat) (m:Int) (w:World) (hj:j<o.code.length) (hC:DAt w Tt x3 o.code.length (zri o.code)) (hu:o.uses.length<=17592186044416) :
 Calls Tryz.prog 133 #[.agg #[.string o.name,.slice x1 o.uses.length y1,.int .i64 o.data,.slice x3 o.code.length y3,.slice x4 o.fixes.length y4,.slice x5 o.entries.length y5,.int .i64 o.main],.agg #[.int .i64 (j:Int),.int .i64 2,.int .i64 m]] w fun e w'=>e = .returned (.bool (okF o.code[j].a 2048 m (o.uses.length:Int)))/\Below w.heap.size w w':=by
 have hbd:=hC.bound;obtain ⟨b,off,rfl,hx⟩:=hC.gi j hj;obtain ⟨hbl,_,z1,_,_,_,_⟩:=hx;generalize o.code[j].a=a at *;clear hC
 by_cases t0:0<=a
 case neg=>
  have HR:Hid (okF a 2048 m (o.uses.length:Int)=false):=by show _=_;simp [okF,t0]
  have n0:a<0:=by omega
  clear t0;go_enter Tryz.func133,Tryz.ntmps133;go_wp2_with fail
  go_region
  go_wp2_with fail;go_ret;exact ⟨zaa HR.out.symm,(by first | exact bl2 _ _ _ | exact (bl2 _ _ _).drew | exact thenB (za7 _ _) (al1 _ _) | exact thenB (al1 _ _) (za7 _ _))⟩
 by_cases t1:a<=2048
 case neg=>
  have HR:Hid (okF a 2048 m (o.uses.length:Int)=false):=by show _=_;simp [okF,t1]
  have n1:2048<a:=by omega
  clear t1;go_enter Tryz.func133,Tryz.ntmps133;go_wp2_with fail
  go_region
  go_wp2_with fail;go_ret;exact ⟨zaa HR.out.symm,(by first | exact bl2 _ _ _ | exact (bl2 _ _ _).drew | exact thenB (za7 _ _) (al1 _ _) | exact thenB (al1 _ _) (za7 _ _))⟩
 by_cases t2:0<=m
 case neg=>
  have HR:Hid (okF a 2048 m (o.uses.length:Int)=false):=by show _=_;simp [okF,t2]
  have n2:m<0:=by omega
  clear t2;go_enter Tryz.func133,Tryz.ntmps133;go_wp2_with fail
  go_region
  go_wp2_with fail;go_ret;exact ⟨zaa HR.out.symm,(by first | exact bl2 _ _ _ | exact (bl2 _ _ _).drew | exact thenB (za7 _ _) (al1 _ _) | exact thenB (al1 _ _) (za7 _ _))⟩
 have HR:Hid (okF a 2048 m (o.uses.length:Int)=decide (m<=(o.uses.length:Int))):=by show _=_;simp [okF,t0,t1,t2]
 go_enter Tryz.func133,Tryz.ntmps133;go_wp2_with fail
 go_region
 go_wp2_with fail;go_ret;exact ⟨zaa HR.out.symm,(by first | exact bl2 _ _ _ | exact (bl2 _ _ _).drew | exact thenB (za7 _ _) (al1 _ _) | exact thenB (al1 _ _) (za7 _ _))⟩
theorem z9o (o:Ob) (x1:OA) (y1:Nat) (x3:OA) (y3:Nat) (x4:OA) (y4:Nat) (x5:OA) (y5:Nat) (j:Nat) (m:Int) (w:World) (hj:j<o.code.length) (hC:DAt w Tt x3 o.code.length (zri o.code)) (hu:o.uses.length<=17592186044416) :
 Calls Tryz.prog 133 #[.agg #[.string o.name,.slice x1 o.uses.length y1,.int .i64 o.data,.slice x3 o.code.length y3,.slice x4 o.fixes.length y4,.slice x5 o.entries.length y5,.int .i64 o.main],.agg #[.int .i64 (j:Int),.int .i64 3,.int .i64 m]] w fun e w'=>e = .returned (.bool (okF o.code[j].a 2048 m (o.uses.length:Int)))/\Below w.heap.size w w':=by
 have hbd:=hC.bound;obtain ⟨b,off,rfl,hx⟩:=hC.gi j hj;obtain ⟨hbl,_,z1,_,_,_,_⟩:=hx;generalize o.code[j].a=a at *;clear hC
 by_cases t0:0<=a
 case neg=>
  have HR:Hid (okF a 2048 m (o.uses.length:Int)=false):=by show _=_;simp [okF,t0]
  have n0:a<0:=by omega
  clear t0;go_enter Tryz.func133,Tryz.ntmps133;go_wp2_with fail
  go_region
  go_wp2_with fail;go_ret;exact ⟨zaa HR.out.symm,(by first | exact bl2 _ _ _ | exact (bl2 _ _ _).drew | exact thenB (za7 _ _) (al1 _ _) | exact thenB (al1 _ _) (za7 _ _))⟩
 by_cases t1:a<=2048
 case neg=>
  have HR:Hid (okF a 2048 m (o.uses.length:Int)=false):=by show _=_;simp [okF,t1]
  have n1:2048<a:=by omega
  clear t1;go_enter Tryz.func133,Tryz.ntmps133;go_wp2_with fail
  go_region
  go_wp2_with fail;go_ret;exact ⟨zaa HR.out.symm,(by first | exact bl2 _ _ _ | exact (bl2 _ _ _).drew | exact thenB (za7 _ _) (al1 _ _) | exact thenB (al1 _ _) (za7 _ _))⟩
 by_cases t2:0<=m
 case neg=>
  have HR:Hid (okF a 2048 m (o.uses.length:Int)=false):=by show _=_;simp [okF,t2]
  have n2:m<0:=by omega
  clear t2;go_enter Tryz.func133,Tryz.ntmps133;go_wp2_with fail
  go_region
  go_wp2_with fail;go_ret;exact ⟨zaa HR.out.symm,(by first | exact bl2 _ _ _ | exact (bl2 _ _ _).drew | exact thenB (za7 _ _) (al1 _ _) | exact thenB (al1 _ _) (za7 _ _))⟩
 have HR:Hid (okF a 2048 m (o.uses.length:Int)=decide (m<=(o.uses.length:Int))):=by show _=_;simp [okF,t0,t1,t2]
 go_enter Tryz.func133,Tryz.ntmps133;go_wp2_with fail
 go_region
 go_wp2_with fail;go_ret;exact ⟨zaa HR.out.symm,(by first | exact bl2 _ _ _ | exact (bl2 _ _ _).drew | exact thenB (za7 _ _) (al1 _ _) | exact thenB (al1 _ _) (za7 _ _))⟩
theorem z9p (o:Ob) (x1:OA) (y1:Nat) (x3:OA) (y3:Nat) (x4:OA) (y4:Nat) (x5:OA) (y5:Nat) (at_ kind m:Int) (w:World) (h1:kind≠1) (h2:kind≠2) (h3:kind≠3) (hu:o.uses.length<=17592186044416) :
 Calls Tryz.prog 133 #[.agg #[.string o.name,.slice x1 o.uses.length y1,.int .i64 o.data,.slice x3 o.code.length y3,.slice x4 o.fixes.length y4,.slice x5 o.entries.length y5,.int .i64 o.main],.agg #[.int .i64 at_,.int .i64 kind,.int .i64 m]] w fun e w'=>e = .returned (.bool false)/\Below w.heap.size w w':=by
 go_enter Tryz.func133,Tryz.ntmps133;go_wp2_with fail
 go_region
 go_wp2_with fail;go_ret;exact ⟨rfl,(by first | exact bl2 _ _ _ | exact (bl2 _ _ _).drew | exact thenB (za7 _ _) (al1 _ _) | exact thenB (al1 _ _) (za7 _ _))⟩
theorem zr1 (o:Ob) (x1:OA) (y1:Nat) (x3:OA) (y3:Nat) (x4:OA) (y4:Nat) (x5:OA) (y5:Nat) (f:Gf) (w:World) (hp:zbv o f.at_=true) (hC:DAt w Tt x3 o.code.length (zri o.code)) (hu:o.uses.length<=17592186044416) :
 Calls Tryz.prog 133 #[.agg #[.string o.name,.slice x1 o.uses.length y1,.int .i64 o.data,.slice x3 o.code.length y3,.slice x4 o.fixes.length y4,.slice x5 o.entries.length y5,.int .i64 o.main],.agg #[.int .i64 f.at_,.int .i64 f.kind,.int .i64 f.m]] w fun e w'=>e = .returned (.bool (zzg o f))/\Below w.heap.size w w':=by
 obtain ⟨at_,kind,m⟩:=f;have hp':=of_decide_eq_true hp;simp only at hp'
 obtain ⟨j,rfl⟩:∃ j:Nat,at_=j:=⟨at_.toNat,by omega⟩
 have hj:j<o.code.length:=by omega
 have ha:aAt o (j:Int)=o.code[j].a:=by unfold aAt;rw [vbm,vaj hj]
 unfold zzg;simp only [ha]
 by_cases e1:kind=1
 . subst e1;exact z9m o x1 y1 x3 y3 x4 y4 x5 y5 j m w hj hC hu
 by_cases e2:kind=2
 . subst e2;exact z9n o x1 y1 x3 y3 x4 y4 x5 y5 j m w hj hC hu
 by_cases e3:kind=3
 . subst e3;exact z9o o x1 y1 x3 y3 x4 y4 x5 y5 j m w hj hC hu
 . rw [if_neg e1,if_neg (by omega)]
   exact z9p o x1 y1 x3 y3 x4 y4 x5 y5 j kind m w e1 e2 e3 hu
theorem zr2 (o:Ob):zea o=zic o.fixes.length (zg1 o):=rfl
theorem zp7 (o:Ob) (x1:OA) (y1:Nat) (x3:OA) (y3:Nat) (x4:OA) (y4:Nat) (x5:OA) (y5:Nat) (w:World) (hO:OvAt w o x1 x3 x4 x5) :
 Calls Tryz.prog 84 #[.agg #[.string o.name,.slice x1 o.uses.length y1,.int .i64 o.data,.slice x3 o.code.length y3,.slice x4 o.fixes.length y4,.slice x5 o.entries.length y5,.int .i64 o.main]] w fun e w'=>e = .returned (.bool (zea o))/\Below w.heap.size w w':=by
 have hb4:=hO.fixes.bound;have HO:=hid hO;have HP:=hid (fun (x:Int) (W:World)=>zoi o o.name x1 o.uses.length y1 o.data x3 y3 x4 o.fixes.length y4 x5 o.entries.length y5 o.main x W hO.code.bound);have HH:=hid (fun (f:Gf) (W:World) (hW:Below w.heap.size w W) (hp:zbv o f.at_=true)=>zr1 o x1 y1 x3 y3 x4 y4 x5 y5 f W hp (hO.code.later hW) hO.uses.bound);clear hO;go_enter Tryz.func84,Tryz.ntmps84;go_wp2_with fail
 go_loopw [3,9] (fun v i wr=>∃ j:Nat,j<=o.fixes.length/\i = .int .i64 j/\v = .int .i64 (lastAt o j)/\(∀ k,k<j->zg1 o k=true)/\Below w.heap.size w wr/\wr.heap[w.heap.size]? = some (oC o x1 y1 x3 y3 x4 y4 x5 y5)) (fun _ i _=>o.fixes.length - (intOf i).toNat)
 case atStart=>exact ⟨0,vae _,rfl,rfl,fun k hk=>absurd hk (vcv k),al1 _ _,heap_newP w (oC o x1 y1 x3 y3 x4 y4 x5 y5)⟩
 case round=>
  obtain ⟨j,hj,rfl,rfl,hall,hb,hB⟩:=hrel;obtain ⟨q0,q1,q2,q3,q4,q5,q6,_⟩:=zaj hB;have qz:=zab hB;have HB:=hid hb;have HX:=hid hB;have HL:=hid hall;clear hall hB hb
  by_cases hlt:j<o.fixes.length
  . obtain ⟨b,off,rfl,hx⟩:=(HO.out.later HB.out).fixes.gf j hlt
    have HE:Hid (zg1 o j=(decide (lastAt o j<o.fixes[j].at_)&&(zbv o o.fixes[j].at_&&zzg o o.fixes[j]))):=by show _=_;unfold zg1;rw [vaj hlt]
    have HS:Hid (lastAt o (j+1)=o.fixes[j].at_):=by show (match o.fixes[j]? with | some f=>f.at_ | none=>-1)=_;rw [vaj hlt]
    have HF:=hid (fun (h:zg1 o j=false)=>(by rw [zr2,zc7 hlt h]:zea o=false));have HT:=hid (fun (h:zg1 o j=true)=>zfh HL.out (h));obtain ⟨hbl,p0,p1,p2,_,_,_⟩:=hx;generalize o.fixes[j]=f at *;generalize lastAt o j=la at *
    by_cases t1:la<f.at_
    . have HX2:=hid (zae (o:=.cells #[.int .i64 f.at_,.int .i64 f.kind,.int .i64 f.m] 67) HX.out)
      have HY2:=hid (heap_newP wr (.cells #[.int .i64 f.at_,.int .i64 f.kind,.int .i64 f.m] 67));have HB2:=hid (thenB HB.out (al1 wr (.cells #[.int .i64 f.at_,.int .i64 f.kind,.int .i64 f.m] 67)))
      have hz2:wr.heap.size<(wr.alloc (.cells #[.int .i64 f.at_,.int .i64 f.kind,.int .i64 f.m] 67)).heap.size:=by simp
      have hz1:w.heap.size<(wr.alloc (.cells #[.int .i64 f.at_,.int .i64 f.kind,.int .i64 f.m] 67)).heap.size:=by simp;omega
      have HZ1:=hid hz1;have HZ2:=hid hz2;clear hz1 hz2;go_wp2_with fail;refine (HP.out f.at_ _).mono ?_;rintro e w1 ⟨rfl,hb1⟩;have HB1:=hid (thenB HB2.out hb1);have HX1:=hid ((hb1.block _ HZ1.out).trans HX2.out);have HY1:=hid ((hb1.block _ HZ2.out).trans HY2.out);clear q0 q1 q2 q3 q4 q5 q6 qz hb1 p0 p1 p2 hbl;obtain ⟨q0,q1,q2,q3,q4,q5,q6,_⟩:=zaj HX1.out;have qz:=zab HX1.out;obtain ⟨p0,p1,p2,_⟩:=zbm HY1.out;have pz:=zab HY1.out
      cases hp:zbv o f.at_ with
      | false=>
        have HR:=hid (HF.out (by rw [HE.out,hp];simp));go_wp2_with fail;go_ret;exact ⟨zaa HR.out.symm,HB1.out⟩
      | true=>
        have HC:=hid (HH.out f w1 HB1.out hp);go_wp2_with fail;refine HC.out.mono ?_;rintro e w2 ⟨rfl,hb2⟩;have HB3:=hid (thenB HB1.out hb2);have HX3:=hid ((hb2.block _ qz).trans HX1.out);have HY3:=hid ((hb2.block _ pz).trans HY1.out);clear q0 q1 q2 q3 q4 q5 q6 qz p0 p1 p2 pz hb2;obtain ⟨p0,p1,p2,_⟩:=zbm HY3.out;have pz:=zab HY3.out
        cases hf:zzg o f with
        | false=>
          have HR:=hid (HF.out (by rw [HE.out,hf];simp));go_wp2_with fail;go_ret;exact ⟨zaa HR.out.symm,HB3.out⟩
        | true=>
          have HT':=hid (HT.out (by rw [HE.out,hf,hp,decide_eq_true t1];rfl));go_wp2_with fail;go_roundw
          case rel=>exact ⟨j+1,by omega,by go_num,by rw [HS.out],HT'.out,HB3.out,HX3.out⟩
          case measure=>simp [intOf];omega
    . have HR:=hid (HF.out (by rw [HE.out,decide_eq_false t1];rfl))
      have t1':f.at_<=la:=by omega
      clear t1;go_wp2_with fail;go_ret;exact ⟨zaa HR.out.symm,thenB HB.out (al1 _ _)⟩
  . obtain rfl:j=o.fixes.length:=by omega
    have HR:Hid (zea o=true):=by show _=_;rw [zr2,zbk.2 HL.out]
    go_wp2_with fail;go_ret;exact ⟨zaa HR.out.symm,HB.out⟩
set_option maxHeartbeats 1600000
theorem zg2 (o:Ob) (x1:OA) (y1:Nat) (x3:OA) (y3:Nat) (x4:OA) (y4:Nat) (x5:OA) (y5:Nat) (w:World) (hO:OvAt w o x1 x3 x4 x5) (hcp:o.uses.length<=y1) :
 Calls Tryz.prog 32 #[.agg #[.string o.name,.slice x1 o.uses.length y1,.int .i64 o.data,.slice x3 o.code.length y3,.slice x4 o.fixes.length y4,.slice x5 o.entries.length y5,.int .i64 o.main]] w fun e w'=>e = .returned (.int .i64 (oChk o))/\Below w.heap.size w w':=by
 have HQ:Hid (oChk o=if zhy o=true then 2 else if (zd9 o&&(zd3 o&&zea o))=true then 0 else 1):=rfl;have HM:=hid (zzf o o.name x1 y1 o.data x3 y3 x4 o.fixes.length y4 x5 y5 o.main (w.alloc (oC o x1 y1 x3 y3 x4 y4 x5 y5)) hO.uses.bound hO.code.bound hO.entries.bound);have HN:=hid (fun (W:World) (hW:Below w.heap.size w W) (h3:o.uses.length<=3)=>zp6 o x1 y1 x3 y3 x4 y4 x5 y5 W (hO.later hW) h3 hcp);have HC:=hid (fun (W:World) (hW:Below w.heap.size w W)=>zp5 o x1 y1 x3 y3 x4 y4 x5 y5 W (hO.later hW));have HF:=hid (fun (W:World) (hW:Below w.heap.size w W)=>zp7 o x1 y1 x3 y3 x4 y4 x5 y5 W (hO.later hW));clear hO;go_enter Tryz.func32,Tryz.ntmps32;go_wp2_with fail;refine HM.out.mono ?_;rintro e w1 ⟨rfl,hb1⟩;have HB1:=hid (thenB (al1 w _) hb1);have HX1:=hid ((hb1.block _ (by simp)).trans (heap_newP w (oC o x1 y1 x3 y3 x4 y4 x5 y5)))
 clear hb1;obtain ⟨q0,q1,q2,q3,q4,q5,q6,_⟩:=zaj HX1.out;have qz:=zab HX1.out
 cases hm:zhy o with
 | true=>
   have HR:Hid (oChk o=2):=by show _=_;rw [HQ.out,hm];rfl
   go_wp2_with fail;go_ret;exact ⟨by rw [HR.out];first | done | rfl,HB1.out⟩
 | false=>
 have h3:o.uses.length<=3:=by
  unfold zhy at hm;simp only [vay,decide_eq_false_iff_not] at hm;omega
 have HR:Hid (oChk o=if (zd9 o&&(zd3 o&&zea o))=true then 0 else 1):=by show _=_;rw [HQ.out,hm];rfl
 have HN':=hid (HN.out w1 HB1.out h3);clear hm h3 HQ;go_wp2_with fail;refine HN'.out.mono ?_;rintro e w2 ⟨rfl,hb2⟩;have HB2:=hid (thenB HB1.out hb2);have HX2:=hid ((hb2.block _ qz).trans HX1.out);have HC':=hid (HC.out w2 HB2.out);clear hb2 q0 q1 q2 q3 q4 q5 q6 qz;obtain ⟨q0,q1,q2,q3,q4,q5,q6,_⟩:=zaj HX2.out;have qz:=zab HX2.out
 cases hn:zd9 o with
 | false=>
   have HR':Hid (oChk o=1):=by show _=_;rw [HR.out,hn];rfl
   go_wp2_with fail;go_ret;exact ⟨by rw [HR'.out];first | done | rfl,HB2.out⟩
 | true=>
 have HR2:Hid (oChk o=if (zd3 o&&zea o)=true then 0 else 1):=by show _=_;rw [HR.out,hn];rfl
 go_wp2_with fail;refine HC'.out.mono ?_;rintro e w3 ⟨rfl,hb3⟩;have HB3:=hid (thenB HB2.out hb3);have HX3:=hid ((hb3.block _ qz).trans HX2.out);have HF':=hid (HF.out w3 HB3.out);clear hb3 q0 q1 q2 q3 q4 q5 q6 qz;obtain ⟨q0,q1,q2,q3,q4,q5,q6,_⟩:=zaj HX3.out;have qz:=zab HX3.out
 cases hc:zd3 o with
 | false=>
   have HR':Hid (oChk o=1):=by show _=_;rw [HR2.out,hc];rfl
   go_wp2_with fail;go_ret;exact ⟨by rw [HR'.out];first | done | rfl,HB3.out⟩
 | true=>
 go_wp2_with fail;refine HF'.out.mono ?_;rintro e w4 ⟨rfl,hb4⟩;have HB4:=hid (thenB HB3.out hb4);clear hb4 q0 q1 q2 q3 q4 q5 q6 qz
 cases hf:zea o with
 | false=>
   have HR':Hid (oChk o=1):=by show _=_;rw [HR2.out,hc,hf];rfl
   go_wp2_with fail;go_ret;exact ⟨by rw [HR'.out];first | done | rfl,HB4.out⟩
 | true=>
   have HR':Hid (oChk o=0):=by show _=_;rw [HR2.out,hc,hf];rfl
   go_wp2_with fail;go_ret;exact ⟨by rw [HR'.out];first | done | rfl,HB4.out⟩
end Go.Proofs.YtndkhgakfodldaaGreatDoor
