import Derived.Test.YtndkhgakfodldaaGreatDoorRdg
namespace Go.Proofs.YtndkhgakfodldaaGreatDoor
open Go.RowKit Go.Maps
theorem Tryz.infoStr:(Tryz.prog.info? 9).map (fun i=>(i.zero,i.size,i.bytes))=some (some (.string .empty),1,16):=by kernel_rfl
abbrev zmv (w:World) (base:Nat) (v:Value) (xs:List ByteArray):Prop:=w.ownsRow base 9 1 v xs.length (xs.map .string)
theorem zjx (w:World) (base:Nat) (ty:TypeId) (v:Value) (xs:List ByteArray) (hown:zmv w base v xs) (a:OA) (cap:Nat) (ys:List ByteArray) (hD:DAt w Tt a ys.length (zan ys)) (hb:xs.length+ys.length<=4194304) (hbase:base<=w.heap.size) :
 ∃ v' w',(Builtin.append_ #[22,22] ty #[v,.slice a ys.length cap]).run Tryz.prog w = .ok v' w'/\zmv w' base v' (xs++ys)/\w.grownBy w' v.ownBlock:=by
 obtain ⟨i0,hi,hz0,hz1,hz2⟩:=info_parts Tryz.infoStr
 have key:∀ ad:Addr,(∀ j (h:j<ys.length),w.cell? (ad.add j)=some (.string ys[j]))->∃ v' w',(Builtin.append_ #[22,22] ty #[v,.slice (some ad) ys.length cap]).run Tryz.prog w = .ok v' w'/\zmv w' base v' (xs++ys)/\w.grownBy w' v.ownBlock:=by
  intro ad hc
  obtain ⟨v',w',hr,h2,h3,_⟩:=run_append_own_at (P:=Tryz.prog) w base 22 ty 9 i0 (.string .empty) 1 16 Tryz.underlying22 hi hz0 hz1 hz2 rfl (by omega) v xs.length _ hown ad ys.length cap (ys.map .string) (by simp)
   (fun j u hu=>by
     rw [vdr] at hu;obtain ⟨s,hs,rfl⟩:=Option.map_eq_some_iff.1 hu;obtain ⟨hj,rfl⟩:=List.getElem?_eq_some_iff.1 hs
     exact hc j hj)
   (fun u hu=>by obtain ⟨s,_,rfl⟩:=vcg.1 hu;rfl) (by simp only [maxLen];omega) (by omega) hbase
  refine ⟨v',w',hr,?_,h3⟩;unfold zmv;rw [vbr,vao];exact h2
 by_cases h0:0<ys.length
 . obtain ⟨b,off,rfl,_,_⟩:=hD.str 0 h0
   exact key ⟨b,off,none⟩ (fun j h=>by
    obtain ⟨b',off',e,_,hc,_⟩:=hD.str j h
    cases e
    rw [show (⟨b,off,none⟩:Addr).add j=⟨b,off+j,none⟩ from by unfold Addr.add;split<;>simp_all]
    exact hc)
 . have hy:ys=[]:=vaj (by omega)
   subst hy
   cases a with
   | some ad=>exact key ad (fun j h=>by simp at h)
   | none=>
     refine ⟨v,w,?_,by rw [vbw];exact hown,⟨rfl,rfl,rfl,vaa _,fun _ _ _=>rfl⟩⟩
     rcases hown.2 with ⟨rfl,_⟩ | ⟨g,cp,cur,rfl,_,hg,hn,_⟩
     . simp [Builtin.append_,run_underlying Tryz.underlying22,sizeOf,typeInfo,hi,Builtin.lenOf,Builtin.firstCells]
     . simp [Builtin.append_,run_underlying Tryz.underlying22,sizeOf,typeInfo,hi,Builtin.lenOf,Builtin.firstCells,loadCells,storeCells,hn]
theorem zmv.cell {w:World} {base:Nat} {v:Value} {xs:List ByteArray} (h:zmv w base v xs):∃ a cap,v = .slice a xs.length cap/\∀ j (hj:j<xs.length),∃ b,a=some ⟨b,0,none⟩/\b<w.heap.size/\w.cell? ⟨b,j,none⟩=some (.string xs[j]):=by
 obtain ⟨hl,h⟩:=h
 rcases h with ⟨rfl,h0⟩ | ⟨g,cap,cur,rfl,hb,hg,h1,h2,h3,h4⟩
 . exact ⟨none,0,by rw [h0],fun j hj=>by omega⟩
 . refine ⟨some ⟨g,0,none⟩,cap,rfl,fun j hj=>⟨g,rfl,Nat.lt_of_not_le (fun hle=>by rw [vco hle] at hg;cases hg),?_⟩⟩
   rw [veb hg];have:=congrArg (fun l=>l[j]?) h4;simp only [Nat.mul_one] at this;rw [List.getElem?_take,if_pos hj,vdr,vba hj] at this;simpa using this
theorem zaz {P:Program} {ops:Array Oper} {o:Oper} {a:Act} {w w':World} {K:Act->World->Prop} {Q:Exit->Act->World->Prop} {E:Prop} (hgd:o.guard=none) (s x:Operand) (t:TypeId)
 (ho:o.op = .call { callee:=.builtin .append,args:=#[s,x],argTypes:=#[t,t] }) (v1 v2 v':Value) (hs:a.eval s=v1) (hx:a.eval x=v2)
 (hr:(Builtin.append_ #[t,t] o.type #[v1,v2]).run P w = .ok v' w') (h:K (a.put o.dst v') w') :
 if Region.wanted o (yielded ops a.tmps)=true then Oper.wp P o a w K Q else E:=by
 have hw:Region.wanted o (yielded ops a.tmps)=true:=by simp [Region.wanted,hgd]
 rw [if_pos hw];unfold Oper.wp execOp;simp only [ho,resolve,invoke,builtin,Sem.run_bind,Sem.run_pure,Result.andThen_ok,List.map_toArray,vbq,vcu,hs,hx,hr];exact h
def nB (s:ByteArray):Bool:=!nameOk s
def dB1 (d:De):Bool:=!inB d.kind 1 3
def dB3 (d:De):Bool:=!nameOk d.name||((d.kind == 1 && !inB d.n 0 1099511627775)||((d.kind == 2&&d.n != 0)||(d.kind == 3 && !inB d.n 1 32)))
def pB1 (p:Pr):Bool:=bL 1 6 p.body
def pB2 (p:Pr):Bool:=(decide (3<p.params.length)||decide (4<p.locals.length))||bL 2 6 p.body
def pB3 (p:Pr):Bool:=!nameOk p.name||(bL 3 6 p.body||(p.params++p.locals).any nB)
def mL1 (m:Mo):Bool:=(m.decls.any dB1||(m.procs.any pB1||bL 1 6 m.main))
def mL2 (m:Mo):Bool:=((decide (3<m.uses.length)||(decide (10<m.decls.length)||decide (6<m.procs.length)))||(m.procs.any pB2||bL 2 6 m.main))
def mL3 (m:Mo):Bool:=(!nameOk m.name||(m.uses.any nB||(m.decls.any dB3||(m.procs.any pB3||bL 3 6 m.main))))
def Small (m:Mo):Prop:=∀ p ∈ m.procs,p.params.length<=1048576/\p.locals.length<=1048576
theorem Blk.c4 {w:World} {b:Nat} {u0 u1 u2 u3:Value} (h:Blk w b [u0,u1,u2,u3]):w.cell? ⟨b,0,none⟩=some u0/\w.cell? ⟨b,1,none⟩=some u1/\w.cell? ⟨b,2,none⟩=some u2/\w.cell? ⟨b,3,none⟩=some u3/\b<w.heap.size:=
 ⟨h.cell 0 _ rfl,h.cell 1 _ rfl,h.cell 2 _ rfl,h.cell 3 _ rfl,h.lt⟩
theorem zjy (w:World) (ps ls:List ByteArray) (a5 a6:OA) (c5 c6:Nat) (h5:DAt w Tt a5 ps.length (zan ps)) (h6:DAt w Tt a6 ls.length (zan ls)) (hp:ps.length<=1048576) (hl:ls.length<=1048576) :
 ∃ v1 w5 a cap w6,(Builtin.append_ #[22,22] 22 #[.slice (some ⟨w.heap.size,0,none⟩) 0 0,.slice a5 ps.length c5]).run Tryz.prog (w.drew.alloc (.cells #[] 9)) = .ok v1 w5/\Below w.heap.size w w5/\
   (Builtin.append_ #[22,22] 22 #[v1,.slice a6 ls.length c6]).run Tryz.prog w5 = .ok (.slice a (ps++ls).length cap) w6/\Below w.heap.size w w6/\
   ∀ j (hj:j<(ps++ls).length),∃ b,a=some ⟨b,0,none⟩/\b<w6.heap.size/\w6.cell? ⟨b,j,none⟩=some (.string (ps++ls)[j]):=by
 have hB0:Below w.heap.size w (w.drew.alloc (.cells #[] 9)):=((Below.refl _ _).drew).alloc (by simp) _
 have hown:zmv (w.drew.alloc (.cells #[] 9)) w.heap.size (.slice (some ⟨w.heap.size,0,none⟩) 0 0) []:=
  ⟨rfl,Or.inr ⟨w.heap.size,0,#[],rfl,vaa _,zm2 w.drew _,vaa _,by simp [maxLen],rfl,rfl⟩⟩
 obtain ⟨v1,w5,hr1,ho1,hg1⟩:=zjx _ w.heap.size 22 _ [] hown a5 c5 ps (h5.later hB0) (by simp;omega) (by simp);have hB5:Below w.heap.size w w5:=hB0.grown hg1 (by simp) (fun k hk=>by simp [Value.ownBlock] at hk;omega)
 have hk1:∀ k,v1.ownBlock=some k->w.heap.size<=k:=by
  intro k hk
  rcases ho1.2 with ⟨rfl,_⟩ | ⟨g,cap,cur,rfl,hb,_⟩
  . simp [Value.ownBlock] at hk
  . simp [Value.ownBlock] at hk;omega
 obtain ⟨v2,w6,hr2,ho2,hg2⟩:=zjx w5 w.heap.size 22 v1 ([]++ps) ho1 a6 c6 ls (h6.later hB5) (by simp;omega) hB5.size;have hB6:Below w.heap.size w w6:=hB5.grown hg2 hB5.size hk1;rw [vcb] at ho2;obtain ⟨a,cap,rfl,hc⟩:=ho2.cell;exact ⟨v1,w5,a,cap,w6,hr1,hB5,hr2,hB6,hc⟩
theorem zjz {α:Type} {l:List α} {p q:α->Bool} (h:∀ x ∈ l,p x=q x):l.any p=l.any q:=by
 induction l with
 | nil=>rfl
 | cons x r ih=>rw [vdt,vdt,h x (by simp),ih (fun y hy=>h y (by simp [hy]))]
theorem zbv {α:Type} {l:List α} {p q:α->Bool} (h:∀ x ∈ l,p x = !q x):l.any p = !l.all q:=by
 induction l with
 | nil=>rfl
 | cons x r ih=>rw [vdt,vbs,h x (by simp),ih (fun y hy=>h y (by simp [hy])),vdz]
theorem zy7 (op:Int):exB op=inB op 1 15:=by
 unfold exB zhm inB
 by_cases h:1<=op/\op<=15
 . have h1:op=1\/op=2\/op=3\/op=4\/op=5\/op=6\/(7<=op/\op<=15):=by omega
   rcases h1 with rfl | rfl | rfl | rfl | rfl | rfl | h1
   all_goals first | rfl | skip
   rw [if_neg (by omega),if_neg (by omega),if_neg (by omega),if_neg (by omega),if_neg (by omega),if_neg (by omega),if_pos h1];simp [h.1,h.2]
 . rw [if_neg (by omega),if_neg (by omega),if_neg (by omega),if_neg (by omega),if_neg (by omega),if_neg (by omega),if_neg (by omega)]
   have:¬ (1<=op/\op<=15):=h
   simp;omega
theorem zy8 (op:Int):stB op=inB op 1 7:=by
 unfold stB zi5 inB
 by_cases h:1<=op/\op<=7
 . have h1:op=1\/op=2\/op=3\/op=4\/op=5\/op=6\/op=7:=by omega
   rcases h1 with rfl | rfl | rfl | rfl | rfl | rfl | rfl<;>rfl
 . rw [if_neg (by omega),if_neg (by omega),if_neg (by omega),if_neg (by omega),if_neg (by omega),if_neg (by omega),if_neg (by omega)]
   simp;omega
theorem zre:∀ (k:Nat) (l:List Ex),l.any (eL 1 k) = !zau k l
 | 0,l=>by
   simp only [zau,Bool.not_true];rw [vau];intro x _;simp [eL]
 | k+1,l=>by
   unfold zau
   refine zbv fun x _=>?_
   show (zh7 1 x||x.args.any (eL 1 k))=_;rw [zre k x.args,zy7,vdz]
   rfl
theorem zvy:∀ (k:Nat) (l:List Ex),(decide (3<l.length)||l.any (eL 2 k))=zai k l
 | 0,l=>by
   unfold zai
   cases l with
   | nil=>rfl
   | cons x r=>simp [eL]
 | k+1,l=>by
   unfold zai
   congr 1
   refine zjz fun x _=>?_
   show (zh7 2 x||x.args.any (eL 2 k))=_;rw [← zvy k x.args]
   rfl
theorem z1k (op:Int) (h:inB op 1 15=true):op=1\/op=2\/op=3\/op=4\/op=5\/op=6\/(7<=op/\op<=15):=by
 simp [inB] at h;omega
theorem zvz (mod name:ByteArray):zc7 mod name=(nameOk name&&(decide (mod.size=0)||nameOk mod)):=by
 unfold zc7;rw [zcj,Bool.and_comm]
theorem z0a {op:Int} (h1:7<=op) (h2:op<=15):exS op=⟨false,false,2,2,false,false⟩:=by
 unfold exS zhm;rw [if_neg (by omega),if_neg (by omega),if_neg (by omega),if_neg (by omega),if_neg (by omega),if_neg (by omega),if_pos ⟨h1,h2⟩]
 rfl
theorem zbt (nm nb bd ot:Bool) (a:Int) (k:Nat):zas ⟨nm,nb,a,a,bd,ot⟩ k=((k:Int) == a):=by
 unfold zas;rw [vbt];simp;omega
theorem zlx (nm bd ot:Bool) (a b:Int) (n:Int):nOk ⟨nm,false,a,b,bd,ot⟩ n=(n == 0):=by
 unfold nOk;rw [vbt];simp
theorem z0b (nm bd ot:Bool) (a b:Int) (n:Int):nOk ⟨nm,true,a,b,bd,ot⟩ n=inB n 0 1099511627775:=rfl
theorem zeh (nb bd ot:Bool) (a b:Int) (mod name:ByteArray):zca ⟨false,nb,a,b,bd,ot⟩ mod name=(decide (mod.size=0)&&decide (name.size=0)):=rfl
theorem zes (nb bd ot:Bool) (a b:Int) (mod name:ByteArray):zca ⟨true,nb,a,b,bd,ot⟩ mod name=(nameOk name&&(decide (mod.size=0)||nameOk mod)):=rfl
theorem z0c (x:Ex) (hk:inB x.op 1 15=true) (hm:x.args.length<=3):c3 x = !(zca (exS x.op) x.mod x.name&&(nOk (exS x.op) x.n&&zas (exS x.op) x.args.length)):=by
 obtain ⟨op,n,mod,name,l⟩:=x;simp only [Ex.op,Ex.n,Ex.mod,Ex.name,Ex.args] at hk hm ⊢;have h:=z1k op hk;unfold c3;simp only [Ex.op,Ex.n,Ex.mod,Ex.name,Ex.args];rw [zvz,zcj,zcj];generalize hF:(nameOk name&&(decide (mod.size=0)||nameOk mod))=F
 rcases h with rfl | rfl | rfl | rfl | rfl | rfl | ⟨h1,h2⟩
 . simp only [show inB 1 3 5=false from rfl,show exN 1=0 from rfl,show exS 1=(⟨false,true,0,0,false,false⟩:Sh) from rfl,show ((1:Int) == 1)=true from rfl,bne,zeh,z0b,zbt]
   cases F<;>cases decide (mod.size=0)<;>cases decide (name.size=0)<;>cases inB n 0 1099511627775<;>cases (n == 0)<;>cases ((l.length:Int) == 0)<;>rfl
 . simp only [show inB 2 3 5=false from rfl,show exN 2=0 from rfl,show exS 2=(⟨false,false,0,0,false,false⟩:Sh) from rfl,show ((2:Int) == 1)=false from rfl,bne,zeh,zlx,zbt]
   cases F<;>cases decide (mod.size=0)<;>cases decide (name.size=0)<;>cases inB n 0 1099511627775<;>cases (n == 0)<;>cases ((l.length:Int) == 0)<;>rfl
 . simp only [show inB 3 3 5=true from rfl,show exN 3=0 from rfl,show exS 3=(⟨true,false,0,0,false,false⟩:Sh) from rfl,show ((3:Int) == 1)=false from rfl,bne,zes,zlx,zbt,hF]
   cases F<;>cases decide (mod.size=0)<;>cases decide (name.size=0)<;>cases inB n 0 1099511627775<;>cases (n == 0)<;>cases ((l.length:Int) == 0)<;>rfl
 . simp only [show inB 4 3 5=true from rfl,show exN 4=1 from rfl,show exS 4=(⟨true,false,1,1,false,false⟩:Sh) from rfl,show ((4:Int) == 1)=false from rfl,bne,zes,zlx,zbt,hF]
   cases F<;>cases decide (mod.size=0)<;>cases decide (name.size=0)<;>cases inB n 0 1099511627775<;>cases (n == 0)<;>cases ((l.length:Int) == 1)<;>rfl
 . have hc:zas ⟨true,false,0,3,false,false⟩ l.length=true:=by simp [zas];omega
   simp only [show inB 5 3 5=true from rfl,show exN 5 = -1 from rfl,show exS 5=(⟨true,false,0,3,false,false⟩:Sh) from rfl,show ((5:Int) == 1)=false from rfl,bne,zes,zlx,hc,hF]
   cases F<;>cases decide (mod.size=0)<;>cases decide (name.size=0)<;>cases (n == 0)<;>rfl
 . simp only [show inB 6 3 5=false from rfl,show exN 6=1 from rfl,show exS 6=(⟨false,false,1,1,false,false⟩:Sh) from rfl,show ((6:Int) == 1)=false from rfl,bne,zeh,zlx,zbt]
   cases F<;>cases decide (mod.size=0)<;>cases decide (name.size=0)<;>cases inB n 0 1099511627775<;>cases (n == 0)<;>cases ((l.length:Int) == 1)<;>rfl
 . have e1:inB op 3 5=false:=by unfold inB;rw [vcf];right;simp;omega
   have e2:exN op=2:=by unfold exN;rw [if_neg (by omega),if_neg (by omega),if_neg (by omega)]
   have e3:(op == 1)=false:=beq_eq_false_iff_ne.2 (by omega);simp only [e1,e2,z0a h1 h2,e3,bne,zeh,zlx,zbt]
   cases decide (mod.size=0)<;>cases decide (name.size=0)<;>cases (n == 0)<;>cases ((l.length:Int) == 2)<;>rfl
theorem zv0:∀ (k:Nat) (l:List Ex),zau k l=true->zai k l=false->l.any (eL 3 k) = !zbc k l
 | 0,l,_,_=>by
   simp only [zbc,Bool.not_true];rw [vau];intro x _;simp [eL]
 | k+1,l,hk,hm=>by
   unfold zbc;unfold zau at hk;unfold zai at hm;rw [vap] at hm
   refine zbv fun x hx=>?_
   have h1:=vat.1 hk x hx;rw [van] at h1;have h2:=vau.1 hm.2 x hx
   have h2':zai k x.args=false:=by simpa using h2
   have h3:x.args.length<=3:=by
    rcases vbk 3 x.args.length with h | h
    . exfalso
      cases k with
      | zero=>simp [zai] at h2';rw [h2'] at h;simp at h
      | succ k=>simp [zai] at h2';omega
    . exact h
   show (zh7 3 x||x.args.any (eL 3 k))=_;rw [zv0 k x.args h1.2 h2'];have hb:zh7 3 x=c3 x:=rfl;rw [hb,z0c x (by rw [← zy7];exact h1.1) h3]
   cases zca (exS x.op) x.mod x.name<;>cases nOk (exS x.op) x.n<;>cases zas (exS x.op) x.args.length<;>cases zbc k x.args<;>rfl
theorem zrf (op:Int):(stS op).body=(op == 4||op == 5):=by
 by_cases h:1<=op/\op<=7
 . have h1:op=1\/op=2\/op=3\/op=4\/op=5\/op=6\/op=7:=by omega
   rcases h1 with rfl | rfl | rfl | rfl | rfl | rfl | rfl<;>rfl
 . have e1:(op == 4)=false:=beq_eq_false_iff_ne.2 (by omega)
   have e2:(op == 5)=false:=beq_eq_false_iff_ne.2 (by omega);unfold stS zi5;rw [e1,e2,if_neg (by omega),if_neg (by omega),if_neg (by omega),if_neg (by omega),if_neg (by omega),if_neg (by omega),if_neg (by omega)]
   rfl
theorem zp4 (k:Nat):zal k []=true:=by cases k<;>simp [zal]
theorem zv1 (k:Nat):zaj k []=true:=by cases k<;>simp [zaj]
theorem nil_of {α:Type} {l:List α} (h:decide (0<l.length)=false):l=[]:=vaj (by simpa using h)
theorem zi2:∀ (k:Nat) (l:List St),bL 1 k l = !zal k l
 | 0,l=>by simp [bL,zal]
 | k + 1,l=>by
   rw [zmu];unfold zal;rw [show ((1:Int) == 2)=false from rfl,vcz,vaz]
   refine zbv fun s _=>?_
   unfold sL;rw [show zh8 1 s = !inB s.op 1 7 from rfl,zre 6 s.args,zi2 k s.body,zi2 k s.other,zy8]
   cases hb:decide (0<s.body.length) with
   | true=>
     cases ho:decide (0<s.other.length) with
     | true=>cases inB s.op 1 7<;>cases zau 6 s.args<;>cases zal k s.body<;>cases zal k s.other<;>cases (s.op == 4||s.op == 5)<;>rfl
     | false=>
       rw [nil_of ho,zp4]
       cases inB s.op 1 7<;>cases zau 6 s.args<;>cases zal k s.body<;>cases (s.op == 4||s.op == 5)<;>rfl
   | false=>
     rw [nil_of hb,zp4]
     cases ho:decide (0<s.other.length) with
     | true=>cases inB s.op 1 7<;>cases zau 6 s.args<;>cases zal k s.other<;>cases (s.op == 4||s.op == 5)<;>rfl
     | false=>
       rw [nil_of ho,zp4]
       cases inB s.op 1 7<;>cases zau 6 s.args<;>cases (s.op == 4||s.op == 5)<;>rfl
theorem zmw:∀ (k:Nat) (l:List St),bL 2 k l=zag k l
 | 0,l=>by simp [bL,zag]
 | k+1,l=>by
   rw [zmu];unfold zag;rw [show ((2:Int) == 2)=true from rfl,vdi]
   congr 1
   refine zjz fun s _=>?_
   unfold sL;rw [show zh8 2 s=decide (3<s.args.length) from rfl,← zvy 6 s.args,zmw k s.body,zmw k s.other,zrf,Bool.or_assoc (decide (3<s.args.length)) (s.args.any (eL 2 6)) _]
theorem zv2 {α:Type} (l:List α):decide (0<l.length) = !decide (l.length=0):=by cases l<;>simp
theorem z0d (s:St) (hk:inB s.op 1 7=true) (hm:s.args.length<=3):s3 s = !(zca (stS s.op) s.mod s.name&&(zas (stS s.op) s.args.length&&(((stS s.op).body||decide (s.body.length=0))&&((stS s.op).other||decide (s.other.length=0))))):=by
 obtain ⟨op,mod,name,l,bd,ot⟩:=s;have hk:inB op 1 7=true:=hk;have hm:l.length<=3:=hm
 have h:op=1\/op=2\/op=3\/op=4\/op=5\/op=6\/op=7:=by simp [inB] at hk;omega
 show ((inB op 1 3 && !zc7 mod name)||(!inB op 1 3&&(!mod.toList.isEmpty || !name.toList.isEmpty))||(decide (0<=stN op)&&((l.length:Int) != stN op))||(op != 4&&op != 5&&decide (0<bd.length))||(op != 4&&decide (0<ot.length))) = !(zca (stS op) mod name&&(zas (stS op) l.length&&(((stS op).body||decide (bd.length=0))&&((stS op).other||decide (ot.length=0)))));rw [zvz,zcj,zcj,zv2 bd,zv2 ot];generalize hF:(nameOk name&&(decide (mod.size=0)||nameOk mod))=F
 rcases h with rfl | rfl | rfl | rfl | rfl | rfl | rfl
 . simp only [show inB 1 1 3=true from rfl,show stN 1=1 from rfl,show stS 1=(⟨true,false,1,1,false,false⟩:Sh) from rfl,show ((1:Int) == 4)=false from rfl,show ((1:Int) == 5)=false from rfl,bne,zes,zbt,hF]
   cases F<;>cases decide (mod.size=0)<;>cases decide (name.size=0)<;>cases ((l.length:Int) == 1)<;>cases decide (bd.length=0)<;>cases decide (ot.length=0)<;>rfl
 . simp only [show inB 2 1 3=true from rfl,show stN 2=2 from rfl,show stS 2=(⟨true,false,2,2,false,false⟩:Sh) from rfl,show ((2:Int) == 4)=false from rfl,show ((2:Int) == 5)=false from rfl,bne,zes,zbt,hF]
   cases F<;>cases decide (mod.size=0)<;>cases decide (name.size=0)<;>cases ((l.length:Int) == 2)<;>cases decide (bd.length=0)<;>cases decide (ot.length=0)<;>rfl
 . have hc:zas ⟨true,false,0,3,false,false⟩ l.length=true:=by simp [zas];omega
   simp only [show inB 3 1 3=true from rfl,show stN 3 = -1 from rfl,show stS 3=(⟨true,false,0,3,false,false⟩:Sh) from rfl,show ((3:Int) == 4)=false from rfl,show ((3:Int) == 5)=false from rfl,bne,zes,hc,hF]
   cases F<;>cases decide (mod.size=0)<;>cases decide (name.size=0)<;>cases decide (bd.length=0)<;>cases decide (ot.length=0)<;>rfl
 . simp only [show inB 4 1 3=false from rfl,show stN 4=1 from rfl,show stS 4=(⟨false,false,1,1,true,true⟩:Sh) from rfl,show ((4:Int) == 4)=true from rfl,show ((4:Int) == 5)=false from rfl,bne,zeh,zbt]
   cases F<;>cases decide (mod.size=0)<;>cases decide (name.size=0)<;>cases ((l.length:Int) == 1)<;>cases decide (bd.length=0)<;>cases decide (ot.length=0)<;>rfl
 . simp only [show inB 5 1 3=false from rfl,show stN 5=1 from rfl,show stS 5=(⟨false,false,1,1,true,false⟩:Sh) from rfl,show ((5:Int) == 4)=false from rfl,show ((5:Int) == 5)=true from rfl,bne,zeh,zbt]
   cases F<;>cases decide (mod.size=0)<;>cases decide (name.size=0)<;>cases ((l.length:Int) == 1)<;>cases decide (bd.length=0)<;>cases decide (ot.length=0)<;>rfl
 . simp only [show inB 6 1 3=false from rfl,show stN 6=1 from rfl,show stS 6=(⟨false,false,1,1,false,false⟩:Sh) from rfl,show ((6:Int) == 4)=false from rfl,show ((6:Int) == 5)=false from rfl,bne,zeh,zbt]
   cases F<;>cases decide (mod.size=0)<;>cases decide (name.size=0)<;>cases ((l.length:Int) == 1)<;>cases decide (bd.length=0)<;>cases decide (ot.length=0)<;>rfl
 . simp only [show inB 7 1 3=false from rfl,show stN 7=1 from rfl,show stS 7=(⟨false,false,1,1,false,false⟩:Sh) from rfl,show ((7:Int) == 4)=false from rfl,show ((7:Int) == 5)=false from rfl,bne,zeh,zbt]
   cases F<;>cases decide (mod.size=0)<;>cases decide (name.size=0)<;>cases ((l.length:Int) == 1)<;>cases decide (bd.length=0)<;>cases decide (ot.length=0)<;>rfl
theorem zxw {l:List Ex} (h:zai 6 l=false):l.length<=3:=by
 simp [zai] at h;omega
theorem zp5:∀ (k:Nat) (l:List St),zal k l=true->zag k l=false->bL 3 k l = !zaj k l
 | 0,l,_,hm=>by simp [zag] at hm
 | k+1,l,hk,hm=>by
   rw [zmu];unfold zaj;unfold zal at hk;unfold zag at hm;rw [vap] at hm;rw [show ((3:Int) == 2)=false from rfl,vcz,vaz]
   refine zbv fun s hs=>?_
   have h1:=vat.1 hk s hs;simp only [van] at h1;obtain ⟨k1,k2,k3,k4⟩:=h1
   have h2:(zai 6 s.args||(((stS s.op).body||decide (0<s.body.length))&&zag k s.body||(decide (0<s.other.length)&&zag k s.other)))=false:=by
    have:=vau.1 hm.2 s hs;simpa using this
   rw [vap,vap] at h2;obtain ⟨e1,e2,e3⟩:=h2;unfold sL;rw [show zh8 3 s=s3 s from rfl,z0d s (by rw [← zy8];exact k1) (zxw e1),zv0 6 s.args k2 e1,← zrf]
   have hb:(((stS s.op).body||decide (0<s.body.length))&&bL 3 k s.body) = !zaj k s.body:=by
    cases hc:((stS s.op).body||decide (0<s.body.length)) with
    | true=>
      rw [hc,vdi] at e2
      rw [zp5 k s.body k3 e2];rfl
    | false=>
      rw [vap] at hc
      rw [nil_of hc.2,zv1];rfl
   have ho:(decide (0<s.other.length)&&bL 3 k s.other) = !zaj k s.other:=by
    cases hc:decide (0<s.other.length) with
    | true=>
      rw [hc,vdi] at e3
      rw [zp5 k s.other k4 e3];rfl
    | false=>rw [nil_of hc,zv1];rfl
   rw [hb,ho]
   cases zca (stS s.op) s.mod s.name<;>cases zas (stS s.op) s.args.length<;>cases zbc 6 s.args<;>cases ((stS s.op).body||decide (s.body.length=0))<;>cases ((stS s.op).other||decide (s.other.length=0))<;>cases zaj k s.body<;>cases zaj k s.other<;>rfl
theorem zv3 (m:Mo):mL1 m = !m.kinds:=by
 unfold mL1 Mo.kinds Mo.bodies;rw [vaw,List.all_map]
 have h1:m.decls.any dB1 = !m.decls.all (fun d=>decide (1<=d.kind)&&decide (d.kind<=3)):=zbv fun d _=>rfl
 have h2:m.procs.any pB1 = !m.procs.all (zal 6 ∘ Pr.body):=zbv fun p _=>zi2 6 p.body
 rw [h1,h2,zi2,vdz,vdz];simp
theorem z1l {α:Type} (l:List α) (p q:α->Bool):l.any (fun x=>p x||q x)=(l.any p||l.any q):=by
 induction l with
 | nil=>rfl
 | cons x r ih=>simp only [vdt,ih];cases p x<;>cases q x<;>cases r.any p<;>cases r.any q<;>rfl
theorem zxx (m:Mo):mL2 m=m.many:=by
 unfold mL2 Mo.many Mo.bodies;rw [List.any_append,List.any_map]
 have h2:m.procs.any pB2=(m.procs.any (fun p=>decide (3<p.params.length)||decide (4<p.locals.length))||m.procs.any (zag 6 ∘ Pr.body)):=by
  rw [← z1l]
  exact zjz fun p _=>by show _=(_||zag 6 p.body);rw [← zmw];rfl
 rw [h2,zmw];simp [Bool.or_assoc]
theorem z1m (d:De) (h:(decide (1<=d.kind)&&decide (d.kind<=3))=true):dB3 d = !(nameOk d.name&&zcf d):=by
 obtain ⟨kind,name,pub,n⟩:=d;simp only [van,decide_eq_true_eq] at h
 have h1:kind=1\/kind=2\/kind=3:=by omega
 unfold dB3 zcf
 rcases h1 with rfl | rfl | rfl
 . show (!nameOk name||((true && !inB n 0 1099511627775)||((false&&n != 0)||(false && !inB n 1 32)))) = !(nameOk name&&inB n 0 1099511627775)
   cases nameOk name<;>cases inB n 0 1099511627775<;>rfl
 . show (!nameOk name||((false && !inB n 0 1099511627775)||((true&&n != 0)||(false && !inB n 1 32)))) = !(nameOk name&&decide (n=0))
   have e:(n != 0) = !decide (n=0):=by rw [vbt];simp
   rw [e]
   cases nameOk name<;>cases decide (n=0)<;>rfl
 . show (!nameOk name||((false && !inB n 0 1099511627775)||((false&&n != 0)||(true && !inB n 1 32)))) = !(nameOk name&&inB n 1 32)
   cases nameOk name<;>cases inB n 1 32<;>rfl
theorem z0e {α:Type} (l:List α) (p q:α->Bool):l.all (fun x=>p x&&q x)=(l.all p&&l.all q):=by
 induction l with
 | nil=>rfl
 | cons x r ih=>simp only [vbs,ih];cases p x<;>cases q x<;>cases r.all p<;>cases r.all q<;>rfl
theorem zxy (m:Mo) (hk:m.kinds=true) (hm:m.many=false):mL3 m = !m.form:=by
 unfold Mo.kinds at hk;rw [van] at hk;obtain ⟨hd,hb⟩:=hk;unfold Mo.many at hm;simp only [vap] at hm;have hm':=vau.1 hm.2.2.2.2
 have hf:∀ b ∈ m.bodies,bL 3 6 b = !zaj 6 b:=fun b h=>zp5 6 b (vat.1 hb b h) (by simpa using hm' b h)
 have hmain:bL 3 6 m.main = !zaj 6 m.main:=hf _ (by simp [Mo.bodies])
 have hprs:∀ p ∈ m.procs,bL 3 6 p.body = !zaj 6 p.body:=fun p h=>hf _ (by simp only [Mo.bodies,vca,vcg];exact Or.inl ⟨p,h,rfl⟩)
 unfold mL3 Mo.form Mo.bodies;rw [vaw,List.all_map,hmain]
 have h1:m.uses.any nB = !m.uses.all nameOk:=zbv fun _ _=>rfl
 have h2:m.decls.any dB3 = !m.decls.all (fun d=>nameOk d.name&&zcf d):=zbv fun d h=>z1m d (vat.1 hd d h)
 have h3:m.procs.any pB3 = !(m.procs.all (fun p=>nameOk p.name&&(p.params.all nameOk&&p.locals.all nameOk))&&m.procs.all (zaj 6 ∘ Pr.body)):=by
  rw [← z0e]
  refine zbv fun p h=>?_
  have e:(p.params++p.locals).any nB = !(p.params.all nameOk&&p.locals.all nameOk):=by
   rw [← vaw];exact zbv fun _ _=>rfl
  show (!nameOk p.name||(bL 3 6 p.body||(p.params++p.locals).any nB)) = !((nameOk p.name&&(p.params.all nameOk&&p.locals.all nameOk))&&zaj 6 p.body);rw [hprs p h,e]
  cases nameOk p.name<;>cases zaj 6 p.body<;>cases (p.params.all nameOk&&p.locals.all nameOk)<;>rfl
 rw [h1,h2,h3];simp only [vbs,vcn,Bool.and_true]
 cases nameOk m.name<;>cases m.uses.all nameOk<;>cases m.decls.all (fun d=>nameOk d.name&&zcf d)<;>cases m.procs.all (fun p=>nameOk p.name&&(p.params.all nameOk&&p.locals.all nameOk))<;>cases m.procs.all (zaj 6 ∘ Pr.body)<;>cases zaj 6 m.main<;>rfl
set_option maxRecDepth 100000
set_option maxHeartbeats 4000000
theorem zj0 (m:Mo) (v:Value) (a1:OA) (c1:Nat) (a2:OA) (c2:Nat) (a3:OA) (c3:Nat) (a4:OA) (c4:Nat) (w:World) (hM:MoAt w Tt m v a1 c1 a2 c2 a3 c3 a4 c4) (hsm:Small m) :
 Calls Tryz.prog 113 #[v,.int .i64 1] w fun e w'=>e = .returned (.bool (mL1 m))/\Below w.heap.size w w':=by
 obtain rfl:=hM.val;have hn1:=hM.uses.bound;have hn2:=hM.decls.bound;have HP:=hid (zcu hM.procs);have hn3:=HP.out;have HM:=hid hM;have HSm:=hid hsm;clear hM hsm;have HBx:Hid (Blk (w.alloc (.cells #[.string m.name,.slice a1 m.uses.length c1,.slice a2 m.decls.length c2,.slice a3 m.procs.length c3,.slice a4 m.main.length c4] 27)) w.heap.size [.string m.name,.slice a1 m.uses.length c1,.slice a2 m.decls.length c2,.slice a3 m.procs.length c3,.slice a4 m.main.length c4]):=Blk.new w _ _;have HB0:Hid (Below w.heap.size w (w.alloc (.cells #[.string m.name,.slice a1 m.uses.length c1,.slice a2 m.decls.length c2,.slice a3 m.procs.length c3,.slice a4 m.main.length c4] 27))):=al1 _ _
 have HR:Hid (∀ {b:Bool},(m.decls.any dB1||(m.procs.any pB1||bL 1 6 m.main))=b->b=mL1 m):=fun h=>by rw [← h];rfl
 go_enter Tryz.func113,Tryz.ntmps113;go_wp2_with fail
 go_loopw [5] (fun i wr=>∃ j:Nat,j<=m.uses.length/\i = .int .i64 j/\Below w.heap.size w wr/\Blk wr w.heap.size [.string m.name,.slice a1 m.uses.length c1,.slice a2 m.decls.length c2,.slice a3 m.procs.length c3,.slice a4 m.main.length c4]) (fun i _=>m.uses.length - (intOf i).toNat)
 case atStart=>exact ⟨0,vad _,rfl,HB0.out,HBx.out⟩
 case round =>
  clear HB0 HBx;obtain ⟨j,hj,rfl,hb,hB⟩:=hrel;obtain ⟨m0,m1,m2,m3,m4,mz⟩:=hB.c5;have HB:=hid hB;clear hB
  by_cases hlt:j<m.uses.length
  . skip
    go_wp2_with fail;go_roundw
    case rel=>exact ⟨j+1,by omega,by go_num,hb,HB.out⟩
    case measure=>simp [intOf];omega
  . skip
    go_wp2_with fail
    go_loopw [6,7] (fun i _ wr=>∃ j:Nat,j<=m.decls.length/\i = .int .i64 j/\(m.decls.take j).any dB1=false/\Below w.heap.size w wr/\Blk wr w.heap.size [.string m.name,.slice a1 m.uses.length c1,.slice a2 m.decls.length c2,.slice a3 m.procs.length c3,.slice a4 m.main.length c4]) (fun i _ _=>m.decls.length - (intOf i).toNat)
    case atStart=>exact ⟨0,vad _,rfl,rfl,hb,HB.out⟩
    case round =>
     clear m0 m1 m2 m3 m4 mz HB hb hlt hj;obtain ⟨j,hj,rfl,hall,hb,hB⟩:=hrel;obtain ⟨m0,m1,m2,m3,m4,mz⟩:=hB.c5;have HB:=hid hB;have HA:=hid hall;clear hB hall
     by_cases hlt:j<m.decls.length
     . obtain ⟨b,off,rfl,hx⟩:=(HM.out.decls.later hb).de j hlt
       have hc0:=hx.c0;have hc1:=hx.c1;have hc2:=hx.c2;have hc3:=hx.c3;have hlb:=hx.lt;clear hx
       cases hr:inB m.decls[j].kind 1 3 with
       | false=>
         have HF:Hid (m.decls.any dB1=true):=zbj m.decls dB1 j hlt (by simp [dB1,hr])
         go_wp2_with (go_at_call 63;refine (zbb hr _).mono ?_;rintro e w' ⟨rfl,rfl⟩)
         go_ret;exact ⟨zab (HR.out (by rw [HF.out];simp)),thenB hb (al1 _ _)⟩
       | true=>
         have HT:Hid ((m.decls.take (j+1)).any dB1=false):=by
          show _=_
          rw [zat m.decls dB1 j hlt,HA.out];simp [dB1,hr]
         go_wp2_with (go_at_call 63;refine (zbb hr _).mono ?_;rintro e w' ⟨rfl,rfl⟩)
         go_roundw
         case rel=>exact ⟨j+1,by omega,by go_num,HT.out,thenB hb (al1 _ _),HB.out.later (al1 _ _)⟩
         case measure=>simp [intOf];omega
     . have HDs : Hid (m.decls.any dB1=false):=zbh HA.out hlt
       clear HA;go_wp2_with fail
       go_loopw [8,9,10,11] (fun i _ _ _ wr=>∃ j:Nat,j<=m.procs.length/\i = .int .i64 j/\(m.procs.take j).any pB1=false/\Below w.heap.size w wr/\Blk wr w.heap.size [.string m.name,.slice a1 m.uses.length c1,.slice a2 m.decls.length c2,.slice a3 m.procs.length c3,.slice a4 m.main.length c4]) (fun i _ _ _ _=>m.procs.length - (intOf i).toNat)
       case atStart=>exact ⟨0,vad _,rfl,rfl,hb,HB.out⟩
       case round=>
        clear m0 m1 m2 m3 m4 mz HB hb hlt hj HP;obtain ⟨j,hj,rfl,hall,hb,hB⟩:=hrel;obtain ⟨m0,m1,m2,m3,m4,mz⟩:=hB.c5;have HB:=hid hB;have HA:=hid hall;clear hB hall
        by_cases hlt:j<m.procs.length
        . obtain ⟨b,off,a5,c5,a6,c6,a7,c7,rfl,hx⟩:=(HM.out.procs.later hb).pr j hlt
          have hc0:=hx.c0;have hc1:=hx.c1;have hc2:=hx.c2;have hc3:=hx.c3;have hc4:=hx.c4;have hlb:=hx.lt;have hnp:=hx.params.bound;have hnl:=hx.locals.bound;have HX:=hid hx;clear hx;go_wp2_with fail;refine (zb7 Tt 1 (by omega) 6 (by omega) 1 (by omega) m.procs[j].body a7 c7 _ (HX.out.body.later (al1 _ _))).mono ?_
          cases hrb:bL 1 6 m.procs[j].body with
          | true=>
            have HF:Hid (m.procs.any pB1=true):=zbj m.procs pB1 j hlt (by simp [pB1,hrb]);rintro e w4 ⟨rfl,k4⟩;go_wp2_with fail;go_ret;exact ⟨zab (HR.out (by rw [HF.out];simp)),thenB hb (thenB (al1 _ _) k4)⟩
          | false=>
            rintro e w4 ⟨rfl,k4⟩;have B1:=(Blk.new wr #[.string m.procs[j].name,.bool m.procs[j].pub,.slice a5 m.procs[j].params.length c5,.slice a6 m.procs[j].locals.length c6,.slice a7 m.procs[j].body.length c7] 118).later k4;have hb4:Below wr.heap.size wr w4:=thenB (al1 _ _) k4;clear k4 m0 m1 m2 m3 m4 mz;obtain ⟨y0,y1,y2,y3,y4,yz⟩:=B1.c5;clear B1 y0 y1 y4 hc0 hc1 hc2 hc3 hc4 hlb;go_wp2_with fail;obtain ⟨v1,w5,ga,gc,w6,hr1,hB5,hr2,hB6,hcs⟩:=zjy w4 m.procs[j].params m.procs[j].locals a5 a6 c5 c6 (HX.out.params.later hb4) (HX.out.locals.later hb4) (HSm.out _ (vah hlt)).1 (HSm.out _ (vah hlt)).2
            have S5:Hid (w5.cell? ⟨wr.heap.size,2,none⟩=some (.slice a5 m.procs[j].params.length c5)/\w5.cell? ⟨wr.heap.size,3,none⟩=some (.slice a6 m.procs[j].locals.length c6)):=⟨(hB5.cell (p:=⟨wr.heap.size,2,none⟩) yz).trans y2,(hB5.cell (p:=⟨wr.heap.size,3,none⟩) yz).trans y3⟩
            have S6:Hid (w6.cell? ⟨wr.heap.size,2,none⟩=some (.slice a5 m.procs[j].params.length c5)/\w6.cell? ⟨wr.heap.size,3,none⟩=some (.slice a6 m.procs[j].locals.length c6)):=⟨(hB6.cell (p:=⟨wr.heap.size,2,none⟩) yz).trans y2,(hB6.cell (p:=⟨wr.heap.size,3,none⟩) yz).trans y3⟩
            have hb6:Below w.heap.size w w6:=thenB hb (thenB hb4 hB6);have HB6:=hid (HB.out.later (thenB hb4 hB6))
            have hsz6:(m.procs[j].params++m.procs[j].locals).length<=2097152:=by
             have h1:=(HSm.out _ (vah hlt)).1;have h2:=(HSm.out _ (vah hlt)).2
             simp;omega
            clear hcs hB5
            obtain ⟨al,hal⟩:∃ al,al=m.procs[j].params++m.procs[j].locals:=⟨_,rfl⟩
            have HAl:=hid hal;rw [← hal] at hsz6 hr2;clear hal;have HR1:=hid hr1;have HR2:=hid hr2;clear hr1 hr2;refine wp_region_held_drew (S:=(fun W=>W.cell? ⟨wr.heap.size,2,none⟩=some (.slice a5 m.procs[j].params.length c5)/\W.cell? ⟨wr.heap.size,3,none⟩=some (.slice a6 m.procs[j].locals.length c6))) (by kernel_rfl) ?_ (fun hHeld=>?_)
            . (try dsimp only);go_keep
            refine tqr 1 163 hHeld ?_
            (try simp only [Act.put,sx])
            refine tqr 2 164 hHeld ?_
            (try simp only [Act.put,sx])
            refine tqr 4 166 hHeld ?_
            (try simp only [Act.put,sx])
            refine tqr 5 167 hHeld ?_
            (try simp only [Act.put,sx])
            refine wpAnyH_ready (rs:=[0]) (by kernel_rfl) (by simp) ?_;refine AllReadyH.cons rfl (fun K hK=>?_) AllReadyH.nil;go_simp;refine hK.out _ _ ?_ (fun hHeld=>?_)
            . (try dsimp only);go_keep
            clear hK K;refine wpAnyH_ready (rs:=[3]) (by kernel_rfl) (by simp) ?_;refine AllReadyH.cons (o:=⟨some 165,_,_,_,_,_⟩) rfl (fun K hK=>?_) AllReadyH.nil;refine zaz rfl _ _ _ rfl _ _ _ rfl rfl HR1.out ?_;refine hK.out _ _ S5.out (fun hHeld=>?_);clear hK K
            (try simp only [Act.put,sx])
            refine wpAnyH_ready (rs:=[6]) (by kernel_rfl) (by simp) ?_;refine AllReadyH.cons (o:=⟨some 168,_,_,_,_,_⟩) rfl (fun K hK=>?_) AllReadyH.nil;refine zaz rfl _ _ _ rfl _ _ _ rfl rfl HR2.out ?_;refine hK.out _ _ S6.out (fun hHeld=>?_);clear hK K hHeld;have hHeld:=S6.out
            (try simp only [Act.put,sx])
            refine tqr 7 10 hHeld ?_
            (try simp only [Act.put,sx])
            refine wpAnyH_done (by kernel_rfl) ?_ _;clear hHeld y2 y3 yz;go_wp2_with fail
            go_loopw [11] (fun i wr=>∃ t:Nat,t<=al.length/\i = .int .i64 t/\Below w6.heap.size w6 wr) (fun i _=>al.length - (intOf i).toNat)
            case atStart=>exact ⟨0,vad _,rfl,Below.refl _ _⟩
            case round=>
             obtain ⟨t,ht,rfl,hbq⟩:=hrel
             by_cases htl:t<al.length
             . skip
               go_wp2_with fail;go_roundw
               case rel=>exact ⟨t+1,by omega,by go_num,hbq⟩
               case measure=>simp [intOf];omega
             . skip
               have HT:Hid ((m.procs.take (j+1)).any pB1=false):=by
                show _=_
                rw [zat m.procs pB1 j hlt,HA.out];simp [pB1,hrb]
               go_wp2_with fail;go_roundw
               case rel=>exact ⟨j+1,by omega,by go_num,HT.out,thenB hb6 hbq,HB6.out.later hbq⟩
               case measure=>simp [intOf];omega
        . have HPs:Hid (m.procs.any pB1=false):=zbh HA.out hlt
          go_wp2_with fail;refine (zb7 Tt 1 (by omega) 6 (by omega) 1 (by omega) m.main a4 c4 _ (HM.out.main.later hb)).mono ?_;rintro e w9 ⟨rfl,hb9⟩;go_wp2_with fail;go_ret;exact ⟨zab (HR.out (by simp [HDs.out,HPs.out])),thenB hb hb9⟩
theorem zj1 (m:Mo) (v:Value) (a1:OA) (c1:Nat) (a2:OA) (c2:Nat) (a3:OA) (c3:Nat) (a4:OA) (c4:Nat) (w:World) (hM:MoAt w Tt m v a1 c1 a2 c2 a3 c3 a4 c4) (hsm:Small m) :
 Calls Tryz.prog 113 #[v,.int .i64 2] w fun e w'=>e = .returned (.bool (mL2 m))/\Below w.heap.size w w':=by
 obtain rfl:=hM.val;have hn1:=hM.uses.bound;have hn2:=hM.decls.bound;have HP:=hid (zcu hM.procs);have hn3:=HP.out;have HM:=hid hM;have HSm:=hid hsm;clear hM hsm;have HBx:Hid (Blk (w.alloc (.cells #[.string m.name,.slice a1 m.uses.length c1,.slice a2 m.decls.length c2,.slice a3 m.procs.length c3,.slice a4 m.main.length c4] 27)) w.heap.size [.string m.name,.slice a1 m.uses.length c1,.slice a2 m.decls.length c2,.slice a3 m.procs.length c3,.slice a4 m.main.length c4]):=Blk.new w _ _;have HB0:Hid (Below w.heap.size w (w.alloc (.cells #[.string m.name,.slice a1 m.uses.length c1,.slice a2 m.decls.length c2,.slice a3 m.procs.length c3,.slice a4 m.main.length c4] 27))):=al1 _ _
 have HR:Hid (∀ {b:Bool},((decide (3<m.uses.length)||(decide (10<m.decls.length)||decide (6<m.procs.length)))||(m.procs.any pB2||bL 2 6 m.main))=b->b=mL2 m):=fun h=>by rw [← h];rfl
 by_cases t1:3<m.uses.length
 . go_enter Tryz.func113,Tryz.ntmps113
   go_wp2_with fail;go_ret;exact ⟨zab (HR.out (by simp [t1])),HB0.out⟩
 . by_cases t2 : 10 < m.decls.length
   . go_enter Tryz.func113,Tryz.ntmps113
     go_wp2_with fail;go_ret;exact ⟨zab (HR.out (by simp [t2])),HB0.out⟩
   . by_cases t3 : 6 < m.procs.length
     . go_enter Tryz.func113,Tryz.ntmps113
       go_wp2_with fail;go_ret;exact ⟨zab (HR.out (by simp [t3])),HB0.out⟩
     . have HTop : Hid ((decide (3<m.uses.length)||(decide (10<m.decls.length)||decide (6<m.procs.length)))=false):=by show _=_;simp [t1,t2,t3]
       go_enter Tryz.func113,Tryz.ntmps113;go_wp2_with fail
       go_loopw [5] (fun i wr=>∃ j:Nat,j<=m.uses.length/\i = .int .i64 j/\Below w.heap.size w wr/\Blk wr w.heap.size [.string m.name,.slice a1 m.uses.length c1,.slice a2 m.decls.length c2,.slice a3 m.procs.length c3,.slice a4 m.main.length c4]) (fun i _=>m.uses.length - (intOf i).toNat)
       case atStart=>exact ⟨0,vad _,rfl,HB0.out,HBx.out⟩
       case round =>
        clear HB0 HBx;obtain ⟨j,hj,rfl,hb,hB⟩:=hrel;obtain ⟨m0,m1,m2,m3,m4,mz⟩:=hB.c5;have HB:=hid hB;clear hB
        by_cases hlt:j<m.uses.length
        . skip
          go_wp2_with fail;go_roundw
          case rel=>exact ⟨j+1,by omega,by go_num,hb,HB.out⟩
          case measure=>simp [intOf];omega
        . skip
          go_wp2_with fail
          go_loopw [6,7] (fun i _ wr=>∃ j:Nat,j<=m.decls.length/\i = .int .i64 j/\Below w.heap.size w wr/\Blk wr w.heap.size [.string m.name,.slice a1 m.uses.length c1,.slice a2 m.decls.length c2,.slice a3 m.procs.length c3,.slice a4 m.main.length c4]) (fun i _ _=>m.decls.length - (intOf i).toNat)
          case atStart=>exact ⟨0,vad _,rfl,hb,HB.out⟩
          case round=>
           clear m0 m1 m2 m3 m4 mz HB hb hlt hj;obtain ⟨j,hj,rfl,hb,hB⟩:=hrel;obtain ⟨m0,m1,m2,m3,m4,mz⟩:=hB.c5;have HB:=hid hB;clear hB
           by_cases hlt:j<m.decls.length
           . obtain ⟨b,off,rfl,hx⟩:=(HM.out.decls.later hb).de j hlt
             have hc0:=hx.c0;have hc1:=hx.c1;have hc2:=hx.c2;have hc3:=hx.c3;have hlb:=hx.lt;clear hx;go_wp2_with fail;go_roundw
             case rel=>exact ⟨j+1,by omega,by go_num,thenB hb (al1 _ _),HB.out.later (al1 _ _)⟩
             case measure=>simp [intOf];omega
           . skip
             go_wp2_with fail
             go_loopw [8,9,10,11] (fun i _ _ _ wr=>∃ j:Nat,j<=m.procs.length/\i = .int .i64 j/\(m.procs.take j).any pB2=false/\Below w.heap.size w wr/\Blk wr w.heap.size [.string m.name,.slice a1 m.uses.length c1,.slice a2 m.decls.length c2,.slice a3 m.procs.length c3,.slice a4 m.main.length c4]) (fun i _ _ _ _=>m.procs.length - (intOf i).toNat)
             case atStart=>exact ⟨0,vad _,rfl,rfl,hb,HB.out⟩
             case round=>
              clear m0 m1 m2 m3 m4 mz HB hb hlt hj HP;obtain ⟨j,hj,rfl,hall,hb,hB⟩:=hrel;obtain ⟨m0,m1,m2,m3,m4,mz⟩:=hB.c5;have HB:=hid hB;have HA:=hid hall;clear hB hall
              by_cases hlt:j<m.procs.length
              . obtain ⟨b,off,a5,c5,a6,c6,a7,c7,rfl,hx⟩:=(HM.out.procs.later hb).pr j hlt
                have hc0:=hx.c0;have hc1:=hx.c1;have hc2:=hx.c2;have hc3:=hx.c3;have hc4:=hx.c4;have hlb:=hx.lt;have hnp:=hx.params.bound;have hnl:=hx.locals.bound;have HX:=hid hx;clear hx
                by_cases hp3:3<m.procs[j].params.length
                . have HF:Hid (m.procs.any pB2=true):=zbj m.procs pB2 j hlt (by simp [pB2,hp3])
                  go_wp2_with fail;go_ret;exact ⟨zab (HR.out (by rw [HF.out];simp)),thenB hb (al1 _ _)⟩
                . by_cases hp4:4<m.procs[j].locals.length
                  . have HF:Hid (m.procs.any pB2=true):=zbj m.procs pB2 j hlt (by simp [pB2,hp4])
                    go_wp2_with fail;go_ret;exact ⟨zab (HR.out (by rw [HF.out];simp)),thenB hb (al1 _ _)⟩
                  . skip
                    go_wp2_with fail;refine (zb7 Tt 2 (by omega) 6 (by omega) 1 (by omega) m.procs[j].body a7 c7 _ (HX.out.body.later (al1 _ _))).mono ?_
                    cases hrb:bL 2 6 m.procs[j].body with
                    | true=>
                      have HF:Hid (m.procs.any pB2=true):=zbj m.procs pB2 j hlt (by simp [pB2,hrb]);rintro e w4 ⟨rfl,k4⟩;go_wp2_with fail;go_ret;exact ⟨zab (HR.out (by rw [HF.out];simp)),thenB hb (thenB (al1 _ _) k4)⟩
                    | false=>
                      rintro e w4 ⟨rfl,k4⟩;have B1:=(Blk.new wr #[.string m.procs[j].name,.bool m.procs[j].pub,.slice a5 m.procs[j].params.length c5,.slice a6 m.procs[j].locals.length c6,.slice a7 m.procs[j].body.length c7] 118).later k4;have hb4:Below wr.heap.size wr w4:=thenB (al1 _ _) k4;clear k4 m0 m1 m2 m3 m4 mz;obtain ⟨y0,y1,y2,y3,y4,yz⟩:=B1.c5;clear B1 y0 y1 y4 hc0 hc1 hc2 hc3 hc4 hlb;go_wp2_with fail;obtain ⟨v1,w5,ga,gc,w6,hr1,hB5,hr2,hB6,hcs⟩:=zjy w4 m.procs[j].params m.procs[j].locals a5 a6 c5 c6 (HX.out.params.later hb4) (HX.out.locals.later hb4) (HSm.out _ (vah hlt)).1 (HSm.out _ (vah hlt)).2
                      have S5:Hid (w5.cell? ⟨wr.heap.size,2,none⟩=some (.slice a5 m.procs[j].params.length c5)/\w5.cell? ⟨wr.heap.size,3,none⟩=some (.slice a6 m.procs[j].locals.length c6)):=⟨(hB5.cell (p:=⟨wr.heap.size,2,none⟩) yz).trans y2,(hB5.cell (p:=⟨wr.heap.size,3,none⟩) yz).trans y3⟩
                      have S6:Hid (w6.cell? ⟨wr.heap.size,2,none⟩=some (.slice a5 m.procs[j].params.length c5)/\w6.cell? ⟨wr.heap.size,3,none⟩=some (.slice a6 m.procs[j].locals.length c6)):=⟨(hB6.cell (p:=⟨wr.heap.size,2,none⟩) yz).trans y2,(hB6.cell (p:=⟨wr.heap.size,3,none⟩) yz).trans y3⟩
                      have hb6:Below w.heap.size w w6:=thenB hb (thenB hb4 hB6);have HB6:=hid (HB.out.later (thenB hb4 hB6))
                      have hsz6:(m.procs[j].params++m.procs[j].locals).length<=2097152:=by
                       have h1:=(HSm.out _ (vah hlt)).1;have h2:=(HSm.out _ (vah hlt)).2
                       simp;omega
                      clear hcs hB5
                      obtain ⟨al,hal⟩:∃ al,al=m.procs[j].params++m.procs[j].locals:=⟨_,rfl⟩
                      have HAl:=hid hal;rw [← hal] at hsz6 hr2;clear hal;have HR1:=hid hr1;have HR2:=hid hr2;clear hr1 hr2;refine wp_region_held_drew (S:=(fun W=>W.cell? ⟨wr.heap.size,2,none⟩=some (.slice a5 m.procs[j].params.length c5)/\W.cell? ⟨wr.heap.size,3,none⟩=some (.slice a6 m.procs[j].locals.length c6))) (by kernel_rfl) ?_ (fun hHeld=>?_)
                      . (try dsimp only);go_keep
                      refine tqr 1 163 hHeld ?_
                      (try simp only [Act.put,sx])
                      refine tqr 2 164 hHeld ?_
                      (try simp only [Act.put,sx])
                      refine tqr 4 166 hHeld ?_
                      (try simp only [Act.put,sx])
                      refine tqr 5 167 hHeld ?_
                      (try simp only [Act.put,sx])
                      refine wpAnyH_ready (rs:=[0]) (by kernel_rfl) (by simp) ?_;refine AllReadyH.cons rfl (fun K hK=>?_) AllReadyH.nil;go_simp;refine hK.out _ _ ?_ (fun hHeld=>?_)
                      . (try dsimp only);go_keep
                      clear hK K;refine wpAnyH_ready (rs:=[3]) (by kernel_rfl) (by simp) ?_;refine AllReadyH.cons (o:=⟨some 165,_,_,_,_,_⟩) rfl (fun K hK=>?_) AllReadyH.nil;refine zaz rfl _ _ _ rfl _ _ _ rfl rfl HR1.out ?_;refine hK.out _ _ S5.out (fun hHeld=>?_);clear hK K
                      (try simp only [Act.put,sx])
                      refine wpAnyH_ready (rs:=[6]) (by kernel_rfl) (by simp) ?_;refine AllReadyH.cons (o:=⟨some 168,_,_,_,_,_⟩) rfl (fun K hK=>?_) AllReadyH.nil;refine zaz rfl _ _ _ rfl _ _ _ rfl rfl HR2.out ?_;refine hK.out _ _ S6.out (fun hHeld=>?_);clear hK K hHeld;have hHeld:=S6.out
                      (try simp only [Act.put,sx])
                      refine tqr 7 10 hHeld ?_
                      (try simp only [Act.put,sx])
                      refine wpAnyH_done (by kernel_rfl) ?_ _;clear hHeld y2 y3 yz;go_wp2_with fail
                      go_loopw [11] (fun i wr=>∃ t:Nat,t<=al.length/\i = .int .i64 t/\Below w6.heap.size w6 wr) (fun i _=>al.length - (intOf i).toNat)
                      case atStart=>exact ⟨0,vad _,rfl,Below.refl _ _⟩
                      case round=>
                       obtain ⟨t,ht,rfl,hbq⟩:=hrel
                       by_cases htl:t<al.length
                       . skip
                         go_wp2_with fail;go_roundw
                         case rel=>exact ⟨t+1,by omega,by go_num,hbq⟩
                         case measure=>simp [intOf];omega
                       . skip
                         have HT:Hid ((m.procs.take (j+1)).any pB2=false):=by
                          show _=_
                          rw [zat m.procs pB2 j hlt,HA.out];simp [pB2,hrb,hp3,hp4]
                         go_wp2_with fail;go_roundw
                         case rel=>exact ⟨j+1,by omega,by go_num,HT.out,thenB hb6 hbq,HB6.out.later hbq⟩
                         case measure=>simp [intOf];omega
              . have HPs:Hid (m.procs.any pB2=false):=zbh HA.out hlt
                go_wp2_with fail;refine (zb7 Tt 2 (by omega) 6 (by omega) 1 (by omega) m.main a4 c4 _ (HM.out.main.later hb)).mono ?_;rintro e w9 ⟨rfl,hb9⟩;go_wp2_with fail;go_ret;exact ⟨zab (HR.out (by simp [HTop.out,HPs.out])),thenB hb hb9⟩
theorem zj2 (m:Mo) (v:Value) (a1:OA) (c1:Nat) (a2:OA) (c2:Nat) (a3:OA) (c3:Nat) (a4:OA) (c4:Nat) (w:World) (hM:MoAt w Tt m v a1 c1 a2 c2 a3 c3 a4 c4) (hsm:Small m) :
 Calls Tryz.prog 113 #[v,.int .i64 3] w fun e w'=>e = .returned (.bool (mL3 m))/\Below w.heap.size w w':=by
 obtain rfl:=hM.val;have hn1:=hM.uses.bound;have hn2:=hM.decls.bound;have HP:=hid (zcu hM.procs);have hn3:=HP.out;have HM:=hid hM;have HSm:=hid hsm;clear hM hsm;have HBx:Hid (Blk (w.alloc (.cells #[.string m.name,.slice a1 m.uses.length c1,.slice a2 m.decls.length c2,.slice a3 m.procs.length c3,.slice a4 m.main.length c4] 27)) w.heap.size [.string m.name,.slice a1 m.uses.length c1,.slice a2 m.decls.length c2,.slice a3 m.procs.length c3,.slice a4 m.main.length c4]):=Blk.new w _ _;have HB0:Hid (Below w.heap.size w (w.alloc (.cells #[.string m.name,.slice a1 m.uses.length c1,.slice a2 m.decls.length c2,.slice a3 m.procs.length c3,.slice a4 m.main.length c4] 27))):=al1 _ _
 have HR:Hid (∀ {b:Bool},(!nameOk m.name||(m.uses.any nB||(m.decls.any dB3||(m.procs.any pB3||bL 3 6 m.main))))=b->b=mL3 m):=fun h=>by rw [← h];rfl
 go_enter Tryz.func113,Tryz.ntmps113;go_wp2_with fail;refine (zci m.name _ HM.out.wna).mono ?_
 cases HNm:nameOk m.name with
 | false=>
   rintro e w2 ⟨rfl,k2⟩;go_wp2_with fail;go_ret;exact ⟨zab (HR.out (by simp [HNm])),thenB HB0.out k2⟩
 | true =>
   rintro e w2 ⟨rfl,k2⟩;have HB0':=hid (thenB HB0.out k2);have HBx':=hid (HBx.out.later k2);clear HB0 HBx k2;have HB0:=HB0';have HBx:=HBx';clear HB0' HBx';obtain ⟨m0,m1,m2,m3,m4,mz⟩:=HBx.out.c5;go_wp2_with fail
   go_loopw [5] (fun i wr=>∃ j:Nat,j<=m.uses.length/\i = .int .i64 j/\(m.uses.take j).any nB=false/\Below w.heap.size w wr/\Blk wr w.heap.size [.string m.name,.slice a1 m.uses.length c1,.slice a2 m.decls.length c2,.slice a3 m.procs.length c3,.slice a4 m.main.length c4]) (fun i _=>m.uses.length - (intOf i).toNat)
   case atStart=>exact ⟨0,vad _,rfl,rfl,HB0.out,HBx.out⟩
   case round =>
    clear m0 m1 m2 m3 m4 mz;clear HB0 HBx;obtain ⟨j,hj,rfl,hall,hb,hB⟩:=hrel;obtain ⟨m0,m1,m2,m3,m4,mz⟩:=hB.c5;have HB:=hid hB;have HA:=hid hall;clear hB hall
    by_cases hlt:j<m.uses.length
    . skip
      obtain ⟨b,off,rfl,hbl,hc,hsz⟩:=(HM.out.uses.later hb).str j hlt;go_wp2_with fail;refine (zci m.uses[j] _ hsz).mono ?_
      cases hr:nameOk m.uses[j] with
      | false=>
        have HF:Hid (m.uses.any nB=true):=zbj m.uses nB j hlt (by simp [nB,hr]);rintro e w3 ⟨rfl,k3⟩;go_wp2_with fail;go_ret;exact ⟨zab (HR.out (by rw [HF.out];simp)),thenB hb k3⟩
      | true=>
        have HT:Hid ((m.uses.take (j+1)).any nB=false):=by
         show _=_
         rw [zat m.uses nB j hlt,HA.out];simp [nB,hr]
        rintro e w3 ⟨rfl,k3⟩;go_wp2_with fail;go_roundw
        case rel=>exact ⟨j+1,by omega,by go_num,HT.out,thenB hb k3,HB.out.later k3⟩
        case measure=>simp [intOf];omega
    . have HU : Hid (m.uses.any nB=false):=zbh HA.out hlt
      clear HA;go_wp2_with fail
      go_loopw [6,7] (fun i _ wr=>∃ j:Nat,j<=m.decls.length/\i = .int .i64 j/\(m.decls.take j).any dB3=false/\Below w.heap.size w wr/\Blk wr w.heap.size [.string m.name,.slice a1 m.uses.length c1,.slice a2 m.decls.length c2,.slice a3 m.procs.length c3,.slice a4 m.main.length c4]) (fun i _ _=>m.decls.length - (intOf i).toNat)
      case atStart=>exact ⟨0,vad _,rfl,rfl,hb,HB.out⟩
      case round =>
       clear m0 m1 m2 m3 m4 mz HB hb hlt hj;obtain ⟨j,hj,rfl,hall,hb,hB⟩:=hrel;obtain ⟨m0,m1,m2,m3,m4,mz⟩:=hB.c5;have HB:=hid hB;have HA:=hid hall;clear hB hall
       by_cases hlt:j<m.decls.length
       . obtain ⟨b, off,rfl,hx⟩:=(HM.out.decls.later hb).de j hlt
         have hc0:=hx.c0;have hc1:=hx.c1;have hc2:=hx.c2;have hc3:=hx.c3;have hlb:=hx.lt;have HX:=hid hx;clear hx;go_wp2_with fail;refine (zci m.decls[j].name _ HX.out.wna).mono ?_
         cases hnm:nameOk m.decls[j].name with
         | false=>
           have HF:Hid (m.decls.any dB3=true):=zbj m.decls dB3 j hlt (by simp [dB3,hnm]);rintro e w3 ⟨rfl,k3⟩;go_wp2_with fail;go_ret;exact ⟨zab (HR.out (by rw [HF.out];simp)),thenB hb (thenB (al1 _ _) k3)⟩
         | true =>
           rintro e w3 ⟨rfl,k3⟩;have B1:=(Blk.new wr #[.int .i64 m.decls[j].kind,.string m.decls[j].name,.bool m.decls[j].pub,.int .i64 m.decls[j].n] 170).later k3;obtain ⟨y0,y1,y2,y3,yz⟩:=B1.c4;have hb4:Below wr.heap.size wr w3:=thenB (al1 _ _) k3;clear k3 B1 m0 m1 m2 m3 m4 mz hc0 hc1 hc2 hc3 hlb y1 y2
           cases h1:(m.decls[j].kind == 1) with
           | true=>
             have e1:m.decls[j].kind=1:=by simpa using h1
             have h2:(m.decls[j].kind == 2)=false:=by rw [e1];rfl
             have h3:(m.decls[j].kind == 3)=false:=by rw [e1];rfl
             clear e1
             cases hN:inB m.decls[j].n 0 1099511627775 with
             | false=>
               have HF:Hid (m.decls.any dB3=true):=zbj m.decls dB3 j hlt (by simp [dB3,h1,hN])
               go_wp2_with (go_at_call 63;refine (zbb hN _).mono ?_;rintro e w' ⟨rfl,rfl⟩)
               go_ret;exact ⟨zab (HR.out (by rw [HF.out];simp)),thenB hb hb4⟩
             | true=>
               have HT:Hid ((m.decls.take (j+1)).any dB3=false):=by
                show _=_
                rw [zat m.decls dB3 j hlt,HA.out];simp [dB3,hnm,h1,h2,h3,hN]
               go_wp2_with (go_at_call 63;refine (zbb hN _).mono ?_;rintro e w' ⟨rfl,rfl⟩)
               go_roundw
               case rel=>exact ⟨j+1,by omega,by go_num,HT.out,thenB hb hb4,HB.out.later hb4⟩
               case measure=>simp [intOf];omega
           | false =>
             cases h2:(m.decls[j].kind == 2) with
             | true=>
               have e1:m.decls[j].kind=2:=by simpa using h2
               have h3:(m.decls[j].kind == 3)=false:=by rw [e1];rfl
               clear e1
               cases hN:(m.decls[j].n != 0) with
               | true=>
                 have HF:Hid (m.decls.any dB3=true):=zbj m.decls dB3 j hlt (by simp [dB3,h2,hN]);go_wp2_with fail;go_ret;exact ⟨zab (HR.out (by rw [HF.out];simp)),thenB hb hb4⟩
               | false=>
                 have HT:Hid ((m.decls.take (j+1)).any dB3=false):=by
                  show _=_
                  rw [zat m.decls dB3 j hlt,HA.out];simp [dB3,hnm,h1,h2,h3,hN]
                 go_wp2_with fail;go_roundw
                 case rel=>exact ⟨j+1,by omega,by go_num,HT.out,thenB hb hb4,HB.out.later hb4⟩
                 case measure=>simp [intOf];omega
             | false=>
               cases h3:(m.decls[j].kind == 3) with
               | true=>
                 cases hN:inB m.decls[j].n 1 32 with
                 | false=>
                   have HF:Hid (m.decls.any dB3=true):=zbj m.decls dB3 j hlt (by simp [dB3,h3,hN])
                   go_wp2_with (go_at_call 63;refine (zbb hN _).mono ?_;rintro e w' ⟨rfl,rfl⟩)
                   go_ret;exact ⟨zab (HR.out (by rw [HF.out];simp)),thenB hb hb4⟩
                 | true=>
                   have HT:Hid ((m.decls.take (j+1)).any dB3=false):=by
                    show _=_
                    rw [zat m.decls dB3 j hlt,HA.out];simp [dB3,hnm,h1,h2,h3,hN]
                   go_wp2_with (go_at_call 63;refine (zbb hN _).mono ?_;rintro e w' ⟨rfl,rfl⟩)
                   go_roundw
                   case rel=>exact ⟨j+1,by omega,by go_num,HT.out,thenB hb hb4,HB.out.later hb4⟩
                   case measure=>simp [intOf];omega
               | false=>
                 have HT:Hid ((m.decls.take (j+1)).any dB3=false):=by
                  show _=_
                  rw [zat m.decls dB3 j hlt,HA.out];simp [dB3,hnm,h1,h2,h3]
                 go_wp2_with fail;go_roundw
                 case rel=>exact ⟨j+1,by omega,by go_num,HT.out,thenB hb hb4,HB.out.later hb4⟩
                 case measure=>simp [intOf];omega
       . have HDs : Hid (m.decls.any dB3=false):=zbh HA.out hlt
         clear HA;go_wp2_with fail
         go_loopw [8,9,10,11] (fun i _ _ _ wr=>∃ j:Nat,j<=m.procs.length/\i = .int .i64 j/\(m.procs.take j).any pB3=false/\Below w.heap.size w wr/\Blk wr w.heap.size [.string m.name,.slice a1 m.uses.length c1,.slice a2 m.decls.length c2,.slice a3 m.procs.length c3,.slice a4 m.main.length c4]) (fun i _ _ _ _=>m.procs.length - (intOf i).toNat)
         case atStart=>exact ⟨0,vad _,rfl,rfl,hb,HB.out⟩
         case round =>
          clear m0 m1 m2 m3 m4 mz HB hb hlt hj HP;obtain ⟨j,hj,rfl,hall,hb,hB⟩:=hrel;obtain ⟨m0,m1,m2,m3,m4,mz⟩:=hB.c5;have HB:=hid hB;have HA:=hid hall;clear hB hall
          by_cases hlt:j<m.procs.length
          . obtain ⟨b,off,a5,c5,a6,c6,a7,c7,rfl,hx⟩:=(HM.out.procs.later hb).pr j hlt
            have hc0:=hx.c0;have hc1:=hx.c1;have hc2:=hx.c2;have hc3:=hx.c3;have hc4:=hx.c4;have hlb:=hx.lt;have hnp:=hx.params.bound;have hnl:=hx.locals.bound;have HX:=hid hx;clear hx;go_wp2_with fail;refine (zci m.procs[j].name _ HX.out.wna).mono ?_
            cases hnm:nameOk m.procs[j].name with
            | false=>
              have HF:Hid (m.procs.any pB3=true):=zbj m.procs pB3 j hlt (by simp [pB3,hnm]);rintro e w3 ⟨rfl,k3⟩;go_wp2_with fail;go_ret;exact ⟨zab (HR.out (by rw [HF.out];simp)),thenB hb (thenB (al1 _ _) k3)⟩
            | true =>
              rintro e w3 ⟨rfl,k3⟩;have B3:=(Blk.new wr #[.string m.procs[j].name,.bool m.procs[j].pub,.slice a5 m.procs[j].params.length c5,.slice a6 m.procs[j].locals.length c6,.slice a7 m.procs[j].body.length c7] 118).later k3;have hb3:Below wr.heap.size wr w3:=thenB (al1 _ _) k3;clear k3;obtain ⟨y0,y1,y2,y3,y4,yz⟩:=B3.c5
              have HBad:Hid ((!nameOk m.procs[j].name||(bL 3 6 m.procs[j].body||(m.procs[j].params++m.procs[j].locals).any nB))=true->true=mL3 m):=fun h=>HR.out (by rw [zbj m.procs pB3 j hlt h];simp)
              go_wp2_with fail;refine (zb7 Tt 3 (by omega) 6 (by omega) 1 (by omega) m.procs[j].body a7 c7 _ (HX.out.body.later hb3)).mono ?_
              cases hrb:bL 3 6 m.procs[j].body with
              | true=>
                have HF:Hid (m.procs.any pB3=true):=zbj m.procs pB3 j hlt (by simp [pB3,hrb]);rintro e w4 ⟨rfl,k4⟩;go_wp2_with fail;go_ret;exact ⟨zab (HR.out (by rw [HF.out];simp)),thenB hb (thenB hb3 k4)⟩
              | false =>
                rintro e w4 ⟨rfl,k4⟩;have B1:=B3.later k4;have hb4:Below wr.heap.size wr w4:=thenB hb3 k4;clear k4 m0 m1 m2 m3 m4 mz y0 y1 y2 y3 y4 yz B3 hb3;obtain ⟨y0,y1,y2,y3,y4,yz⟩:=B1.c5;clear B1 y0 y1 y4 hc0 hc1 hc2 hc3 hc4 hlb;go_wp2_with fail;obtain ⟨v1,w5,ga,gc,w6,hr1,hB5,hr2,hB6,hcs⟩:=zjy w4 m.procs[j].params m.procs[j].locals a5 a6 c5 c6 (HX.out.params.later hb4) (HX.out.locals.later hb4) (HSm.out _ (vah hlt)).1 (HSm.out _ (vah hlt)).2
                have S5:Hid (w5.cell? ⟨wr.heap.size,2,none⟩=some (.slice a5 m.procs[j].params.length c5)/\w5.cell? ⟨wr.heap.size,3,none⟩=some (.slice a6 m.procs[j].locals.length c6)):=⟨(hB5.cell (p:=⟨wr.heap.size,2,none⟩) yz).trans y2,(hB5.cell (p:=⟨wr.heap.size,3,none⟩) yz).trans y3⟩
                have S6:Hid (w6.cell? ⟨wr.heap.size,2,none⟩=some (.slice a5 m.procs[j].params.length c5)/\w6.cell? ⟨wr.heap.size,3,none⟩=some (.slice a6 m.procs[j].locals.length c6)):=⟨(hB6.cell (p:=⟨wr.heap.size,2,none⟩) yz).trans y2,(hB6.cell (p:=⟨wr.heap.size,3,none⟩) yz).trans y3⟩
                have hb6:Below w.heap.size w w6:=thenB hb (thenB hb4 hB6);have HB6:=hid (HB.out.later (thenB hb4 hB6))
                have hsz6:(m.procs[j].params++m.procs[j].locals).length<=2097152:=by
                 have h1:=(HSm.out _ (vah hlt)).1;have h2:=(HSm.out _ (vah hlt)).2
                 simp;omega
                have HSz:Hid (∀ t (h:t<(m.procs[j].params++m.procs[j].locals).length),((m.procs[j].params++m.procs[j].locals)[t]).size<=maxLen):=by
                 intro t h;rw [List.getElem_append];split
                 . rename_i h1
                   obtain ⟨_,_,_,_,_,hs⟩:=HX.out.params.str t h1;exact hs
                 . rename_i h1
                   rw [vao] at h;obtain ⟨_,_,_,_,_,hs⟩:=HX.out.locals.str (t - m.procs[j].params.length) (by omega);exact hs
                have HC:=hid hcs;clear hcs hB5
                obtain ⟨al,hal⟩:∃ al,al=m.procs[j].params++m.procs[j].locals:=⟨_,rfl⟩
                have HAl:=hid hal;rw [← hal] at hsz6 hr2
                have HC':Hid (∀ j (hj:j<al.length),∃ b,ga=some ⟨b,0,none⟩/\b<w6.heap.size/\w6.cell? ⟨b,j,none⟩=some (.string al[j])):=by subst hal;exact HC.out
                have HSz':Hid (∀ t (h:t<al.length),(al[t]).size<=maxLen):=by subst hal;exact HSz.out
                clear HC HSz;have HC:=HC';have HSz:=HSz';clear HC' HSz';clear hal;have HR1:=hid hr1;have HR2:=hid hr2;clear hr1 hr2;refine wp_region_held_drew (S:=(fun W=>W.cell? ⟨wr.heap.size,2,none⟩=some (.slice a5 m.procs[j].params.length c5)/\W.cell? ⟨wr.heap.size,3,none⟩=some (.slice a6 m.procs[j].locals.length c6))) (by kernel_rfl) ?_ (fun hHeld=>?_)
                . (try dsimp only);go_keep
                refine tqr 1 163 hHeld ?_
                (try simp only [Act.put,sx])
                refine tqr 2 164 hHeld ?_
                (try simp only [Act.put,sx])
                refine tqr 4 166 hHeld ?_
                (try simp only [Act.put,sx])
                refine tqr 5 167 hHeld ?_
                (try simp only [Act.put,sx])
                refine wpAnyH_ready (rs:=[0]) (by kernel_rfl) (by simp) ?_;refine AllReadyH.cons rfl (fun K hK=>?_) AllReadyH.nil;go_simp;refine hK.out _ _ ?_ (fun hHeld=>?_)
                . (try dsimp only);go_keep
                clear hK K;refine wpAnyH_ready (rs:=[3]) (by kernel_rfl) (by simp) ?_;refine AllReadyH.cons (o:=⟨some 165,_,_,_,_,_⟩) rfl (fun K hK=>?_) AllReadyH.nil;refine zaz rfl _ _ _ rfl _ _ _ rfl rfl HR1.out ?_;refine hK.out _ _ S5.out (fun hHeld=>?_);clear hK K
                (try simp only [Act.put,sx])
                refine wpAnyH_ready (rs:=[6]) (by kernel_rfl) (by simp) ?_;refine AllReadyH.cons (o:=⟨some 168,_,_,_,_,_⟩) rfl (fun K hK=>?_) AllReadyH.nil;refine zaz rfl _ _ _ rfl _ _ _ rfl rfl HR2.out ?_;refine hK.out _ _ S6.out (fun hHeld=>?_);clear hK K hHeld;have hHeld:=S6.out
                (try simp only [Act.put,sx])
                refine tqr 7 10 hHeld ?_
                (try simp only [Act.put,sx])
                refine wpAnyH_done (by kernel_rfl) ?_ _;clear hHeld y2 y3 yz;go_wp2_with fail
                go_loopw [11] (fun i wr=>∃ t:Nat,t<=al.length/\i = .int .i64 t/\(al.take t).any nB=false/\Below w6.heap.size w6 wr) (fun i _=>al.length - (intOf i).toNat)
                case atStart=>exact ⟨0,vad _,rfl,rfl,Below.refl _ _⟩
                case round=>
                 obtain ⟨t,ht,rfl,ha2,hbq⟩:=hrel;have HA2:=hid ha2;clear ha2
                 by_cases htl:t<al.length
                 . skip
                   obtain ⟨bg,rfl,hbl,hcl⟩:=HC.out t htl;have hcq:wr.cell? ⟨bg,t,none⟩=some (.string al[t]):=(hbq.cell (p:=⟨bg,t,none⟩) hbl).trans hcl;have hbq':bg<wr.heap.size:=vai hbl hbq.size;clear hcl hbl;go_wp2_with fail;refine (zci al[t] _ (HSz.out t htl)).mono ?_
                   cases hr:nameOk al[t] with
                   | false=>
                     have HF:Hid (al.any nB=true):=zbj al nB t htl (by simp [nB,hr]);rintro e w8 ⟨rfl,hb8⟩;go_wp2_with fail;go_ret;exact ⟨zab (HBad.out (by rw [← HAl.out,HF.out,vby,vby])),thenB hb6 (thenB hbq hb8)⟩
                   | true=>
                     have HT:Hid ((al.take (t+1)).any nB=false):=by
                      show _=_
                      rw [zat al nB t htl,HA2.out];simp [nB,hr]
                     rintro e w8 ⟨rfl,hb8⟩;go_wp2_with fail;go_roundw
                     case rel=>exact ⟨t+1,by omega,by go_num,HT.out,thenB hbq hb8⟩
                     case measure=>simp [intOf];omega
                 . have HAll:Hid (al.any nB=false):=zbh HA2.out htl
                   have HT:Hid ((m.procs.take (j+1)).any pB3=false):=by
                    show _=_
                    rw [zat m.procs pB3 j hlt,HA.out];simp only [pB3,hnm,hrb,← HAl.out,HAll.out];rfl
                   go_wp2_with fail;go_roundw
                   case rel=>exact ⟨j+1,by omega,by go_num,HT.out,thenB hb6 hbq,HB6.out.later hbq⟩
                   case measure=>simp [intOf];omega
          . have HPs:Hid (m.procs.any pB3=false):=zbh HA.out hlt
            go_wp2_with fail;refine (zb7 Tt 3 (by omega) 6 (by omega) 1 (by omega) m.main a4 c4 _ (HM.out.main.later hb)).mono ?_;rintro e w9 ⟨rfl,hb9⟩;go_wp2_with fail;go_ret;exact ⟨zab (HR.out (by simp [HNm,HU.out,HDs.out,HPs.out])),thenB hb hb9⟩
set_option maxHeartbeats 1600000
theorem zj3 (m:Mo) (v:Value) (a1:OA) (c1:Nat) (a2:OA) (c2:Nat) (a3:OA) (c3:Nat) (a4:OA) (c4:Nat) (w:World) (hM:MoAt w Tt m v a1 c1 a2 c2 a3 c3 a4 c4) (hs:Small m) :
 Calls Tryz.prog 51 #[v] w fun e w'=>e = .returned (.int .i64 m.err)/\Below w.heap.size w w':=by
 have HS:=hid hs;obtain rfl:=hM.val;have HM:=hid hM;clear hM hs;have HB:Hid (Blk (w.alloc (.cells #[.string m.name,.slice a1 m.uses.length c1,.slice a2 m.decls.length c2,.slice a3 m.procs.length c3,.slice a4 m.main.length c4] 27)) w.heap.size [.string m.name,.slice a1 m.uses.length c1,.slice a2 m.decls.length c2,.slice a3 m.procs.length c3,.slice a4 m.main.length c4]):=Blk.new w _ _;have HE:Hid (m.err=if m.kinds then (if m.many then 2 else (if m.form then 0 else 1)) else 4):=rfl;go_enter Tryz.func51,Tryz.ntmps51;go_wp2_with fail;refine (zj0 m _ a1 c1 a2 c2 a3 c3 a4 c4 _ (HM.out.later (al1 _ _)) HS.out).mono ?_;rw [zv3]
 cases hk:m.kinds with
 | false=>
   rintro e w1 ⟨rfl,hb1⟩
   have HF:Hid (m.err=4):=by show _=_;rw [HE.out,hk];rfl
   go_wp2_with fail;go_ret;exact ⟨zaq HF.out.symm,thenB (al1 _ _) hb1⟩
 | true=>
   rintro e w1 ⟨rfl,hb1⟩;have hb1':=thenB (al1 _ _) hb1;have B1:=HB.out.later hb1;clear HB hb1;obtain ⟨y0,y1,y2,y3,y4,yz⟩:=B1.c5;have HB:=hid B1;clear B1;go_wp2_with fail;refine (zj1 m _ a1 c1 a2 c2 a3 c3 a4 c4 _ (HM.out.later hb1') HS.out).mono ?_;rw [zxx]
   cases hm:m.many with
   | true=>
     rintro e w2 ⟨rfl,hb2⟩
     have HF:Hid (m.err=2):=by show _=_;rw [HE.out,hk,hm];rfl
     go_wp2_with fail;go_ret;exact ⟨zaq HF.out.symm,thenB hb1' hb2⟩
   | false=>
     rintro e w2 ⟨rfl,hb2⟩;have hb2':=thenB hb1' hb2;have B1:=HB.out.later hb2;clear HB hb2 hb1' y0 y1 y2 y3 y4 yz;obtain ⟨y0,y1,y2,y3,y4,yz⟩:=B1.c5;clear B1;go_wp2_with fail;refine (zj2 m _ a1 c1 a2 c2 a3 c3 a4 c4 _ (HM.out.later hb2') HS.out).mono ?_;rw [zxy m hk hm]
     cases hf:m.form with
     | true=>
       rintro e w3 ⟨rfl,hb3⟩
       have HF:Hid (m.err=0):=by show _=_;rw [HE.out,hk,hm,hf];rfl
       go_wp2_with fail;go_ret;exact ⟨zaq HF.out.symm,thenB hb2' hb3⟩
     | false=>
       rintro e w3 ⟨rfl,hb3⟩
       have HF:Hid (m.err=1):=by show _=_;rw [HE.out,hk,hm,hf];rfl
       go_wp2_with fail;go_ret;exact ⟨zaq HF.out.symm,thenB hb2' hb3⟩
end Go.Proofs.YtndkhgakfodldaaGreatDoor
