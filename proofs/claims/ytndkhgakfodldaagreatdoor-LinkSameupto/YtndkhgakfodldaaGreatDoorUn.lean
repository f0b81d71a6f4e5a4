import Derived.Test.YtndkhgakfodldaaGreatDoorUi
import Derived.Lib.AppendZeros
set_option maxRecDepth 100000
set_option maxHeartbeats 8000000
set_option linter.unusedSimpArgs false
set_option linter.unusedVariables false
open Go.Proofs.Tryz
namespace Go.Proofs.YtndkhgakfodldaaGreatDoor
open Go.RowKit Go.Maps Go.WideMaps
variable {A:Nat->Prop} {B R b j a9 au k3 n o:Nat} {K:Kn} {L:Lc} {P:Program} {a E a0 a6:OA} {H ps:List e5} {c:Int} {l:List dN} {m:ec} {s:ByteArray} {v:Value} {w G w0:World} {x:dN}
def strV (l:List ByteArray):List Value:=l.map Value.string
theorem K8 (a b:List ByteArray):strV (a++b)=strV a++strV b:=j2 ..
theorem C5 (l:List ByteArray):(strV l).length=l.length:=fM ..
theorem K9 (l:List ByteArray):∀ u ∈ strV l,u.oneCell'=true:=fun u aL=>by
 obtain ⟨s,_,rfl⟩:=ig.1 aL
 rfl
theorem La (y:Nat) (t d e:TypeId) (i:TypeInfo) (size c:Nat) (ax:P.underlying t=some (.slice e)) (V:P.info? e=some i)
 (v:Value) (n:Nat) (ao:List Value) (T:w.ownsRow y e size v n ao) :
 (Builtin.append_ #[t,t] d #[v,.slice none 0 c]).run P w = .ok v w:=by
 rcases T.2 with ⟨rfl,rfl⟩ | ⟨al,q,o,rfl,_,_,hnc,_⟩
 . simp [Builtin.append_,run_underlying ax,Go.sizeOf,typeInfo,V,Builtin.lenOf,Builtin.firstCells]
 . simp [Builtin.append_,run_underlying ax,Go.sizeOf,typeInfo,V,Builtin.lenOf,Builtin.firstCells,hnc,storeCells]
theorem vy (y:Nat) (d:TypeId) (v:Value) (n:Nat) (ao:List Value) (T:w.ownsRow y 9 1 v n ao) (us:List ByteArray) (b:OA) (c:Nat) (aE:Fx.zfd w b us) (b1:n+us.length<=10000) (L:y<=w.heap.size) :
 ∃ aa G,(Builtin.append_ #[22,22] d #[v,.slice b us.length c]).run prog w = .ok aa G/\G.ownsRow y 9 1 aa (n+us.length) (ao++strV us)/\w.grownBy G v.ownBlock:=by
 obtain ⟨aY,V,a9,ba,bA⟩:=info_parts Tryz.infoP9
 have go:∀ H:Addr,b=some H->(∀ j u,(strV us)[j]? = some u->w.cell? (H.add j)=some u)->∃ aa G,(Builtin.append_ #[22,22] d #[v,.slice b us.length c]).run prog w = .ok aa G/\G.ownsRow y 9 1 aa (n+us.length) (ao++strV us)/\w.grownBy G v.ownBlock:=by
  rintro H rfl Z;obtain ⟨aa,G,F,J,U,_⟩:=run_append_own (P:=prog) (w:=w) y 22 d 9 aY _ 1 16 Tryz.underlying22 V a9 ba bA rfl N9 v n ao T H us.length c (strV us) (by rw [C5,Nat.mul_one]) Z (K9 us) Oh N7 L;exact ⟨aa,G,F,J,U⟩
 rcases aE with rfl | ⟨bt,C,rfl,aq,h⟩
 . cases b with
   | none=>exact ⟨v,w,La y _ d _ aY 1 c Tryz.underlying22 V v n ao T,by simpa [strV] using T,⟨rfl,rfl,rfl,dA _,fun _ _ _=>rfl⟩⟩
   | some H=>exact go H rfl (fun j u a2=>by simp [strV] at a2)
 . refine go _ rfl (fun j u a2=>?_)
   have a:j<us.length:=by
    rcases gZ j us.length with a5 | a5
    . exact a5
    . rw [mL (by rw [C5];exact a5)] at a2;cases a2
   have e:((dj bt C):Addr).add j=⟨bt,C+j,none⟩:=On
   rw [e,h j a];simp [strV,a] at a2;rw [a2]
theorem Lb (n:Nat) (w:World) (Z:n<=10000) :
 dw 204 #[dt,di n] w fun e G=>∃ v,e = .returned v/\G.ownsRow w.heap.size 9 1 v 0 []/\dm w G:=by
 obtain ⟨aY,V,a9,ba,bA⟩:=info_parts Tryz.infoP9
 have aj:IntKind.i64.wrap (n:Int)=n:=Oj
 by_cases ab:n=0
 . subst ab
   go_enter func204,ntmps204;go_wp2_with fail;go_ret;exact ⟨_,rfl,jU _ _ _ _,Below.refl _ _⟩
 . have Q:=fun d=>Lib.run_append_nil_zeros (P:=prog) w 22 3 d 9 aY _ .i64 .i64 Tryz.underlying22 Tryz.underlying3 V a9 n N7 N7 N7 (by rw [bA];omega)
   have E:=grownCap_ge w n 0 9
   have bf:Hid ((w.drew.alloc (.cells (Builtin.zeroCells (Value.string ⟨#[]⟩).cells n++Builtin.zeroCells (Value.string ⟨#[]⟩).cells (grownCap w n 0 9 - n)) 9)).ownsRow w.heap.size 9 1 (.slice (some (dj w.heap.size 0)) 0 (grownCap w n 0 9)) 0 []):=by
    refine ⟨rfl,Or.inr ⟨w.heap.size,_,_,rfl,dA _,heap_alloc_new w.drew _,dY _,grownCap_le_maxLen w n 0 _ Oh,?_,Ob⟩⟩;rw [Array.size_append,size_zeroCells,size_zeroCells];show n*1+(grownCap w n 0 9 - n)*1=_;omega
   have bJ:Hid (dm w (w.drew.alloc (.cells (Builtin.zeroCells (Value.string ⟨#[]⟩).cells n++Builtin.zeroCells (Value.string ⟨#[]⟩).cells (grownCap w n 0 9 - n)) 9))):=((Below.refl w.heap.size w).drew).alloc (dA _) _
   have y:(0:Int)<n:=N7
   generalize (w.drew.alloc (.cells (Builtin.zeroCells (Value.string ⟨#[]⟩).cells n++Builtin.zeroCells (Value.string ⟨#[]⟩).cells (grownCap w n 0 9 - n)) 9))=w2 at *;generalize grownCap w n 0 9=R at *
   have g:(n:Int)<=R:=N7
   go_enter func204,ntmps204
   go_wp2_with (at_builtin;refine Lib.wpList_append_run _ rfl (.tmp 20) (.tmp 21) 22 3 rfl _ _ rfl rfl _ _ (Q _) ?_)
   go_ret;exact ⟨_,rfl,bf,bJ⟩
theorem Ld (x y:List ByteArray) (E:OA) (ah:Nat) (a0:OA) (ae b:Nat) (w:World) (I:b<w.heap.size) (ab:w.cell? (dj b 0)=some (.slice E x.length ah)) (F:w.cell? (dj b 1)=some (.slice a0 y.length ae))
 (S:Fx.zfd w E x) (a4:Fx.zfd w a0 y) (H:x.length<=1000) (bu:y.length<=1000) :
 dw 161 #[.slice (some (dj b 0)) 2 2] w fun e G=>∃ v,e = .returned v/\G.ownsRow w.heap.size 9 1 v (x.length+y.length) (strV (x++y))/\dm w G:=by
 have aZ:=hid S;have aX:=hid a4;have c:=hid ab;have d:=hid F;clear S a4
 have aE:IntKind.i64.wrap (x.length:Int)=x.length:=Oj
 have a6:IntKind.i64.wrap ((x.length:Int)+(y.length:Int))=((x.length+y.length:Nat):Int):=Oj
 have a3:(0:Int)<=x.length:=N7
 have r:(0:Int)<=((x.length+y.length:Nat):Int):=N7
 have bz:=hid (Lb (x.length+y.length) w N7);go_enter func161,ntmps161;go_wp2_with fail
 go_loopw [3,5,11] (fun s _ i wr=>∃ j:Nat,j<=2/\i=di j/\s=di (if j=0 then 0 else if j=1 then (x.length:Int) else ((x.length+y.length:Nat):Int))/\w=wr) (fun _ _ i _=>2 - (intOf i).toNat)
 case atStart=>exact ⟨0,N7,rfl,rfl,rfl⟩
 case round=>
  obtain ⟨j,a2,rfl,rfl,rfl⟩:=hrel
  obtain rfl | rfl | rfl:j=0\/j=1\/j=2:=N7
  . go_wp2_with fail
    go_roundw
    case rel=>exact ⟨1,N7,rfl,rfl,trivial⟩
    case measure=>simp [intOf]
  . go_wp2_with fail
    go_roundw
    case rel=>exact ⟨2,N7,rfl,rfl,trivial⟩
    case measure=>simp [intOf]
  . go_wp2_with fail
    refine bz.mono ?_;rintro e dk ⟨aF,rfl,L,aq⟩;have u:=hid L;have B:=hid aq;have ba:=aq.size;clear L aq bz ab F;go_wp2_with fail
    go_loopw [6,8,27] (fun v _ i wr=>∃ j:Nat,j<=2/\i=di j/\wr.ownsRow w.heap.size 9 1 v (if j=0 then 0 else if j=1 then x.length else x.length+y.length) (if j=0 then [] else if j=1 then strV x else strV (x++y))/\dm w wr) (fun _ _ i _=>2 - (intOf i).toNat)
    case atStart=>exact ⟨0,N7,rfl,u,B⟩
    case round=>
     clear u B ba;obtain ⟨j,a2,rfl,ap,A⟩:=hrel;have ag:=hid A;have bj:=A.size;have aB:b<wr.heap.size:=e4 I bj;have g:=(A.cell (p:=(dj b 0)) I).trans c;have a9:=(A.cell (p:=(dj b 1)) I).trans d;clear A
     obtain rfl | rfl | rfl:j=0\/j=1\/j=2:=N7
     . have f:wr.ownsRow w.heap.size 9 1 u6 0 []:=ap
       obtain ⟨aa,G,Q,J,U⟩:=vy w.heap.size 22 u6 0 [] f x E ah (aZ.later ag) N7 bj;have m:Hid (G.ownsRow w.heap.size 9 1 aa x.length (strV x)):=hid Pg;have O:=hid (ag.grown U bj (fun k N=>(f.lt k N).1));clear ap f J U
       go_wp2_with (at_builtin;refine Lib.wpList_append_run _ rfl (.tmp 31) (.tmp 32) 22 22 rfl _ _ rfl rfl _ _ Q ?_)
       go_roundw
       case rel=>exact ⟨1,N7,rfl,m,O⟩
       case measure=>simp [intOf]
     . have f:wr.ownsRow w.heap.size 9 1 u6 x.length (strV x):=ap
       obtain ⟨aa,G,Q,J,U⟩:=vy w.heap.size 22 u6 x.length (strV x) f y a0 ae (aX.later ag) N7 bj
       have m:Hid (G.ownsRow w.heap.size 9 1 aa (x.length+y.length) (strV (x++y))):=by rw [K8];exact J
       have O:=hid (ag.grown U bj (fun k N=>(f.lt k N).1));clear ap f J U
       go_wp2_with (at_builtin;refine Lib.wpList_append_run _ rfl (.tmp 31) (.tmp 32) 22 22 rfl _ _ rfl rfl _ _ Q ?_)
       go_roundw
       case rel=>exact ⟨2,N7,rfl,m,O⟩
       case measure=>simp [intOf]
     . have m:Hid (wr.ownsRow w.heap.size 9 1 u6 (x.length+y.length) (strV (x++y))):=ap
       clear ap;go_wp2_with fail;go_ret;exact ⟨_,rfl,m,ag⟩
theorem vz {l:List ByteArray} (h:w.ownsRow B 9 1 v l.length (strV l)):∃ a q,v = .slice a l.length q/\Fx.zfd w a l:=by
 rcases h.2 with ⟨af,ab⟩ | ⟨al,q,o,af,aF,ak,_⟩
 . have X:l=[]:=hF ab
   exact ⟨none,0,by rw [af,X];rfl,Or.inl X⟩
 . refine ⟨_,q,af,Or.inr ⟨al,0,rfl,lt_of_heap ak,fun i V=>?_⟩⟩
   have:=h.cells (g:=al) (by rw [af];rfl) i (.string l[i]) (by simp [strV,V]);rw [show ((dj al 0):Addr).add i=(dj al i) from On] at this;rw [fY];exact this
theorem vA:Keyed prog 9:=string_keyed Tryz.underlying9
theorem yj (w:World):(zeroValue 3).run prog w = .ok (di 0) w:=by kernel_rfl
def lN (L:Lc) (s:ByteArray) (i:Int):Lc:=fun a=>if a=s then some i else L a
def vB (D:DataW Unit) (L:Lc):Prop:=∀ a:ByteArray,has D (.string a.data.toList)=(L a).isSome/\D.atKey (.string a.data.toList) (.lit (.int .i64 0)) = .lit (.int .i64 ((L a).getD 0))
theorem yk {a b:ByteArray} (h:a.data.toList=b.data.toList):a=b:=by
 cases a;cases b;simp at h;rw [h]
theorem vB.put {D:DataW Unit} (h:vB D L) (an:IsMap D) (s:ByteArray) (i:Int):vB (D.put (.string s.data.toList) (.lit (.int .i64 i))) (lN L s i):=by
 intro a
 by_cases e:a=s
 . subst e
   simp only [lN,if_true];exact ⟨has_put_same (k:=.string a.data.toList) an trivial _,atKey_put_same (k:=.string a.data.toList) an trivial _ _⟩
 . have aX:Lit.string a.data.toList≠.string s.data.toList:=fun h=>e (yk (by injection h))
   simp only [lN,if_neg e];rw [has_put_other aX,atKey_put_other aX];exact h a
def gc (w:World) (b n:Nat) (L:Lc):Prop:=∃ D:DataW Unit,w.ownsMap prog 9 (plainElem prog 3) b n D/\vB D L
theorem gc.lt (h:gc w b n L):b<w.heap.size:=P7
theorem gc.later (h:gc w b n L) (I:dm w G):gc G b n L:=by
 have ac:=h.lt;obtain ⟨D,F,J⟩:=h;exact SC
theorem gc.made (w:World):gc (w.alloc (.map #[] 0)) w.heap.size 0 (fun _=>none):=⟨.map [],rt w _ _ _,fun _=>⟨rfl,rfl⟩⟩
theorem gc.names (h:gc w b n L):jd w (.map (some b)) L:=by
 intro G I s a8;obtain ⟨D,a9,au⟩:=h.later I;obtain ⟨v,ps,E,af⟩:=a9.look_ok vA Tryz.underlying185 (yj G) (zd:=.lit (.int .i64 0)) (zp:=[]) (plainElem_int Tryz.underlying3 N9) (keyOf_string_mk Tryz.underlying9 a8);obtain ⟨c,rfl,W,_⟩:=plainElem_int_inv Tryz.underlying3 af;simp only [rQ] at W;have W:=W.1;rw [(au s).2] at W
 injection W with W
 injection W with _ W
 rw [E,← W,(au s).1]
theorem Le (w:World):jd w (.map none) (fun _=>none):=by
 intro G I s a8;rw [look_nil true vA Tryz.underlying185 (yj G) (keyOf_string_mk Tryz.underlying9 a8)]
 rfl
theorem gc.put (h:gc w b n L) (Z:n<maxLen) (s:ByteArray) (a8:s.size<=maxLen) (i:Int) (V:(Lit.int .i64 i).wf=true) :
 ∃ G,(Instr.mapUpdate 185 (.map (some b)) (.string s) (di i)).run prog w = .ok () G/\gc G b (n+1) (lN L s i)/\w.grownBy G (some b):=by
 obtain ⟨D,a9,au⟩:=h;obtain ⟨G,bp,bx,bQ⟩:=a9.update vA Tryz.underlying185 Z (keyOf_string_mk Tryz.underlying9 a8) (plainElem_int (a:=i) Tryz.underlying3 V);exact ⟨G,bp,⟨_,bx,au.put a9.isMap s i⟩,bQ⟩
def hr (l:List ByteArray):Lc:=l.zipIdx.foldl (fun f D=>lN f D.1 (D.2:Int)) (fun _=>none)
theorem tt (l:List ByteArray) (s:ByteArray):hr (l++[s])=lN (hr l) s l.length:=by
 unfold hr;rw [List.zipIdx_append,lG];simp
def fe (l:List dN):List ByteArray:=l.map dN.name
theorem qL (l:List dN) (j:Nat) (h:j<l.length):fe (l.take (j+1))=fe (l.take j)++[l[j].name]:=by
 unfold fe;rw [gn h,j2];rfl
def lP (l:List ByteArray):Lc:=l.foldl (fun f s=>lN f s ((f s).getD 0+1)) (fun _=>none)
theorem yl (l:List ByteArray) (s:ByteArray):lP (l++[s])=lN (lP l) s ((lP l s).getD 0+1):=by unfold lP;rw [lG];rfl
theorem C6 (s:ByteArray):∀ l:List ByteArray,0<=(lP l s).getD 0/\(lP l s).getD 0<=l.length:=by
 apply Fx.zbs
 . exact ⟨mN _,mN _⟩
 . intro l a ay
   rw [yl,eM];unfold lN
   by_cases e:s=a
   . subst e
     rw [if_pos rfl];simp only [gE,oA];omega
   . rw [if_neg e,oA]
     omega
theorem Lf (s:ByteArray):∀ l:List ByteArray,((lP l s).getD 0=0)↔s ∉ l:=by
 apply Fx.zbs
 . exact ⟨fun _ h=>P3,fun _=>rfl⟩
 . intro l a ay
   have I:=C6 s l;rw [yl,jF,l8];unfold lN
   by_cases e:s=a
   . subst e
     rw [if_pos rfl];simp only [gE];exact ⟨fun h=>N7,fun h=>absurd (Or.inr (by trivial)) h⟩
   . rw [if_neg e,ay]
     exact ⟨fun h k=>k.elim h e,fun h k=>h (Or.inl k)⟩
theorem gc.look (h:gc w b n L) (s:ByteArray) (a8:s.size<=maxLen) :
 (Instr.lookup 185 (.map (some b)) (.string s) false).run prog w = .ok (di ((L s).getD 0)) w:=by
 obtain ⟨D,a9,au⟩:=h;obtain ⟨c,E,a3,_⟩:=a9.lookup_int vA Tryz.underlying185 Tryz.underlying3 (yj w) (keyOf_string_mk Tryz.underlying9 a8);rw [(au s).2] at a3
 injection a3 with a3
 injection a3 with _ a3
 rw [E,a3]
def nM (l:List ByteArray) (s:ByteArray):Bool:=l.any fun x=>decide (x=s)
theorem ym {l:List ByteArray}:nM l s=true↔s ∈ l:=by
 unfold nM;rw [List.any_eq_true];exact ⟨fun ⟨x,S,h⟩=>(of_decide_eq_true h) ▸ S,fun h=>⟨s,h,decide_eq_true rfl⟩⟩
theorem Lg {l:List ByteArray} (h:s ∉ l):nM l s=false:=by
 cases a1:nM l s with
 | false=>rfl
 | true=>exact absurd (ym.1 a1) h
def mr (l:List dN):Nat->Bool
 | 0=>true
 | j+1=>mr l j&&(match l[j]? with | some u=>u.uses.all (nM (fe (l.take j))) | none=>true)
def li (l:List dN):Bool:=mr l l.length
theorem Lh (h:j<l.length):mr l (j+1)=(mr l j&&l[j].uses.all (nM (fe (l.take j)))):=by
 rw [mr,ew h]
theorem C7 (h:mr l j=false):∀ k,j<=k->mr l k=false
 | 0,N=>by
   obtain rfl:j=0:=N7
   exact h
 | k + 1,N=>by
   rcases gZ k j with F | F
   . obtain rfl:j=k+1:=by omega
     exact h
   . rw [mr,C7 h k F];rfl
theorem C8 {g:Nat} {x:Obj} (ak:w.grownBy G (some g)) (aX:b≠g) (h:w.heap[b]? = some x):G.heap[b]? = some x:=
 (ak.block b (lt_of_heap h) (by simpa using aX)).trans h
theorem Li (l:List dN) (a:OA) (q:Nat) (w:World) (an:dx w dQ a l.length (gJ l)) (aa:l.length<=4) :
 dw 69 #[.slice a l.length q] w fun e G=>e = .returned (.bool (li l))/\dm w G:=by
 have c8:=@run_makeMap prog;have b0:=hid an;clear an;go_enter func69,ntmps69;go_wp2_with fail
 go_loopw [11] (fun i wr=>∃ j:Nat,j<=l.length/\i=di j/\mr l j=true/\gc wr w.heap.size j (lP (fe (l.take j)))/\dm w wr) (fun i _=>l.length - (intOf i).toNat)
 case atStart=>exact ⟨0,dY _,rfl,rfl,gc.made _,dn _ _⟩
 case round=>
  obtain ⟨j,a2,rfl,aS,a1,I⟩:=hrel;have L:=hid a1;have ag:=hid I;have b2:=hid aS;have X:=a1.lt;clear aS a1 I
  by_cases ac:j<l.length
  . obtain ⟨b,C,E,a9,a0,au,a6,k3,rfl,S⟩:=(b0.later ag).un j ac
    have aQ:=hid (Lh ac);have aV:=hid (qL l j ac);obtain ⟨bb,bt,ah,ae,c3,K,aF,_,_,bF,_⟩:=S;have c6:=aF.bound;have bi:=hid (aF.later (dn wr (fF l[j].name E l[j].uses.length a9 l[j].data a0 l[j].parts.length au a6 l[j].main.length k3)))
    have ca:Hid ((fe (l.take j)).length<=4):=by show _<=4;unfold fe;rw [fM,jE];omega
    generalize fe (l.take j)=c at *;generalize l[j]=x at *;clear aF;have af:=hid (L.later (dn wr (fF x.name E x.uses.length a9 x.data a0 x.parts.length au a6 x.main.length k3)));have bl:Hid ((wr.alloc (fF x.name E x.uses.length a9 x.data a0 x.parts.length au a6 x.main.length k3)).heap[wr.heap.size]? = some (.cells #[.string x.name,.slice E x.uses.length a9,di x.data,.slice a0 x.parts.length au,.slice a6 x.main.length k3] 42 (0,0))):=dX _ _;have B:=hid (dp ag (dn wr (fF x.name E x.uses.length a9 x.data a0 x.parts.length au a6 x.main.length k3)))
    have b6:Hid ((wr.alloc (fF x.name E x.uses.length a9 x.data a0 x.parts.length au a6 x.main.length k3)).heap.size=wr.heap.size+1):=by show _=_;simp
    go_wp2_with fail;generalize aR:wr.alloc (fF x.name E x.uses.length a9 x.data a0 x.parts.length au a6 x.main.length k3)=ax at *;clear aR;have m:=b6.out;clear bt ah ae c3 K bb
    go_loopw [18] (fun i M=>∃ k:Nat,k<=x.uses.length/\i=di k/\(x.uses.take k).all (nM c)=true/\M=ax) (fun i _=>x.uses.length - (intOf i).toNat)
    case atStart=>exact ⟨0,dY _,rfl,rfl,rfl⟩
    case round=>
     obtain ⟨k,N,rfl,aS,rfl⟩:=hrel;have d:=hid aS;clear aS
     by_cases be:k<x.uses.length
     . obtain ⟨bv,off2,rfl,aN,bE,am⟩:=bi.str k be
       have aY:=af.look x.uses[k] am;have g:=hid (Lf x.uses[k] c);have aD:=hid (all_not x.uses (nM c) k be);have aM:=hid (all_snoc x.uses (nM c) k be);generalize x.uses[k]=s at *;generalize (lP c s).getD 0=aB at *
       by_cases b8:aB=0
       . have z:Hid (li l=false):=by
          show _=_;refine C7 (j:=j+1) ?_ l.length N7;rw [aQ.out,aD.out (Lg (g.out.1 b8)),Bool.and_false]
         subst b8;go_wp2_with fail;go_ret;exact ⟨ret_bool Ox,B⟩
       . have ar:Hid ((x.uses.take (k+1)).all (nM c)=true):=by
          show _=_
          rw [aM.out,d.out,ym.2 (Classical.byContradiction fun h=>b8 (g.out.2 h))];rfl
         go_wp2_with fail;go_roundw
         case rel=>exact ⟨k+1,N7,Ou,ar,trivial⟩
         case measure=>simp [intOf];omega
     . have aM:Hid (mr l (j+1)=true):=by show _=_;rw [aQ.out,b2.out,qH d.out be];rfl
       have aY:=af.look x.name bF;have ba:=hid (C6 x.name c);have ao:=hid (yl c x.name)
       have c7:IntKind.i64.wrap ((lP c x.name).getD 0+1)=(lP c x.name).getD 0+1:=by
        have:=ba.out;have:=ca.out
        simp only [IntKind.wrap,IntKind.bits,IntKind.signed];simp;omega
       obtain ⟨w2,hup,aZ,f⟩:=af.put Oh x.name bF ((lP c x.name).getD 0+1) (by have:=ba.out;have:=ca.out;simp only [Lit.wf,dO,decide_eq_true_eq];exact ⟨Px,PC⟩);obtain ⟨bN,aJ,aI,bq,bo,_⟩:=ep bl;have H:=hid aZ;have O:=hid (B.grown f B.size (fun R b3=>by cases b3;exact dA _));clear aZ f;generalize (lP c x.name).getD 0=aB at *;have aO:0<=aB:=ba.1
       have bp:aB<=4:=by have:=ba.2;have:=ca.out;omega
       go_wp2_with fail;go_roundw
       case rel=>exact ⟨j+1,N7,Ou,aM,by rw [aV.out,ao.out];exact H,O⟩
       case measure=>simp [intOf];omega
  . obtain rfl:j=l.length:=by omega
    go_wp2_with fail;go_ret;exact ⟨ret_bool (by first | exact b2.symm | (rw [b2.out]<;>first | (simp;omega) | (simp [*];done))),ag⟩
theorem Lj (l:List dN) (a:OA) (q:Nat) (w:World) (an:dx w dQ a l.length (gJ l)) (aa:l.length<=4) :
 dw 70 #[.slice a l.length q] w fun e G=>e = .returned (.bool (Fx.zhf (Fx.lists (fe l))))/\dm w G:=by
 have c8:=@run_makeMap prog;have b0:=hid an;clear an;go_enter func70,ntmps70;go_wp2_with fail
 go_loopw [9] (fun i wr=>∃ (k:Nat) (D:DataW Unit),k<=l.length/\i=di k/\wr.ownsMap prog 9 (plainElem prog 3) w.heap.size k D/\Fx.MapInv D (Fx.lists (fe (l.take k)))/\dm w wr) (fun i _=>l.length - (intOf i).toNat)
 case atStart=>exact ⟨0,.map [],dY _,rfl,rt _ _ _ _,Fx.zos,dn _ _⟩
 case round=>
  obtain ⟨k,D,N,rfl,T,hinv,I⟩:=hrel;have y:=hid hinv;have P:=hid T;have ag:=hid I;have X:=T.lt;clear T I hinv
  by_cases ac:k<l.length
  . obtain ⟨b,C,E,a9,a0,au,a6,k3,rfl,S⟩:=(b0.later ag).un k ac
    have aV:=hid (qL l k ac);obtain ⟨bb,bt,ah,ae,c3,K,_,_,_,bF,_⟩:=S
    have bJ:Hid (Fx.lists (fe (l.take k))++[l[k].name.data.toList]=Fx.lists (fe (l.take (k+1)))):=by show _=_;rw [aV.out,Fx.zot]
    have d:=hid (keyOf_string_mk (P:=prog) Tryz.underlying9 bF);generalize l[k]=x at *;have u:=hid (P.alloc (fF x.name E x.uses.length a9 x.data a0 x.parts.length au a6 x.main.length k3));have B:=hid (dp ag (dn wr (fF x.name E x.uses.length a9 x.data a0 x.parts.length au a6 x.main.length k3)));clear bF
    go_wp2_with (first
     | (at_lookup;refine wpList_lookup_own_int _ rfl _ _ 185 rfl 9 3 .i64 Fx.law Tryz.underlying185 Tryz.underlying3 (Fx.ycq _) w.heap.size k D rfl u _ _ rfl d ?_;intro c a3 hwc;clear a3 hwc)
     | (at_mapUpdate;refine wpList_mapUpdate_own _ rfl _ _ _ 185 rfl 9 3 Fx.law Tryz.underlying185 _ w.heap.size k D rfl u Oh _ _ _ rfl rfl d _ [] (plainElem_int Tryz.underlying3 (wrap64_wf _)) ?_;intro dk hown1 hgrow1;have m:=hid hown1;have bz:=hid hgrow1;clear hown1 hgrow1))
    go_roundw
    case rel=>exact ⟨k+1,_,N7,Ou,m,by rw [← bJ.out];exact y.put (P.tidy Fx.law) P.isMap _ _,B.grown bz B.size (fun j a2=>PT)⟩
    case measure=>simp [intOf];omega
  . have aP:Hid (Maps.size D=(Fx.zhv (Fx.lists (fe l))).length):=by
     have:=y.size;exact SS
    have n:Hid ((Fx.lists (fe l)).length=l.length):=by show _=_;simp [Fx.lists,fe]
    go_wp2_with (at_len;refine wpList_len_own _ rfl _ _ rfl 9 3 Tryz.underlying185 _ w.heap.size k D rfl P ?_)
    go_ret;exact ⟨ret_bool (by unfold Fx.zhf;rw [← aP.out,n.out]),ag⟩
def fG (l:List dN):Int:=(l.map dN.data).sum
theorem tu (l:List dN) (j:Nat) (h:j<l.length):fG (l.take (j+1))=fG (l.take j)+l[j].data:=by
 unfold fG;rw [gn h,j2,xt];simp
theorem vC (l:List dN) (I:∀ u ∈ l,0<=u.data/\u.data<=512):∀ j:Nat,0<=fG (l.take j)/\fG (l.take j)<=512*j
 | 0=>by simp [fG]
 | j + 1=>by
   have ay:=vC l I j
   rcases gZ j l.length with h | h
   . have:=I l[j] (eb h)
     rw [tu l j h];omega
   . rw [iq N7]
     rw [iq N7] at ay;omega
theorem Lk (l:List dN) (a:OA) (q:Nat) (w:World) (an:dx w dQ a l.length (gJ l)) (aa:l.length<=4) (I:∀ u ∈ l,0<=u.data/\u.data<=512) :
 dw 72 #[.slice a l.length q] w fun e G=>e = .returned (.bool (decide (fG l<=512)))/\dm w G:=by
 have ba:=hid (vC l I);have aP:=hid I;have b0:=hid an;clear an I;go_enter func72,ntmps72;go_wp2_with fail
 go_loopw [3,8] (fun v i wr=>∃ j:Nat,j<=l.length/\i=di j/\v=di (fG (l.take j))/\dm w wr) (fun _ i _=>l.length - (intOf i).toNat)
 case atStart=>exact ⟨0,dY _,rfl,rfl,Below.refl _ _⟩
 case round=>
  obtain ⟨j,a2,rfl,rfl,I⟩:=hrel;have ag:=hid I;obtain ⟨bd,bs⟩:=ba j;clear I
  by_cases ac:j<l.length
  . obtain ⟨b,C,E,a9,a0,au,a6,k3,rfl,S⟩:=(b0.later ag).un j ac
    have aQ:=hid (tu l j ac);obtain ⟨bI,bM⟩:=aP l[j] (eb ac);obtain ⟨bb,bt,ah,ae,c3,K,_,_,_,_,_⟩:=S;generalize l[j]=x at *;generalize fG (l.take j)=c at *
    have d:IntKind.i64.wrap (c+x.data)=c+x.data:=Oj
    go_wp2_with fail;go_roundw
    case rel=>exact ⟨j+1,N7,Ou,by rw [aQ.out],dp ag (dn _ _)⟩
    case measure=>simp [intOf];omega
  . have z:Hid (fG (l.take j)=fG l):=by show _=_;rw [iq N7]
    rw [z.out] at bd bs;rw [z.out]
    by_cases n:fG l<=512
    . have aM:Hid (decide (fG l<=512)=true):=decide_eq_true n
      go_wp2_with fail;go_ret;exact ⟨ret_bool Ow,ag⟩
    . have aM:Hid (decide (fG l<=512)=false):=decide_eq_false n
      have D:512<fG l:=N7
      clear n;go_wp2_with fail;go_ret;exact ⟨ret_bool Ow,ag⟩
theorem Ll {ops:Array Oper} {rest:List Oper} {o:Oper} {a:Act} {Y:Exit->Act->World->Prop} (l:o.guard=none) (s x:Operand) (t:TypeId)
 (ap:o.op = .call { callee:=.builtin .append,args:=#[s,x],argTypes:=#[t,t] }) (y:Nat) (e:TypeId) (z:Value) (size bytes:Nat) (ax:P.underlying t=some (.slice e))
 (V:(P.info? e).map (fun i=>(i.zero,i.size,i.bytes))=some (some z,size,bytes)) (C:z.cells.size=size) (am:0<size) (w:World) (v:Value) (n:Nat) (ao:List Value) (a8:a.eval s=v) (b5:w.ownsRow y e size v n ao)
 (cs:Array Value) (H:Nat) (d:H=w.heap.size) (S:a.eval x = .slice (some (dj H 0)) 1 1) (r:cs.size=size) (F:∀ u ∈ cs.toList,u.oneCell'=true)
 (Z:n<=2000000) (R:bytes<=200) (L:y<=w.heap.size)
 (h:∀ al q G,G.ownsRow y e size (.slice (some (dj al 0)) (n+1) q) (n+1) (ao++cs.toList)->Below y w G->w.heap.size<G.heap.size->wpList P ops Y rest (a.put o.dst (.slice (some (dj al 0)) (n+1) q)) G) :
 wpList P ops Y (o :: rest) a (w.alloc (.cells cs e)):=by
 obtain ⟨aY,V,a9,ba,bA⟩:=info_parts V
 have a0:(w.alloc (.cells cs e)).heap.size=w.heap.size+1:=Ob
 refine wpList_append_lies (w.alloc (.cells cs e)) l s x t ap y e aY z size bytes ax V a9 ba bA C am v n ao a8 (b5.alloc _) (dj H 0) 1 1 cs.toList S (by simp [r]) ?_ F N7 Oh ?_ N7 _ rfl ?_
 . exact QA
 . exact RX
 . intro al q G c f a3 ac
   have b1:Below y w G:=((Below.refl y w).alloc L _).grown f N7 (fun k N=>(b5.lt k N).1);have J:=f.size;exact h al q G c b1 N7
theorem Tryz.infoUnit:(prog.info? 42).map (fun i=>(i.zero,i.size,i.bytes))=some (some (.agg #[.string ⟨#[]⟩,dt,di 0,dt,dt]),5,96):=by kernel_rfl
def sm:dN:=⟨⟨#[]⟩,[],0,[],[]⟩
def nN (l:List dN) (s:ByteArray):dN:=(l.find? (fun u=>decide (u.name=s))).getD sm
def g2 (l:List dN) (u:dN):List dN:=u.uses.map (nN l)
def mu (l:List dN) (u:dN):Bool:=hf u (lh (g2 l u)) (jK (g2 l u))
def oV (l:List dN):Bool:=l.all (mu l)
theorem yn {u:dN} (h:mu l u=true):0<=u.data/\u.data<=512:=by
 unfold mu hf at h;simp only [dO] at h;exact oU h.1
def nO (l:List dN):Prop:=∀ i j (V:i<l.length) (a2:j<l.length),l[i].name=l[j].name->i=j
theorem C9:∀ l:List (L8),Fx.zhf l=false->∀ i j (V:i<l.length) (a2:j<l.length),l[i]=l[j]->i=j:=by
 apply Fx.zbs
 . intro _ i j V;simp at V
 . intro l s ay h i j V a2 e
   rw [Fx.z5m,hG] at h;have a1:s ∉ l:=of_decide_eq_false h.2;rw [eM,oA] at V a2
   rcases gZ i l.length with F | F
   . rcases gZ j l.length with J | J
     . rw [lE F,lE J] at e
       exact ay h.1 i j F J e
     . obtain rfl:j=l.length:=by omega
       rw [lE F,xh] at e;exact absurd (e ▸ eb F) a1
       rfl
   . obtain rfl:i=l.length:=by omega
     rcases gZ j l.length with J | J
     . rw [lE J,xh] at e
       exact absurd (e ▸ eb J) a1
       rfl
     . omega
theorem yo (h:Fx.zhf (Fx.lists (fe l))=false):nO l:=by
 intro i j V a2 e;refine C9 _ h i j (by simpa [Fx.lists,fe] using V) (by simpa [Fx.lists,fe] using a2) ?_;simp only [Fx.lists,fe,mM];rw [e]
theorem Da (h:nO l) (i:Nat) (V:i<l.length):nN l l[i].name=l[i]:=by
 unfold nN
 have:l.find? (fun u=>decide (u.name=l[i].name))=some l[i]:=by
  rw [List.find?_eq_some_iff_getElem];refine ⟨decide_eq_true rfl,i,V,rfl,fun j a2=>?_⟩
  have:¬ l[j].name=l[i].name:=fun e=>by have:=h j i N7 V e;omega
  rw [decide_eq_false this];rfl
 rw [this];rfl
theorem yp (s:ByteArray):∀ c:List ByteArray,s ∈ c->∃ i,∃ V:i<c.length,hr c s=some (i:Int)/\c[i]=s:=by
 apply Fx.zbs
 . intro h;cases h
 . intro l a ay h
   rw [tt];unfold lN
   by_cases e:s=a
   . subst e
     exact ⟨l.length,Ob,if_pos rfl,Ob⟩
   . rw [if_neg e]
     obtain ⟨i,V,F,J⟩:=ay ((jF.1 h).elim id (fun k=>absurd (l8.1 k) e));exact ⟨i,by rw [eM];omega,F,by rw [lE V];exact J⟩
theorem vD:∀ (k:Nat),mr l k=true->∀ j (a2:j<l.length),j<k->∀ s ∈ l[j].uses,s ∈ fe (l.take j)
 | 0,_,j,_,N=>N7
 | k + 1,h,j,a2,N=>by
   rw [mr,dO] at h
   rcases gZ j k with F | F
   . exact vD k h.1 j a2 F
   . obtain rfl:j=k:=by omega
     rw [ew a2] at h;intro s a8;exact ym.1 (e1.1 h.2 s a8)
theorem qM (aO:li l=true) (aw:nO l) (a2:j<l.length) (a8:s ∈ l[j].uses) :
 ∃ i,∃ V:i<l.length,i<j/\hr (fe (l.take (j+1))) s=some (i:Int)/\nN l s=l[i]:=by
 have a1:=vD l.length aO j a2 a2 s a8
 have o:s ∈ fe (l.take (j+1)):=by rw [qL l j a2];exact rN _ a1
 obtain ⟨i,V,F,J⟩:=yp s _ o
 have d:i<l.length:=by unfold fe at V;rw [fM,jE] at V;omega
 have e:l[i].name=s:=by
  rw [← J];simp only [fe,mM,sZ]
 obtain ⟨D,aA,aI⟩:=kI a1
 have b:D<j/\D<l.length:=by unfold fe at aA;rw [fM,jE] at aA;omega
 have bq:l[D].name=s:=by
  rw [← aI];simp only [fe,mM,sZ]
 have:=aw i D d b.2 (e.trans bq.symm);exact ⟨i,d,N7,F,by rw [← e];exact Da aw i d⟩
theorem Lm (l:List dN) (u:dN):gJ (l++[u])=gJ l++u.ds:=by unfold gJ;simp
theorem Ln {M:World} {y:Nat} {us:List dN} {ao:List Value} (h:M.ownsRow y 42 5 v us.length ao) (S:eu w0 dQ (gJ us) ao) (I:dm w0 M) (X:us.length<=2000000):∃ a q,v = .slice a us.length q/\dx M dQ a us.length (gJ us):=by
 have b1:(gJ us).length=us.length*5:=by
  have:∀ l:List dN,(gJ l).length=l.length*5:=by
   intro l;induction l with
   | nil=>rfl
   | cons a r ay=>unfold gJ at ay ⊢;rw [ki,eM,ay,gY];unfold dN.ds;simp;omega
  exact this us
 rcases h.2 with ⟨rfl,ab⟩ | ⟨al,q,o,rfl,_,ak,_⟩
 . exact ⟨none,0,by rw [ab],⟨N7,N7,Or.inl ab⟩⟩
 . refine ⟨some (dj al 0),q,rfl,⟨N7,N7,Or.inr ⟨al,0,ao,rfl,trivial,lt_of_heap ak,fun j u a2=>?_,S.moves (dU.of_below I dQ)⟩⟩⟩
   exact R6
theorem Lp (h:tp w dQ b o x E a9 a0 au a6 k3):eu w dQ x.ds (#[.string x.name,.slice E x.uses.length a9,di x.data,.slice a0 x.parts.length au,.slice a6 x.main.length k3]:Array Value).toList:=by
 unfold dN.ds;exact .cons (fz h.w0) (.cons h.uses'.val (.cons (eY h.w2) (.cons h.parts'.val (.cons h.main'.val .nil))))
theorem tp.uv (h:tp w dQ b o x E a9 a0 au a6 k3):kN w x E a9 a0 au a6 k3:=⟨h.w0,h.uses',h.w2,h.parts',h.main'⟩
theorem Lq (l:List dN) (a:OA) (q:Nat) (w:World) (an:dx w dQ a l.length (gJ l)) (aa:l.length<=4) (aO:li l=true) (aw:Fx.zhf (Fx.lists (fe l))=false) (aE:∀ u ∈ l,u.uses.length<=2000000) :
 dw 71 #[.slice a l.length q] w fun e G=>e = .returned (.bool (oV l))/\dm w G:=by
 have c8:=@run_makeMap prog;have cz:=hid (fun (j:Nat) (a2:j<l.length) (s:ByteArray) (a8:s ∈ l[j].uses)=>qM aO (yo aw) a2 a8);have b0:=hid an;clear an aO aw;go_enter func71,ntmps71;go_wp2_with fail
 go_loopw [12] (fun i wr=>∃ j:Nat,j<=l.length/\i=di j/\(l.take j).all (mu l)=true/\gc wr w.heap.size j (hr (fe (l.take j)))/\dm w wr) (fun i _=>l.length - (intOf i).toNat)
 case atStart=>exact ⟨0,dY _,rfl,rfl,gc.made _,dn _ _⟩
 case round=>
  obtain ⟨j,a2,rfl,aS,a1,I⟩:=hrel;have L:=hid a1;have ag:=hid I;have b2:=hid aS;have X:=a1.lt;clear aS a1 I
  by_cases ac:j<l.length
  . obtain ⟨b,C,E,a9,a0,au,a6,k3,a7,S⟩:=b0.un j ac
    have D:=S;obtain ⟨c9,_⟩:=D
    have aq:tp wr dQ b (C+j*5) l[j] E a9 a0 au a6 k3:=by
     obtain ⟨bb,bt,ah,ae,c3,K,F,J,U,aB,bj⟩:=S;exact ⟨e4 bb ag.size,(ag.cell (p:=(dj b _)) bb).trans bt,(ag.cell (p:=(dj b _)) bb).trans ah,(ag.cell (p:=(dj b _)) bb).trans ae,(ag.cell (p:=(dj b _)) bb).trans c3,(ag.cell (p:=(dj b _)) bb).trans K,F.later ag,J.later ag,U.later ag,aB,bj⟩
    have Q:=hid S.uv;have cT:=aE l[j] (eb ac);have aV:=hid (qL l j ac);have bi:=hid (cz j ac);have aD:=hid (all_not l (mu l) j ac);have aM:=hid (all_snoc l (mu l) j ac)
    have ad:Hid (∀ i (V:i<l.length),i<j->0<=l[i].data/\l[i].data<=512):=fun i V h=>yn (e1.1 b2 l[i] (by rw [List.mem_take_iff_getElem];exact ⟨i,N7,rfl⟩))
    have ay:Hid (mu l l[j]=hf l[j] (lh (g2 l l[j])) (jK (g2 l l[j]))):=rfl;have W:Hid (g2 l l[j]=l[j].uses.map (nN l)):=rfl;obtain ⟨bb,bt,ah,ae,c3,K,_,_,_,bF,_⟩:=aq;have cC:=hid (tt (fe (l.take j)) l[j].name)
    have ca:Hid ((fe (l.take j)).length=j):=by show _=_;unfold fe;rw [fM,jE];omega
    generalize fe (l.take j)=c at *;generalize l[j]=x at *;subst a7
    obtain ⟨ax,aR⟩:∃ ax,ax=wr.alloc (fF x.name E x.uses.length a9 x.data a0 x.parts.length au a6 x.main.length k3):=⟨_,rfl⟩
    have af:Hid (gc ax w.heap.size j (hr c)):=by rw [aR];exact L.later (dn _ _)
    have bl:Hid (ax.heap[wr.heap.size]? = some (.cells #[.string x.name,.slice E x.uses.length a9,di x.data,.slice a0 x.parts.length au,.slice a6 x.main.length k3] 42 (0,0))):=by rw [aR];exact dX _ _
    have B:Hid (dm w ax):=by rw [aR];exact dp ag (dn _ _)
    obtain ⟨w2,hup,aZ,f⟩:=af.put Oh x.name bF (j:Int) OH
    have H:Hid (gc w2 w.heap.size (j+1) (hr (fe (l.take (j+1))))):=by show gc _ _ _ _;rw [aV.out,cC.out,ca.out];exact aZ
    have m:=hid (C8 f N7 bl);have O:=hid (B.grown f B.size (fun R b3=>by cases b3;exact dA _));obtain ⟨bk,bz,bO,c1,c5,_⟩:=ep bl;have cy:=lt_of_heap bl;clear aZ f af L;go_wp2_with fail;rw [← aR];clear aR;rw [hup];obtain ⟨bN,aJ,aI,bq,bo,_⟩:=ep m;have cf:=lt_of_heap m;clear bk bz bO c1 c5 cy bt ah ae c3 K hup B bl;have c6:=Q.uses.bound;go_wp2_with fail
    go_loopw [6,24] (fun v i M=>∃ (k:Nat) (ao:List Value),k<=x.uses.length/\i=di k/\M.ownsRow w2.heap.size 42 5 v k ao/\eu w dQ (gJ ((x.uses.take k).map (nN l))) ao/\dm w2 M) (fun _ i _=>x.uses.length - (intOf i).toNat)
    case atStart=>exact ⟨0,[],dY _,rfl,jU _ _ _ _,.nil,Below.refl _ _⟩
    case round=>
     obtain ⟨k,ao,N,rfl,ap,A,T⟩:=hrel;have P:=hid ap;have y:=hid A;have t:=hid T;have bX:=hid ((T.block _ (lt_of_heap m)).trans m);have bc:=hid (H.later T);clear bN aJ aI bq bo cf;obtain ⟨bN,aJ,aI,bq,bo,_⟩:=ep bX;have cf:=lt_of_heap bX;clear ap A T
     by_cases be:k<x.uses.length
     . obtain ⟨bv,off2,rfl,aN,bE,am⟩:=(Q.uses.later (dp O t)).str k be
       obtain ⟨i,V,hij,hloc,hfind⟩:=bi x.uses[k] (eb be);have aY:=bc.look x.uses[k] am;rw [hloc] at aY;have aF:=hid hfind
       have c4:Hid ((x.uses.take (k+1)).map (nN l)=(x.uses.take k).map (nN l)++[l[i]]):=by show _=_;rw [gn be,j2,List.map_singleton,hfind]
       obtain ⟨p,off5,aT,bB,aU,bH,bh,bR,r,a4⟩:=b0.un i V
       obtain ⟨rfl,rfl⟩:p=b/\off5=C:=by
        injection r with r;injection r with F J;exact ⟨F.symm,J.symm⟩
       have a5:=hid (Lp a4);obtain ⟨n,bU,bd,bs,bI,bM,_,_,_,_,_⟩:=a4;have bJ:=hid (dp O t);have aK:=(bJ.cell (p:=(dj p _)) n).trans bU;have aG:=(bJ.cell (p:=(dj p _)) n).trans bd;have aQ:=(bJ.cell (p:=(dj p _)) n).trans bs;have aW:=(bJ.cell (p:=(dj p _)) n).trans bI;have aP:=(bJ.cell (p:=(dj p _)) n).trans bM;have b1:=e4 n bJ.size
       have aj:(i:Int)<l.length:=N7
       clear bU bd bs bI bM hfind hloc r;generalize l[i]=a3 at *;generalize x.uses[k]=su at *;simp only [gE] at aY
       go_wp2_with (at_builtin;refine Ll rfl (.tmp 28) (.tmp 35) 199 rfl w2.heap.size 42 _ 5 96 Tryz.underlying199 Tryz.infoUnit rfl N9 _ _ k ao rfl P.out #[.string a3.name,.slice aT a3.uses.length bB,di a3.data,.slice aU a3.parts.length bH,.slice bh a3.main.length bR] _ rfl rfl rfl (eu.one a5.out) N7 N9 t.size ?_;intro bL av dJ ho5 br bV;have bP:=hid ho5;have bu:=hid br;clear ho5 br)
       go_roundw
       case rel=>exact ⟨k+1,_,N7,Ou,bP,by rw [c4.out,Lm];exact y.append a5,t.trans bu⟩
       case measure=>simp [intOf];omega
     . obtain rfl:k=x.uses.length:=by omega
       have az:Hid (eu w dQ (gJ (g2 l x)) ao):=by have:=y.out;rw [gu] at this;rw [W.out];exact this
       have aX:(g2 l x).length=x.uses.length:=by rw [W.out,fM]
       obtain ⟨o,aA,rfl,hdv⟩:=Ln (us:=g2 l x) (by rw [aX];exact P) az (dp O t) (by rw [aX];omega);rw [aX] at hdv;have ak:=hid hdv;clear hdv P y
       have aH:∀ u ∈ g2 l x,0<=u.data/\u.data<=512:=by
        intro u aL;rw [W.out] at aL;obtain ⟨s,a8,rfl⟩:=ig.1 aL;obtain ⟨i,V,hij,_,Y⟩:=bi s a8;rw [Y];exact ad i V hij
       have g:=hid (fun (al:gb x=true) (d:Int) (M:World) (ai:dm wr M)=>KI (fP x (lh (g2 l x)) (jK (g2 l x)) d) x.name E a9 a0 au a6 x.main.length k3 o x.uses.length aA M (oU al).1 (oU al).2 c6 (Q.later (dp (dp O t) ai)).parts (by have:=K2 (us:=g2 l x) (q:=aA) (by rw [aX];exact ak.later ai) aH x aX.symm d;rw [aX] at this;exact this));have ab:=hid (C1 x (lh (g2 l x)) (jK (g2 l x)) E a9 a0 au a6 k3 199 (.slice o x.uses.length aA) wr (Q.later (dp O t)) g);rw [← ay.out] at ab;clear aH g;go_wp2_with fail;refine ab.mono ?_
       cases F:mu l x with
       | false=>
         rintro e eD ⟨rfl,Z⟩;have bW:=hid (dp (dp O t) Z);have z:Hid (oV l=false):=aD F;clear Z;go_wp2_with fail;go_ret;exact ⟨ret_bool z.symm,bW⟩
       | true=>
         rintro e eD ⟨rfl,Z⟩;have bW:=hid (dp (dp O t) Z);have cm:=hid (bc.later Z)
         have ar:Hid ((l.take (j+1)).all (mu l)=true):=by show _=_;rw [aM.out,b2.out,F];rfl
         clear Z;go_wp2_with fail;go_roundw
         case rel=>exact ⟨j+1,N7,Ou,ar,cm,bW⟩
         case measure=>simp [intOf];omega
  . obtain rfl:j=l.length:=by omega
    have z:Hid (oV l=true):=qH b2 ac;exact Rf
abbrev pP (p:fa) (a:OA) (b:Nat) (c:OA) (e:Nat) (f:OA) (g:Nat):Obj:=mI p.name p.pub a p.params.length b c p.locals.length e f p.body.length g
def fa.own (p:fa):List ByteArray:=p.params++p.locals
def mW (K:Kn) (p:fa):Except Int e5:=if Fx.zhf (Fx.lists p.own) then .error 6 else hb (fR K (hr p.own) p.body) fun b=>.ok ⟨p.params.length,p.locals.length,b⟩
def Lr (lo:Nat) (r:Except Int e5) (e:Ending) (w:World):Prop:=
 match r with
 | .error c=>∃ x a3 a k R,e = .returned (.tuple #[.agg #[.int .i64 x,.int .i64 a3,.slice a k R],.int .i64 c])/\c≠0
 | .ok n=>∃ a R,e = .returned (.tuple #[.agg #[.int .i64 n.params,.int .i64 n.locals,.slice a n.body.length R],.int .i64 0])/\ee w (lo<=·) a n.body.length (eJ n.body)
theorem Ls {l:List ByteArray} (Z:n=l.length) (h:w.ownsRow B 9 1 v n (strV l)) (X:l.length<=1000000) (Y:∀ s ∈ l,s.size<=maxLen) :
 dw 59 #[v] w fun e G=>e = .returned (.bool (Fx.zhf (Fx.lists l)))/\dm w G:=by
 subst Z;obtain ⟨a,c,rfl,aE⟩:=vz h;exact Fx.zfu a c _ w aE X Y
theorem Db (M:World) (cs:Array Value) (t:TypeId) (n i:Nat) (v:Value) (Z:n=M.heap.size) (af:cs[i]? = some v):(M.alloc (.cells cs t)).cell? (dj n i)=some v:=by
 subst Z;rw [eZ (dX _ _)];exact af
theorem yq {a:World} (h:Below B a w) (I:B<=b) (aw aF aM:Value):Below B a (((w.setCell (dj b 0) aw).setCell (dj b 1) aF).setCell (dj b 2) aM):=
 ((h.setCell (p:=(dj b 0)) I _).setCell (p:=(dj b 1)) I _).setCell (p:=(dj b 2)) I _
theorem dU.set3 {dk:World} {A':Nat->Prop} (h:dU w A dk A') (aA:∀ k,k<w.heap.size->A k->k≠b) (aw aF aM:Value):dU w A (((dk.setCell (dj b 0) aw).setCell (dj b 1) aF).setCell (dj b 2) aM) A':=
 ((h.set (p:=(dj b 0)) aA aw).set (p:=(dj b 1)) aA aF).set (p:=(dj b 2)) aA aM
theorem nP {af a4 am:Value} {t:TypeId} (h:w.heap[b]? = some (.cells #[af,a4,am] t (0,0))) :
 w.cell? (dj b 0)=some af/\w.cell? (dj b 1)=some a4/\w.cell? (dj b 2)=some am/\∀ i,w.frozen? (dj b i)=false:=by
 refine ⟨?_,?_,?_,fun i=>hD h i⟩<;>(rw [eZ h];rfl)
theorem dK.below (h:Below B w0 w) (N:dK R w G) (H:B<=R) (aF:B<=w.heap.size):Below B w0 G:=
 h.trans ⟨N.os,N.tape,N.output,N.size,fun k F=>N.block k N7 N7⟩
theorem Lt (K:Kn) (t:Nat) (p:fa) (az:OA) (aT:Nat) (aK:OA) (aU:Nat) (aW:OA) (bh:Nat) (w:World) (aO:iW w (.map (some t)) K) (F:dx w dQ az p.params.length (eH p.params)) (J:dx w dQ aK p.locals.length (eH p.locals)) (U:dx w dQ aW p.body.length (eE p.body)) (co:p.params.length<=3) (b8:p.locals.length<=4) (v:gx 6 p.body=false) :
 dw 120 #[.agg #[.map (some t)],.agg #[.string p.name,.bool p.pub,.slice az p.params.length aT,.slice aK p.locals.length aU,.slice aW p.body.length bh]] w fun e G=>Lr w.heap.size (mW K p) e G/\dm w G:=by
 have bJ:=hid aO;have P:=hid U;have a3:=hid (vq 6 p.body v)
 have a8:∀ s ∈ p.own,s.size<=maxLen:=fun s a8=>(jF.1 a8).elim ((mm F).2 s) ((mm J).2 s)
 have l:p.own.length=p.params.length+p.locals.length:=by unfold fa.own;rw [eM]
 have aQ:=hid a8;have d:=hid l;have n:dm w ((((w.alloc (.cells #[.map (some t)] 189)).alloc (pP p az aT aK aU aW bh)).alloc (jA 0 0 none 0 0)).alloc (.cells #[.slice az p.params.length aT,.slice aK p.locals.length aU] 22)):=dp (gT w _ _ _) (dn _ _);have ao:=hid (Ld p.params p.locals az aT aK aU (w.heap.size+3) ((((w.alloc (.cells #[.map (some t)] 189)).alloc (pP p az aT aK aU aW bh)).alloc (jA 0 0 none 0 0)).alloc (.cells #[.slice az p.params.length aT,.slice aK p.locals.length aU] 22)) Ob (Db _ _ _ _ 0 _ Ob rfl) (Db _ _ _ _ 1 _ Ob rfl) ((mm F).1.later n) ((mm J).1.later n) N7 N7);have X:=hid n;clear aO F J U v a8 l n
 obtain ⟨r,Q⟩:∃ r,r=mW K p:=⟨_,rfl⟩
 rw [← Q];have z:=hid Q;clear Q;go_enter func120,ntmps120;go_wp2_with fail;refine ao.mono ?_;rintro e dk ⟨aF,rfl,L,aq⟩;have B:=hid (dp X aq);have ba:=aq.size;simp at ba;obtain ⟨aH,qp,qr⟩:=oS (dp (dn _ _) aq);have bm:=hid aH;have bw:=hid qp;have f:=hid qr;obtain ⟨af,a4,am,a5,ax,a1⟩:=ep qp;obtain ⟨bG,bp,bx,rf⟩:=nP qr
 have g:dk.cell? (dj w.heap.size 0)=some (.map (some t)):=by rw [eZ aH];rfl
 have u:Hid (dk.ownsRow ((((w.alloc (.cells #[.map (some t)] 189)).alloc (pP p az aT aK aU aW bh)).alloc (jA 0 0 none 0 0)).alloc (.cells #[.slice az p.params.length aT,.slice aK p.locals.length aU] 22)).heap.size 9 1 aF (p.params.length+p.locals.length) (strV p.own)):=L;have aG:=hid (Ls d.symm u (by rw [d.out];omega) aQ);clear aq ao L aH qp qr
 cases hd:Fx.zhf (Fx.lists p.own) with
 | true=>
   have aY:Hid (r = .error 6):=z.trans (by unfold mW;rw [hd];rfl);rw [hd] at aG;clear hd;go_wp2_with fail;refine aG.mono ?_;rintro e w2 ⟨rfl,aN⟩;have O:=hid (dp B aN);have q:=(aN.block _ (lt_of_heap f)).trans f;have be:=lt_of_heap q;clear bG bp bx rf;obtain ⟨bG,bp,bx,rf⟩:=nP q;clear aN q;go_wp2_with fail;refine bodyPost_ret (v:=.tuple #[.agg #[di 0,di 0,dt],di 6]) (by simp [results,results120,go_sem,bG,bp,bx,be]) rfl ⟨by rw [aY.out];exact ⟨0,0,none,0,0,rfl,N9⟩,?_⟩;exact yq O N7 _ _ _
 | false=>
   have aY:Hid (r=hb (fR K (hr p.own) p.body) fun b=>.ok ⟨p.params.length,p.locals.length,b⟩):=z.trans (by unfold mW;rw [hd];rfl);rw [hd] at aG;clear hd z;go_wp2_with fail;refine aG.mono ?_;rintro e w2 ⟨rfl,aN⟩;have O:=hid (dp B aN);have bA:=aN.size;have R:=hid ((aN.block _ (lt_of_heap bm)).trans bm);have M:=hid ((aN.block _ (lt_of_heap bw)).trans bw);have H:=hid ((aN.block _ (lt_of_heap f)).trans f);have m:=hid (Fx.ownsRow_later u aN);clear af a4 am a5 ax a1 bG bp bx rf g u aG bm bw f
   have g:w2.cell? (dj w.heap.size 0)=some (.map (some t)):=by rw [eZ R.out];rfl
   have bK:=lt_of_heap R;have bg:=lt_of_heap M;have a9:=lt_of_heap H;obtain ⟨o,aA,rfl,hSt⟩:=vz (l:=p.own) (by rw [d.out];exact m);have aZ:=hid hSt;have c8:=@run_makeMap prog;have y:=hid ((gc.made w2).later (dn _ (.cells #[.map (some t),.map (some w2.heap.size)] 195)));clear aN hSt m;rw [d.out];go_wp2_with fail
   go_loopw [8,9,26] (fun _ _ i wr=>∃ j:Nat,j<=p.params.length+p.locals.length/\i=di j/\gc wr w2.heap.size j (hr (p.own.take j))/\dK w2.heap.size ((w2.alloc (.map #[] 0)).alloc (.cells #[.map (some t),.map (some w2.heap.size)] 195)) wr) (fun _ _ i _=>p.params.length+p.locals.length - (intOf i).toNat)
   case atStart=>exact ⟨0,dY _,rfl,y,dK.refl _ _⟩
   case round=>
    clear y c8 g;obtain ⟨j,a2,rfl,bq,ag⟩:=hrel;have bT:=hid bq;have aP:=hid ag;have bj:=ag.size;simp at bj;have a:wr.heap[w2.heap.size+1]? = some (.cells #[.map (some t),.map (some w2.heap.size)] 195):=(ag.block _ Ob N7).trans (by simpa using dX (w2.alloc (.map #[] 0)) (.cells #[.map (some t),.map (some w2.heap.size)] 195));have ai:=hid a;obtain ⟨D,ad,yf⟩:=ml a;have ab:=lt_of_heap a;clear bq ag a
    by_cases A:j<p.params.length+p.locals.length
    . have ac:j<p.own.length:=by rw [d.out];exact A
      obtain ⟨b,C,rfl,bb,bt⟩:=aZ.place ac;have bE:=(aP.cell (C:=C+j) Of N7).trans (((e6 w2 (.map #[] 0) (.cells #[.map (some t),.map (some w2.heap.size)] 195)).cell (p:=⟨b,C+j,none⟩) bb).trans bt)
      have ah:b<wr.heap.size:=N7
      have bF:=aQ p.own[j] (eb _)
      have ak:Hid (lN (hr (p.own.take j)) p.own[j] j=hr (p.own.take (j+1))):=by
       show _=hr (p.own.take (j+1));rw [gn ac,tt,jE,uW N7]
      generalize p.own[j]=s at *
      have cW:j<=1000:=by have:=d.out;omega
      obtain ⟨dJ,E,hL5,hg5⟩:=bT.put Oh s bF j (WalkArith.wf_i64 N7);rw [ak.out] at hL5;have a0:=hid hL5;have x:=hid (aP.grown hg5);clear hL5 hg5 bt bF;go_wp2_with fail;go_roundw
      case rel=>exact ⟨j+1,N7,Ou,a0,x⟩
      case measure=>simp [intOf];omega
    . obtain rfl:j=p.params.length+p.locals.length:=by omega
      have a6:Hid (gc wr w2.heap.size (p.params.length+p.locals.length) (hr p.own)):=by have:=bT.out;rw [iq (by rw [d.out];exact dA _)] at this;exact this
      have W:Hid (dm w wr):=dK.below (dp O (e6 _ _ _)) aP (by have:=O.size;omega) (by have:=O.size;simp;omega);have a7:=hid (bJ.later W);have b9:=hid (a3 K (hr p.own) (.map (some t)) (.map (some w2.heap.size)) dQ aW bh wr a7 a6.names (P.later W));have aJ:wr.heap[w.heap.size+1]? = some (pP p az aT aK aU aW bh):=(aP.block _ Of N7).trans (eR (eR M));have aI:wr.heap[w.heap.size+2]? = some (jA 0 0 none 0 0):=(aP.block _ Of N7).trans (eR (eR H));have aa:=hid aJ;have av:=hid aI;obtain ⟨af,a4,am,a5,ax,a1⟩:=ep aJ;have V:=lt_of_heap aJ;have T:=lt_of_heap aI;clear aJ aI;go_wp2_with fail;refine b9.mono ?_;rintro e eD ⟨Y,Z⟩;have bW:=hid (dp W Z);have cc:=Z.size
      have bz:=(Z.block _ V).trans aa;have bO:=(Z.block _ T).trans av;have ae:=lt_of_heap bz;have I:=lt_of_heap bO;clear af a4 am a5 ax a1 D ad yf;obtain ⟨af,a4,am,a5,ax,a1⟩:=ep bz;obtain ⟨bG,bp,bx,rf⟩:=nP bO;clear Z bz bO
      cases Q:fR K (hr p.own) p.body with
      | error c=>
        rw [Q] at Y;obtain ⟨rfl,aX⟩:=Y;have b3:Hid (r = .error c):=aY.trans (by rw [Q];rfl);clear Q;go_wp2_with fail;refine bodyPost_ret (v:=.tuple #[.agg #[di p.params.length,di p.locals.length,dt],di c]) (by simp [results,results120,go_sem,bG,bp,bx,I]) rfl ⟨by rw [b3.out];exact ⟨_,_,_,_,_,rfl,aX⟩,?_⟩;exact yq bW N7 _ _ _
      | ok fQ=>
        rw [Q] at Y;obtain ⟨b4,aj,rfl,heb⟩:=Y;have b3:Hid (r = .ok ⟨p.params.length,p.locals.length,fQ⟩):=aY.trans (by rw [Q];rfl);have S:=hid heb;clear Q heb;go_wp2_with fail;refine bodyPost_ret (v:=.tuple #[.agg #[di p.params.length,di p.locals.length,.slice b4 fQ.length aj],di 0]) (by simp [results,results120,go_sem,bG,bp,bx,I]) rfl ⟨by rw [b3.out];exact ⟨b4,aj,rfl,(S.moves ((dU.refl eD _).set3 (by intro k _ N;have:wr.heap.size<=k:=N;omega) _ _ _)).moves ⟨dA _,fun b _ h=>⟨by have:wr.heap.size<=b:=h;show w.heap.size<=b;omega,rfl⟩⟩⟩,yq bW N7 _ _ _⟩
def hN (l:List dN):Int:=
 if l.length<1\/4<l.length then 2 else if li l=false then 9 else if Fx.zhf (Fx.lists (fe l))=true then 6 else if (oV l&&decide (fG l<=512))=true then 0 else 1
theorem Lu (l:List dN) (a:OA) (q:Nat) (w:World) (an:dx w dQ a l.length (gJ l)) (aE:∀ u ∈ l,u.uses.length<=2000000) :
 dw 24 #[.slice a l.length q] w fun e G=>e = .returned (di (hN l))/\dm w G:=by
 have bK:=an.bound;have aQ:=hid aE;have b0:=hid an;clear an aE
 by_cases bT:l.length<1
 . have z:Hid (hN l=2):=if_pos (Or.inl bT)
   exact So
 have d:1<=l.length:=N7
 by_cases aB:4<l.length
 . have z:Hid (hN l=2):=if_pos (Or.inr aB)
   clear bT;exact So
 have c:l.length<=4:=N7
 have aI:Hid (hN l=if li l=false then 9 else if Fx.zhf (Fx.lists (fe l))=true then 6 else if (oV l&&decide (fG l<=512))=true then 0 else 1):=if_neg N7;clear bT aB;have ao:=hid (Li l a q w b0 c)
 cases aO:li l with
 | false=>
   rw [aO] at ao;have z:Hid (hN l=9):=aI.trans (if_pos aO);go_enter func24,ntmps24;go_wp2_with fail;refine ao.mono ?_;rintro e dk ⟨rfl,aq⟩;have B:=hid aq;clear aq;go_wp2_with fail;go_ret;exact ⟨ret_int z.symm,B⟩
 | true=>
   rw [aO] at ao;have b4:Hid (hN l=if Fx.zhf (Fx.lists (fe l))=true then 6 else if (oV l&&decide (fG l<=512))=true then 0 else 1):=aI.trans (if_neg (by rw [aO];decide));have aR:=hid aO;clear aI aO;go_enter func24,ntmps24;go_wp2_with fail;refine ao.mono ?_;rintro e dk ⟨rfl,aq⟩;have B:=hid aq;have aG:=hid (Lj l a q dk (b0.later aq) c);clear aq;go_wp2_with fail;refine aG.mono ?_
   cases aw:Fx.zhf (Fx.lists (fe l)) with
   | true=>
     rintro e w2 ⟨rfl,aN⟩;have O:=hid (dp B aN);have z:Hid (hN l=6):=b4.trans (if_pos aw);clear aN;go_wp2_with fail;go_ret;exact ⟨ret_int z.symm,O⟩
   | false=>
     rintro e w2 ⟨rfl,aN⟩;have O:=hid (dp B aN);have aY:Hid (hN l=if (oV l&&decide (fG l<=512))=true then 0 else 1):=b4.trans (if_neg (by rw [aw];decide));have aZ:=hid (Lq l a q w2 (b0.later O) c aR aw aQ);clear aN aw;go_wp2_with fail;refine aZ.mono ?_
     cases b7:oV l with
     | false=>
       rintro e dC ⟨rfl,T⟩;have t:=hid (dp O T);have z:Hid (hN l=1):=aY.trans (if_neg (by rw [b7];simp));clear T;go_wp2_with fail;go_ret;exact ⟨ret_int z.symm,t⟩
     | true=>
       rintro e dC ⟨rfl,T⟩;have t:=hid (dp O T);have aV:=hid (Lk l a q dC (b0.later t) c (fun u aL=>yn (e1.1 b7 u aL)))
       have b3:Hid (hN l=if decide (fG l<=512)=true then 0 else 1):=by show _=_;rw [aY.out,b7,s4]
       clear T b7;go_wp2_with fail;refine aV.mono ?_
       cases b:decide (fG l<=512) with
       | false=>
         rintro e dD ⟨rfl,bc⟩;have X:=hid (dp t bc);have z:Hid (hN l=1):=b3.trans (if_neg (by rw [b];decide));exact S3
       | true=>
         rintro e dD ⟨rfl,bc⟩;have X:=hid (dp t bc);have z:Hid (hN l=0):=b3.trans (if_pos b);exact S3
abbrev Fc:=Fx.Fc
def yr (f:Fc):List D:=[.str f.name,.list f.items.length (gp f.items)]
def qN (l:List Fc):List D:=l.flatMap yr
def qO (m:ec):Kn:=lM (fun _ _=>none) ⟨#[]⟩ 0 (iF m)
def oW (K:Kn) (l:List Fc):Kn:=l.zipIdx.foldl (fun K D=>lM K D.1.name ((D.2:Int)+1) D.1.items) K
theorem Lw (K:Kn) (l:List Fc) (f:Fc):oW K (l++[f])=lM (oW K l) f.name ((l.length:Int)+1) f.items:=by
 unfold oW;rw [List.zipIdx_append,lG];simp
def kr (m:ec) (l:List Fc):Kn:=oW (qO m) l
def iI (K:Kn):List fa->Except Int (List e5)
 | []=>.ok []
 | D :: r=>hb (mW K D) fun n=>hb (iI K r) fun l=>.ok (n :: l)
def mw (m:ec) (l:List Fc):Except Int dN:=hb (iI (kr m l) m.procs) fun ps=>hb (fR (kr m l) (fun _=>none) m.main) fun b=>.ok ⟨m.name,m.uses,jJ m,ps,b⟩
theorem ys (K:Kn):∀ (a b:List fa) (H:List e5),iI K a = .ok H->iI K (a++b)=hb (iI K b) fun l=>.ok (H++l)
 | [],b,H,h=>by
   obtain rfl:=rS h;show iI K b=_;exact (xM _).symm
 | x :: a,b,H,h=>by
   rw [iI] at h;show iI K (x :: (a++b))=_;rw [iI]
   cases S:mW K x with
   | error e=>rw [S] at h;cases h
   | ok a3=>
     rw [S] at h;simp only [hb] at h ⊢
     cases a7:iI K a with
     | error e=>rw [a7] at h;cases h
     | ok l=>
       rw [a7] at h;obtain rfl:=rS h;rw [ys K a b l a7]
       cases iI K b<;>rfl
theorem Ly {l:List fa} {e:Int} (h:j<l.length) (a7:iI K (l.take j) = .ok H) (ar:mW K l[j] = .error e):iI K l = .error e:=by
 rw [xP l j h,ys K _ _ H a7,iI,ar];rfl
theorem Lz {l:List fa} {y:e5} (h:j<l.length) (a7:iI K (l.take j) = .ok H) (ar:mW K l[j] = .ok y):iI K (l.take (j+1)) = .ok (H++[y]):=by
 rw [gn h,ys K _ _ H a7,iI,ar];rfl
theorem LA {l:List Fc} (h:iI (kr m l) m.procs = .error c):mw m l = .error c:=by unfold mw;rw [h];rfl
theorem LB {l:List Fc} (h:iI (kr m l) m.procs = .ok ps) (J:fR (kr m l) (fun _=>none) m.main = .error c):mw m l = .error c:=by unfold mw;rw [h,J];rfl
theorem LC {l:List Fc} {b:List du} (h:iI (kr m l) m.procs = .ok ps) (J:fR (kr m l) (fun _=>none) m.main = .ok b):mw m l = .ok ⟨m.name,m.uses,jJ m,ps,b⟩:=by unfold mw;rw [h,J];rfl
def Dc (lo:Nat) (r:Except Int dN) (e:Ending) (w:World):Prop:=
 match r with
 | .error c=>e = .returned (.tuple #[.agg #[.string ⟨#[]⟩,.slice none 0 0,.int .i64 0,.slice none 0 0,.slice none 0 0],.int .i64 c])/\c≠0
 | .ok u=>∃ a4 ad am f a5 bi,e = .returned (.tuple #[.agg #[.string u.name,.slice a4 u.uses.length ad,.int .i64 u.data,.slice am u.parts.length f,.slice a5 u.main.length bi],.int .i64 0])/\
   ee w (lo<=·) a4 u.uses.length (eH u.uses)/\ee w (lo<=·) am u.parts.length (ih u.parts)/\ee w (lo<=·) a5 u.main.length (eJ u.main)
theorem dx.fc {l:List Fc} (h:dx w A a l.length (qN l)) (i:Nat) (V:i<l.length):∃ b C bD p,a=some (dj b C)/\b<w.heap.size/\w.cell? ⟨b,C+i*2,none⟩=some (.string l[i].name)/\w.cell? ⟨b,C+i*2+1,none⟩=some (.slice bD l[i].items.length p)/\l[i].name.size<=maxLen/\dx w A bD l[i].items.length (gp l[i].items):=by
 obtain ⟨b,C,a7,I,W⟩:=h.cell N7;generalize S:l[i]=x;obtain ⟨s,f⟩:=x
 have al:∀ j d,j<2->(yr ⟨s,f⟩)[j]? = some d->∃ v,w.cell? ⟨b,C+i*2+j,none⟩=some v/\eO w A d v:=fun j d a2 hd=>by
  rw [ie];exact W (i*2+j) d ((mg yr 2 (fun _=>rfl) l i V j a2).trans OQ)
 obtain ⟨aw,g,bE⟩:=al 0 (.str s) N7 rfl;obtain ⟨aF,a9,aT⟩:=al 1 (.list f.length (gp f)) N7 rfl;obtain ⟨rfl,w0⟩:=k9 bE;obtain ⟨bD,p,rfl,F⟩:=ho aT;exact ⟨b,C,bD,p,a7,I,g,a9,w0,F⟩
theorem yt {l:List It} (h:dx w A a l.length (gp l)):Fx.zct w a l/\Fx.AllFit l:=by
 rcases h.2.2 with h | ⟨b,C,s,a7,_,I,W,S⟩
 . exact SL
 . have al:∀ i (V:i<l.length) j d,j<4->(js l[i])[j]? = some d->∃ v,w.cell? ⟨b,C+i*4+j,none⟩=some v/\eO w A d v:=fun i V j d a2 hd=>by
    exact R1
   refine ⟨Or.inr ⟨b,C,a7,I,fun i V=>?_,fun i V=>?_,fun i V=>?_,fun i V=>?_⟩,fun x D=>?_⟩
   . obtain ⟨v,af,hd⟩:=al i V 0 (.int l[i].kind) N7 rfl
     exact SR
   . obtain ⟨v,af,hd⟩:=al i V 1 (.int l[i].n) N7 rfl
     exact SR
   . obtain ⟨v,af,hd⟩:=al i V 2 (.int l[i].at_) N7 rfl
     exact SR
   . obtain ⟨v,af,hd⟩:=al i V 3 (.str l[i].name) N7 rfl
     rw [(k9 hd).1] at af;exact af
   . obtain ⟨i,V,rfl⟩:=kI D
     obtain ⟨v,af,hd⟩:=al i V 3 (.str l[i].name) N7 rfl;exact (k9 hd).2
theorem Dd {l:List It} (h:Fx.zct w a l) (H:w.heap.size<=R):∀ aL C,l≠[]->a=some (dj aL C)->aL≠R:=by
 intro aL C X e
 rcases h with h | ⟨b,o,aI,h⟩
 . exact absurd h X
 . rw [e] at aI
   have:=eX aI
   injection this with bq _
   have:=h.lt;omega
theorem dK.items {l:List It} (h:Fx.zct w a l) (N:dK R w G) (H:∀ aL C,l≠[]->a=some (dj aL C)->aL≠R):Fx.zct G a l:=by
 rcases h with h | ⟨b,o,e,h⟩
 . exact Or.inl h
 . by_cases X:l=[]
   . exact Or.inl X
   . have aX:=H b o X e
     exact Or.inr ⟨b,o,e,e4 h.lt N.size,fun i V=>(N.cell h.lt aX).trans (h.kind i V),fun i V=>(N.cell h.lt aX).trans (h.num i V),fun i V=>(N.cell h.lt aX).trans (h.at_ i V),fun i V=>(N.cell h.lt aX).trans (h.name i V)⟩
end Go.Proofs.YtndkhgakfodldaaGreatDoor
