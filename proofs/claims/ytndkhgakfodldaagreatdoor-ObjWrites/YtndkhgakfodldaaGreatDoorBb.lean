import Derived.Test.YtndkhgakfodldaaGreatDoorXc
namespace Go.Proofs.YtndkhgakfodldaaGreatDoor
set_option maxRecDepth 100000
namespace Fx
open Go.RowKit
theorem zdo (c:UInt8) (n:Int) (h:n % 256=c.toNat):zal n=c:=by
 have h1:=zgd n;rw [h] at h1;exact vdu.1 (by omega)
theorem zyo (x y:Int):wrap64 (wrap64 x*256+y)=wrap64 (x*256+y):=by unfold wrap64;omega
def horn (a b c d e f g h:Int):Int:=((((((a*256+b)*256+c)*256+d)*256+e)*256+f)*256+g)*256+h
theorem z9h (st:Int->UInt8->Int) (a b c d e f g h:UInt8):[a,b,c,d,e,f,g,h].foldl st 0=st (st (st (st (st (st (st (st 0 a) b) c) d) e) f) g) h:=rfl
theorem zn8 (n:Int) (c:UInt8):zhf n c=wrap64 (n*256+c.toNat):=by unfold zhf;exact Eq.refl _
theorem zh8 {n x:Int} (h:n=wrap64 x) (c:UInt8):zhf n c=wrap64 (x*256+c.toNat):=by rw [zn8,h,zyo]
theorem zfx (a b c d e f g h:Int):horn a b c d e f g h=((((((a*256+b)*256+c)*256+d)*256+e)*256+f)*256+g)*256+h:=by unfold horn;exact Eq.refl _
theorem zj0 (a b c d e f g h:UInt8):valL [a,b,c,d,e,f,g,h]=wrap64 (horn a.toNat b.toNat c.toNat d.toNat e.toNat f.toNat g.toNat h.toNat):=by
 have h0:valL [a,b,c,d,e,f,g,h]=_:=z9h zhf a b c d e f g h
 have s1:zhf 0 a=wrap64 a.toNat:=by rw [zn8,Int.zero_mul,Int.zero_add]
 rw [h0,zfx];exact zh8 (zh8 (zh8 (zh8 (zh8 (zh8 (zh8 s1 b) c) d) e) f) g) h
theorem zd1 (x c:Int) (h0:0<=c) (h1:c<256):(x*256+c) / 256=x:=by omega
theorem zte (x c:Int) (h0:0<=c) (h1:c<256):(x*256+c) % 256=c:=by omega
theorem w0 (v:Int):wrap64 v % 256=v % 256:=by unfold wrap64;omega
theorem w1 (v:Int):wrap64 v / 256 % 256=v / 256 % 256:=by unfold wrap64;omega
theorem p2 (v:Int):v / 65536=v / 256 / 256:=(vcl (x:=v) (y:=256) (z:=256) (by decide)).symm
theorem p3 (v:Int):v / 16777216=v / 65536 / 256:=(vcl (x:=v) (y:=65536) (z:=256) (by decide)).symm
theorem p4 (v:Int):v / 4294967296=v / 16777216 / 256:=(vcl (x:=v) (y:=16777216) (z:=256) (by decide)).symm
theorem p5 (v:Int):v / 1099511627776=v / 4294967296 / 256:=(vcl (x:=v) (y:=4294967296) (z:=256) (by decide)).symm
theorem p6 (v:Int):v / 281474976710656=v / 1099511627776 / 256:=(vcl (x:=v) (y:=1099511627776) (z:=256) (by decide)).symm
theorem p7 (v:Int):v / 72057594037927936=v / 281474976710656 / 256:=(vcl (x:=v) (y:=281474976710656) (z:=256) (by decide)).symm
theorem w2 (v:Int):wrap64 v / 65536 % 256=v / 256 / 256 % 256:=by
 have h:wrap64 v / 65536 % 256=v / 65536 % 256:=by unfold wrap64;omega
 rw [h,p2]
theorem w3 (v:Int):wrap64 v / 16777216 % 256=v / 256 / 256 / 256 % 256:=by
 have h:wrap64 v / 16777216 % 256=v / 16777216 % 256:=by unfold wrap64;omega
 rw [h,p3,p2]
theorem w4 (v:Int):wrap64 v / 4294967296 % 256=v / 256 / 256 / 256 / 256 % 256:=by
 have h:wrap64 v / 4294967296 % 256=v / 4294967296 % 256:=by unfold wrap64;omega
 rw [h,p4,p3,p2]
theorem w5 (v:Int):wrap64 v / 1099511627776 % 256=v / 256 / 256 / 256 / 256 / 256 % 256:=by
 have h:wrap64 v / 1099511627776 % 256=v / 1099511627776 % 256:=by unfold wrap64;omega
 rw [h,p5,p4,p3,p2]
theorem w6 (v:Int):wrap64 v / 281474976710656 % 256=v / 256 / 256 / 256 / 256 / 256 / 256 % 256:=by
 have h:wrap64 v / 281474976710656 % 256=v / 281474976710656 % 256:=by unfold wrap64;omega
 rw [h,p6,p5,p4,p3,p2]
theorem w7 (v:Int):wrap64 v / 72057594037927936 % 256=v / 256 / 256 / 256 / 256 / 256 / 256 / 256 % 256:=by
 have h:wrap64 v / 72057594037927936 % 256=v / 72057594037927936 % 256:=by unfold wrap64;omega
 rw [h,p7,p6,p5,p4,p3,p2]
theorem z7x {x:L8} (h:x.length=8):∃ a b c d e f g i,x=[a,b,c,d,e,f,g,i]:=by
 match x,h with
 | [a,b,c,d,e,f,g,i],_=>exact ⟨a,b,c,d,e,f,g,i,rfl⟩
theorem zrl (c:UInt8):0<=(c.toNat:Int)/\(c.toNat:Int)<256:=by have:=c.toNat_lt;omega
theorem zyp {x:L8} (hx:x.length=8):numB (valL x)=x:=by
 obtain ⟨a,b,c,d,e,f,g,h,rfl⟩:=z7x hx;rw [zj0]
 have da:=zrl a;have db:=zrl b;have dc:=zrl c;have dd:=zrl d
 have de:=zrl e;have df:=zrl f;have dg:=zrl g;have dh:=zrl h
 unfold numB
 rw [zdo a _ (by rw [w7];rw [zfx,zd1 _ _ dh.1 dh.2,zd1 _ _ dg.1 dg.2,zd1 _ _ df.1 df.2,zd1 _ _ de.1 de.2,zd1 _ _ dd.1 dd.2,zd1 _ _ dc.1 dc.2,zd1 _ _ db.1 db.2];omega),
  zdo b _ (by rw [w6];rw [zfx,zd1 _ _ dh.1 dh.2,zd1 _ _ dg.1 dg.2,zd1 _ _ df.1 df.2,zd1 _ _ de.1 de.2,zd1 _ _ dd.1 dd.2,zd1 _ _ dc.1 dc.2,zte _ _ db.1 db.2]),
  zdo c _ (by rw [w5];rw [zfx,zd1 _ _ dh.1 dh.2,zd1 _ _ dg.1 dg.2,zd1 _ _ df.1 df.2,zd1 _ _ de.1 de.2,zd1 _ _ dd.1 dd.2,zte _ _ dc.1 dc.2]),
  zdo d _ (by rw [w4];rw [zfx,zd1 _ _ dh.1 dh.2,zd1 _ _ dg.1 dg.2,zd1 _ _ df.1 df.2,zd1 _ _ de.1 de.2,zte _ _ dd.1 dd.2]),
  zdo e _ (by rw [w3];rw [zfx,zd1 _ _ dh.1 dh.2,zd1 _ _ dg.1 dg.2,zd1 _ _ df.1 df.2,zte _ _ de.1 de.2]),
  zdo f _ (by rw [w2];rw [zfx,zd1 _ _ dh.1 dh.2,zd1 _ _ dg.1 dg.2,zte _ _ df.1 df.2]),
  zdo g _ (by rw [w1];rw [zfx,zd1 _ _ dh.1 dh.2,zte _ _ dg.1 dg.2]),
  zdo h _ (by rw [w0];rw [zfx,zte _ _ dh.1 dh.2])]
end Fx
namespace Fx
open Go.RowKit
theorem z2i (q0 q1 q2 q3 q4 q5 q6 q7 q8 r0 r1 r2 r3 r4 r5 r6 r7:Int) (h0:q0=q1*256+r0) (h1:q1=q2*256+r1) (h2:q2=q3*256+r2) (h3:q3=q4*256+r3) (h4:q4=q5*256+r4) (h5:q5=q6*256+r5) (h6:q6=q7*256+r6) (h7:q7=q8*256+r7) :
 horn r7 r6 r5 r4 r3 r2 r1 r0=q0 - q8*18446744073709551616:=by
 rw [zfx];subst h7 h6 h5 h4 h3 h2 h1 h0;omega
theorem zyq (n:Int) (h0 : -9223372036854775808<=n) (h1:n<=9223372036854775807):valL (numB n)=n:=by
 unfold numB;rw [zj0];simp only [zgd]
 have d:∀ x:Int,x=x / 256*256+x % 256:=fun x=>by omega
 have h:=z2i n (n / 256) (n / 65536) (n / 16777216) (n / 4294967296) (n / 1099511627776) (n / 281474976710656) (n / 72057594037927936) (n / 72057594037927936 / 256) _ _ _ _ _ _ _ _
  (d n) (by rw [p2];exact d _) (by rw [p3];exact d _) (by rw [p4];exact d _) (by rw [p5];exact d _) (by rw [p6];exact d _) (by rw [p7];exact d _) (d _)
 rw [h];unfold wrap64;omega
end Fx
namespace Fx
open Go.RowKit
theorem zj1 (c:UInt8) (r:L8):zdm (c :: r)=some ((c.toNat:Int),r):=by
 unfold zdm zeh;rw [if_neg (by simp)]
 rfl
theorem ztf (c:UInt8):zal (c.toNat:Int)=c:=zdo c _ (by have:=c.toNat_lt;omega)
theorem zhh {l r:L8} {n:Int} (h:zdm l=some (n,r)):l=zal n :: r:=by
 cases l with
 | nil=>cases h
 | cons c l=>rw [zj1] at h;cases h;rw [ztf]
theorem zrm (x r:L8):zeh x.length (x++r)=some (x,r):=by
 unfold zeh;rw [if_neg (by simp)];simp
theorem zn9 {l x r:L8} (h:zf2 l=some (x,r)):l=textB (strOf x)++r:=by
 unfold zf2 at h
 cases hb:zdm l with
 | none=>rw [hb] at h;cases h
 | some q=>
   obtain ⟨n,l1⟩:=q;rw [hb] at h;obtain ⟨h0,h1,_⟩:=zju hb;obtain ⟨h2,h3⟩:=zfk (show zeh n.toNat l1=some (x,r) from h);rw [zhh hb,h3];unfold textB;rw [strOf_size,strOf_list,h2,vdk h0]
   rfl
theorem ztg (s:ByteArray) (r:L8) (h:s.size<=255):zf2 (textB s++r)=some (s.data.toList,r):=by
 unfold textB;rw [vcn];unfold zf2;rw [zj1];show zeh ((zal s.size).toNat:Int).toNat (s.data.toList++r)=_;rw [zgd,show ((s.size:Int) % 256).toNat=s.data.toList.length by rw [Lx.zat];omega];exact zrm _ _
theorem zdp {l r:L8} {n:Int} (h:pNum l=some (n,r)):l=numB n++r:=by
 unfold pNum at h
 cases hb:zeh 8 l with
 | none=>rw [hb] at h;cases h
 | some q=>
   obtain ⟨x,y⟩:=q;rw [hb] at h;cases h;obtain ⟨h2,h3⟩:=zfk hb;show l=numB (valL x)++y;rw [zyp h2];exact h3
theorem zw6 (n:Int) (r:L8) (h0 : -9223372036854775808<=n) (h1:n<=9223372036854775807):pNum (numB n++r)=some (n,r):=by
 unfold pNum;rw [show zeh 8 (numB n++r)=some (numB n,r) from zrm (numB n) r];show some (valL (numB n),r)=_;rw [zyq n h0 h1]
end Fx
end Go.Proofs.YtndkhgakfodldaaGreatDoor

namespace Go.Proofs.YtndkhgakfodldaaGreatDoor
open Go.RowKit Go.Shelf
set_option linter.unusedSimpArgs false
set_option linter.unusedVariables false
namespace Fx
def zlo (B:Nat) (w:World) (v:Value) (l:L8):Prop:=
 ∃ g cap cur fz,v = .slice (some ⟨g,0,none⟩) l.length cap/\B<=g/\w.heap[g]? = some (.cells cur 5 fz)/\(fz=(0,0)\/fz.1=cap)/\l.length<=cap/\cap<=maxLen/\cur.size=cap/\cur.toList.take l.length=bytesV l
theorem zlo.later {B:Nat} {w w':World} {v:Value} {l:L8} (h:zlo B w v l) (hb:Below w.heap.size w w'):zlo B w' v l:=by
 obtain ⟨g,cap,cur,fz,e,hB,hg,rest⟩:=h;exact ⟨g,cap,cur,fz,e,hB,(hb.block g (Array.getElem?_eq_some_iff.1 hg).1).trans hg,rest⟩
theorem zlo.cells {B:Nat} {w:World} {g n cap:Nat} {l:L8} (h:zlo B w (.slice (some ⟨g,0,none⟩) n cap) l):∀ j u,(bytesV l)[j]? = some u->w.cell? ⟨g,j,none⟩=some u:=by
 intro j u hu;obtain ⟨g',cap',cur,fz,e,hB,hg,_,_,_,_,ht⟩:=h
 cases e
 rw [cell_of_row w g j cur 5 fz hg];rw [← ht,vea] at hu
 split at hu
 . simpa using hu
 . cases hu
theorem zlo.lt {B:Nat} {w:World} {v:Value} {l:L8} (h:zlo B w v l):∃ cap g,v = .slice (some ⟨g,0,none⟩) l.length cap/\B<=g/\g<w.heap.size:=by
 obtain ⟨g,cap,cur,fz,e,hB,hg,_⟩:=h;exact ⟨cap,g,e,hB,(Array.getElem?_eq_some_iff.1 hg).1⟩
theorem zlo.conv {B:Nat} {w:World} {v:Value} {l:L8} (h:zlo B w v l):(convert 140 9 v).run Tryz.prog w = .ok (.string (strOf l)) w:=by
 have h':=h;obtain ⟨cap,g,rfl,_,_⟩:=h.lt;refine zrg w g cap l (fun j hj=>?_);exact h'.cells j (zd7 l[j]) (by simp [bytesV,hj])
theorem z2j (x:L8) (W:World) (hx:x.length<=1000000):∃ (v:Value) (W':World),(convert 9 140 (.string (strOf x))).run Tryz.prog W = .ok v W'/\Below W.heap.size W W'/\zlo W.heap.size W' v x:=by
 have h:=run_bytes_of_string (P:=Tryz.prog) W 9 140 5 (strOf x) Tryz.underlying9 Tryz.underlying140 z1y;rw [strOf_size] at h;have hge:=grownCap_ge W x.length 0 5;have hle:=grownCap_le_maxLen W x.length 0 5 (by unfold maxLen;omega)
 have hs:(bytesRow (strOf x) (grownCap W x.length 0 5)).size=grownCap W x.length 0 5:=by
  unfold bytesRow;rw [veb,Array.size_map,Array.size_replicate,strOf_size]
  have:(strOf x).data.size=x.length:=by simp [strOf]
  omega
 refine ⟨_,_,h,((Below.refl _ _).drew).alloc (vaa _) _,W.heap.size,_,_,_,rfl,vaa _,heap_alloc_new W.drew _,Or.inr hs,hge,hle,hs,?_⟩;unfold bytesRow;rw [Array.toList_append]
 have e:(Array.map (fun b=>Value.int IntKind.u8 (b.toNat:Int)) (strOf x).data).toList=bytesV x:=by simp [strOf,bytesV,zd7]
 rw [e,List.take_append_of_le_length (by rw [zcq];exact vaa _),vav (by rw [zcq];exact vaa _)]
theorem zlp (P:Program) (g o:Nat) (t:TypeId) (fz:Nat × Nat):∀ (vs:List Value) (i:Nat) (cur:Array Value) (w:World),w.heap[g]? = some (.cells cur t fz)->(fz=(0,0)\/fz.1=cur.size)->o+i+vs.length<=cur.size->(∀ v ∈ vs,v.oneCell'=true)->
 ∃ (w':World) (cur':Array Value),(storeCells ⟨g,o,none⟩ vs i).run P w = .ok () w'/\w.grownBy w' (some g)/\w'.heap[g]? = some (.cells cur' t fz)/\cur'.size=cur.size/\cur'.toList.take (o+i+vs.length)=cur.toList.take (o+i)++vs
 | [],i,cur,w,hg,_,_,_=>⟨w,cur,rfl,⟨rfl,rfl,rfl,vaa _,fun _ _ _=>rfl⟩,hg,rfl,by simp⟩
 | v :: rest,i,cur,w,hg,hf,hl,h1=>by
   have hi:o+i<cur.size:=by simp at hl;omega
   have ha:(⟨g,o,none⟩:Addr).add i=⟨g,o+i,none⟩:=by unfold Addr.add;split<;>simp_all
   have hc:w.cell? ⟨g,o+i,none⟩=some cur[o+i]:=by simp [World.cell?,hg,hi]
   have hz:w.frozen? ⟨g,o+i,none⟩=false:=by
    obtain ⟨lo,up⟩:=fz;simp only [World.frozen?,hg,vcp,decide_eq_false_iff_not]
    rcases hf with e | e
    . cases e;right;omega
    . simp only at e;left;omega
   have hst:(store ((⟨g,o,none⟩:Addr).add i) v).run P w = .ok () (w.setRow g (cur.setIfInBounds (o+i) v)):=by
    rw [ha,run_store P w _ v _ (h1 v (by simp)),hc];simp [hz,setCell_eq_setRow w g (o+i) cur t fz v hg]
   obtain ⟨w',cur',r1,r2,r3,r4,r5⟩:=zlp P g o t fz rest (i+1) (cur.setIfInBounds (o+i) v) (w.setRow g (cur.setIfInBounds (o+i) v)) (setRow_heap w g cur _ t _ hg) (by simpa using hf) (by simp at hl ⊢;omega) (fun x hx=>h1 x (by simp [hx]));refine ⟨w',cur',?_,?_,r3,by simpa using r4,?_⟩
   . simp only [storeCells,Sem.run_bind,hst,Result.andThen_ok,r1]
   . refine ⟨r2.os,r2.tape,r2.output,vai (by simp [World.setRow]) r2.size,fun k hk hne=>?_⟩
     rw [r2.block k (by simpa [World.setRow] using hk) hne];exact setRow_other w g k _ (fun e=>hne (by rw [e]))
   . rw [show o+i+(v :: rest).length=o+(i+1)+rest.length from by simp;omega,r5,show o+(i+1)=o+i+1 from by omega]
     rw [Array.toList_setIfInBounds];rw [vag (by simpa using hi),List.take_set_of_le (vaa _)];simp
theorem zrn {B:Nat} {w w':World} {g:Nat} (hg:w.grownBy w' (some g)) (hB:B<=w.heap.size) (h:B<=g):Below B w w':=(Below.refl B w).grown hg hB (fun k e=>by cases e;exact h)
theorem zvi {cur:Array Value} {l x:L8} (h:cur.toList.take (l.length+0+(bytesV x).length)=bytesV l++bytesV x):cur.toList.take (l++x).length=bytesV (l++x):=by
 rw [zkh,← h,vab,zcq]
 rfl
theorem zoa (x:L8):∀ u ∈ bytesV x,u.oneCell'=true:=by
 intro u hu;simp only [bytesV,vdp] at hu;obtain ⟨b,_,rfl⟩:=hu
 rfl
theorem zyr {B:Nat} {w:World} {l x:L8} (hB:B<=w.heap.size) (hl:l.length+x.length<=1000000) (old:Nat) :
 zlo B (w.drew.alloc (.cells ((bytesV l).toArray++(bytesV x).toArray++Builtin.zeroCells (Value.int .u8 0).cells (grownCap w (l.length+x.length) old 5 - (l.length+x.length))) 5)) (.slice (some ⟨w.heap.size,0,none⟩) (l.length+x.length) (grownCap w (l.length+x.length) old 5)) (l++x):=by
 have hge:=grownCap_ge w (l.length+x.length) old 5;have hle:=grownCap_le_maxLen w (l.length+x.length) old 5 (by unfold maxLen;omega);refine ⟨w.heap.size,_,_,_,by rw [vab],hB,heap_alloc_new w.drew _,Or.inl rfl,by rw [vab];exact hge,hle,?_,?_⟩
 . have hz1:(Value.int IntKind.u8 0).cells.size=1:=rfl
   simp only [veb,List.size_toArray,size_zeroCells,hz1,zcq];omega
 . simp only [Array.toList_append]
   rw [show (l++x).length=((bytesV l).toArray.toList++(bytesV x).toArray.toList).length from by simp [zcq],List.take_left,zkh]
theorem zfe {B:Nat} {w:World} {v:Value} {l:L8} (h:zlo B w v l) (x:L8) (hl:l.length+x.length<=1000000) (hB:B<=w.heap.size) (ty:TypeId) :
 ∃ v' w',(Builtin.append_ #[140,9] ty #[v,.string (strOf x)]).run Tryz.prog w = .ok v' w'/\zlo B w' v' (l++x)/\Below B w w':=by
 obtain ⟨i0,hi,hz0,hz1,hz2⟩:=info_parts z1z;have h':=h;obtain ⟨g,cap,cur,fz,rfl,hBg,hg,hf,hlc,hcm,hcs,ht⟩:=h
 have hx:Lib.strCells (strOf x)=bytesV x:=by rw [zpj,strOf_list]
 by_cases hr:l.length+x.length<=cap
 . obtain ⟨w',cur',r1,r2,r3,r4,r5⟩:=zlp Tryz.prog g l.length 5 fz (bytesV x) 0 cur w hg (by rw [hcs];exact hf) (by rw [zcq];omega) (zoa x)
   have hfc:=Lib.run_firstCells_string (P:=Tryz.prog) w 1 (strOf x);rw [strOf_size,hx] at hfc;refine ⟨.slice (some ⟨g,0,none⟩) (l.length+x.length) cap,w',?_,⟨g,cap,cur',fz,by rw [vab],hBg,r3,hf,by rw [vab];exact hr,hcm,by rw [r4];exact hcs,zvi (by rw [r5];simp [ht])⟩,zrn r2 hB hBg⟩;simp [Builtin.append_,run_underlying Tryz.underlying140,run_underlying Tryz.underlying9,sizeOf,typeInfo,hi,hz1,Builtin.lenOf,strOf_size,hr,hfc,Addr.add_lit,r1]
 . have hgr:=Lib.run_append_grow_string (P:=Tryz.prog) w 140 9 ty 5 i0 (.int .u8 0) Tryz.underlying140 Tryz.underlying9 hi hz0 ⟨g,0,none⟩ l.length cap (bytesV l) (by rw [hz1,zcq,Nat.mul_one]) (fun j u hu=>by rw [show (⟨g,0,none⟩:Addr).add j=⟨g,j,none⟩ from by unfold Addr.add;split<;>simp_all];exact h'.cells j u hu) (strOf x) (by rw [strOf_size];omega) (by rw [strOf_size];omega) (by rw [hz2,strOf_size];exact growslice_fits (by omega) (by omega))
   rw [strOf_size,hx] at hgr;exact ⟨_,_,hgr,zyr hB hl cap,((Below.refl _ _).drew).alloc hB _⟩
theorem zys {B:Nat} {w:World} {v:Value} {l:L8} (h:zlo B w v l) (n:Int) (b:Nat) (hb:w.cell? ⟨b,0,none⟩=some (.int .u8 (n % 256))) (hl:l.length+1<=1000000) (hB:B<=w.heap.size) (ty:TypeId) :
 ∃ v' w',(Builtin.append_ #[140,140] ty #[v,.slice (some ⟨b,0,none⟩) 1 1]).run Tryz.prog w = .ok v' w'/\zlo B w' v' (l++[zal n])/\Below B w w':=by
 obtain ⟨i0,hi,hz0,hz1,hz2⟩:=info_parts z1z;have h':=h;obtain ⟨g,cap,cur,fz,rfl,hBg,hg,hf,hlc,hcm,hcs,ht⟩:=h
 have hn:∀ j u,(bytesV [zal n])[j]? = some u->w.cell? ((⟨b,0,none⟩:Addr).add j)=some u:=by
  intro j u hu
  cases j with
  | zero=>
    simp [bytesV,zcr] at hu;rw [← hu];exact hb
  | succ j=>simp [bytesV] at hu
 have hfc:=run_firstCells_some (P:=Tryz.prog) w i0.size 1 ⟨b,0,none⟩ 1 1 (bytesV [zal n]) (by rw [hz1];rfl) hn
 by_cases hr:l.length+1<=cap
 . obtain ⟨w',cur',r1,r2,r3,r4,r5⟩:=zlp Tryz.prog g l.length 5 fz (bytesV [zal n]) 0 cur w hg (by rw [hcs];exact hf) (by rw [zcq];simp;omega) (zoa _)
   refine ⟨.slice (some ⟨g,0,none⟩) (l.length+1) cap,w',?_,⟨g,cap,cur',fz,by rw [vab];rfl,hBg,r3,hf,by rw [vab];exact hr,hcm,by rw [r4];exact hcs,zvi (by rw [r5];simp [ht])⟩,zrn r2 hB hBg⟩;simp [Builtin.append_,run_underlying Tryz.underlying140,sizeOf,typeInfo,hi,hz1,Builtin.lenOf,hr,Addr.add_lit,r1];rw [hz1] at hfc;simp [hfc,r1]
 . have hgr:=run_append_grow (P:=Tryz.prog) w 140 ty 5 i0 (.int .u8 0) Tryz.underlying140 hi hz0 ⟨g,0,none⟩ l.length cap (bytesV l) (by rw [hz1,zcq,Nat.mul_one]) (fun j u hu=>by rw [show (⟨g,0,none⟩:Addr).add j=⟨g,j,none⟩ from by unfold Addr.add;split<;>simp_all];exact h'.cells j u hu) ⟨b,0,none⟩ 1 1 (bytesV [zal n]) (by rw [hz1];rfl) hn (by omega) (by omega) (by rw [hz2];exact growslice_fits (by omega) (by omega))
   exact ⟨_,_,hgr,zyr (x:=[zal n]) hB hl cap,((Below.refl _ _).drew).alloc hB _⟩
end Fx
end Go.Proofs.YtndkhgakfodldaaGreatDoor
