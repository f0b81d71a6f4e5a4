import Derived.Test.YtndkhgakfodldaaGreatDoorPe
namespace Go.Proofs.YtndkhgakfodldaaGreatDoor
set_option maxRecDepth 100000
set_option maxHeartbeats 3200000
open Go.RowKit Go.Shelf
section
variable {P:Program} {ops:Array Oper} {o:Oper} {a:Act} {w:World} {K:Act->World->Prop} {Q:Exit->Act->World->Prop} {E:Prop}
theorem zkv (f:FuncId) (x:Operand) (ty:TypeId) (ho:o.op = .call { callee:=.value (.func f),args:=#[x],argTypes:=#[ty] })
 (hen:Enters P f) (v:Value) (hx:a.eval x=v):(execOp a.eval o).run P w = .ok (.enter f #[v]) w:=by
 have h:=hen #[v] w;have hf:a.eval (.func f) = .func (.func f) #[] #[]:=rfl;simp [execOp,ho,resolve,invoke,hx,hf,h,Deferred.ofValue]
theorem zcw (hgd:o.guard=none) (f:FuncId) (x:Operand) (ty:TypeId) (ho:o.op = .call { callee:=.value (.func f),args:=#[x],argTypes:=#[ty] })
 (hen:Enters P f) (v:Value) (hx:a.eval x=v) {R:Value->World->Prop} (hC:Calls P f #[v] w fun e w'=>∃ u,e = .returned u/\R u w')
 (h:∀ u w',R u w'->K (a.put o.dst u) w'):if Region.wanted o (yielded ops a.tmps)=true then Oper.wp P o a w K Q else E:=by
 have hw:Region.wanted o (yielded ops a.tmps)=true:=by simp [Region.wanted,hgd]
 rw [if_pos hw];unfold Oper.wp;rw [zkv f x ty ho hen v hx,vdi];refine hC.mono ?_;rintro e w' ⟨u,rfl,hR⟩;exact h u w' hR
theorem za6 (hgd:o.guard=none) (f:FuncId) (x:Operand) (ty:TypeId) (ho:o.op = .call { callee:=.value (.func f),args:=#[x],argTypes:=#[ty] })
 (hen:Enters P f) (v:Value) (hx:a.eval x=v) (c:List PanicEntry) {R:World->Prop} (hC:Calls P f #[v] w fun e w'=>e = .panicked c/\R w')
 (h:∀ w',R w'->Q (.panic c) a w'):if Region.wanted o (yielded ops a.tmps)=true then Oper.wp P o a w K Q else E:=by
 have hw:Region.wanted o (yielded ops a.tmps)=true:=by simp [Region.wanted,hgd]
 rw [if_pos hw];unfold Oper.wp;rw [zkv f x ty ho hen v hx,vdi];refine hC.mono ?_;rintro e w' ⟨rfl,hR⟩;exact h w' hR
end
def ze6 (A:Nat->Prop) (s:St) (w:World) (v:Value):Prop:=∃ a1 c1 a2 c2 a3 c3,v = .agg #[.int .i64 s.op,.string s.mod,.string s.name,.slice a1 s.args.length c1,.slice a2 s.body.length c2,.slice a3 s.other.length c3]/\s.mod.size<=maxLen/\s.name.size<=maxLen/\
 EAt w A a1 s.args.length (zbi s.args)/\EAt w A a2 s.body.length (zbj s.body)/\EAt w A a3 s.other.length (zbj s.other)
def z3h (A:Nat->Prop) (xs:List St) (w:World) (v:Value):Prop:=∃ a cap,v = .slice a xs.length cap/\EAt w A a xs.length (zbj xs)
def zu3 (s:St) (a1:OA) (c1:Nat) (a2:OA) (c2:Nat) (a3:OA) (c3:Nat):List Value:=[.int .i64 s.op,.string s.mod,.string s.name,.slice a1 s.args.length c1,.slice a2 s.body.length c2,.slice a3 s.other.length c3]
theorem zxn {A:Nat->Prop} {s:St} {w:World} {a1 a2 a3:OA} {c1 c2 c3:Nat} (h1:s.mod.size<=maxLen) (h2:s.name.size<=maxLen) (h3:EAt w A a1 s.args.length (zbi s.args)) (h4:EAt w A a2 s.body.length (zbj s.body)) (h5:EAt w A a3 s.other.length (zbj s.other)):zaq w A s.ds (zu3 s a1 c1 a2 c2 a3 c3):=by
 cases s
 unfold St.ds;exact .cons zmx (.cons (zte h1) (.cons (zte h2) (.cons h3.val (.cons h4.val (.cons h5.val .nil)))))
abbrev zax:Obj:=.cells #[.int .i64 0,.string ⟨#[]⟩,.string ⟨#[]⟩,.slice none 0 0,.slice none 0 0,.slice none 0 0] 176 (0,0)
theorem st_end {R cap:Nat} {a:OA} {ts l l':List Tk} {w w1:World} {r:Option (St × List Tk)} {s:St} {a1 a2 a3:OA} {c1 c2 c3:Nat} (h0:Rd R a cap ts w l) (hr:r=some (s,l')) (hk:Keeps R w w1) (hrd:Rd R a cap ts w1 l')
 (hx1:s.mod.size<=maxLen) (hx2:s.name.size<=maxLen) {lo:Nat} (h1:EAt w1 (lo<=·) a1 s.args.length (zbi s.args)) (h2:EAt w1 (lo<=·) a2 s.body.length (zbj s.body)) (h3:EAt w1 (lo<=·) a3 s.other.length (zbj s.other)) (hlo:w.heap.size<lo) :
 zda R a cap ts w r (ze6 (w.heap.size<=·)) (.returned (.agg #[.int .i64 s.op,.string s.mod,.string s.name,.slice a1 s.args.length c1,.slice a2 s.body.length c2,.slice a3 s.other.length c3])) (set6 w1 w.heap.size (.int .i64 s.op) (.string s.mod) (.string s.name) (.slice a1 s.args.length c1) (.slice a2 s.body.length c2) (.slice a3 s.other.length c3)):=by
 have hm:zag w1 (lo<=·) (set6 w1 w.heap.size (.int .i64 s.op) (.string s.mod) (.string s.name) (.slice a1 s.args.length c1) (.slice a2 s.body.length c2) (.slice a3 s.other.length c3)) (w.heap.size<=·):=((zag.refl w1 (lo<=·)).set6 (by intro b _ hb;omega) _ _ _ _ _ _).to (by omega);exact ⟨hk.set6 (vaa _) _ _ _ _ _ _,Or.inr ⟨s,l',_,hr,rfl,⟨a1,c1,a2,c2,a3,c3,rfl,hx1,hx2,h1.moves hm,h2.moves hm,h3.moves hm⟩,hrd.set6 h0 (vaa _) _ _ _ _ _ _⟩⟩
theorem zi1 (R cap:Nat) (a:OA) (ts l:List Tk) (w:World) (h:Rd R a cap ts w l) (op:Int) (mod name:ByteArray) (a1 a2 a3:OA) (n1 n2 n3 c1 c2 c3:Nat) :
 Calls Tryz.prog 284 #[.pointer (some ⟨R,0,none⟩),.agg #[.int .i64 op,.string mod,.string name,.slice a1 n1 c1,.slice a2 n2 c2,.slice a3 n3 c3]] w fun e w'=>Keeps R w w'/\
  ((skB l zgl=false/\e = .panicked zai)\/(skB l zgl=true/\e = .returned (.agg #[.int .i64 op,.string mod,.string name,.slice a1 n1 c1,.slice a2 n2 c2,.slice a3 n3 c3])/\Rd R a cap ts w' l.tail)):=by
 have HR:Hid (Rd R a cap ts w l):=h;have hRw:=h.lt;clear h;go_enter Tryz.func284,Tryz.ntmps284;go_wp2_with fail;refine (zeo R cap _ a ts l zgl _ (by simp) ((HR.out.alloc _).alloc _) (by decide)).mono ?_;rintro e w1 ⟨HK1,⟨hs,rfl⟩ | ⟨hs,rfl,HR1⟩⟩
 . exact ⟨rfl,(((Keeps.refl R w).alloc _).alloc _).trans HK1,Or.inl ⟨hs,rfl⟩⟩
 have hz1:=HK1.size;simp at hz1;have HB1:Hid (w1.heap[w.heap.size]? = some (.cells #[.int .i64 op,.string mod,.string name,.slice a1 n1 c1,.slice a2 n2 c2,.slice a3 n3 c3] 176 (0,0))):=(HK1.block w.heap.size (by simp;omega) (by omega)).trans (zae (heap_newP _ _));have HC1:Hid (w1.heap[w.heap.size+1]? = some zax):=(HK1.block (w.heap.size+1) (by simp) (by omega)).trans (by have e:=heap_newP (w.alloc (.cells #[.int .i64 op,.string mod,.string name,.slice a1 n1 c1,.slice a2 n2 c2,.slice a3 n3 c3] 176)) zax;simpa using e);have HK1':Hid (Keeps R w w1):=(((Keeps.refl R w).alloc _).alloc _).trans HK1;have HR1':Hid (Rd R a cap ts w1 l.tail):=HR1;obtain ⟨f0,f1,f2,f3,f4,f5,f6⟩:=zam HB1.out;obtain ⟨g0,g1,g2,g3,g4,g5,g6⟩:=zam HC1.out;clear HK1 HR1;go_wp2_with fail;refine bodyPost_ret (v:=.agg #[.int .i64 op,.string mod,.string name,.slice a1 n1 c1,.slice a2 n2 c2,.slice a3 n3 c3]) (by simp [results,Tryz.results284,go_sem,g0,g1,g2,g3,g4,g5]) rfl ⟨HK1'.out.set6 (by omega) _ _ _ _ _ _,Or.inr ⟨hs,rfl,HR1'.out.set6 HR.out (by omega) _ _ _ _ _ _⟩⟩
theorem zkw {R cap:Nat} {a:OA} {ts l':List Tk} {w w':World} {r:Option (St × List Tk)} {s:St} {a1 a2 a3:OA} {c1 c2 c3:Nat} (hr:r=some (s,l')) (hk:Keeps R w w') (hrd:Rd R a cap ts w' l')
 (hx1:s.mod.size<=maxLen) (hx2:s.name.size<=maxLen) (h1:EAt w' (w.heap.size<=·) a1 s.args.length (zbi s.args)) (h2:EAt w' (w.heap.size<=·) a2 s.body.length (zbj s.body)) (h3:EAt w' (w.heap.size<=·) a3 s.other.length (zbj s.other)) :
 zda R a cap ts w r (ze6 (w.heap.size<=·)) (.returned (.agg #[.int .i64 s.op,.string s.mod,.string s.name,.slice a1 s.args.length c1,.slice a2 s.body.length c2,.slice a3 s.other.length c3])) w':=
 ⟨hk,Or.inr ⟨s,l',_,hr,rfl,⟨a1,c1,a2,c2,a3,c3,rfl,hx1,hx2,h1,h2,h3⟩,hrd⟩⟩
theorem z1y (l:List Tk) (t u v:ByteArray):zh5 l [t,u,v]=if skB l t then some t else if skB l u then some u else if skB l v then some v else none:=by
 unfold zh5;rw [vck,vck,vck];cases skB l t<;>cases skB l u<;>cases skB l v<;>rfl
theorem z1z (R cap n:Nat) (a:OA) (ts l:List Tk) (t u v:ByteArray) (w:World) (hn:n=w.heap.size) (h:Rd R a cap ts w l) (ht:0<t.size) (hu:0<u.size) (hv:0<v.size) :
 Calls Tryz.prog 195 #[.pointer (some ⟨R,0,none⟩),.slice (some ⟨n,0,none⟩) 3 3] (w.alloc (.cells #[.string t,.string u,.string v] 9)) fun e w'=>Keeps R w w'/\((skB l t=false/\skB l u=false/\skB l v=false/\e = .panicked zai)\/(skB l t=true/\e = .returned (.string t)/\Rd R a cap ts w' l.tail)\/(skB l t=false/\skB l u=true/\e = .returned (.string u)/\Rd R a cap ts w' l.tail)\/(skB l t=false/\skB l u=false/\skB l v=true/\e = .returned (.string v)/\Rd R a cap ts w' l.tail)):=by
 have hlt:=h.lt;subst hn;refine (zic R cap w.heap.size 3 a ts l [t,u,v] _ (h.alloc _) (by simp) (by omega) (by simp) (fun i hi=>?_) (fun i hi=>?_)).mono ?_
 . obtain rfl | rfl | rfl:i=0\/i=1\/i=2:=by simp at hi;omega
   all_goals simp
 . obtain rfl | rfl | rfl:i=0\/i=1\/i=2:=by simp at hi;omega
   . exact ht
   . exact hu
   . exact hv
 . rintro e w' ⟨hk,hr⟩
   refine ⟨((Keeps.refl R w).alloc _).trans hk,?_⟩;rw [z1y] at hr
   have key:∀ x:ByteArray,((some x).map fun t=>(t,l.tail))=some (x,l.tail):=fun _=>rfl
   cases hs:skB l t<;>cases hs2:skB l u<;>cases hs3:skB l v<;>rw [hs,hs2,hs3] at hr<;>simp only [vco,if_false,if_true,Option.map_none,Option.map_some] at hr
   . rcases hr with ⟨_,rfl⟩ | ⟨x,l',y,hr,_⟩
     . exact Or.inl ⟨rfl,rfl,rfl,rfl⟩
     . cases hr
   all_goals
    rcases hr with ⟨hr,_⟩ | ⟨x,l',y,hr,rfl,rfl,hR⟩
    . cases hr
    . obtain ⟨rfl,rfl⟩:=vak (vab hr)
      simp [hR]
theorem zz3 {R cap:Nat} {a:OA} {ts l l8:List Tk} {w w8 w9:World} {r:Option (St × List Tk)} {x y:Ex} {m n:ByteArray} {g9 c9:Nat} (h0:Rd R a cap ts w l) (hr:r=some (.mk 2 m n [x,y] [] [],l8)) (HK8:Keeps R w w8) (HR8:Rd R a cap ts w8 l8)
 (hm:m.size<=maxLen) (hnn:n.size<=maxLen) (HB9:Below (w.heap.size+2) w8 w9) (HO9:Row (w.heap.size+2) 174 5 w9 (.slice (some ⟨g9,0,none⟩) 2 c9) 2 (x.ds++y.ds)) :
 zda R a cap ts w r (ze6 (w.heap.size<=·)) (.returned (.agg #[.int .i64 2,.string m,.string n,.slice (some ⟨g9,0,none⟩) 2 c9,.slice none 0 0,.slice none 0 0])) (set6 (w9.setCell ⟨w.heap.size+1,3,none⟩ (.slice (some ⟨g9,0,none⟩) 2 c9)) w.heap.size (.int .i64 2) (.string m) (.string n) (.slice (some ⟨g9,0,none⟩) 2 c9) (.slice none 0 0) (.slice none 0 0)):=by
 have hw9:Below w.heap.size w8 w9:=HB9.mono (by omega)
 have hd:zbi [x,y]=x.ds++y.ds:=by simp [zbi]
 obtain ⟨a',c',hv,hat⟩:=HO9.slice
 injection hv with hv1 hv2 hv3
 rw [← hv1,← hd] at hat;have hat':=hat.moves ((((zag.refl w9 (w.heap.size+2<=·)).set (p:=⟨w.heap.size+1,3,none⟩) (by intro b _ hb;show b≠w.heap.size+1;omega) (.slice (some ⟨g9,0,none⟩) 2 c9)).set6 (b:=w.heap.size) (by intro b _ hb;omega) (.int .i64 2) (.string m) (.string n) (.slice (some ⟨g9,0,none⟩) 2 c9) (.slice none 0 0) (.slice none 0 0)).to (lo':=w.heap.size) (by omega))
 have hk9:=(((HK8.belowOf hw9).set (p:=⟨w.heap.size+1,3,none⟩) (by show w.heap.size<=w.heap.size+1;omega) (.slice (some ⟨g9,0,none⟩) 2 c9)).set6 (b:=w.heap.size) (vaa _) (.int .i64 2) (.string m) (.string n) (.slice (some ⟨g9,0,none⟩) 2 c9) (.slice none 0 0) (.slice none 0 0))
 have hr9:=((HR8.belowOf h0 hw9).setAbove h0 (p:=⟨w.heap.size+1,3,none⟩) (by show w.heap.size<=w.heap.size+1;omega) (.slice (some ⟨g9,0,none⟩) 2 c9)).set6 h0 (b:=w.heap.size) (vaa _) (.int .i64 2) (.string m) (.string n) (.slice (some ⟨g9,0,none⟩) 2 c9) (.slice none 0 0) (.slice none 0 0);exact zkw (s:=.mk 2 m n [x,y] [] []) hr hk9 hr9 hm hnn hat' (Or.inl rfl) (Or.inl rfl)
theorem zz4:Enters Tryz.prog 283:=enters_of Tryz.func283 (by kernel_rfl) rfl
theorem zu4 (R cap:Nat) (a:OA) (ts l:List Tk) (w:World) (h:Rd R a cap ts w l) :
 Calls Tryz.prog 285 #[.pointer (some ⟨R,0,none⟩)] w (zda R a cap ts w (zbk l) (ze6 (w.heap.size<=·))):=by
 have HR:Hid (Rd R a cap ts w l):=h;have hRw:=h.lt;clear h;go_enter Tryz.func285,Tryz.ntmps285;go_wp2_with fail;refine (zuw R cap a ts l _ ((HR.out.alloc _).alloc _)).mono ?_;rintro e w1 ⟨HK1,⟨hn,rfl⟩ | ⟨⟨m,n⟩,l1,v,hn,rfl,⟨rfl,hm,hnn⟩,HR1⟩⟩
 . exact ⟨rfl,(((Keeps.refl R w).alloc _).alloc _).trans HK1,Or.inl ⟨by unfold zbk;rw [hn],rfl⟩⟩
 have hz1:=HK1.size;simp at hz1
 have HP1:Hid (zbk l=if skB l1 tEq then (match pX l1.tail with | none=>none | some (x,l2)=>some (.mk 1 m n [x] [] [],l2))
  else if skB l1 tLs then (match pX l1.tail with
   | none=>none
   | some (x,l2)=>if skB l2 tRs then (if skB l2.tail tEq then (match pX l2.tail.tail with | none=>none | some (y,l3)=>some (.mk 2 m n [x,y] [] [],l3)) else none) else none)
  else if skB l1 tLp then (match pAs l1.tail with | none=>none | some (xs,l2)=>some (.mk 3 m n xs [] [],l2))
  else none):=by show zbk l=_;unfold zbk;rw [hn];rfl
 have HK1':Hid (Keeps R w w1):=(((Keeps.refl R w).alloc _).alloc _).trans HK1;have HB1:Hid (w1.heap[w.heap.size]? = some zax):=(HK1.block w.heap.size (by simp;omega) (by omega)).trans (zae (heap_newP _ _));have HC1:Hid (w1.heap[w.heap.size+1]? = some zax):=(HK1.block (w.heap.size+1) (by simp) (by omega)).trans (by have e:=heap_newP (w.alloc zax) zax;simpa using e);obtain ⟨h0,h1,h2,h3,h4,h5,h6⟩:=zam HC1.out;have HR2:Hid (Rd R a cap ts ((w1.setCell ⟨w.heap.size+1,1,none⟩ (.string m)).setCell ⟨w.heap.size+1,2,none⟩ (.string n)) l1):=(HR1.setAbove HR.out (by show _<=w.heap.size+1;omega) _).setAbove HR.out (by show _<=w.heap.size+1;omega) _;have HK2:Hid (Keeps R w ((w1.setCell ⟨w.heap.size+1,1,none⟩ (.string m)).setCell ⟨w.heap.size+1,2,none⟩ (.string n))):=(HK1'.out.set (by show _<=w.heap.size+1;omega) _).set (by show _<=w.heap.size+1;omega) _
 have HB2:Hid (((w1.setCell ⟨w.heap.size+1,1,none⟩ (.string m)).setCell ⟨w.heap.size+1,2,none⟩ (.string n)).heap[w.heap.size]? = some zax):=(zac (by show w.heap.size≠w.heap.size+1;omega) _).trans ((zac (by show w.heap.size≠w.heap.size+1;omega) _).trans HB1.out);have HC2:Hid (((w1.setCell ⟨w.heap.size+1,1,none⟩ (.string m)).setCell ⟨w.heap.size+1,2,none⟩ (.string n)).heap[w.heap.size+1]? = some (.cells #[.int .i64 0,.string m,.string n,.slice none 0 0,.slice none 0 0,.slice none 0 0] 176 (0,0))):=zaf (zaf HC1.out _) _
 have hz2:((w1.setCell ⟨w.heap.size+1,1,none⟩ (.string m)).setCell ⟨w.heap.size+1,2,none⟩ (.string n)).heap.size=w1.heap.size:=by simp only [van]
 have hq1:w.heap.size+1<w1.heap.size:=by omega
 clear hn HR1 HK1 HB1 HK1';go_wp2_with fail;generalize (w1.setCell ⟨w.heap.size+1,1,none⟩ (.string m)).setCell ⟨w.heap.size+1,2,none⟩ (.string n)=w2 at *;clear h0 h1 h2 h3 h4 h5 h6 HC1;refine (z1z R cap _ a ts l1 tEq tLs tLp w2 (by omega) HR2.out (by decide) (by decide) (by decide)).mono ?_;rintro e w3 ⟨HK3,⟨s1,s2,s3,rfl⟩ | ⟨s1,rfl,HR3⟩ | ⟨s1,s2,rfl,HR3⟩ | ⟨s1,s2,s3,rfl,HR3⟩⟩
 . exact ⟨rfl,HK2.out.trans HK3,Or.inl ⟨by rw [HP1.out,s1,s2,s3];rfl,rfl⟩⟩
 . have hz3:=HK3.size
   have HB3:Hid (w3.heap[w.heap.size]? = some zax):=(HK3.block w.heap.size (by omega) (by omega)).trans HB2.out;have HC3:Hid (w3.heap[w.heap.size+1]? = some (.cells #[.int .i64 0,.string m,.string n,.slice none 0 0,.slice none 0 0,.slice none 0 0] 176 (0,0))):=(HK3.block (w.heap.size+1) (by omega) (by omega)).trans HC2.out;obtain ⟨h0,h1,h2,h3,h4,h5,h6⟩:=zam HC3.out;have HR4:Hid (Rd R a cap ts (w3.setCell ⟨w.heap.size+1,0,none⟩ (.int .i64 1)) l1.tail):=HR3.setAbove HR.out (by show _<=w.heap.size+1;omega) _;have HK4:Hid (Keeps R w (w3.setCell ⟨w.heap.size+1,0,none⟩ (.int .i64 1))):=(HK2.out.trans HK3).set (by show _<=w.heap.size+1;omega) _;have HB4:Hid ((w3.setCell ⟨w.heap.size+1,0,none⟩ (.int .i64 1)).heap[w.heap.size]? = some zax):=(zac (by show w.heap.size≠w.heap.size+1;omega) _).trans HB3.out;have HC4:Hid ((w3.setCell ⟨w.heap.size+1,0,none⟩ (.int .i64 1)).heap[w.heap.size+1]? = some (.cells #[.int .i64 1,.string m,.string n,.slice none 0 0,.slice none 0 0,.slice none 0 0] 176 (0,0))):=zaf HC3.out _
   have hz4:(w3.setCell ⟨w.heap.size+1,0,none⟩ (.int .i64 1)).heap.size=w3.heap.size:=by simp only [van]
   clear HR3 HK3 HB3 HR2 HK2 HB2 HC2;go_wp2_with fail;generalize w3.setCell ⟨w.heap.size+1,0,none⟩ (.int .i64 1)=w4 at *;clear h0 h1 h2 h3 h4 h5 h6 HC3;refine (zd1 R cap a ts l1.tail w4 HR4.out).mono ?_;rintro e w5 ⟨HK5,⟨hn,rfl⟩ | ⟨x,l5,v,hn,rfl,⟨a5,c5,rfl,hx1,hx2,hx3⟩,HR5⟩⟩
   . exact ⟨rfl,HK4.out.trans HK5,Or.inl ⟨by rw [HP1.out,if_pos s1,hn],rfl⟩⟩
   have hz5:=HK5.size
   have HP:Hid (zbk l=some (.mk 1 m n [x] [] [],l5)):=by show zbk l=_;rw [HP1.out,if_pos s1,hn]
   have HB5:Hid (w5.heap[w.heap.size]? = some zax):=(HK5.block w.heap.size (by omega) (by omega)).trans HB4.out;have HC5:Hid (w5.heap[w.heap.size+1]? = some (.cells #[.int .i64 1,.string m,.string n,.slice none 0 0,.slice none 0 0,.slice none 0 0] 176 (0,0))):=(HK5.block (w.heap.size+1) (by omega) (by omega)).trans HC4.out
   have HF:Hid (zda R a cap ts w (zbk l) (ze6 (w.heap.size<=·)) (.returned (.agg #[.int .i64 1,.string m,.string n,.slice (some ⟨w5.heap.size,0,none⟩) 1 1,.slice none 0 0,.slice none 0 0])) ((set6 (w5.setCell ⟨w.heap.size+1,3,none⟩ (.slice (some ⟨w5.heap.size,0,none⟩) 1 1)) w.heap.size (.int .i64 1) (.string m) (.string n) (.slice (some ⟨w5.heap.size,0,none⟩) 1 1) (.slice none 0 0) (.slice none 0 0)).alloc (.cells #[.int .i64 x.op,.int .i64 x.n,.string x.mod,.string x.name,.slice a5 x.args.length c5] 174))):=by
    refine zkw (s:=.mk 1 m n [x] [] []) HP.out ((((HK4.out.trans HK5).set (by show _<=w.heap.size+1;omega) _).set6 (vaa _) _ _ _ _ _ _).alloc _) (((HR5.setAbove HR.out (by show _<=w.heap.size+1;omega) _).set6 HR.out (vaa _) _ _ _ _ _ _).alloc _) hm hnn ?_ (Or.inl rfl) (Or.inl rfl);refine zi0 (t:=174) (cap:=c5) hx1 hx2 hx3 (((((zag.refl w5 _).set (by intro b _ hb;show b≠w.heap.size+1;omega) _).set6 (b:=w.heap.size) (by intro b _ hb;omega) _ _ _ _ _ _).alloc _).to (by omega)) ?_ (by show w.heap.size<=w5.heap.size;omega);have e:=heap_newP (set6 (w5.setCell ⟨w.heap.size+1,3,none⟩ (.slice (some ⟨w5.heap.size,0,none⟩) 1 1)) w.heap.size (.int .i64 1) (.string m) (.string n) (.slice (some ⟨w5.heap.size,0,none⟩) 1 1) (.slice none 0 0) (.slice none 0 0)) (.cells #[.int .i64 x.op,.int .i64 x.n,.string x.mod,.string x.name,.slice a5 x.args.length c5] 174)
    simp only [van] at e;exact e
   obtain ⟨h0,h1,h2,h3,h4,h5,h6⟩:=zam HB5.out;obtain ⟨g0,g1,g2,g3,g4,g5,g6⟩:=zam HC5.out
   have hq5:w.heap.size+1<w5.heap.size:=by omega
   have hq6:w.heap.size<w5.heap.size:=by omega
   clear hn HK5 HR5 hx1 hx2 hx3 HB4 HC4 HR4 HK4;go_wp2_with fail;refine bodyPost_ret (v:=.agg #[.int .i64 1,.string m,.string n,.slice (some ⟨w5.heap.size,0,none⟩) 1 1,.slice none 0 0,.slice none 0 0]) (by simp [results,Tryz.results285,go_sem,h0,h1,h2,h3,h4,h5,hq6]) rfl HF.out
 . have hz3:=HK3.size
   have HB3:Hid (w3.heap[w.heap.size]? = some zax):=(HK3.block w.heap.size (by omega) (by omega)).trans HB2.out;have HC3:Hid (w3.heap[w.heap.size+1]? = some (.cells #[.int .i64 0,.string m,.string n,.slice none 0 0,.slice none 0 0,.slice none 0 0] 176 (0,0))):=(HK3.block (w.heap.size+1) (by omega) (by omega)).trans HC2.out;obtain ⟨h0,h1,h2,h3,h4,h5,h6⟩:=zam HC3.out;have HR4:Hid (Rd R a cap ts (w3.setCell ⟨w.heap.size+1,0,none⟩ (.int .i64 2)) l1.tail):=HR3.setAbove HR.out (by show _<=w.heap.size+1;omega) _;have HK4:Hid (Keeps R w (w3.setCell ⟨w.heap.size+1,0,none⟩ (.int .i64 2))):=(HK2.out.trans HK3).set (by show _<=w.heap.size+1;omega) _;have HB4:Hid ((w3.setCell ⟨w.heap.size+1,0,none⟩ (.int .i64 2)).heap[w.heap.size]? = some zax):=(zac (by show w.heap.size≠w.heap.size+1;omega) _).trans HB3.out;have HC4:Hid ((w3.setCell ⟨w.heap.size+1,0,none⟩ (.int .i64 2)).heap[w.heap.size+1]? = some (.cells #[.int .i64 2,.string m,.string n,.slice none 0 0,.slice none 0 0,.slice none 0 0] 176 (0,0))):=zaf HC3.out _
   have hz4:(w3.setCell ⟨w.heap.size+1,0,none⟩ (.int .i64 2)).heap.size=w3.heap.size:=by simp only [van]
   clear HR3 HK3 HB3 HR2 HK2 HB2 HC2;go_wp2_with fail;generalize w3.setCell ⟨w.heap.size+1,0,none⟩ (.int .i64 2)=w4 at *;clear h0 h1 h2 h3 h4 h5 h6 HC3;refine (zd1 R cap a ts l1.tail w4 HR4.out).mono ?_;rintro e w5 ⟨HK5,⟨hn,rfl⟩ | ⟨x,l5,v,hn,rfl,⟨a5,c5,rfl,hx1,hx2,hx3⟩,HR5⟩⟩
   . exact ⟨rfl,HK4.out.trans HK5,Or.inl ⟨by rw [HP1.out,if_neg (by simp [s1]),if_pos s2,hn],rfl⟩⟩
   have hz5:=HK5.size
   have HP5:Hid (zbk l=if skB l5 tRs then (if skB l5.tail tEq then (match pX l5.tail.tail with | none=>none | some (y,l3)=>some (.mk 2 m n [x,y] [] [],l3)) else none) else none):=by show zbk l=_;rw [HP1.out,if_neg (by simp [s1]),if_pos s2,hn]
   have HB5:Hid (w5.heap[w.heap.size]? = some zax):=(HK5.block w.heap.size (by omega) (by omega)).trans HB4.out;have HC5:Hid (w5.heap[w.heap.size+1]? = some (.cells #[.int .i64 2,.string m,.string n,.slice none 0 0,.slice none 0 0,.slice none 0 0] 176 (0,0))):=(HK5.block (w.heap.size+1) (by omega) (by omega)).trans HC4.out;have HK5':Hid (Keeps R w w5):=HK4.out.trans HK5;have HR5':Hid (Rd R a cap ts w5 l5):=HR5;have HX5:Hid (zaq w5 (w4.heap.size<=·) x.ds (zep x a5 c5)):=zeq hx1 hx2 hx3;obtain ⟨h0,h1,h2,h3,h4,h5,h6⟩:=zam HC5.out
   have hq5:w.heap.size+1<w5.heap.size:=by omega
   clear hn HK5 HR5 hx1 hx2 hx3 HB4 HC4 HR4 HK4 HP1;go_wp2_with fail;refine (zeo R cap _ a ts l5 tRs _ (by simp) ((HR5'.out.setAbove HR.out (by show _<=w.heap.size+1;omega) _).alloc _) (by decide)).mono ?_;rintro e w6 ⟨HK6,⟨t6,rfl⟩ | ⟨t6,rfl,HR6⟩⟩
   . exact ⟨rfl,((HK5'.out.set (by show _<=w.heap.size+1;omega) _).alloc _).trans HK6,Or.inl ⟨by rw [HP5.out,t6];rfl,rfl⟩⟩
   have hz6:=HK6.size;simp at hz6
   have HO6:Hid (Row (w.heap.size+2) 174 5 w6 (.slice (some ⟨w5.heap.size,0,none⟩) 1 1) 1 x.ds):=by
    have e:=Row.first (base:=w.heap.size+2) (e:=174) (size:=5) (w:=w5.setCell ⟨w.heap.size+1,3,none⟩ (.slice (some ⟨w5.heap.size,0,none⟩) 1 1)) (A:=(w4.heap.size<=·)) (ds:=x.ds) (cs:=#[.int .i64 x.op,.int .i64 x.n,.string x.mod,.string x.name,.slice a5 x.args.length c5])
     (HX5.out.moves ((zag.refl w5 _).set (by intro b _ hb;show b≠w.heap.size+1;omega) _)) (fun b _ hb=>by omega) (by simp;omega) rfl
    simp only [van] at e;exact Row.keeps e HK6 (by omega)
   have HB6:Hid (w6.heap[w.heap.size]? = some zax):=(HK6.block w.heap.size (by simp;omega) (by omega)).trans (zae ((zac (by show w.heap.size≠w.heap.size+1;omega) _).trans HB5.out));have HC6:Hid (w6.heap[w.heap.size+1]? = some (.cells #[.int .i64 2,.string m,.string n,.slice (some ⟨w5.heap.size,0,none⟩) 1 1,.slice none 0 0,.slice none 0 0] 176 (0,0))):=(HK6.block (w.heap.size+1) (by simp;omega) (by omega)).trans (zae (zaf HC5.out _));have HK6':Hid (Keeps R w w6):=((HK5'.out.set (by show _<=w.heap.size+1;omega) _).alloc _).trans HK6;have HR6':Hid (Rd R a cap ts w6 l5.tail):=HR6;clear HR6 HK6 HR5' HK5' HX5 HB5 HC5 h0 h1 h2 h3 h4 h5 h6;go_wp2_with fail;refine (zeo R cap _ a ts l5.tail tEq _ (by simp) HR6'.out (by decide)).mono ?_;rintro e w7 ⟨HK7,⟨t7,rfl⟩ | ⟨t7,rfl,HR7⟩⟩
   . exact ⟨rfl,HK6'.out.trans HK7,Or.inl ⟨by rw [HP5.out,t6,t7];rfl,rfl⟩⟩
   have hz7:=HK7.size;have HO7:Hid (Row (w.heap.size+2) 174 5 w7 (.slice (some ⟨w5.heap.size,0,none⟩) 1 1) 1 x.ds):=HO6.out.keeps HK7 (by omega);have HB7:Hid (w7.heap[w.heap.size]? = some zax):=(HK7.block w.heap.size (by omega) (by omega)).trans HB6.out;have HC7:Hid (w7.heap[w.heap.size+1]? = some (.cells #[.int .i64 2,.string m,.string n,.slice (some ⟨w5.heap.size,0,none⟩) 1 1,.slice none 0 0,.slice none 0 0] 176 (0,0))):=(HK7.block (w.heap.size+1) (by omega) (by omega)).trans HC6.out;have HK7':Hid (Keeps R w w7):=HK6'.out.trans HK7;have HR7':Hid (Rd R a cap ts w7 l5.tail.tail):=HR7
   have HP7:Hid (zbk l=match pX l5.tail.tail with | none=>none | some (y,l3)=>some (.mk 2 m n [x,y] [] [],l3)):=by show zbk l=_;rw [HP5.out,t6,t7];rfl
   obtain ⟨h0,h1,h2,h3,h4,h5,h6⟩:=zam HC7.out;clear HR7 HK7 HR6' HK6' HB6 HC6 HO6 HP5 t6 t7
   cases hx:pX l5.tail.tail with
   | none=>
     have HE:Hid (∀ w',Rd R a cap ts w' l5.tail.tail->Calls Tryz.prog 283 #[.pointer (some ⟨R,0,none⟩)] w' fun e w''=>e = .panicked zai/\Keeps R w' w''):=fun w' h'=>by
      refine (zd1 R cap a ts _ w' h').mono ?_;rintro e w'' ⟨hk,⟨_,rfl⟩ | ⟨_,_,_,h,_⟩⟩
      . exact ⟨rfl,hk⟩
      . rw [hx] at h;cases h
     have HP:Hid (zbk l=none):=by show zbk l=_;rw [HP7.out,hx]
     clear hx HP7;go_wp2_with fail;refine wp_region_any (by kernel_rfl) ?_
     change wpAny _ _ _ _ _ _ _ (World.drew _)
     refine wpAny_take (i:=2) (v:=.pointer (some ⟨R,0,none⟩)) rfl (by kernel_rfl) (by kernel_rfl) (by kernel_rfl) (fun c a w h=>h) (Or.inl ⟨by rfl,fun w=>by go_simp⟩) ?_;refine wpAny_take (i:=0) (v:=.pointer (some ⟨w.heap.size+1,3,none⟩)) rfl (by kernel_rfl) (by kernel_rfl) (by kernel_rfl) (fun c a w h=>h) (Or.inl ⟨by rfl,fun w=>by go_simp⟩) ?_;refine wpAny_ready (rs:=[1,3]) (by kernel_rfl) (by simp) ?_;refine veg rfl (fun K hK=>?_) (veg rfl (fun K hK=>?_) vej)
     . go_simp
       refine hK _ _ ?_;clear hK K;refine wpAny_ready (rs:=[3]) (by kernel_rfl) (by simp) ?_;refine veg rfl (fun K hK=>?_) vej;refine za6 (by rfl) 283 _ _ (by rfl) zz4 _ (by rfl) zai (HE.out _ HR7'.out.drew) ?_;intro w8 hk8;exact ⟨rfl,HK7'.out.drew.trans hk8,Or.inl ⟨HP.out,rfl⟩⟩
     . refine za6 (by rfl) 283 _ _ (by rfl) zz4 _ (by rfl) zai (HE.out _ HR7'.out.drew) ?_
       intro w8 hk8;exact ⟨rfl,HK7'.out.drew.trans hk8,Or.inl ⟨HP.out,rfl⟩⟩
   | some r=>
     obtain ⟨y,l8⟩:=r
     have HE:Hid (∀ w',Rd R a cap ts w' l5.tail.tail->Calls Tryz.prog 283 #[.pointer (some ⟨R,0,none⟩)] w' fun e w''=>∃ u,e = .returned u/\(Keeps R w' w''/\zfx (w'.heap.size<=·) y w'' u/\Rd R a cap ts w'' l8)):=fun w' h'=>by
      refine (zd1 R cap a ts _ w' h').mono ?_;rintro e w'' ⟨hk,⟨h,_⟩ | ⟨y',l',u,h,rfl,hr,hd⟩⟩
      . rw [hx] at h;cases h
      . rw [hx] at h
        obtain ⟨rfl,rfl⟩:=vak (vab h);exact ⟨u,rfl,hk,hr,hd⟩
     have HP:Hid (zbk l=some (.mk 2 m n [x,y] [] [],l8)):=by show zbk l=_;rw [HP7.out,hx]
     clear hx HP7;go_wp2_with fail
     go_region_law (first
      | (refine zcw (by rfl) 283 _ _ (by rfl) zz4 _ (by rfl) (HE.out _ HR7'.out.drew) ?_
         rintro u8 w8 ⟨HK8,⟨a8,c8,rfl,hy1,hy2,hy3⟩,HR8⟩;have hz8:w7.heap.size<=w8.heap.size:=HK8.size
         have hq8:w.heap.size+1<w8.heap.size:=by omega
         have HC8:Hid (w8.heap[w.heap.size+1]? = some (.cells #[.int .i64 2,.string m,.string n,.slice (some ⟨w5.heap.size,0,none⟩) 1 1,.slice none 0 0,.slice none 0 0] 176 (0,0))):=(HK8.block (w.heap.size+1) (show w.heap.size+1<w7.heap.size by omega) (by omega)).trans HC7.out;have HB8:Hid (w8.heap[w.heap.size]? = some zax):=(HK8.block w.heap.size (show w.heap.size<w7.heap.size by omega) (by omega)).trans HB7.out;have hc8:w8.cell? ⟨w.heap.size+1,3,none⟩=some (.slice (some ⟨w5.heap.size,0,none⟩) 1 1):=(HK8.cell (show w.heap.size+1<w7.heap.size by omega) (by omega)).trans h3
         have HO8:Hid (Row (w.heap.size+2) 174 5 w8 (.slice (some ⟨w5.heap.size,0,none⟩) 1 1) 1 x.ds):=(HO7.out.keeps (Keeps.refl R w7).drew (by omega)).keeps HK8 (by omega))
      | (refine zbb (by rfl) _ _ 172 (by rfl) (w.heap.size+2) 174 _ 5 72 Tryz.underlying172 Tryz.infoP80 rfl (by decide) w8 _ 1 x.ds y.ds (by rfl) HO8.out _ _ rfl (by rfl) rfl (w7.heap.size<=·) (zeq hy1 hy2 hy3) (fun b _ hb=>⟨by omega,fun h=>by have h':w5.heap.size=b:=vab h;omega⟩) (by omega) (by decide) (by omega) ?_
         intro g9 c9 w9 HO9 HB9 hz9;have HC9:Hid (w9.heap[w.heap.size+1]? = some (.cells #[.int .i64 2,.string m,.string n,.slice (some ⟨w5.heap.size,0,none⟩) 1 1,.slice none 0 0,.slice none 0 0] 176 (0,0))):=(HB9.block (w.heap.size+1) (by omega)).trans HC8.out;have HD9:Hid (w9.heap[w.heap.size]? = some zax):=(HB9.block w.heap.size (by omega)).trans HB8.out;obtain ⟨k0,k1,k2,k3,k4,k5,k6⟩:=zam HC9.out;obtain ⟨m0,m1,m2,m3,m4,m5,m6⟩:=zam HD9.out
         have hne9:w.heap.size≠w.heap.size+1:=by omega
         have HF:Hid (zda R a cap ts w (zbk l) (ze6 (w.heap.size<=·)) (.returned (.agg #[.int .i64 2,.string m,.string n,.slice (some ⟨g9,0,none⟩) 2 c9,.slice none 0 0,.slice none 0 0])) (set6 (w9.setCell ⟨w.heap.size+1,3,none⟩ (.slice (some ⟨g9,0,none⟩) 2 c9)) w.heap.size (.int .i64 2) (.string m) (.string n) (.slice (some ⟨g9,0,none⟩) 2 c9) (.slice none 0 0) (.slice none 0 0))):=zz3 HR.out HP.out (HK7'.out.drew.trans HK8) HR8 hm hnn HB9 HO9))
     all_goals
      go_wp2_with fail;refine bodyPost_ret (v:=.agg #[.int .i64 2,.string m,.string n,.slice (some ⟨g9,0,none⟩) 2 c9,.slice none 0 0,.slice none 0 0]) (by simp [results,Tryz.results285,go_sem,m0,m1,m2,m3,m4,m5]) rfl HF.out
 . have hz3:=HK3.size
   have HB3:Hid (w3.heap[w.heap.size]? = some zax):=(HK3.block w.heap.size (by omega) (by omega)).trans HB2.out;have HC3:Hid (w3.heap[w.heap.size+1]? = some (.cells #[.int .i64 0,.string m,.string n,.slice none 0 0,.slice none 0 0,.slice none 0 0] 176 (0,0))):=(HK3.block (w.heap.size+1) (by omega) (by omega)).trans HC2.out;obtain ⟨h0,h1,h2,h3,h4,h5,h6⟩:=zam HC3.out;have HR4:Hid (Rd R a cap ts (w3.setCell ⟨w.heap.size+1,0,none⟩ (.int .i64 3)) l1.tail):=HR3.setAbove HR.out (by show _<=w.heap.size+1;omega) _;have HK4:Hid (Keeps R w (w3.setCell ⟨w.heap.size+1,0,none⟩ (.int .i64 3))):=(HK2.out.trans HK3).set (by show _<=w.heap.size+1;omega) _;have HB4:Hid ((w3.setCell ⟨w.heap.size+1,0,none⟩ (.int .i64 3)).heap[w.heap.size]? = some zax):=(zac (by show w.heap.size≠w.heap.size+1;omega) _).trans HB3.out;have HC4:Hid ((w3.setCell ⟨w.heap.size+1,0,none⟩ (.int .i64 3)).heap[w.heap.size+1]? = some (.cells #[.int .i64 3,.string m,.string n,.slice none 0 0,.slice none 0 0,.slice none 0 0] 176 (0,0))):=zaf HC3.out _
   have hz4:(w3.setCell ⟨w.heap.size+1,0,none⟩ (.int .i64 3)).heap.size=w3.heap.size:=by simp only [van]
   clear HR3 HK3 HB3 HR2 HK2 HB2 HC2;go_wp2_with fail;generalize w3.setCell ⟨w.heap.size+1,0,none⟩ (.int .i64 3)=w4 at *;clear h0 h1 h2 h3 h4 h5 h6 HC3;refine (zxm R cap a ts l1.tail w4 HR4.out).mono ?_;rintro e w5 ⟨HK5,⟨hn,rfl⟩ | ⟨xs,l5,v,hn,rfl,⟨a5,c5,rfl,hx3⟩,HR5⟩⟩
   . exact ⟨rfl,HK4.out.trans HK5,Or.inl ⟨by rw [HP1.out,if_neg (by simp [s1]),if_neg (by simp [s2]),if_pos s3,hn],rfl⟩⟩
   have hz5:=HK5.size
   have HP:Hid (zbk l=some (.mk 3 m n xs [] [],l5)):=by show zbk l=_;rw [HP1.out,if_neg (by simp [s1]),if_neg (by simp [s2]),if_pos s3,hn]
   have HB5:Hid (w5.heap[w.heap.size]? = some zax):=(HK5.block w.heap.size (by omega) (by omega)).trans HB4.out;have HC5:Hid (w5.heap[w.heap.size+1]? = some (.cells #[.int .i64 3,.string m,.string n,.slice none 0 0,.slice none 0 0,.slice none 0 0] 176 (0,0))):=(HK5.block (w.heap.size+1) (by omega) (by omega)).trans HC4.out
   have HF:Hid (zda R a cap ts w (zbk l) (ze6 (w.heap.size<=·)) (.returned (.agg #[.int .i64 3,.string m,.string n,.slice a5 xs.length c5,.slice none 0 0,.slice none 0 0])) (set6 (w5.setCell ⟨w.heap.size+1,3,none⟩ (.slice a5 xs.length c5)) w.heap.size (.int .i64 3) (.string m) (.string n) (.slice a5 xs.length c5) (.slice none 0 0) (.slice none 0 0))):=by
    refine zkw (s:=.mk 3 m n xs [] []) HP.out (((HK4.out.trans HK5).set (by show _<=w.heap.size+1;omega) _).set6 (vaa _) _ _ _ _ _ _) ((HR5.setAbove HR.out (by show _<=w.heap.size+1;omega) _).set6 HR.out (vaa _) _ _ _ _ _ _) hm hnn ?_ (Or.inl rfl) (Or.inl rfl);exact hx3.moves ((((zag.refl w5 _).set (by intro b _ hb;show b≠w.heap.size+1;omega) _).set6 (b:=w.heap.size) (by intro b _ hb;omega) _ _ _ _ _ _).to (by omega))
   obtain ⟨h0,h1,h2,h3,h4,h5,h6⟩:=zam HB5.out;obtain ⟨g0,g1,g2,g3,g4,g5,g6⟩:=zam HC5.out;clear hn HK5 HR5 hx3 HB4 HC4 HR4 HK4;go_wp2_with fail;refine bodyPost_ret (v:=.agg #[.int .i64 3,.string m,.string n,.slice a5 xs.length c5,.slice none 0 0,.slice none 0 0]) (by simp [results,Tryz.results285,go_sem,h0,h1,h2,h3,h4,h5]) rfl HF.out
set_option maxHeartbeats 1600000
theorem zu5 {l l':List Tk} {s:St} (h:zbk l=some (s,l')):l'.length<l.length:=by
 unfold zbk at h
 split at h
 . cases h
 rename_i m n l1 h1
 have:=zos h1
 split at h
 . rename_i hs
   have:=zaj (by decide) hs
   split at h
   . cases h
   rename_i x l2 h2
   have:=zlk h2;obtain ⟨_,rfl⟩:=vak (vab h);omega
 split at h
 . rename_i hs
   have:=zaj (by decide) hs
   split at h
   . cases h
   rename_i x l2 h2
   have:=zlk h2
   split at h
   . rename_i hs2
     have:=zaj (by decide) hs2
     split at h
     . rename_i hs3
       have:=zaj (by decide) hs3
       split at h
       . cases h
       rename_i y l3 h3
       have:=zlk h3;obtain ⟨_,rfl⟩:=vak (vab h);omega
     . cases h
   . cases h
 split at h
 . rename_i hs
   have:=zaj (by decide) hs
   split at h
   . cases h
   rename_i x l2 h2
   have:=z1h h2;obtain ⟨_,rfl⟩:=vak (vab h);omega
 . cases h
theorem zi2 {r:Option (St × List Tk)} {l':List Tk} {s:St} {n:Nat} (h:zc1 r=some (s,l')) (hr:∀ s l,r=some (s,l)->l.length<n):l'.length<n:=by
 unfold zc1 at h
 split at h
 . cases h
 . rename_i s1 l1
   have:=hr s1 l1 rfl
   split at h
   . rename_i hs
     have:=zaj (by decide) hs;obtain ⟨_,rfl⟩:=vak (vab h);omega
   . cases h
def zb9 (f:Nat) (l:List Tk):Option (St × List Tk):=
 match pX l with
 | none=>none
 | some (x,l1)=>match zbm f l1 with
   | none=>none
   | some (b,l2)=>if skB l2 zor then (match zbm f l2.tail with | none=>none | some (o,l3)=>if o.length=0 then none else some (.mk 4 ⟨#[]⟩ ⟨#[]⟩ [x] b o,l3))
     else some (.mk 4 ⟨#[]⟩ ⟨#[]⟩ [x] b [],l2)
theorem zqu {f:Nat} {l:List Tk} (h:skB l tIf=true):zb3 (f+1) l=zb9 f l.tail:=by
 unfold zb3;rw [if_pos h];rfl
theorem zf9 {f:Nat} {l:List Tk} (h:skB l tIf=false) (h1:skB l zf0=true):zb3 (f+1) l=(match pX l.tail with
 | none=>none
 | some (x,l1)=>match zbm f l1 with | none=>none | some (b,l2)=>some (.mk 5 ⟨#[]⟩ ⟨#[]⟩ [x] b [],l2)):=by
 unfold zb3;rw [if_neg (by simp [h]),if_pos h1];rfl
theorem ze7 {f:Nat} {l:List Tk} (h:skB l tIf=false) (h1:skB l zf0=false) (h2:skB l zel=true):zb3 (f+1) l=zc1 (match pX l.tail with | none=>none | some (x,l1)=>some (.mk 6 ⟨#[]⟩ ⟨#[]⟩ [x] [] [],l1)):=by
 unfold zb3;rw [if_neg (by simp [h]),if_neg (by simp [h1]),if_pos h2];rfl
theorem zi3 {f:Nat} {l:List Tk} (h:skB l tIf=false) (h1:skB l zf0=false) (h2:skB l zel=false) (h3:skB l zy4=true):zb3 (f+1) l=zc1 (match pX l.tail with | none=>none | some (x,l1)=>some (.mk 7 ⟨#[]⟩ ⟨#[]⟩ [x] [] [],l1)):=by
 unfold zb3;rw [if_neg (by simp [h]),if_neg (by simp [h1]),if_neg (by simp [h2]),if_pos h3];rfl
theorem zga {f:Nat} {l:List Tk} (h:skB l tIf=false) (h1:skB l zf0=false) (h2:skB l zel=false) (h3:skB l zy4=false):zb3 (f+1) l=zc1 (zbk l):=by
 unfold zb3;rw [if_neg (by simp [h]),if_neg (by simp [h1]),if_neg (by simp [h2]),if_neg (by simp [h3])]
mutual
theorem zlz:∀ (f:Nat) (l l':List Tk) (s:St),zb3 f l=some (s,l')->l'.length<l.length
 | 0,_,_,_,h=>by simp [zb3] at h
 | f + 1,l,l',s,h=>by
   unfold zb3 at h
   split at h
   . rename_i hs
     have:=zaj (by decide) hs
     split at h
     . cases h
     rename_i x l1 h1
     have:=zlk h1
     split at h
     . cases h
     rename_i b l2 h2
     have:=ze8 f _ _ _ h2
     split at h
     . rename_i hs2
       have:=zaj (by decide) hs2
       split at h
       . cases h
       rename_i o l3 h3
       have:=ze8 f _ _ _ h3
       split at h
       . cases h
       . obtain ⟨_,rfl⟩:=vak (vab h)
         omega
     . obtain ⟨_,rfl⟩:=vak (vab h)
       omega
   split at h
   . rename_i hs
     have:=zaj (by decide) hs
     split at h
     . cases h
     rename_i x l1 h1
     have:=zlk h1
     split at h
     . cases h
     rename_i b l2 h2
     have:=ze8 f _ _ _ h2;obtain ⟨_,rfl⟩:=vak (vab h);omega
   split at h
   . rename_i hs
     have:=zaj (by decide) hs;refine zi2 h ?_;intro s l2 h2
     split at h2
     . cases h2
     rename_i x l1 h1
     have:=zlk h1;obtain ⟨_,rfl⟩:=vak (vab h2);omega
   split at h
   . rename_i hs
     have:=zaj (by decide) hs;refine zi2 h ?_;intro s l2 h2
     split at h2
     . cases h2
     rename_i x l1 h1
     have:=zlk h1;obtain ⟨_,rfl⟩:=vak (vab h2);omega
   . exact zi2 h fun s l2 h2=>zu5 h2
theorem ze8:∀ (f:Nat) (l l':List Tk) (b:List St),zbm f l=some (b,l')->l'.length<l.length
 | 0,_,_,_,h=>by simp [zbm] at h
 | f + 1,l,l',s,h=>by
   unfold zbm at h
   split at h
   . rename_i hs
     have:=zaj (by decide) hs;have:=znm f _ _ _ _ h;omega
   . cases h
theorem znm:∀ (f:Nat) (acc:List St) (l l':List Tk) (b:List St),zdp f acc l=some (b,l')->l'.length<l.length
 | 0,_,_,_,_,h=>by simp [zdp] at h
 | f + 1,acc,l,l',b,h=>by
   unfold zdp at h
   split at h
   . rename_i hs
     obtain ⟨_,rfl⟩:=vak (vab h);exact zaj (by decide) hs
   split at h
   . cases h
   . rename_i s l1 h1
     have:=zlz f _ _ _ h1;have:=znm f _ _ _ _ h;omega
end
structure StC (R cap:Nat) (a:OA) (ts:List Tk) (f:Nat):Prop where
 stmt:∀ (l:List Tk) (w:World),Rd R a cap ts w l->3*l.length+1<=f->Calls Tryz.prog 254 #[.pointer (some ⟨R,0,none⟩)] w (zda R a cap ts w (zb3 f l) (ze6 (w.heap.size<=·)))
 block:∀ (l:List Tk) (w:World),Rd R a cap ts w l->3*l.length+1<=f->Calls Tryz.prog 201 #[.pointer (some ⟨R,0,none⟩)] w (zda R a cap ts w (zbm f l) (z3h (w.heap.size<=·)))
theorem zsc (R cap:Nat) (a:OA) (ts:List Tk) (f:Nat) (IH:∀ g,g<=f->StC R cap a ts g) (l:List Tk) (w:World) (h:Rd R a cap ts w l) (hf:3*l.length+1<=f+1) :
 Calls Tryz.prog 201 #[.pointer (some ⟨R,0,none⟩)] w (zda R a cap ts w (zbm (f+1) l) (z3h (w.heap.size<=·))):=by
 have HI:Hid (∀ g,g<=f->StC R cap a ts g):=IH;have HR:Hid (Rd R a cap ts w l):=h;have hRw:=h.lt
 have hlts:l.length<=4096:=by
  obtain ⟨k,_,rfl,_⟩:=h.idx;have:=h.len
  rw [vbt];omega
 clear IH h;go_enter Tryz.func201,Tryz.ntmps201;go_wp2_with fail;refine (zeo R cap _ a ts l tLb _ rfl HR.out (by decide)).mono ?_;rintro e w1 ⟨HK1,⟨hs,rfl⟩ | ⟨hs,rfl,HR1⟩⟩
 . exact ⟨rfl,HK1,Or.inl ⟨by unfold zbm;rw [if_neg (by simp [hs])],rfl⟩⟩
 have hl1:=zaj (by decide) hs
 have HP:Hid (zbm (f+1) l=zdp f [] l.tail):=by show zbm (f+1) l=_;unfold zbm;rw [if_pos hs]
 have HR1':Hid (Rd R a cap ts w1 l.tail):=HR1;have HK1':Hid (Keeps R w w1):=HK1;have hz1:=HK1.size;clear HR1 HK1 hs;go_wp2_with fail
 go_loopw [3] (fun v wr=>∃ (g:Nat) (acc:List St) (l':List Tk),g<=f/\zbm (f+1) l=zdp g acc l'/\3*l'.length+2<=g/\acc.length+l'.length<=l.length/\Row w.heap.size 176 6 wr v acc.length (zbj acc)/\Rd R a cap ts wr l'/\Keeps R w wr) (fun _ wr=>zgw R ts.length wr)
 case atStart=>exact ⟨f,[],l.tail,vaa _,HP.out,by omega,by simp,Row.nil _ _ _ _,HR1'.out,HK1'.out⟩
 case round=>
  obtain ⟨g,acc,l',hg,hpm,hlen,hacc,hrow,hrd,hke⟩:=hrel;have HG:Hid (zbm (f+1) l=zdp g acc l'):=hpm;have HO:Hid (Row w.heap.size 176 6 wr u3 acc.length (zbj acc)):=hrow;have HD:Hid (Rd R a cap ts wr l'):=hrd;have HE:Hid (Keeps R w wr):=hke;have hzr:=hke.size
  obtain ⟨g,rfl⟩:∃ g',g=g'+1:=⟨g - 1,by omega⟩
  clear hpm hrow hrd hke HP;go_wp2_with fail
  by_cases hs:skB l' tRb=true
  . have HP:Hid (zbm (f+1) l=some (acc,l'.tail)):=by show zbm (f+1) l=_;rw [HG.out];unfold zdp;rw [if_pos hs]
    refine (zbd R cap a ts l' tRb wr (by decide) HD.out hs).mono ?_;rintro e w3 ⟨rfl,HR3,HK3⟩;have HO3:Hid (Row w.heap.size 176 6 w3 u3 acc.length (zbj acc)):=HO.out.keeps HK3 hRw;go_wp2_with fail;go_ret;exact ⟨HE.out.trans HK3,Or.inr ⟨acc,l'.tail,_,HP.out,rfl,HO3.out.slice,HR3⟩⟩
  refine (zbt R cap a ts l' tRb wr HD.out (by simpa using hs)).mono ?_;rintro e w3 ⟨rfl,HR3,HK3⟩;have hz3:=HK3.size;go_wp2_with fail;refine ((HI.out g (by omega)).stmt l' w3 HR3 (by omega)).mono ?_;rintro e w4 ⟨HK4,⟨hn,rfl⟩ | ⟨y,l4,v,hn,rfl,⟨a1,c1,a2,c2,a3,c3,rfl,hx1,hx2,hx3,hx4,hx5⟩,HR4⟩⟩
  . exact ⟨rfl,(HE.out.trans HK3).trans HK4,Or.inl ⟨by rw [HG.out];unfold zdp;rw [if_neg hs,hn],rfl⟩⟩
  have hl4:=zlz _ _ _ _ hn
  have HP:Hid (zbm (f+1) l=zdp g (acc++[y]) l4):=by show zbm (f+1) l=_;rw [HG.out];unfold zdp;rw [if_neg hs,hn];cases g<;>rfl
  have HX4:Hid (zaq w4 (w3.heap.size<=·) y.ds (zu3 y a1 c1 a2 c2 a3 c3)):=zxn hx1 hx2 hx3 hx4 hx5;have HR4':Hid (Rd R a cap ts w4 l4):=HR4;have HK4':Hid (Keeps R w w4):=(HE.out.trans HK3).trans HK4;have HO4:Hid (Row w.heap.size 176 6 w4 u3 acc.length (zbj acc)):=(HO.out.keeps HK3 hRw).keeps HK4 hRw;have hz4:=HK4.size
  have HL:Hid (∀ k,u3.ownBlock=some k->k<w3.heap.size):=fun k hk=>((HO.out.keeps HK3 hRw).lt k hk).2
  have hle:=HD.out.left;clear hn HR3 HR4 HK3 HK4 hx1 hx2 hx3 hx4 hx5 hs
  go_wp2_with (at_builtin;refine zbl rfl (.tmp 10) (.tmp 13) 25 rfl w.heap.size 176 _ 6 112 Tryz.underlying25 Tryz.infoP48 rfl (by decide) w4 u3 acc.length (zbj acc) y.ds rfl HO4.out _ _ rfl rfl rfl (w3.heap.size<=·) HX4.out ?_ (by omega) (by decide) (by omega) ?_)
  . intro b _ hb
    exact ⟨by omega,fun h=>by have:=HL.out b h;omega⟩
  . intro g5 c5 w5 HO5 HB5 hz5
    have HO5':Hid (Row w.heap.size 176 6 w5 (.slice (some ⟨g5,0,none⟩) (acc.length+1) c5) (acc.length+1) (zbj acc++y.ds)):=HO5;have HR5:Hid (Rd R a cap ts w5 l4):=HR4'.out.belowOf HR.out HB5;have HK5:Hid (Keeps R w w5):=HK4'.out.belowOf HB5;have hl5:=HR5.out.left;clear HO5 HB5 HO4 HR4' HK4' HX4;go_wp2_with fail;go_roundw
    case rel=>exact ⟨g,acc++[y],l4,by omega,HP.out,by omega,by simp;omega,by rw [zgg,zq4,vag];exact HO5'.out,HR5.out,HK5.out⟩
    case measure=>rw [hl5,hle];omega
end Go.Proofs.YtndkhgakfodldaaGreatDoor
