/-
  What the document's own reader reads is in range, and goes on in the same tokens.
-/
import Derived.Test.YtcekpobmbmnplaaGreatDoorEb
import Derived.Test.YtcekpobmbmnplaaGreatDoorEo
import Derived.Test.YtcekpobmbmnplaaGreatDoorPn
import Derived.Test.YtcekpobmbmnplaaGreatDoorEh
import Derived.Test.YtcekpobmbmnplaaGreatDoorCb
import Derived.Deep.RegionHeld
namespace Go.Proofs.YtcekpobmbmnplaaGreatDoor
open Go.RowKit
def Suf (a l:List Tk):Prop:=∃ b,b++a=l
theorem Suf.refl (l:List Tk):Suf l l:=⟨[],rfl⟩
theorem Suf.trans {a b c:List Tk} (h:Suf a b) (k:Suf b c):Suf a c:=by
 obtain ⟨x,rfl⟩:=h;obtain ⟨y,rfl⟩:=k;exact ⟨y++x,by rw [List.append_assoc]⟩
theorem Suf.tail (l:List Tk):Suf l.tail l:=by
 cases l with
 | nil=>exact Suf.refl _
 | cons x r=>exact ⟨[x],rfl⟩
theorem Suf.right {a l:List Tk} (h:Suf a l) (hr:zam l):zam a:=by obtain ⟨b,rfl⟩:=h;exact hr.of_app
theorem Suf.len {a l:List Tk} (h:Suf a l):a.length<=l.length:=by obtain ⟨b,rfl⟩:=h;simp
theorem za7 (l:List Tk) (t:ByteArray):Suf (eTk l t) l:=by
 unfold eTk;split
 . exact Suf.tail l
 . exact Suf.refl l
theorem zce (l:List Tk):Suf (eName l).2 l:=by
 unfold eName;split
 . exact Suf.tail l
 . exact Suf.refl l
theorem zmn (l:List Tk):Suf (eNum l).2 l:=by
 unfold eNum;split
 . exact Suf.tail l
 . exact Suf.refl l
theorem zxa {n:Int} (h0:0<=n) (h1:n<=1099511627775):(Lit.int .i64 n).wf=true:=za3 (by omega) (by omega)
theorem num_in {l:List Tk} (hr:zam l) (hk:(hd l).kind=2):0<=(hd l).n/\(hd l).n<=1099511627775:=by
 have hn:zh9 l=some ((hd l).n,l.tail):=by unfold zh9;rw [if_pos hk]
 exact (znc hr hn).2
theorem ztx {l:List Tk} (hr:zam l):0<=(eNum l).1/\(eNum l).1<=1099511627775:=by
 unfold eNum;split
 . rename_i hk;exact num_in hr hk
 . show (0:Int)<=0/\(0:Int)<=1099511627775
   decide
theorem zmo (l:List Tk):Suf (eRef l).2 l:=by
 unfold eRef;split
 . exact (zce _).trans ((Suf.tail _).trans (zce l))
 . exact zce l
theorem z00 (l:List Tk):Suf (eOp l).2 l:=by
 unfold eOp;split
 . exact Suf.tail l
 . exact Suf.refl l
theorem z2x {l:List Tk} (hr:zam l):(Lit.int .i64 (eOp l).1).wf=true:=by
 unfold eOp;split
 . rename_i k hk
   have:=(zrl hr hk).2;exact zxa (by show (0:Int)<=7+(k:Int);omega) (by show 7+(k:Int)<=1099511627775;omega)
 . show (Lit.int .i64 0).wf=true
   decide
def FX (E:List Tk->Ex × List Tk):Prop:=∀ l,zam l->D.fines (E l).1.ds/\Suf (E l).2 l
theorem zn5 (E:List Tk->Ex × List Tk) (hE:FX E):∀ (j:Nat) (acc:List Ex) (l:List Tk),zam l->D.fines (zaw acc)->D.fines (zaw (zhi E j acc l).1)/\(zhi E j acc l).1.length<=acc.length+j/\Suf (zhi E j acc l).2 l
 | 0,acc,l,_,ha=>⟨ha,by simp [zhi],za7 l _⟩
 | j + 1,acc,l,hr,ha=>by
   obtain ⟨h1,h2⟩:=hE l hr
   have ha':D.fines (zaw (acc++[(E l).1])):=by
    rw [zec,zf8];exact D.fines_append ha h1
   rw [zhi];split
   . have hs:=(Suf.tail (E l).2).trans h2
     obtain ⟨k1,k2,k3⟩:=zn5 E hE j (acc++[(E l).1]) (E l).2.tail (hs.right hr) ha';refine ⟨k1,?_,k3.trans hs⟩
     rw [List.length_append,List.length_singleton] at k2;omega
   . exact ⟨ha',by simp,(za7 _ _).trans h2⟩
theorem zn6 (E:List Tk->Ex × List Tk) (hE:FX E) (l:List Tk) (hr:zam l):D.fines (zaw (eList E l).1)/\(eList E l).1.length<=4/\Suf (eList E l).2 l:=by
 unfold eList;split
 . exact ⟨zap,by simp,Suf.tail l⟩
 . exact zn5 E hE 4 [] l hr zap
theorem zn7:∀ (k:Nat),FX (eExpr k)
 | 0=>fun l _=>⟨zdm (by decide) (by decide) (by simp) zap,Suf.refl l⟩
 | k + 1=>fun l hr=>by
   have ih:=zn7 k;rw [eExpr];split
   . exact ⟨zdm (by decide) (by decide) (by simp) zap,Suf.refl l⟩
   split
   . rename_i hk
     have:=num_in hr hk;exact ⟨zdm (by decide) (zxa this.1 this.2) (by simp) zap,Suf.tail l⟩
   split
   . exact ⟨zdm (by decide) (by decide) (by simp) zap,Suf.tail l⟩
   split
   . obtain ⟨h1,h2⟩:=ih l.tail ((Suf.tail l).right hr)
     exact ⟨zdm (by decide) (by decide) (by simp) (zb7 h1),h2.trans (Suf.tail l)⟩
   split
   . obtain ⟨h1,h2⟩:=ih l.tail ((Suf.tail l).right hr)
     have s1:=h2.trans (Suf.tail l);have s2:=(z00 (eExpr k l.tail).2).trans s1;obtain ⟨h3,h4⟩:=ih (eOp (eExpr k l.tail).2).2 (s2.right hr);exact ⟨zdm (z2x (s1.right hr)) (by decide) (by simp) (zjm h1 h3),(za7 _ _).trans (h4.trans s2)⟩
   split
   . have s1:=(Suf.tail (eRef l).2).trans (zmo l)
     obtain ⟨h1,h2⟩:=ih (eRef l).2.tail (s1.right hr);exact ⟨zdm (by decide) (by decide) (by simp) (zb7 h1),(za7 _ _).trans (h2.trans s1)⟩
   split
   . have s1:=(Suf.tail (eRef l).2).trans (zmo l)
     obtain ⟨h1,h2,h3⟩:=zn6 (eExpr k) ih (eRef l).2.tail (s1.right hr);exact ⟨zdm (by decide) (by decide) (by omega) h1,h3.trans s1⟩
   . exact ⟨zdm (by decide) (by decide) (by simp) zap,zmo l⟩
def FB (B:List Tk->List St × List Tk):Prop:=∀ l,zam l->D.fines (za0 (B l).1)/\(B l).1.length<=100/\Suf (B l).2 l
def FS (S:List Tk->St × List Tk):Prop:=∀ l,zam l->D.fines (S l).1.ds/\Suf (S l).2 l
theorem zty (B:List Tk->List St × List Tk) (hB:FB B):FS (eStmt B):=fun l hr=>by
 have ih:=zn7 7
 have st:=(Suf.tail l)
 obtain ⟨x1,x2⟩:=ih l.tail (st.right hr);have xs:=x2.trans st;obtain ⟨b1,b2,b3⟩:=hB (eExpr 7 l.tail).2 (xs.right hr);have bs:=b3.trans xs;have rs:=zmo l;have rt:=(Suf.tail (eRef l).2).trans rs;unfold eStmt;split
 . split
   . have ts:=(Suf.tail (B (eExpr 7 l.tail).2).2).trans bs
     obtain ⟨c1,c2,c3⟩:=hB (B (eExpr 7 l.tail).2).2.tail (ts.right hr);exact ⟨zdn (by decide) (by simp) (zb7 x1) (by omega) b1 (by omega) c1,c3.trans ts⟩
   . exact ⟨zdn (by decide) (by simp) (zb7 x1) (by omega) b1 (by simp) zap,bs⟩
 split
 . exact ⟨zdn (by decide) (by simp) (zb7 x1) (by omega) b1 (by simp) zap,bs⟩
 split
 . exact ⟨zdn (by decide) (by simp) (zb7 x1) (by simp) zap (by simp) zap,(za7 _ _).trans xs⟩
 split
 . exact ⟨zdn (by decide) (by simp) (zb7 x1) (by simp) zap (by simp) zap,(za7 _ _).trans xs⟩
 split
 . obtain ⟨h1,h2,h3⟩:=zn6 (eExpr 7) ih (eRef l).2.tail (rt.right hr)
   exact ⟨zdn (by decide) (by omega) h1 (by simp) zap (by simp) zap,(za7 _ _).trans (h3.trans rt)⟩
 split
 . obtain ⟨h1,h2⟩:=ih (eRef l).2.tail (rt.right hr)
   have s2:=(za7 (eTk (eExpr 7 (eRef l).2.tail).2 tRs) tEq).trans ((za7 (eExpr 7 (eRef l).2.tail).2 tRs).trans (h2.trans rt));obtain ⟨h3,h4⟩:=ih (eTk (eTk (eExpr 7 (eRef l).2.tail).2 tRs) tEq) (s2.right hr);exact ⟨zdn (by decide) (by simp) (zjm h1 h3) (by simp) zap (by simp) zap,(za7 _ _).trans (h4.trans s2)⟩
 . have s2:=(za7 (eRef l).2 tEq).trans rs
   obtain ⟨h3,h4⟩:=ih (eTk (eRef l).2 tEq) (s2.right hr);exact ⟨zdn (by decide) (by simp) (zb7 h3) (by simp) zap (by simp) zap,(za7 _ _).trans (h4.trans s2)⟩
theorem zlq (S:List Tk->St × List Tk) (hS:FS S):∀ (j:Nat) (acc:List St) (l:List Tk),zam l->D.fines (za0 acc)->D.fines (za0 (zdx S j acc l).1)/\(zdx S j acc l).1.length<=acc.length+j/\Suf (zdx S j acc l).2 l
 | 0,acc,l,_,ha=>by
   rw [zdx];split
   . exact ⟨ha,by simp,Suf.tail l⟩
   . exact ⟨ha,by simp,Suf.refl l⟩
 | j + 1,acc,l,hr,ha=>by
   obtain ⟨h1,h2⟩:=hS l hr
   have ha':D.fines (za0 (acc++[(S l).1])):=by
    rw [zed,zio];exact D.fines_append ha h1
   rw [zdx];split
   . exact ⟨ha,by simp,Suf.tail l⟩
   split
   . exact ⟨ha,by simp,Suf.refl l⟩
   split
   . exact ⟨ha',by simp,h2⟩
   . obtain ⟨k1,k2,k3⟩:=zlq S hS j (acc++[(S l).1]) (S l).2 (h2.right hr) ha'
     refine ⟨k1,?_,k3.trans h2⟩
     rw [List.length_append,List.length_singleton] at k2;omega
theorem zgw:∀ (k:Nat),FB (eBlock k)
 | 0=>fun l _=>⟨zap,by simp [eBlock],Suf.refl l⟩
 | k + 1=>fun l hr=>by
   rw [eBlock];split
   . obtain ⟨k1,k2,k3⟩:=zlq (eStmt (eBlock k)) (zty _ (zgw k)) 11 [] l.tail ((Suf.tail l).right hr) zap
     exact ⟨k1,by simp at k2;omega,k3.trans (Suf.tail l)⟩
   . exact ⟨zap,by simp,Suf.refl l⟩
theorem zhz (t:ByteArray):∀ (f:Nat) (acc:List ByteArray) (l:List Tk),(eUses t f acc l).1.length<=acc.length+f/\Suf (eUses t f acc l).2 l
 | 0,acc,l=>⟨by simp [eUses],Suf.refl l⟩
 | f + 1,acc,l=>by
   rw [eUses];split
   . obtain ⟨h1,h2⟩:=zhz t f (acc++[(eName l.tail).1]) (eTk (eName l.tail).2 tSem)
     refine ⟨?_,h2.trans ((za7 _ _).trans ((zce _).trans (Suf.tail l)))⟩
     rw [List.length_append,List.length_singleton] at h1;omega
   . exact ⟨by simp,Suf.refl l⟩
theorem ztz {p:Bool} {l l':List Tk} {d:De} (hr:zam l) (h:zex p l=some (d,l')):D.fines d.ds/\Suf l' l:=by
 have s1:=(zce l.tail).trans (Suf.tail l);unfold zex at h
 split at h
 . obtain ⟨rfl,rfl⟩:=Prod.mk.inj (Option.some.inj h)
   have s2:=(za7 _ tEq).trans s1;have:=ztx (s2.right hr);exact ⟨ziz (by decide) (zxa this.1 this.2),(za7 _ _).trans ((zmn _).trans s2)⟩
 split at h
 . obtain ⟨rfl,rfl⟩:=Prod.mk.inj (Option.some.inj h)
   exact ⟨ziz (by decide) (by decide),(za7 _ _).trans s1⟩
 split at h
 . obtain ⟨rfl,rfl⟩:=Prod.mk.inj (Option.some.inj h)
   have s2:=(za7 _ tLs).trans s1;have:=ztx (s2.right hr);exact ⟨ziz (by decide) (zxa this.1 this.2),(za7 _ _).trans ((za7 _ _).trans ((zmn _).trans s2))⟩
 . cases h
theorem zlr:∀ (f:Nat) (p:Bool) (acc:List De) (l:List Tk),zam l->D.fines (zfk acc)->D.fines (zfk (eDecls f p acc l).1.1)/\(eDecls f p acc l).1.1.length<=acc.length+f/\Suf (eDecls f p acc l).2 l
 | 0,p,acc,l,_,ha=>⟨ha,by simp [eDecls],Suf.refl l⟩
 | f + 1,p,acc,l,hr,ha=>by
   rw [eDecls];split
   . exact ⟨ha,by simp,Suf.refl l⟩
   . rename_i d l1 hd
     obtain ⟨h1,h2⟩:=ztz hr hd;have s1:=(za7 l1 tPub).trans h2
     have ha':D.fines (zfk (acc++[d])):=by
      unfold zfk at ha ⊢;rw [List.flatMap_append];simp only [List.flatMap_cons,List.flatMap_nil,List.append_nil];exact D.fines_append ha h1
     obtain ⟨k1,k2,k3⟩:=zlr f (skB l1 tPub) (acc++[d]) (eTk l1 tPub) (s1.right hr) ha';refine ⟨k1,?_,k3.trans s1⟩
     rw [List.length_append,List.length_singleton] at k2;omega
theorem zj3:∀ (f:Nat) (acc:List ByteArray) (l:List Tk),(ze9 f acc l).1.length<=acc.length+f/\Suf (ze9 f acc l).2 l
 | 0,acc,l=>⟨by simp [ze9],Suf.refl l⟩
 | f + 1,acc,l=>by
   rw [ze9];split
   . obtain ⟨h1,h2⟩:=zj3 f (acc++[(eName l).1]) (eName l).2.tail
     refine ⟨?_,h2.trans ((Suf.tail _).trans (zce l))⟩
     rw [List.length_append,List.length_singleton] at h1;omega
   . exact ⟨by simp,(za7 _ _).trans (zce l)⟩
theorem zt0 (l:List Tk):(zey l).1.length<=l.length+1/\Suf (zey l).2 l:=by
 unfold zey;split
 . exact ⟨by simp,Suf.tail l⟩
 . have:=zj3 (l.length+1) [] l
   simpa using this
theorem zt1 (p:Bool) (l:List Tk) (hr:zam l) (hl:l.length<=4096):D.fines (zhe p l).1.ds/\(zhe p l).1.params.length<=5000/\(zhe p l).1.locals.length<=5000/\Suf (zhe p l).2 l:=by
 have s1:=(za7 (eName l).2 tLp).trans (zce l);obtain ⟨p1,p2⟩:=zt0 (eTk (eName l).2 tLp);have s2:=p2.trans s1;obtain ⟨u1,u2⟩:=zhz zar ((zey (eTk (eName l).2 tLp)).2.length+1) [] (zey (eTk (eName l).2 tLp)).2;have s3:=u2.trans s2;obtain ⟨b1,b2,b3⟩:=zgw 6 (eUses zar ((zey (eTk (eName l).2 tLp)).2.length+1) [] (zey (eTk (eName l).2 tLp)).2).2 (s3.right hr);have l1:=s1.len;have l2:=s2.len;simp only [List.length_nil] at u1;exact ⟨zvj (by omega) (by omega) (by omega) b1,by show (zey (eTk (eName l).2 tLp)).1.length<=_;omega,by show (eUses zar ((zey (eTk (eName l).2 tLp)).2.length+1) [] (zey (eTk (eName l).2 tLp)).2).1.length<=_;omega,b3.trans s3⟩
theorem zls:∀ (f:Nat) (p:Bool) (acc:List Pr) (l:List Tk),zam l->l.length<=4096->D.fines (zf9 acc)->(∀ q ∈ acc,q.params.length<=5000/\q.locals.length<=5000)->D.fines (zf9 (eProcs f p acc l).1)/\(eProcs f p acc l).1.length<=acc.length+f/\(∀ q ∈ (eProcs f p acc l).1,q.params.length<=5000/\q.locals.length<=5000)/\Suf (eProcs f p acc l).2 l
 | 0,p,acc,l,_,_,ha,hq=>⟨ha,by simp [eProcs],hq,Suf.refl l⟩
 | f + 1,p,acc,l,hr,hl,ha,hq=>by
   rw [eProcs];split
   . have st:=(Suf.tail l)
     have sl:=st.len;obtain ⟨h1,h2,h3,h4⟩:=zt1 p l.tail (st.right hr) (by omega);have s1:=(za7 (zhe p l.tail).2 tPub).trans (h4.trans st);have s2:=s1.len
     have ha':D.fines (zf9 (acc++[(zhe p l.tail).1])):=by
      unfold zf9 at ha ⊢;rw [List.flatMap_append];simp only [List.flatMap_cons,List.flatMap_nil,List.append_nil];exact D.fines_append ha h1
     obtain ⟨k1,k2,k3,k4⟩:=zls f (skB (zhe p l.tail).2 tPub) (acc++[(zhe p l.tail).1]) (eTk (zhe p l.tail).2 tPub) (s1.right hr) (by omega) ha' (fun q hq'=>by
      rcases List.mem_append.1 hq' with h | h
      . exact hq q h
      . rw [List.mem_singleton.1 h];exact ⟨h2,h3⟩)
     refine ⟨k1,?_,k3,k4.trans s1⟩
     rw [List.length_append,List.length_singleton] at k2;omega
   . exact ⟨ha,by simp,hq,Suf.refl l⟩
theorem zph (l:List Tk) (hr:zam l) (hl:l.length<=4096):Fine (eModule l)/\∀ p ∈ (eModule l).procs,p.params.length<=5000/\p.locals.length<=5000:=by
 have s1:=(za7 (eName (eTk l tModule)).2 tLb).trans ((zce _).trans (za7 l tModule));have l1:=s1.len;obtain ⟨u1,u2⟩:=zhz tUse ((eTk (eName (eTk l tModule)).2 tLb).length+1) [] (eTk (eName (eTk l tModule)).2 tLb);unfold eModule;simp only;generalize eUses tUse ((eTk (eName (eTk l tModule)).2 tLb).length+1) [] (eTk (eName (eTk l tModule)).2 tLb)=us at *;have s2:=u2.trans s1;have l2:=s2.len;have s3:=(za7 us.2 tPub).trans s2;obtain ⟨d1,d2,d3⟩:=zlr (us.2.length+1) (skB us.2 tPub) [] (eTk us.2 tPub) (s3.right hr) zap;generalize eDecls (us.2.length+1) (skB us.2 tPub) [] (eTk us.2 tPub)=ds at *;have s4:=d3.trans s3;have l4:=s4.len;obtain ⟨p1,p2,p3,p4⟩:=zls (ds.2.length+1) ds.1.2 [] ds.2 (s4.right hr) (by omega) zap (fun q hq=>by cases hq);generalize eProcs (ds.2.length+1) ds.1.2 [] ds.2=ps at *;have s5:=(za7 ps.2 tMain).trans (p4.trans s4)
 obtain ⟨b1,b2,b3⟩:=zgw 6 (eTk ps.2 tMain) (s5.right hr);simp only [List.length_nil] at u1 d2 p2;exact ⟨⟨by show us.1.length<=_;omega,by show ds.1.1.length<=_;omega,by show ps.1.length<=_;omega,by show (eBlock 6 (eTk ps.2 tMain)).1.length<=_;omega,d1,p1,b1⟩,p3⟩
end Go.Proofs.YtcekpobmbmnplaaGreatDoor

namespace Go.Proofs.YtcekpobmbmnplaaGreatDoor
open Go.RowKit Go.Shelf
structure Gs (R B:Nat) (w ws:World) (C:Nat) (T:TypeId) (cs:Array Value) (wr:World) (l:List Tk):Prop where
 ez:Ez R B wr l
 ke:Keeps R w wr
 cb:wr.heap[C]? = some (.cells cs T (0,0))
 mv:Moves ws (C<·) wr (C<·)
 hR:R<w.heap.size
 hB:B<=w.heap.size
 hC:w.heap.size<=C
 hs:C<ws.heap.size
section
variable {R B C:Nat} {l l':List Tk} {w ws wr w':World} {T:TypeId} {cs:Array Value}
theorem Gs.keeps (h:Gs R B w ws C T cs wr l) (hk:Keeps R wr w') (hr:Ez R B w' l'):Gs R B w ws C T cs w' l':=
 have h1:=h.hR;have h2:=h.hC
 ⟨hr,h.ke.trans hk,(hk.block _ (zac h.cb) (by omega)).trans h.cb,h.mv.keeps hk (fun b _ hb=>by omega),h.hR,h.hB,h.hC,h.hs⟩
theorem Gs.drew (h:Gs R B w ws C T cs wr l):Gs R B w ws C T cs wr.drew l:=h.keeps (Keeps.refl R wr).drew h.ez.drew
theorem Gs.alloc (h:Gs R B w ws C T cs wr l) (o:Obj):Gs R B w ws C T cs (wr.alloc o) l:=h.keeps ((Keeps.refl R wr).alloc o) (h.ez.alloc o)
theorem Gs.put (h:Gs R B w ws C T cs wr l) (i:Nat) (u:Value):Gs R B w ws C T (cs.setIfInBounds i u) (wr.setCell ⟨C,i,none⟩ u) l:=by
 have h1:=h.hR;have h2:=h.hC;have h3:=h.hB;exact ⟨h.ez.set (by show C≠R;omega) (by show B<=C;omega) u,h.ke.set (by show w.heap.size<=C;omega) u,zan h.cb u,h.mv.set (fun b _ hb=>by show b≠C;omega) u,h.hR,h.hB,h.hC,h.hs⟩
theorem Gs.belowB {base:Nat} (h:Gs R B w ws C T cs wr l) (hb:Below base wr w') (hbase:ws.heap.size<=base):Gs R B w ws C T cs w' l:=by
 have h1:=h.hR;have h2:=h.hC;have h3:=h.hs;have h4:=h.hB;have hb':Below w.heap.size wr w':=hb.mono (by omega);exact ⟨h.ez.belowOf hb (by omega) (by omega),h.ke.belowOf hb',(hb.block _ (by omega)).trans h.cb,⟨Nat.le_trans h.mv.1 hb.size,fun b hb1 hb2=>⟨hb2,(hb.block b (by omega)).trans (h.mv.2 b hb1 hb2).2⟩⟩,h.hR,h.hB,h.hC,h.hs⟩
theorem Gs.restart (h:Gs R B w ws C T cs wr l):Gs R B w wr C T cs wr l:=
 ⟨h.ez,h.ke,h.cb,Moves.refl _ _,h.hR,h.hB,h.hC,zac h.cb⟩
theorem Gs.at (h:Gs R B w ws C T cs wr l) {n lo:Nat} {ad:Option Addr} {ds:List D} (k:EAt ws (lo<=·) ad n ds) (hlo:C<lo):EAt wr (C<·) ad n ds:=
 k.moves ⟨h.mv.1,fun b h1 h2=>⟨Nat.lt_of_lt_of_le hlo h2,(h.mv.2 b h1 (Nat.lt_of_lt_of_le hlo h2)).2⟩⟩
theorem Gs.at' (h:Gs R B w ws C T cs wr l) {n:Nat} {ad:Option Addr} {ds:List D} (k:EAt ws (C<·) ad n ds):EAt wr (C<·) ad n ds:=k.moves h.mv
theorem Gs.new (h:Ez R B w l) (cs:Array Value):Gs R B w (w.alloc (.cells cs T)) w.heap.size T cs (w.alloc (.cells cs T)) l:=
 ⟨h.alloc _,(Keeps.refl R w).alloc _,heap_newP _ _,Moves.refl _ _,h.lt,h.low,Nat.le_refl _,by simp⟩
end
def ztj (R:Nat) (w:World):Nat:=match w.cell? ⟨R,0,none⟩ with | some (.slice _ n _)=>n | _=>0
theorem Ez.left {R B:Nat} {w:World} {l:List Tk} (h:Ez R B w l):ztj R w=l.length:=by
 obtain ⟨a,cap,h⟩:=h;unfold ztj;rw [Lib.cell_of_heap h.blk]
 rfl
def zn8 (v:Value):Nat:=match v with | .bool true=>1 | _=>0
theorem zt2:Enters Tryz.prog 53:=enters_of Tryz.func53 (by kernel_rfl) rfl
def mo0:Mo:=⟨⟨#[]⟩,[],[],[],[]⟩
def zeq (ts:List Tk):Bool:=decide ((eModule ts).err=0)&&decide (showL (tM (eModule ts))=showL ts)
def fromM (ts:List Tk):Mo:=if zeq ts then eModule ts else mo0
theorem Ez.first {w:World} {ts:List Tk} {a:Option Addr} {cap:Nat} (hT:zb9 w a ts) (hR:zam ts) (hl:ts.length<=4096) (hc:ts.length<=cap) (o:Obj) :
 Ez (w.heap.size+1) w.heap.size ((w.alloc o).alloc (.cells #[.slice a ts.length cap] 95)) ts:=by
 refine ⟨a,cap,?_,hc,?_,hR,hl,by simp;omega⟩
 . have:=heap_newP (w.alloc o) (.cells #[.slice a ts.length cap] 95)
   simpa using this
 . rcases hT with h | ⟨b,off,ha,h⟩
   . exact Or.inl h
   . have hlt:=h.lt
     have h2:Below w.heap.size w ((w.alloc o).alloc (.cells #[.slice a ts.length cap] 95)):=((Below.refl _ _).alloc (Nat.le_refl _) o).alloc (by simp) _;exact Or.inr ⟨b,off,ha,⟨by omega,hlt⟩,h.below h2 hlt⟩
end Go.Proofs.YtcekpobmbmnplaaGreatDoor

namespace Go.Proofs.YtcekpobmbmnplaaGreatDoor
set_option maxRecDepth 100000
set_option maxHeartbeats 400000
open Go.RowKit
def spc (l:List Tk):List UInt8:=l.flatMap (fun t=>32 :: zhb t)
theorem zcn (a b:List Tk):spc (a++b)=spc a++spc b:=by simp [spc,List.flatMap_append]
theorem zbo (t:Tk) (b:List Tk):spc (t :: b)=32 :: (zhb t++spc b):=by simp [spc]
theorem zdl:spc []=[]:=rfl
theorem zbc {l:List Tk} (h:0<l.length):spc l=32 :: showL l:=by
 cases l with
 | nil=>simp at h
 | cons t r=>rw [zbo];rfl
theorem zdu {l:List Tk} {x:List UInt8} (h:spc l=32 :: x):showL l=x:=by
 cases l with
 | nil=>simp [spc] at h
 | cons t r=>
   rw [zbo] at h;injection h
theorem zd2 {t:ByteArray}:zhb (kTk t)=t.data.toList:=by
 unfold zhb kTk;rw [if_neg];show ¬ (if Lx.nameB t.data.toList=true then (1:Int) else 3)=2
 split<;>decide
theorem zh0 {t:ByteArray}:zhb (wTk t)=t.data.toList:=rfl
theorem zzb {n:Int}:zhb (nTk n)=Lib.decDigits n.toNat:=rfl
theorem zh1 {ts:List Tk} (h:zam ts):(showL ts).length<=14*ts.length:=by
 have:=zno h ts.length (Nat.le_refl _);rwa [List.take_length] at this
theorem zmp {ts:List Tk} (h:zam ts):(spc ts).length<=14*ts.length:=by
 induction ts with
 | nil=>simp [spc]
 | cons t r ih=>
   have h1:=ih h.of_cons;have h2:=zqr h.head.2;rw [zbo];simp only [List.length_cons,List.length_append];omega
theorem zpj {t:Tk}:showL [t]=zhb t:=by simp [showL]
theorem z3k (a b c:List UInt8):strOf a++strOf b++strOf c=strOf (a++b++c):=by rw [zad,zad]
theorem zgx (m n:ByteArray) (w:World) (hm:m.size<=100) (hn:n.size<=100) :
 Calls Tryz.prog 135 #[.string m,.string n] w fun e w'=>e = .returned (.string (strOf (showL (refT m n))))/\w'=w:=by
 by_cases h0:m.size=0
 . have HF:Hid (n=strOf (showL (refT m n))):=by
    show n=_;unfold refT;rw [if_pos h0,zpj,zh0,za8]
   obtain rfl:=zjo h0;clear h0 hm;go_enter Tryz.func135,Tryz.ntmps135;go_wp2_with fail;go_ret;exact ⟨zbu HF.out,rfl⟩
 . have HF:Hid (m++⟨#[32,46,32]⟩++n=strOf (showL (refT m n))):=by
    show m++⟨#[32,46,32]⟩++n=_;unfold refT;rw [if_neg h0]
    have e:showL [wTk m,kTk tDot,wTk n]=m.data.toList++[32,46,32]++n.data.toList:=by
     apply zdu
     simp [zbo,zdl,zh0,zd2]
    rw [e,← z3k,za8,za8]
    rfl
   have he:m.toList.isEmpty=false:=by
    cases hh:m.toList.isEmpty with
    | false=>rfl
    | true=>
      rw [Lib.toList_data] at hh;have:=Lx.len_toList m;rw [List.isEmpty_iff.1 hh] at this;exact absurd this.symm h0
   clear h0;go_enter Tryz.func135,Tryz.ntmps135;go_wp2_with fail;go_ret;exact ⟨zbu HF.out,rfl⟩
theorem zfx:∀ (l:List (List Tk)) (x:List Tk),commas (l++[x])=commas l++(if l.length=0 then [] else [kTk tCom])++x
 | [],x=>by simp [commas]
 | [y],x=>by simp [commas]
 | y :: z :: r,x=>by
   have:=zfx (z :: r) x;simp only [List.cons_append,commas] at this ⊢;rw [this];simp
theorem zt7:∀ (l:List Ex) (j:Nat) (h:j<l.length),tEs (l.take (j+1))=tEs (l.take j)++[tE l[j]]:=by
 intro l j h;rw [List.take_succ_eq_append_getElem h,zfr];simp [tEs]
end Go.Proofs.YtcekpobmbmnplaaGreatDoor

namespace Go.Proofs.YtcekpobmbmnplaaGreatDoor
set_option maxRecDepth 100000
set_option maxHeartbeats 800000
open Go.RowKit
def Tx (A:Nat->Prop) (x:Ex):Prop:=∀ (aa:Option Addr) (cap:Nat) (w:World),DAt w A aa x.args.length (zaw x.args)->Calls Tryz.prog 136 #[.agg #[.int .i64 x.op,.int .i64 x.n,.string x.mod,.string x.name,.slice aa x.args.length cap]] w fun e w'=>e = .returned (.string (strOf (showL (tE x))))/\Below w.heap.size w w'
theorem zt8 (l:List Ex) (j:Nat) (h:j<l.length) (h0:0<j) (hp:0<(tE l[j]).length):strOf (spc (commas (tEs (l.take j))))++⟨#[32,44]⟩++⟨#[32]⟩++strOf (showL (tE l[j]))=strOf (spc (commas (tEs (l.take (j+1))))):=by
 rw [zt7 l j h,zfx,zgl,List.length_take,Nat.min_eq_left (by omega),if_neg (by omega),zcn,zcn,zbc hp];rw [show (⟨#[32,44]⟩:ByteArray)=strOf [32,44] from rfl,show (⟨#[32]⟩:ByteArray)=strOf [32] from rfl,zad,zad,zad]
 congr 1
 simp [zbo,zdl,zd2]
theorem zsl (l:List Ex) (j:Nat) (h:j<l.length) (h0:j=0) (hp:0<(tE l[j]).length):strOf (spc (commas (tEs (l.take j))))++⟨#[32]⟩++strOf (showL (tE l[j]))=strOf (spc (commas (tEs (l.take (j+1))))):=by
 rw [zt7 l j h,zfx,zgl,List.length_take,Nat.min_eq_left (by omega),if_pos h0,zcn,zcn,zbc hp];rw [show (⟨#[32]⟩:ByteArray)=strOf [32] from rfl,zad,zad]
 congr 1
 simp [zdl]
theorem zn9 (A:Nat->Prop) (l:List Ex) (a:Option Addr) (cap:Nat) (w:World) (hD:DAt w A a l.length (zaw l)) (h3:l.length<=3) (hT:∀ x ∈ l,Tx A x) (hsz:∀ x ∈ l,(strOf (showL (tE x))).size<=1000000/\0<(tE x).length) (hss:∀ j,j<=l.length->(strOf (spc (commas (tEs (l.take j))))).size<=1000000000) :
 Calls Tryz.prog 137 #[.slice a l.length cap] w fun e w'=>e = .returned (.string (strOf (spc (commas (tEs l)))))/\Below w.heap.size w w':=by
 have HD:=hid hD;have HT:=hid hT;have HZ:=hid hsz;have HS:=hid hss;clear hD hT hsz hss;go_enter Tryz.func137,Tryz.ntmps137;go_wp2_with fail
 go_loopw [4,3] (fun i s wr=>∃ k:Nat,k<=l.length/\i = .int .i64 k/\s = .string (strOf (spc (commas (tEs (l.take k)))))/\Below w.heap.size w wr) (fun i _ _=>l.length - (intOf i).toNat)
 case atStart=>exact ⟨0,Nat.zero_le _,rfl,rfl,Below.refl _ _⟩
 case round=>
  obtain ⟨k,hk,rfl,rfl,hb⟩:=hrel
  by_cases hlt:k<l.length
  . obtain ⟨b,off,aa,cp,rfl,hx⟩:=(HD.out.later hb).ex k hlt
    have hc0:=hx.c0;have hc1:=hx.c1;have hc2:=hx.c2;have hc3:=hx.c3;have hc4:=hx.c4;have hlb:=hx.lt;have HX:=hid hx.args;have hz:=HZ.out l[k] (List.getElem_mem _);have hz1:=hz.1;have hs1:=HS.out k hk;clear hx
    by_cases h0:k=0
    . have HF:=hid (zsl l k hlt h0 hz.2)
      have h0':¬ 0<k:=by omega
      clear h0 hz;generalize strOf (spc (commas (tEs (l.take k))))=S at *;go_wp2_with fail;refine (HT.out l[k] (List.getElem_mem _) aa cp _ HX.out).mono ?_;generalize strOf (showL (tE l[k]))=S2 at *;rintro e w' ⟨rfl,hb2⟩;go_wp2_with fail;go_roundw
      case rel=>exact ⟨k+1,by omega,by go_num,by rw [HF.out],hb.trans (hb2.mono hb.size)⟩
      case measure=>simp [intOf];omega
    . have h0':0<k:=by omega
      have HF:=hid (zt8 l k hlt h0' hz.2);clear h0 hz;generalize strOf (spc (commas (tEs (l.take k))))=S at *;go_wp2_with fail;refine (HT.out l[k] (List.getElem_mem _) aa cp _ HX.out).mono ?_;generalize strOf (showL (tE l[k]))=S2 at *;rintro e w' ⟨rfl,hb2⟩;go_wp2_with fail;go_roundw
      case rel=>exact ⟨k+1,by omega,by go_num,by rw [HF.out],hb.trans (hb2.mono hb.size)⟩
      case measure=>simp [intOf];omega
  . have HF:Hid (l.take k=l):=List.take_of_length_le (by omega)
    go_wp2_with fail;go_ret;exact ⟨zbu (by rw [HF.out]),hb⟩
end Go.Proofs.YtcekpobmbmnplaaGreatDoor
