import Derived.Test.YtndkhgakfodldaaGreatDoorUn
namespace Go.Proofs.YtndkhgakfodldaaGreatDoor
open Go.RowKit Go.Maps Go.WideMaps
set_option linter.unusedSimpArgs false
abbrev Fc:=Fx.Fc
def fcD (f:Fc):List D:=[.str f.name,.list f.items.length (zfp f.items)]
def z0k (l:List Fc):List D:=l.flatMap fcD
def z0l (m:Mo):Kn:=zhg (fun _ _=>none) ⟨#[]⟩ 0 (za0 m)
def zg8 (K:Kn) (l:List Fc):Kn:=l.zipIdx.foldl (fun K p=>zhg K p.1.name ((p.2:Int)+1) p.1.items) K
theorem zp1 (K:Kn) (l:List Fc) (f:Fc):zg8 K (l++[f])=zhg (zg8 K l) f.name ((l.length:Int)+1) f.items:=by
 unfold zg8;rw [List.zipIdx_append,vcd];simp
def zdg (m:Mo) (l:List Fc):Kn:=zg8 (z0l m) l
def zby (K:Kn):List Pr->Except Int (List Pt)
 | []=>.ok []
 | p :: r=>zcq (zjg K p) fun t=>zcq (zby K r) fun l=>.ok (t :: l)
def zh9 (m:Mo) (l:List Fc):Except Int Un:=zcq (zby (zdg m l) m.procs) fun ps=>zcq (zes (zdg m l) (fun _=>none) m.main) fun b=>.ok ⟨m.name,m.uses,zbu m,ps,b⟩
theorem zhp (K:Kn):∀ (a b:List Pr) (acc:List Pt),zby K a = .ok acc->zby K (a++b)=zcq (zby K b) fun l=>.ok (acc++l)
 | [],b,acc,h=>by
   obtain rfl:=vcx h;show zby K b=_;exact (zl8 _).symm
 | x :: a,b,acc,h=>by
   rw [zby] at h;show zby K (x :: (a++b))=_;rw [zby]
   cases hx:zjg K x with
   | error e=>rw [hx] at h;cases h
   | ok y=>
     rw [hx] at h;simp only [zcq] at h ⊢
     cases ha:zby K a with
     | error e=>rw [ha] at h;cases h
     | ok l=>
       rw [ha] at h;obtain rfl:=vcx h;rw [zhp K a b l ha]
       cases zby K b<;>rfl
theorem zs4 {K:Kn} {l:List Pr} {j:Nat} {acc:List Pt} {e:Int} (h:j<l.length) (ha:zby K (l.take j) = .ok acc) (he:zjg K l[j] = .error e):zby K l = .error e:=by
 rw [zmb l j h,zhp K _ _ acc ha,zby,he];rfl
theorem zp2 {K:Kn} {l:List Pr} {j:Nat} {acc:List Pt} {y:Pt} (h:j<l.length) (ha:zby K (l.take j) = .ok acc) (he:zjg K l[j] = .ok y):zby K (l.take (j+1)) = .ok (acc++[y]):=by
 rw [vaf h,zhp K _ _ acc ha,zby,he];rfl
theorem zs5 {m:Mo} {l:List Fc} {c:Int} (h:zby (zdg m l) m.procs = .error c):zh9 m l = .error c:=by unfold zh9;rw [h];rfl
theorem zvu {m:Mo} {l:List Fc} {c:Int} {ps:List Pt} (h:zby (zdg m l) m.procs = .ok ps) (h2:zes (zdg m l) (fun _=>none) m.main = .error c):zh9 m l = .error c:=by unfold zh9;rw [h,h2];rfl
theorem z0m {m:Mo} {l:List Fc} {ps:List Pt} {b:List Ac} (h:zby (zdg m l) m.procs = .ok ps) (h2:zes (zdg m l) (fun _=>none) m.main = .ok b):zh9 m l = .ok ⟨m.name,m.uses,zbu m,ps,b⟩:=by unfold zh9;rw [h,h2];rfl
def zvv (lo:Nat) (r:Except Int Un) (e:Ending) (w:World):Prop:=
 match r with
 | .error c=>e = .returned (.tuple #[.agg #[.string ⟨#[]⟩,.slice none 0 0,.int .i64 0,.slice none 0 0,.slice none 0 0],.int .i64 c])/\c≠0
 | .ok u=>∃ x1 y1 x2 y2 x3 y3,e = .returned (.tuple #[.agg #[.string u.name,.slice x1 u.uses.length y1,.int .i64 u.data,.slice x2 u.parts.length y2,.slice x3 u.main.length y3],.int .i64 0])/\
   EAt w (lo<=·) x1 u.uses.length (zal u.uses)/\EAt w (lo<=·) x2 u.parts.length (zjt u.parts)/\EAt w (lo<=·) x3 u.main.length (zcg u.main)
theorem DAt.fc {w:World} {A:Nat->Prop} {a:OA} {l:List Fc} (h:DAt w A a l.length (z0k l)) (i:Nat) (hi:i<l.length):∃ b off ai ci,a=some ⟨b,off,none⟩/\b<w.heap.size/\w.cell? ⟨b,off+i*2,none⟩=some (.string l[i].name)/\w.cell? ⟨b,off+i*2+1,none⟩=some (.slice ai l[i].items.length ci)/\l[i].name.size<=maxLen/\DAt w A ai l[i].items.length (zfp l[i].items):=by
 obtain ⟨b,off,ha,hb,hc⟩:=h.cell (by omega);generalize hx:l[i]=x;obtain ⟨name,items⟩:=x
 have g:∀ j d,j<2->(fcD ⟨name,items⟩)[j]? = some d->∃ v,w.cell? ⟨b,off+i*2+j,none⟩=some v/\zck w A d v:=fun j d hj hd=>by
  rw [vbs];exact hc (i*2+j) d ((zdk fcD 2 (fun _=>rfl) l i hi j hj).trans (by rw [hx];exact hd))
 obtain ⟨v0,k0,d0⟩:=g 0 (.str name) (by omega) rfl;obtain ⟨v1,k1,d1⟩:=g 1 (.list items.length (zfp items)) (by omega) rfl;obtain ⟨rfl,w0⟩:=zcx d0;obtain ⟨ai,ci,rfl,h1⟩:=zaz d1;exact ⟨b,off,ai,ci,ha,hb,k0,k1,w0,h1⟩
theorem zjh {w:World} {A:Nat->Prop} {a:OA} {l:List It} (h:DAt w A a l.length (zfp l)):Fx.zcd w a l/\Fx.AllFit l:=by
 rcases h.2.2 with h | ⟨b,off,cs,ha,_,hb,hc,hx⟩
 . have:l=[]:=vam h
   subst this;exact ⟨Or.inl rfl,fun i hi=>by cases hi⟩
 . have g:∀ i (hi:i<l.length) j d,j<4->(itD l[i])[j]? = some d->∃ v,w.cell? ⟨b,off+i*4+j,none⟩=some v/\zck w A d v:=fun i hi j d hj hd=>by
    obtain ⟨v,hv,hd'⟩:=hx.get (i*4+j) d ((zdk itD 4 (fun _=>rfl) l i hi j hj).trans hd);exact ⟨v,by rw [vbs];exact hc _ v hv,hd'⟩
   refine ⟨Or.inr ⟨b,off,ha,hb,fun i hi=>?_,fun i hi=>?_,fun i hi=>?_,fun i hi=>?_⟩,fun x hx'=>?_⟩
   . obtain ⟨v,hv,hd⟩:=g i hi 0 (.int l[i].kind) (by omega) rfl
     rw [(zbh hd).1] at hv;exact hv
   . obtain ⟨v,hv,hd⟩:=g i hi 1 (.int l[i].n) (by omega) rfl
     rw [(zbh hd).1] at hv;exact hv
   . obtain ⟨v,hv,hd⟩:=g i hi 2 (.int l[i].at_) (by omega) rfl
     rw [(zbh hd).1] at hv;exact hv
   . obtain ⟨v,hv,hd⟩:=g i hi 3 (.str l[i].name) (by omega) rfl
     rw [(zcx hd).1] at hv;exact hv
   . obtain ⟨i,hi,rfl⟩:=vbu hx'
     obtain ⟨v,hv,hd⟩:=g i hi 3 (.str l[i].name) (by omega) rfl;exact (zcx hd).2
theorem zji {w:World} {a:OA} {l:List It} (h:Fx.zcd w a l) {R:Nat} (hR:w.heap.size<=R):∀ b' off,l≠[]->a=some ⟨b',off,none⟩->b'≠R:=by
 intro b' off hl e
 rcases h with h | ⟨b,o,e2,h⟩
 . exact absurd h hl
 . rw [e] at e2
   have:=vab e2
   injection this with e3 _
   have:=h.lt;omega
theorem Keeps.items {R:Nat} {w w':World} {a:OA} {l:List It} (h:Fx.zcd w a l) (hk:Keeps R w w') (hR:∀ b' off,l≠[]->a=some ⟨b',off,none⟩->b'≠R):Fx.zcd w' a l:=by
 rcases h with h | ⟨b,o,e,h⟩
 . exact Or.inl h
 . by_cases hl:l=[]
   . exact Or.inl hl
   . have hne:=hR b o hl e
     exact Or.inr ⟨b,o,e,vac h.lt hk.size,fun i hi=>(hk.cell h.lt hne).trans (h.kind i hi),fun i hi=>(hk.cell h.lt hne).trans (h.num i hi),fun i hi=>(hk.cell h.lt hne).trans (h.at_ i hi),fun i hi=>(hk.cell h.lt hne).trans (h.name i hi)⟩
end Go.Proofs.YtndkhgakfodldaaGreatDoor
