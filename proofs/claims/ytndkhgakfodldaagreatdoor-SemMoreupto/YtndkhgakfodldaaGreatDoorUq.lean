import Derived.Test.YtndkhgakfodldaaGreatDoorUn
namespace Go.Proofs.YtndkhgakfodldaaGreatDoor
open Go.RowKit Go.Maps Go.WideMaps
set_option linter.unusedSimpArgs false
abbrev Fc:=Fx.Fc
def fcD (f:Fc):List D:=[.str f.name,.list f.items.length (zfq f.items)]
def z0p (l:List Fc):List D:=l.flatMap fcD
def z0q (m:Mo):Kn:=zhl (fun _ _=>none) ⟨#[]⟩ 0 (za2 m)
def zhd (K:Kn) (l:List Fc):Kn:=l.zipIdx.foldl (fun K p=>zhl K p.1.name ((p.2:Int)+1) p.1.items) K
theorem zp2 (K:Kn) (l:List Fc) (f:Fc):zhd K (l++[f])=zhl (zhd K l) f.name ((l.length:Int)+1) f.items:=by
 unfold zhd;rw [List.zipIdx_append,vcd];simp
def zdi (m:Mo) (l:List Fc):Kn:=zhd (z0q m) l
def zbz (K:Kn):List Pr->Except Int (List Pt)
 | []=>.ok []
 | p :: r=>zcr (zjj K p) fun t=>zcr (zbz K r) fun l=>.ok (t :: l)
def zib (m:Mo) (l:List Fc):Except Int Un:=zcr (zbz (zdi m l) m.procs) fun ps=>zcr (zeq (zdi m l) (fun _=>none) m.main) fun b=>.ok ⟨m.name,m.uses,zbv m,ps,b⟩
theorem zht (K:Kn):∀ (a b:List Pr) (acc:List Pt),zbz K a = .ok acc->zbz K (a++b)=zcr (zbz K b) fun l=>.ok (acc++l)
 | [],b,acc,h=>by
   obtain rfl:=vcx h;show zbz K b=_;exact (zmb _).symm
 | x :: a,b,acc,h=>by
   rw [zbz] at h;show zbz K (x :: (a++b))=_;rw [zbz]
   cases hx:zjj K x with
   | error e=>rw [hx] at h;cases h
   | ok y=>
     rw [hx] at h;simp only [zcr] at h ⊢
     cases ha:zbz K a with
     | error e=>rw [ha] at h;cases h
     | ok l=>
       rw [ha] at h;obtain rfl:=vcx h;rw [zht K a b l ha]
       cases zbz K b<;>rfl
theorem zs8 {K:Kn} {l:List Pr} {j:Nat} {acc:List Pt} {e:Int} (h:j<l.length) (ha:zbz K (l.take j) = .ok acc) (he:zjj K l[j] = .error e):zbz K l = .error e:=by
 rw [zme l j h,zht K _ _ acc ha,zbz,he];rfl
theorem zp3 {K:Kn} {l:List Pr} {j:Nat} {acc:List Pt} {y:Pt} (h:j<l.length) (ha:zbz K (l.take j) = .ok acc) (he:zjj K l[j] = .ok y):zbz K (l.take (j+1)) = .ok (acc++[y]):=by
 rw [vaf h,zht K _ _ acc ha,zbz,he];rfl
theorem zs9 {m:Mo} {l:List Fc} {c:Int} (h:zbz (zdi m l) m.procs = .error c):zib m l = .error c:=by unfold zib;rw [h];rfl
theorem zv0 {m:Mo} {l:List Fc} {c:Int} {ps:List Pt} (h:zbz (zdi m l) m.procs = .ok ps) (h2:zeq (zdi m l) (fun _=>none) m.main = .error c):zib m l = .error c:=by unfold zib;rw [h,h2];rfl
theorem z0r {m:Mo} {l:List Fc} {ps:List Pt} {b:List Ac} (h:zbz (zdi m l) m.procs = .ok ps) (h2:zeq (zdi m l) (fun _=>none) m.main = .ok b):zib m l = .ok ⟨m.name,m.uses,zbv m,ps,b⟩:=by unfold zib;rw [h,h2];rfl
def zv1 (lo:Nat) (r:Except Int Un) (e:Ending) (w:World):Prop:=
 match r with
 | .error c=>e = .returned (.tuple #[.agg #[.string ⟨#[]⟩,.slice none 0 0,.int .i64 0,.slice none 0 0,.slice none 0 0],.int .i64 c])/\c≠0
 | .ok u=>∃ x1 y1 x2 y2 x3 y3,e = .returned (.tuple #[.agg #[.string u.name,.slice x1 u.uses.length y1,.int .i64 u.data,.slice x2 u.parts.length y2,.slice x3 u.main.length y3],.int .i64 0])/\
   EAt w (lo<=·) x1 u.uses.length (zal u.uses)/\EAt w (lo<=·) x2 u.parts.length (zjw u.parts)/\EAt w (lo<=·) x3 u.main.length (zch u.main)
theorem DAt.fc {w:World} {A:Nat->Prop} {a:OA} {l:List Fc} (h:DAt w A a l.length (z0p l)) (i:Nat) (hi:i<l.length):∃ b off ai ci,a=some ⟨b,off,none⟩/\b<w.heap.size/\w.cell? ⟨b,off+i*2,none⟩=some (.string l[i].name)/\w.cell? ⟨b,off+i*2+1,none⟩=some (.slice ai l[i].items.length ci)/\l[i].name.size<=maxLen/\DAt w A ai l[i].items.length (zfq l[i].items):=by
 obtain ⟨b,off,ha,hb,hc⟩:=h.cell (by omega);generalize hx:l[i]=x;obtain ⟨name,items⟩:=x
 have g:∀ j d,j<2->(fcD ⟨name,items⟩)[j]? = some d->∃ v,w.cell? ⟨b,off+i*2+j,none⟩=some v/\zcl w A d v:=fun j d hj hd=>by
  rw [vbr];exact hc (i*2+j) d ((zdm fcD 2 (fun _=>rfl) l i hi j hj).trans (by rw [hx];exact hd))
 obtain ⟨v0,k0,d0⟩:=g 0 (.str name) (by omega) rfl;obtain ⟨v1,k1,d1⟩:=g 1 (.list items.length (zfq items)) (by omega) rfl;obtain ⟨rfl,w0⟩:=zcz d0;obtain ⟨ai,ci,rfl,h1⟩:=za0 d1;exact ⟨b,off,ai,ci,ha,hb,k0,k1,w0,h1⟩
theorem zjk {w:World} {A:Nat->Prop} {a:OA} {l:List It} (h:DAt w A a l.length (zfq l)):Fx.zce w a l/\Fx.AllFit l:=by
 rcases h.2.2 with h | ⟨b,off,cs,ha,_,hb,hc,hx⟩
 . have:l=[]:=vam h
   subst this;exact ⟨Or.inl rfl,fun i hi=>by cases hi⟩
 . have g:∀ i (hi:i<l.length) j d,j<4->(itD l[i])[j]? = some d->∃ v,w.cell? ⟨b,off+i*4+j,none⟩=some v/\zcl w A d v:=fun i hi j d hj hd=>by
    obtain ⟨v,hv,hd'⟩:=hx.get (i*4+j) d ((zdm itD 4 (fun _=>rfl) l i hi j hj).trans hd);exact ⟨v,by rw [vbr];exact hc _ v hv,hd'⟩
   refine ⟨Or.inr ⟨b,off,ha,hb,fun i hi=>?_,fun i hi=>?_,fun i hi=>?_,fun i hi=>?_⟩,fun x hx'=>?_⟩
   . obtain ⟨v,hv,hd⟩:=g i hi 0 (.int l[i].kind) (by omega) rfl
     rw [(zbi hd).1] at hv;exact hv
   . obtain ⟨v,hv,hd⟩:=g i hi 1 (.int l[i].n) (by omega) rfl
     rw [(zbi hd).1] at hv;exact hv
   . obtain ⟨v,hv,hd⟩:=g i hi 2 (.int l[i].at_) (by omega) rfl
     rw [(zbi hd).1] at hv;exact hv
   . obtain ⟨v,hv,hd⟩:=g i hi 3 (.str l[i].name) (by omega) rfl
     rw [(zcz hd).1] at hv;exact hv
   . obtain ⟨i,hi,rfl⟩:=vby hx'
     obtain ⟨v,hv,hd⟩:=g i hi 3 (.str l[i].name) (by omega) rfl;exact (zcz hd).2
theorem zjl {w:World} {a:OA} {l:List It} (h:Fx.zce w a l) {R:Nat} (hR:w.heap.size<=R):∀ b' off,l≠[]->a=some ⟨b',off,none⟩->b'≠R:=by
 intro b' off hl e
 rcases h with h | ⟨b,o,e2,h⟩
 . exact absurd h hl
 . rw [e] at e2
   have:=vab e2
   injection this with e3 _
   have:=h.lt;omega
theorem Keeps.items {R:Nat} {w w':World} {a:OA} {l:List It} (h:Fx.zce w a l) (hk:Keeps R w w') (hR:∀ b' off,l≠[]->a=some ⟨b',off,none⟩->b'≠R):Fx.zce w' a l:=by
 rcases h with h | ⟨b,o,e,h⟩
 . exact Or.inl h
 . by_cases hl:l=[]
   . exact Or.inl hl
   . have hne:=hR b o hl e
     exact Or.inr ⟨b,o,e,vac h.lt hk.size,fun i hi=>(hk.cell h.lt hne).trans (h.kind i hi),fun i hi=>(hk.cell h.lt hne).trans (h.num i hi),fun i hi=>(hk.cell h.lt hne).trans (h.at_ i hi),fun i hi=>(hk.cell h.lt hne).trans (h.name i hi)⟩
end Go.Proofs.YtndkhgakfodldaaGreatDoor
