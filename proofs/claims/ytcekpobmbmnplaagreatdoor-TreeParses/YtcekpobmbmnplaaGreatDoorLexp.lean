/-
  What the tokens of a text are, said without the program: piece by piece from the left; and that the document's way to part the text comes to the same pieces.
-/
import Derived.Test.YtcekpobmbmnplaaGreatDoorTd
import Derived.Deep.QuietTactic
import Derived.BigQuiet
namespace Go.Proofs.YtcekpobmbmnplaaGreatDoor
open Go.RowKit
def zcf (c:UInt8):Bool:=c == 32||c == 10
def zc6 (s:ByteArray) (a:Nat):Option (List Tk):=
 if h:a<s.size then
  if zcf s[a] then zc6 s (a+Lx.pieceN s a)
  else match zcg (s.extract a (a+Lx.pieceN s a)) with
   | none=>none
   | some t=>(zc6 s (a+Lx.pieceN s a)).map (t :: ·)
 else some []
termination_by s.size - a
decreasing_by
 all_goals have:=Lx.pieceN_pos s a;omega
theorem zj6 (s:ByteArray) (a:Nat) (h:¬ a<s.size):zc6 s a=some []:=by rw [zc6,dif_neg h]
theorem zj7 (s:ByteArray) (a:Nat) (h:a<s.size) (hb:zcf s[a]=true):zc6 s a=zc6 s (a+Lx.pieceN s a):=by
 rw [zc6,dif_pos h,if_pos hb]
theorem zlz (s:ByteArray) (a:Nat) (h:a<s.size) (hb:zcf s[a]=false) (ht:zcg (s.extract a (a+Lx.pieceN s a))=none):zc6 s a=none:=by
 rw [zc6,dif_pos h,if_neg (by simp [hb]),ht]
theorem zl0 (s:ByteArray) (a:Nat) (t:Tk) (h:a<s.size) (hb:zcf s[a]=false) (ht:zcg (s.extract a (a+Lx.pieceN s a))=some t):zc6 s a=(zc6 s (a+Lx.pieceN s a)).map (t :: ·):=by
 rw [zc6,dif_pos h,if_neg (by simp [hb]),ht]
def zbi (s:ByteArray) (a:Nat) (ts:List Tk):Prop:=zc6 s 0=(zc6 s a).map (ts++·)
theorem zbi.start (s:ByteArray):zbi s 0 []:=by
 unfold zbi;cases zc6 s 0<;>rfl
theorem zbi.blank {s:ByteArray} {a:Nat} {ts:List Tk} (h:zbi s a ts) (ha:a<s.size) (hb:zcf s[a]=true):zbi s (a+Lx.pieceN s a) ts:=by
 unfold zbi at *;rw [h,zj7 s a ha hb]
theorem zbi.tok {s:ByteArray} {a:Nat} {ts:List Tk} {t:Tk} (h:zbi s a ts) (ha:a<s.size) (hb:zcf s[a]=false) (ht:zcg (s.extract a (a+Lx.pieceN s a))=some t):zbi s (a+Lx.pieceN s a) (ts++[t]):=by
 unfold zbi at *;rw [h,zl0 s a t ha hb ht]
 cases zc6 s (a+Lx.pieceN s a)<;>simp
theorem zbi.stop {s:ByteArray} {a:Nat} {ts:List Tk} (h:zbi s a ts) (ha:a<s.size) (hb:zcf s[a]=false) (ht:zcg (s.extract a (a+Lx.pieceN s a))=none):zc6 s 0=none:=by
 unfold zbi at *;rw [h,zlz s a ha hb ht];rfl
theorem zbi.done {s:ByteArray} {a:Nat} {ts:List Tk} (h:zbi s a ts) (ha:¬ a<s.size):zc6 s 0=some ts:=by
 unfold zbi at *;rw [h,zj6 s a ha];simp
def lexT (s:ByteArray):List Tk:=if 4096<s.size then [] else (zc6 s 0).getD []
def lexE (s:ByteArray):Int:=if 4096<s.size then 2 else if (zc6 s 0).isSome then 0 else 1
theorem zm0 {s:ByteArray} (h:4096<s.size):lexT s=[]/\lexE s=2:=⟨if_pos h,if_pos h⟩
theorem zj8 {s:ByteArray} (h:¬ 4096<s.size) (hn:zc6 s 0=none):lexT s=[]/\lexE s=1:=by
 unfold lexT lexE;rw [if_neg h,if_neg h,hn];exact ⟨rfl,rfl⟩
theorem zgh {s:ByteArray} {ts:List Tk} (h:¬ 4096<s.size) (hn:zc6 s 0=some ts):lexT s=ts/\lexE s=0:=by
 unfold lexT lexE;rw [if_neg h,if_neg h,hn];exact ⟨rfl,rfl⟩
theorem zfp {c:UInt8} (h:Lx.signB c=true):Lx.alnB c=false/\zcf c=false:=by
 unfold Lx.signB at h;rw [List.contains_iff_mem] at h;simp only [Lx.signs,List.mem_cons,List.not_mem_nil,or_false] at h
 rcases h with h | h | h | h | h | h | h | h | h | h | h | h | h | h | h | h | h | h | h
 all_goals subst h;exact ⟨rfl,rfl⟩
theorem zj9 {c:UInt8} (h:zcf c=true):Lx.alnB c=false/\Lx.signB c=false:=by
 unfold zcf at h;simp only [Bool.or_eq_true,beq_iff_eq] at h
 rcases h with h | h
 all_goals subst h;exact ⟨rfl,rfl⟩
theorem zh5 {c:UInt8} (h:Lx.alnB c=true):Lx.signB c=false/\zcf c=false:=by
 constructor
 . cases hs:Lx.signB c with
   | false=>rfl
   | true=>rw [(zfp hs).1] at h;cases h
 . cases hs:zcf c with
   | false=>rfl
   | true=>rw [(zj9 hs).1] at h;cases h
theorem zix (s:ByteArray) (a n:Nat):(s.extract a (a+n)).data.toList=(s.data.toList.drop a).take n:=by
 rw [Lib.extract_data,show a+n - a=n from by omega]
theorem zh6 (s:ByteArray) (a:Nat) (h:a<s.size):s.data.toList.drop a=s[a] :: s.data.toList.drop (a+1):=by
 rw [List.drop_eq_getElem_cons (by rw [Lx.len_toList];exact h)];rfl
theorem zm1 (s:ByteArray) (a:Nat) (h:a<s.size):Lx.runN s a=0↔Lx.alnB s[a]=false:=by
 unfold Lx.runN Lx.runL;rw [zh6 s a h,List.takeWhile_cons]
 cases Lx.alnB s[a]<;>simp
theorem zod (s:ByteArray) (a:Nat) (h:a<s.size):(s.extract a (a+1)).data.toList=[s[a]]:=by
 rw [zix,zh6 s a h];simp
theorem zhk (s:ByteArray) (a:Nat) (h:a<s.size) (hr:0<Lx.runN s a):Lx.signL (s.extract a (a+Lx.runN s a)).data.toList=false:=by
 have ha:Lx.alnB s[a]=true:=by
  cases hb:Lx.alnB s[a] with
  | true=>rfl
  | false=>rw [(zm1 s a h).2 hb] at hr;omega
 rw [zix,zh6 s a h]
 obtain ⟨m,hm⟩:∃ m,Lx.runN s a=m+1:=⟨Lx.runN s a - 1,by omega⟩
 rw [hm,List.take_succ_cons]
 cases hk:List.take m (s.data.toList.drop (a+1)) with
 | nil=>exact (zh5 ha).1
 | cons x r=>rfl
theorem zhl (s:ByteArray) (a:Nat) (h:a<s.size) (hr:0<Lx.runN s a):zcf s[a]=false/\Lx.pieceN s a=Lx.runN s a:=by
 have ha:Lx.alnB s[a]=true:=by
  cases hb:Lx.alnB s[a] with
  | true=>rfl
  | false=>rw [(zm1 s a h).2 hb] at hr;omega
 exact ⟨(zh5 ha).2,Lx.pieceN_of s a _ hr rfl⟩
theorem zq3 (s:ByteArray) (a:Nat) (h:a<s.size) (hr:0<Lx.runN s a) (hn:Lx.nameB (s.extract a (a+Lx.runN s a)).data.toList=true) :
 zcg (s.extract a (a+Lx.pieceN s a))=some ⟨1,0,s.extract a (a+Lx.runN s a)⟩:=by
 rw [(zhl s a h hr).2];unfold zcg;rw [zhk s a h hr,hn];rfl
theorem zur (s:ByteArray) (a:Nat) (h:a<s.size) (hr:0<Lx.runN s a) (hn:Lx.nameB (s.extract a (a+Lx.runN s a)).data.toList=false) (hk:Lx.numOk (s.extract a (a+Lx.runN s a)).data.toList=true) :
 zcg (s.extract a (a+Lx.pieceN s a))=some ⟨2,Lx.valL (s.extract a (a+Lx.runN s a)).data.toList,⟨#[]⟩⟩:=by
 rw [(zhl s a h hr).2];unfold zcg;rw [zhk s a h hr,hn,hk];rfl
theorem zus (s:ByteArray) (a:Nat) (h:a<s.size) (hr:0<Lx.runN s a) (hn:Lx.nameB (s.extract a (a+Lx.runN s a)).data.toList=false) (hk:Lx.numOk (s.extract a (a+Lx.runN s a)).data.toList=false) :
 zcg (s.extract a (a+Lx.pieceN s a))=none:=by
 rw [(zhl s a h hr).2];unfold zcg;rw [zhk s a h hr,hn,hk];rfl
theorem zg1 (s:ByteArray) (a:Nat) (hr:Lx.runN s a=0):Lx.pieceN s a=1:=by unfold Lx.pieceN;rw [if_pos hr]
theorem zq4 (s:ByteArray) (a:Nat) (h:a<s.size) (hr:Lx.runN s a=0) (hs:Lx.signB s[a]=true) :
 zcg (s.extract a (a+Lx.pieceN s a))=some ⟨3,0,s.extract a (a+1)⟩:=by
 rw [zg1 s a hr];unfold zcg;rw [zod s a h]
 have:Lx.signL [s[a]]=true:=hs
 rw [this];rfl
theorem zq5 (s:ByteArray) (a:Nat) (h:a<s.size) (hr:Lx.runN s a=0) (hs:Lx.signB s[a]=false) :
 zcg (s.extract a (a+Lx.pieceN s a))=none:=by
 have hal:=(zm1 s a h).1 hr
 have hl:Lx.letB s[a]=false:=by unfold Lx.alnB at hal;simp at hal;exact hal.1
 have hd:Lx.digB s[a]=false:=by unfold Lx.alnB at hal;simp at hal;exact hal.2
 rw [zg1 s a hr];unfold zcg;rw [zod s a h]
 have h1:Lx.signL [s[a]]=false:=hs
 have h2:Lx.nameB [s[a]]=false:=by unfold Lx.nameB;simp [Lx.headLet,hl]
 have h3:Lx.numOk [s[a]]=false:=Lx.numOk_nondigit _ (by simp [hd])
 rw [h1,h2,h3];rfl
def tkCells (t:Tk):List Value:=[.int .i64 t.kind,.int .i64 t.n,.string t.text]
def cellsOf (ts:List Tk):List Value:=ts.flatMap tkCells
theorem zgi (ts:List Tk) (t:Tk):cellsOf (ts++[t])=cellsOf ts++tkCells t:=by simp [cellsOf,List.flatMap_append]
theorem zka:∀ (ts:List Tk) (i:Nat) (h:i<ts.length),(cellsOf ts)[i*3]? = some (.int .i64 ts[i].kind)/\(cellsOf ts)[i*3+1]? = some (.int .i64 ts[i].n)/\(cellsOf ts)[i*3+2]? = some (.string ts[i].text)
 | [],i,h=>by simp at h
 | t :: r,0,_=>⟨rfl,rfl,rfl⟩
 | t :: r,i+1,h=>by
   have ih:=zka r i (by simpa using h)
   have e:cellsOf (t :: r) = .int .i64 t.kind :: .int .i64 t.n :: .string t.text :: cellsOf r:=by simp [cellsOf,tkCells]
   rw [e,show (i+1)*3=i*3+1+1+1 from by omega];simpa using ih
def zcx (ts:List Tk):Prop:=∀ i (h:i<ts.length),ts[i].fits
theorem zcx.nil:zcx []:=fun i h=>by simp at h
theorem zcx.snoc {ts:List Tk} {t:Tk} (h:zcx ts) (ht:t.fits):zcx (ts++[t]):=by
 intro i hi
 by_cases hl:i<ts.length
 . rw [List.getElem_append_left hl];exact h i hl
 . have:i=ts.length:=by simp at hi;omega
   subst this
   simp;exact ht
theorem zg2 {w:World} {B:Nat} {v:Value} {ts:List Tk} (h:w.ownsRow B 68 3 v ts.length (cellsOf ts)) (hf:zcx ts):∃ a cap,v = .slice a ts.length cap/\zb9 w a ts:=by
 obtain ⟨h1,h2⟩:=h
 rcases h2 with ⟨hv,h0⟩ | ⟨g,cap,cur,hv,hg,hc,hn,hm,hsz,htk⟩
 . have:ts=[]:=List.eq_nil_of_length_eq_zero h0
   subst this;exact ⟨none,0,hv,Or.inl rfl⟩
 . refine ⟨some ⟨g,0,none⟩,cap,hv,Or.inr ⟨g,0,rfl,zac hc,?_,?_,?_,hf⟩⟩
   all_goals
    intro i hi;have hx:=zka ts i hi;rw [Lib.cell_of_heap hc];rw [← htk] at hx;simp only [List.getElem?_take,Array.getElem?_toList] at hx;rw [if_pos (by omega),if_pos (by omega),if_pos (by omega)] at hx;simp only [Nat.zero_add]
   . exact hx.1
   . exact hx.2.1
   . exact hx.2.2
end Go.Proofs.YtcekpobmbmnplaaGreatDoor

namespace Go.Proofs.YtcekpobmbmnplaaGreatDoor
open Go.RowKit
mutual
def zfv (w:World) (A:Nat->Prop):D->Value->Prop
 | .int n,v=>v = .int .i64 n
 | .str s,v=>v = .string s/\s.size<=maxLen
 | .bool b,v=>v = .bool b
 | .list n ds,v=>∃ a cap,v = .slice a n cap/\(n=0\/∃ b off cs,a=some ⟨b,off,none⟩/\A b/\b<w.heap.size/\zf7 w b off cs/\zbg w A ds cs)
def zbg (w:World) (A:Nat->Prop):List D->List Value->Prop
 | [],cs=>cs=[]
 | d :: ds,cs=>∃ v r,cs=v :: r/\zfv w A d v/\zbg w A ds r
end
mutual
theorem zfv.moves {A A':Nat->Prop} {w w':World} (hs:Moves w A w' A'):∀ (d:D) (v:Value),zfv w A d v->zfv w' A' d v
 | .int _,_,h=>h
 | .str _,_,h=>h
 | .bool _,_,h=>h
 | .list n ds,v,h=>by
   unfold zfv at h ⊢;obtain ⟨a,cap,h1,h4⟩:=h;refine ⟨a,cap,h1,?_⟩
   rcases h4 with h4 | ⟨b,off,cs,ha,hl,hb,hc,hx⟩
   . exact Or.inl h4
   . exact Or.inr ⟨b,off,cs,ha,(hs.2 b hb hl).1,Nat.lt_of_lt_of_le hb hs.1,hc.moves hs hl hb,zbg.moves hs ds cs hx⟩
theorem zbg.moves {A A':Nat->Prop} {w w':World} (hs:Moves w A w' A'):∀ (l:List D) (cs:List Value),zbg w A l cs->zbg w' A' l cs
 | [],_,h=>h
 | d :: ds,cs,h=>by
   unfold zbg at h ⊢;obtain ⟨v,r,h1,h2,h3⟩:=h;exact ⟨v,r,h1,zfv.moves hs d v h2,zbg.moves hs ds r h3⟩
end
theorem zfv.one {w:World} {lo:Nat->Prop}:∀ {d:D} {v:Value},zfv w lo d v->v.oneCell'=true
 | .int _,_,h=>by unfold zfv at h;rw [h];rfl
 | .str _,_,h=>by unfold zfv at h;rw [h.1];rfl
 | .bool _,_,h=>by unfold zfv at h;rw [h];rfl
 | .list _ _,_,h=>by unfold zfv at h;obtain ⟨a,cap,h,_⟩:=h;rw [h];rfl
theorem zbg.one {w:World} {lo:Nat->Prop}:∀ {l:List D} {cs:List Value},zbg w lo l cs->∀ u ∈ cs,u.oneCell'=true
 | [],_,h=>by unfold zbg at h;rw [h];intro u hu;cases hu
 | d :: ds,cs,h=>by
   unfold zbg at h;obtain ⟨v,r,rfl,h2,h3⟩:=h;intro u hu
   rcases List.mem_cons.1 hu with rfl | hu
   . exact h2.one
   . exact zbg.one h3 u hu
theorem zbg.len {w:World} {lo:Nat->Prop}:∀ {l:List D} {cs:List Value},zbg w lo l cs->cs.length=l.length
 | [],_,h=>by unfold zbg at h;rw [h];rfl
 | d :: ds,cs,h=>by
   unfold zbg at h;obtain ⟨v,r,rfl,h2,h3⟩:=h;simp [zbg.len h3]
theorem zbg.nil {w:World} {lo:Nat->Prop}:zbg w lo [] []:=by unfold zbg;rfl
theorem zbg.cons {w:World} {lo:Nat->Prop} {d:D} {ds:List D} {v:Value} {cs:List Value} (h:zfv w lo d v) (k:zbg w lo ds cs):zbg w lo (d :: ds) (v :: cs):=by
 unfold zbg;exact ⟨v,cs,rfl,h,k⟩
theorem zbg.append {w:World} {lo:Nat->Prop}:∀ {l m:List D} {cs es:List Value},zbg w lo l cs->zbg w lo m es->zbg w lo (l++m) (cs++es)
 | [],m,cs,es,h,k=>by unfold zbg at h;subst h;exact k
 | d :: ds,m,cs,es,h,k=>by
   unfold zbg at h;obtain ⟨v,r,rfl,h2,h3⟩:=h;exact zbg.cons h2 (zbg.append h3 k)
theorem zbg.get {w:World} {lo:Nat->Prop}:∀ {l:List D} {cs:List Value},zbg w lo l cs->∀ (j:Nat) (d:D),l[j]? = some d->∃ v,cs[j]? = some v/\zfv w lo d v
 | [],_,_,j,d,hj=>by simp at hj
 | e :: ds,cs,h,j,d,hj=>by
   unfold zbg at h;obtain ⟨v,r,rfl,h2,h3⟩:=h
   cases j with
   | zero=>simp at hj;subst hj;exact ⟨v,rfl,h2⟩
   | succ j=>simpa using zbg.get h3 j d (by simpa using hj)
theorem z2j {w:World} {lo:Nat->Prop} {n:Int}:zfv w lo (.int n) (.int .i64 n):=by unfold zfv;rfl
theorem zs9 {w:World} {lo:Nat->Prop} {s:ByteArray} (h:s.size<=maxLen):zfv w lo (.str s) (.string s):=by unfold zfv;exact ⟨rfl,h⟩
theorem z2k {w:World} {lo:Nat->Prop} {b:Bool}:zfv w lo (.bool b) (.bool b):=by unfold zfv;rfl
def EAt (w:World) (lo:Nat->Prop) (a:Option Addr) (n:Nat) (ds:List D):Prop:=n=0\/∃ b off cs,a=some ⟨b,off,none⟩/\lo b/\b<w.heap.size/\zf7 w b off cs/\zbg w lo ds cs
theorem EAt.val {w:World} {lo:Nat->Prop} {n cap:Nat} {a:Option Addr} {ds:List D} (h:EAt w lo a n ds):zfv w lo (.list n ds) (.slice a n cap):=by unfold zfv;exact ⟨a,cap,rfl,h⟩
theorem EAt.moves {A A':Nat->Prop} {w w':World} {n:Nat} {a:Option Addr} {ds:List D} (h:EAt w A a n ds) (hs:Moves w A w' A'):EAt w' A' a n ds:=by
 rcases h with h4 | ⟨b,off,cs,ha,hl,hb,hc,hx⟩
 . exact Or.inl h4
 . exact Or.inr ⟨b,off,cs,ha,(hs.2 b hb hl).1,Nat.lt_of_lt_of_le hb hs.1,hc.moves hs hl hb,zbg.moves hs ds cs hx⟩
theorem EAt.of_own {w:World} {A:Nat->Prop} {base n cap:Nat} {a:Option Addr} {e:TypeId} {size:Nat} {ds:List D} {xs:List Value} (h:w.ownsRow base e size (.slice a n cap) n xs) (hl:∀ b,base<=b->A b) (hx:zbg w A ds xs):EAt w A a n ds:=by
 rcases h.2 with ⟨h1,h2⟩ | ⟨g,cap',cur,h1,hb,hg,hn,hc,hs,ht⟩
 . exact Or.inl h2
 . injection h1 with h1 _ _
   refine Or.inr ⟨g,0,xs,h1,hl g hb,zac hg,fun j u hj=>?_,hx⟩;have:=h.cells (g:=g) (by rw [h1];rfl) j u hj;rw [Nat.zero_add]
   have e:(⟨g,0,none⟩:Addr).add j=⟨g,j,none⟩:=by unfold Addr.add;split<;>simp_all
   rwa [e] at this
mutual
def D.fine:D->Prop
 | .int n=>(Lit.int .i64 n).wf=true
 | .str _=>True
 | .bool _=>True
 | .list n ds=>n<=ds.length/\ds.length<=17592186044416/\D.fines ds
def D.fines:List D->Prop
 | []=>True
 | d :: ds=>d.fine/\D.fines ds
end
mutual
theorem zfv.toD {A:Nat->Prop} {w:World}:∀ (d:D) (v:Value),zfv w A d v->d.fine->zel w A d v
 | .int _,_,h,k=>by unfold zfv at h;unfold D.fine at k;unfold zel;exact ⟨h,k⟩
 | .str _,_,h,_=>by unfold zfv at h;unfold zel;exact h
 | .bool _,_,h,_=>by unfold zfv at h;unfold zel;exact h
 | .list n ds,v,h,k=>by
   unfold zfv at h;unfold D.fine at k;unfold zel;obtain ⟨a,cap,h1,h4⟩:=h;refine ⟨a,cap,h1,k.1,k.2.1,?_⟩
   rcases h4 with h4 | ⟨b,off,cs,ha,hl,hb,hc,hx⟩
   . exact Or.inl h4
   . exact Or.inr ⟨b,off,cs,ha,hl,hb,hc,zbg.toD ds cs hx k.2.2⟩
theorem zbg.toD {A:Nat->Prop} {w:World}:∀ (l:List D) (cs:List Value),zbg w A l cs->D.fines l->zbn w A l cs
 | [],_,h,_=>by unfold zbg at h;unfold zbn;exact h
 | d :: ds,cs,h,k=>by
   unfold zbg at h;unfold D.fines at k;unfold zbn;obtain ⟨v,r,h1,h2,h3⟩:=h;exact ⟨v,r,h1,zfv.toD d v h2 k.1,zbg.toD ds r h3 k.2⟩
end
theorem EAt.toD {A:Nat->Prop} {w:World} {a:Option Addr} {n:Nat} {ds:List D} (h:EAt w A a n ds) (h1:n<=ds.length) (h2:ds.length<=17592186044416) (k:D.fines ds):DAt w A a n ds:=by
 refine ⟨h1,h2,?_⟩
 rcases h with h | ⟨b,off,cs,ha,hl,hb,hc,hx⟩
 . exact Or.inl h
 . exact Or.inr ⟨b,off,cs,ha,hl,hb,hc,hx.toD _ _ k⟩
theorem D.fines_append:∀ {l m:List D},D.fines l->D.fines m->D.fines (l++m)
 | [],_,_,k=>k
 | d :: ds,m,h,k=>by
   unfold D.fines at h;show D.fines (d :: (ds++m));unfold D.fines;exact ⟨h.1,D.fines_append h.2 k⟩
end Go.Proofs.YtcekpobmbmnplaaGreatDoor

namespace Go.Proofs.YtcekpobmbmnplaaGreatDoor
open Go.RowKit
abbrev tModule:ByteArray:=⟨#[109,111,100,117,108,101]⟩
abbrev tUse:ByteArray:=⟨#[117,115,101]⟩
abbrev tPub:ByteArray:=⟨#[112,117,98]⟩
abbrev tConst:ByteArray:=⟨#[99,111,110,115,116]⟩
abbrev tVar:ByteArray:=⟨#[118,97,114]⟩
abbrev tArray:ByteArray:=⟨#[97,114,114,97,121]⟩
abbrev tProc:ByteArray:=⟨#[112,114,111,99]⟩
abbrev zar:ByteArray:=⟨#[108,111,99,97,108]⟩
abbrev tMain:ByteArray:=⟨#[109,97,105,110]⟩
abbrev tIf:ByteArray:=⟨#[105,102]⟩
abbrev tElse:ByteArray:=⟨#[101,108,115,101]⟩
abbrev tWhile:ByteArray:=⟨#[119,104,105,108,101]⟩
abbrev tReturn:ByteArray:=⟨#[114,101,116,117,114,110]⟩
abbrev tOut:ByteArray:=⟨#[111,117,116]⟩
abbrev tIn:ByteArray:=⟨#[105,110]⟩
abbrev tLb:ByteArray:=⟨#[123]⟩
abbrev tRb:ByteArray:=⟨#[125]⟩
abbrev tLp:ByteArray:=⟨#[40]⟩
abbrev tRp:ByteArray:=⟨#[41]⟩
abbrev tLs:ByteArray:=⟨#[91]⟩
abbrev tRs:ByteArray:=⟨#[93]⟩
abbrev tCom:ByteArray:=⟨#[44]⟩
abbrev tSem:ByteArray:=⟨#[59]⟩
abbrev tEq:ByteArray:=⟨#[61]⟩
abbrev tDot:ByteArray:=⟨#[46]⟩
abbrev tNot:ByteArray:=⟨#[33]⟩
def zzz:List (List UInt8):=[[109,111,100,117,108,101],[117,115,101],[112,117,98],[99,111,110,115,116],[118,97,114],[97,114,114,97,121],[112,114,111,99],[108,111,99,97,108],[109,97,105,110],[105,102],[101,108,115,101],[119,104,105,108,101],[114,101,116,117,114,110],[111,117,116],[105,110]]
def opTexts:List ByteArray:=[⟨#[38]⟩,⟨#[124]⟩,⟨#[43]⟩,⟨#[45]⟩,⟨#[42]⟩,⟨#[47]⟩,⟨#[37]⟩,⟨#[61]⟩,⟨#[60]⟩]
def zkf (s:ByteArray):Bool:=zzz.any (fun k=>s.toList == k)
def noTk:Tk:=⟨0,0,⟨#[]⟩⟩
def hd (l:List Tk):Tk:=l.getD 0 noTk
def skB (l:List Tk) (t:ByteArray):Bool:=(hd l).text.toList == t.toList
def zjh (l:List Tk) (ts:List ByteArray):Option ByteArray:=ts.find? (fun t=>skB l t)
def zc3 (l:List Tk):Option (ByteArray × List Tk):=if ((hd l).kind == 1 && !zkf (hd l).text)=true then some ((hd l).text,l.tail) else none
def zh9 (l:List Tk):Option (Int × List Tk):=if (hd l).kind=2 then some ((hd l).n,l.tail) else none
def zok (l:List Tk):Option ((ByteArray × ByteArray) × List Tk):=
 match zc3 l with
 | none=>none
 | some (a,l1)=>if skB l1 tDot then (match zc3 l1.tail with | none=>none | some (b,l2)=>some ((a,b),l2)) else some ((⟨#[]⟩,a),l1)
def zm4 (l:List Tk):Option Nat:=opTexts.findIdx? (fun t=>skB l t)
mutual
def zbd:Nat->List Tk->Option (Ex × List Tk)
 | 0,_=>none
 | f+1,l=>
   if (hd l).kind=2 then some (.mk 1 (hd l).n ⟨#[]⟩ ⟨#[]⟩ [],l.tail)
   else if skB l tIn then some (.mk 2 0 ⟨#[]⟩ ⟨#[]⟩ [],l.tail)
   else if skB l tNot then (match zbd f l.tail with | none=>none | some (x,l1)=>some (.mk 6 0 ⟨#[]⟩ ⟨#[]⟩ [x],l1))
   else if skB l tLp then zf0 f l.tail
   else match zok l with
    | none=>none
    | some ((m,n),l1)=>
      if skB l1 tLs then (match zbd f l1.tail with | none=>none | some (x,l2)=>if skB l2 tRs then some (.mk 4 0 m n [x],l2.tail) else none)
      else if skB l1 tLp then (match zd4 f l1.tail with | none=>none | some (xs,l2)=>some (.mk 5 0 m n xs,l2))
      else some (.mk 3 0 m n [],l1)
def zf0:Nat->List Tk->Option (Ex × List Tk)
 | 0,_=>none
 | f + 1,l=>
   match zbd f l with
   | none=>none
   | some (a,l1)=>match zm4 l1 with
     | none=>none
     | some k=>match zbd f l1.tail with
       | none=>none
       | some (b,l2)=>if skB l2 tRp then some (.mk (7+k) 0 ⟨#[]⟩ ⟨#[]⟩ [a,b],l2.tail) else none
def zd4:Nat->List Tk->Option (List Ex × List Tk)
 | 0,_=>none
 | f+1,l=>
   if skB l tRp then some ([],l.tail)
   else match zbd f l with
    | none=>none
    | some (x,l1)=>ze0 f [x] l1
def ze0:Nat->List Ex->List Tk->Option (List Ex × List Tk)
 | 0,_,_=>none
 | f+1,acc,l=>
   if skB l tCom then (match zbd f l.tail with | none=>none | some (x,l1)=>ze0 f (acc++[x]) l1)
   else if skB l tRp then some (acc,l.tail) else none
end
theorem zra {l:List Tk} {t:ByteArray} (ht:0<t.size) (h:skB l t=true):l≠[]:=by
 rintro rfl;unfold skB at h
 have e:(hd ([]:List Tk)).text.toList=[]:=by rw [Lib.toList_data];rfl
 rw [e,Lib.toList_data] at h;have h1:t.data.toList=[]:=(beq_iff_eq.1 h).symm;have h2:=Lx.len_toList t;rw [h1] at h2;simp at h2;omega
theorem ziy {l:List Tk} (h:l≠[]):l.tail.length<l.length:=by cases l with | nil=>exact absurd rfl h | cons x r=>simp
theorem zaq {l:List Tk} {t:ByteArray} (ht:0<t.size) (h:skB l t=true):l.tail.length<l.length:=ziy (zra ht h)
theorem zkg {l:List Tk} (h:(hd l).kind≠0):l≠[]:=by rintro rfl;exact h rfl
theorem zb6 {l l':List Tk} {a:ByteArray} (h:zc3 l=some (a,l')):l'.length<l.length:=by
 unfold zc3 at h
 split at h
 . rename_i hk
   have hk':(hd l).kind=1:=by
    simp only [Bool.and_eq_true,beq_iff_eq] at hk;exact hk.1
   obtain ⟨_,rfl⟩:=Prod.mk.inj (Option.some.inj h);exact ziy (zkg (by rw [hk'];decide))
 . cases h
theorem zu6 {l l':List Tk} {a:Int} (h:zh9 l=some (a,l')):l'.length<l.length:=by
 unfold zh9 at h
 split at h
 . rename_i hk
   obtain ⟨_,rfl⟩:=Prod.mk.inj (Option.some.inj h);exact ziy (zkg (by rw [hk];decide))
 . cases h
theorem zpx {l l':List Tk} {a:ByteArray × ByteArray} (h:zok l=some (a,l')):l'.length<l.length:=by
 unfold zok at h
 split at h
 . cases h
 . rename_i a1 l1 h1
   have:=zb6 h1
   split at h
   . rename_i hs
     have:=zaq (by decide) hs
     split at h
     . cases h
     . rename_i b l2 h2
       have:=zb6 h2;obtain ⟨_,rfl⟩:=Prod.mk.inj (Option.some.inj h);omega
   . obtain ⟨_,rfl⟩:=Prod.mk.inj (Option.some.inj h)
     omega
theorem zu7 {l:List Tk} {k:Nat} (h:zm4 l=some k):l≠[]:=by
 unfold zm4 at h;obtain ⟨hk,h2,_⟩:=List.findIdx?_eq_some_iff_getElem.1 h
 have:0<(opTexts[k]).size:=by
  have:∀ x ∈ opTexts,0<x.size:=by decide
  exact this _ (List.getElem_mem hk)
 exact zra this h2
mutual
theorem zds:∀ (f:Nat) (l l':List Tk) (x:Ex),zbd f l=some (x,l')->l'.length<l.length
 | 0,_,_,_,h=>by simp [zbd] at h
 | f + 1,l,l',x,h=>by
   unfold zbd at h
   split at h
   . rename_i hk
     obtain ⟨_,rfl⟩:=Prod.mk.inj (Option.some.inj h);exact ziy (zkg (by rw [hk];decide))
   split at h
   . rename_i hs
     obtain ⟨_,rfl⟩:=Prod.mk.inj (Option.some.inj h);exact zaq (by decide) hs
   split at h
   . rename_i hs
     have:=zaq (by decide) hs
     split at h
     . cases h
     . rename_i y l1 h1
       have:=zds f _ _ _ h1;obtain ⟨_,rfl⟩:=Prod.mk.inj (Option.some.inj h);omega
   split at h
   . rename_i hs
     have:=zaq (by decide) hs;have:=zxu f _ _ _ h;omega
   split at h
   . cases h
   . rename_i m n l1 h1
     have:=zpx h1
     split at h
     . rename_i hs
       have:=zaq (by decide) hs
       split at h
       . cases h
       . rename_i y l2 h2
         have:=zds f _ _ _ h2
         split at h
         . rename_i hs2
           have:=zaq (by decide) hs2;obtain ⟨_,rfl⟩:=Prod.mk.inj (Option.some.inj h);omega
         . cases h
     split at h
     . rename_i hs
       have:=zaq (by decide) hs
       split at h
       . cases h
       . rename_i y l2 h2
         have:=zrb f _ _ _ h2;obtain ⟨_,rfl⟩:=Prod.mk.inj (Option.some.inj h);omega
     . obtain ⟨_,rfl⟩:=Prod.mk.inj (Option.some.inj h)
       omega
theorem zxu:∀ (f:Nat) (l l':List Tk) (x:Ex),zf0 f l=some (x,l')->l'.length<l.length
 | 0,_,_,_,h=>by simp [zf0] at h
 | f + 1,l,l',x,h=>by
   unfold zf0 at h
   split at h
   . cases h
   . rename_i a l1 h1
     have:=zds f _ _ _ h1
     split at h
     . cases h
     . rename_i k hk
       have:=ziy (zu7 hk)
       split at h
       . cases h
       . rename_i b l2 h2
         have:=zds f _ _ _ h2
         split at h
         . rename_i hs2
           have:=zaq (by decide) hs2;obtain ⟨_,rfl⟩:=Prod.mk.inj (Option.some.inj h);omega
         . cases h
theorem zrb:∀ (f:Nat) (l l':List Tk) (x:List Ex),zd4 f l=some (x,l')->l'.length<l.length
 | 0,_,_,_,h=>by simp [zd4] at h
 | f + 1,l,l',x,h=>by
   unfold zd4 at h
   split at h
   . rename_i hs
     obtain ⟨_,rfl⟩:=Prod.mk.inj (Option.some.inj h);exact zaq (by decide) hs
   split at h
   . cases h
   . rename_i y l1 h1
     have:=zds f _ _ _ h1;have:=zrc f _ _ _ _ h;omega
theorem zrc:∀ (f:Nat) (acc:List Ex) (l l':List Tk) (x:List Ex),ze0 f acc l=some (x,l')->l'.length<l.length
 | 0,_,_,_,_,h=>by simp [ze0] at h
 | f + 1,acc,l,l',x,h=>by
   unfold ze0 at h
   split at h
   . rename_i hs
     have:=zaq (by decide) hs
     split at h
     . cases h
     . rename_i y l1 h1
       have:=zds f _ _ _ h1;have:=zrc f _ _ _ _ h;omega
   split at h
   . rename_i hs
     obtain ⟨_,rfl⟩:=Prod.mk.inj (Option.some.inj h);exact zaq (by decide) hs
   . cases h
end
def pX (l:List Tk):Option (Ex × List Tk):=zbd (3*l.length+8) l
def pAs (l:List Tk):Option (List Ex × List Tk):=zd4 (3*l.length+8) l
theorem zm5 {l l':List Tk} {x:Ex} (h:pX l=some (x,l')):l'.length<l.length:=zds _ _ _ _ h
theorem z1j {l l':List Tk} {x:List Ex} (h:pAs l=some (x,l')):l'.length<l.length:=zrb _ _ _ _ h
def zb4 (l:List Tk):Option (St × List Tk):=
 match zok l with
 | none=>none
 | some ((m,n),l1)=>
   if skB l1 tEq then (match pX l1.tail with | none=>none | some (x,l2)=>some (.mk 1 m n [x] [] [],l2))
   else if skB l1 tLs then (match pX l1.tail with
    | none=>none
    | some (x,l2)=>if skB l2 tRs then (if skB l2.tail tEq then (match pX l2.tail.tail with | none=>none | some (y,l3)=>some (.mk 2 m n [x,y] [] [],l3)) else none) else none)
   else if skB l1 tLp then (match pAs l1.tail with | none=>none | some (xs,l2)=>some (.mk 3 m n xs [] [],l2))
   else none
def zcy (r:Option (St × List Tk)):Option (St × List Tk):=match r with | none=>none | some (s,l)=>if skB l tSem then some (s,l.tail) else none
mutual
def zdj:Nat->List Tk->Option (St × List Tk)
 | 0,_=>none
 | f+1,l=>
   if skB l tIf then (match pX l.tail with
    | none=>none
    | some (x,l1)=>match zbz f l1 with
      | none=>none
      | some (b,l2)=>if skB l2 tElse then (match zbz f l2.tail with | none=>none | some (o,l3)=>if o.length=0 then none else some (.mk 4 ⟨#[]⟩ ⟨#[]⟩ [x] b o,l3))
        else some (.mk 4 ⟨#[]⟩ ⟨#[]⟩ [x] b [],l2))
   else if skB l tWhile then (match pX l.tail with
    | none=>none
    | some (x,l1)=>match zbz f l1 with | none=>none | some (b,l2)=>some (.mk 5 ⟨#[]⟩ ⟨#[]⟩ [x] b [],l2))
   else if skB l tReturn then zcy (match pX l.tail with | none=>none | some (x,l1)=>some (.mk 6 ⟨#[]⟩ ⟨#[]⟩ [x] [] [],l1))
   else if skB l tOut then zcy (match pX l.tail with | none=>none | some (x,l1)=>some (.mk 7 ⟨#[]⟩ ⟨#[]⟩ [x] [] [],l1))
   else zcy (zb4 l)
def zbz:Nat->List Tk->Option (List St × List Tk)
 | 0,_=>none
 | f+1,l=>if skB l tLb then zdp f [] l.tail else none
def zdp:Nat->List St->List Tk->Option (List St × List Tk)
 | 0,_,_=>none
 | f+1,acc,l=>
   if skB l tRb then some (acc,l.tail)
   else match zdj f l with | none=>none | some (s,l1)=>zdp f (acc++[s]) l1
end
end Go.Proofs.YtcekpobmbmnplaaGreatDoor

namespace Go.Proofs.YtcekpobmbmnplaaGreatDoor
set_option maxRecDepth 100000
set_option maxHeartbeats 800000
open Go.RowKit
structure Keeps (R:Nat) (w w':World):Prop where
 os:w'.os=w.os
 tape:w'.tape=w.tape
 output:w'.output=w.output
 size:w.heap.size<=w'.heap.size
 block:∀ k,k<w.heap.size->k≠R->w'.heap[k]? = w.heap[k]?
theorem Keeps.refl (R:Nat) (w:World):Keeps R w w:=⟨rfl,rfl,rfl,Nat.le_refl _,fun _ _ _=>rfl⟩
theorem Keeps.trans {R:Nat} {a b c:World} (h:Keeps R a b) (k:Keeps R b c):Keeps R a c:=
 ⟨k.os.trans h.os,k.tape.trans h.tape,k.output.trans h.output,Nat.le_trans h.size k.size,fun i h1 h2=>(k.block i (Nat.lt_of_lt_of_le h1 h.size) h2).trans (h.block i h1 h2)⟩
theorem Keeps.of_below {w w':World} (h:Below w.heap.size w w') (R:Nat):Keeps R w w':=⟨h.os,h.tape,h.output,h.size,fun k h1 _=>h.block k h1⟩
theorem Keeps.setCell (R:Nat) (w:World) (j:Nat) (u:Value):Keeps R w (w.setCell ⟨R,j,none⟩ u):=
 ⟨rfl,rfl,rfl,by rw [World.size_setCell];exact Nat.le_refl _,fun k _ h2=>Below.heap_setCell w ⟨R,j,none⟩ u k h2⟩
theorem Keeps.cell {R:Nat} {w w':World} (h:Keeps R w w') {b off:Nat} (h1:b<w.heap.size) (h2:b≠R):w'.cell? ⟨b,off,none⟩=w.cell? ⟨b,off,none⟩:=
 World.cell?_of_block (w:=w) (h.block b h1 h2)
theorem Keeps.later {R:Nat} {w w1 w2:World} (h:Keeps R w w1) (hb:Below w1.heap.size w1 w2):Keeps R w w2:=h.trans (Keeps.of_below hb R)
theorem Keeps.alloc {R:Nat} {w w1:World} (h:Keeps R w w1) (o:Obj):Keeps R w (w1.alloc o):=h.later ((Below.refl _ _).alloc (Nat.le_refl _) o)
theorem Keeps.own {R:Nat} {w w1:World} (h:Keeps R w w1) (j:Nat) (u:Value):Keeps R w (w1.setCell ⟨R,j,none⟩ u):=h.trans (Keeps.setCell R w1 j u)
theorem Keeps.set {R:Nat} {w w1:World} (h:Keeps R w w1) {p:Addr} (hp:w.heap.size<=p.block) (u:Value):Keeps R w (w1.setCell p u):=
 ⟨h.os,h.tape,h.output,by rw [World.size_setCell];exact h.size,fun k h1 h2=>(Below.heap_setCell w1 p u k (by omega)).trans (h.block k h1 h2)⟩
structure Rd (R:Nat) (a:Option Addr) (cap:Nat) (ts:List Tk) (w:World) (l:List Tk):Prop where
 idx:∃ k:Nat,k<=ts.length/\l=ts.drop k/\w.heap[R]? = some (.cells #[.slice a ts.length cap,.int .i64 k] 88 (0,0))
 toks:zb9 w a ts
 ne:ts=[]\/∀ b off,a=some ⟨b,off,none⟩->b≠R
 len:ts.length<=4096
theorem zb9.keeps {R:Nat} {w w':World} {a:Option Addr} {ts:List Tk} (h:zb9 w a ts) (hk:Keeps R w w') (hne:ts=[]\/∀ b off,a=some ⟨b,off,none⟩->b≠R):zb9 w' a ts:=by
 rcases hne with h0 | hne
 . exact Or.inl h0
 rcases h with h | ⟨b,off,ha,h⟩
 . exact Or.inl h
 . have hb:=hne b off ha
   have hl:=h.lt;exact Or.inr ⟨b,off,ha,Nat.lt_of_lt_of_le hl hk.size,fun i hi=>(hk.cell hl hb).trans (h.kind i hi),fun i hi=>(hk.cell hl hb).trans (h.num i hi),fun i hi=>(hk.cell hl hb).trans (h.text i hi),h.fits⟩
section
variable {R cap:Nat} {a:Option Addr} {ts l:List Tk} {w w':World}
theorem Rd.lt (h:Rd R a cap ts w l):R<w.heap.size:=by obtain ⟨k,_,_,hb⟩:=h.idx;exact zac hb
theorem Rd.later (h:Rd R a cap ts w l) (hb:Below w.heap.size w w'):Rd R a cap ts w' l:=by
 obtain ⟨k,h1,h2,h3⟩:=h.idx;exact ⟨⟨k,h1,h2,(hb.block R (zac h3)).trans h3⟩,h.toks.later hb,h.ne,h.len⟩
theorem Rd.still (h:Rd R a cap ts w l) (hk:Keeps R w w') (hb:w'.heap[R]? = w.heap[R]?):Rd R a cap ts w' l:=by
 obtain ⟨k,h1,h2,h3⟩:=h.idx;exact ⟨⟨k,h1,h2,hb.trans h3⟩,h.toks.keeps hk h.ne,h.ne,h.len⟩
theorem Rd.set (h:Rd R a cap ts w l) {p:Addr} (hp:p.block≠R) (ht:∀ b off,a=some ⟨b,off,none⟩->p.block≠b) (u:Value):Rd R a cap ts (w.setCell p u) l:=by
 obtain ⟨k,h1,h2,h3⟩:=h.idx;refine ⟨⟨k,h1,h2,(Below.heap_setCell w p u R (Ne.symm hp)).trans h3⟩,?_,h.ne,h.len⟩
 rcases h.toks with h4 | ⟨b,off,ha,h4⟩
 . exact Or.inl h4
 . have e:∀ j,(w.setCell p u).cell? ⟨b,j,none⟩=w.cell? ⟨b,j,none⟩:=fun j=>World.cell?_of_block (w:=w) (Below.heap_setCell w p u b (Ne.symm (ht b off ha)))
   exact Or.inr ⟨b,off,ha,by rw [World.size_setCell];exact h4.lt,fun i hi=>(e _).trans (h4.kind i hi),fun i hi=>(e _).trans (h4.num i hi),fun i hi=>(e _).trans (h4.text i hi),h4.fits⟩
theorem Rd.alloc (h:Rd R a cap ts w l) (o:Obj):Rd R a cap ts (w.alloc o) l:=h.later ((Below.refl _ _).alloc (Nat.le_refl _) o)
theorem Rd.setAbove {w0:World} {l0:List Tk} (h:Rd R a cap ts w l) (h0:Rd R a cap ts w0 l0) {p:Addr} (hp:w0.heap.size<=p.block) (u:Value):Rd R a cap ts (w.setCell p u) l:=by
 refine ⟨?_,?_,h.ne,h.len⟩
 . obtain ⟨k,h1,h2,h3⟩:=h.idx
   exact ⟨k,h1,h2,(Below.heap_setCell w p u R (by have:=zac h0.idx.choose_spec.2.2;omega)).trans h3⟩
 rcases h0.toks with h4 | ⟨b,off,ha,h4⟩
 . exact Or.inl h4
 . rcases h.toks with h5 | ⟨b',off',ha',h5⟩
   . exact Or.inl h5
   . have eq:b'=b:=by rw [ha] at ha';injection ha' with ha';injection ha' with e1 e2;exact e1.symm
     subst eq
     have e:∀ j,(w.setCell p u).cell? ⟨b',j,none⟩=w.cell? ⟨b',j,none⟩:=fun j=>World.cell?_of_block (w:=w) (Below.heap_setCell w p u b' (by have:=h4.lt;omega))
     exact Or.inr ⟨b',off',ha',by rw [World.size_setCell];exact h5.lt,fun i hi=>(e _).trans (h5.kind i hi),fun i hi=>(e _).trans (h5.num i hi),fun i hi=>(e _).trans (h5.text i hi),h5.fits⟩
theorem Rd.adv {k:Nat} (h:Rd R a cap ts w (ts.drop k)) (hk:k<ts.length) (hb:w.heap[R]? = some (.cells #[.slice a ts.length cap,.int .i64 k] 88 (0,0))) :
 Rd R a cap ts (w.setCell ⟨R,1,none⟩ (.int .i64 ((k:Int)+1))) (ts.drop (k+1)):=by
 refine ⟨⟨k+1,by omega,rfl,?_⟩,h.toks.keeps (Keeps.setCell R w 1 _) h.ne,h.ne,h.len⟩;simp [World.setCell,Array.getElem?_modify,hb]
end
theorem zoi (R cap n:Nat) (a:Option Addr) (ts l:List Tk) (w:World) (hn:n<=1) (h:Rd R a cap ts w l) :
 Calls Tryz.prog 117 #[.pointer (some ⟨R,0,none⟩),.int .i64 n] w fun e w'=>e = .returned (Tk.val (l.getD n noTk))/\Below w.heap.size w w':=by
 obtain ⟨k,hk,rfl,hb⟩:=h.idx
 have hc0:w.cell? ⟨R,0,none⟩=some (.slice a ts.length cap):=by rw [Lib.cell_of_heap hb];rfl
 have hc1:w.cell? ⟨R,1,none⟩=some (.int .i64 k):=by rw [Lib.cell_of_heap hb];rfl
 have hlt:=h.lt;have hlen:=h.len
 by_cases hkn:k+n<ts.length
 . have HV:Hid (Tk.val ((ts.drop k).getD n noTk) = .agg #[.int .i64 ts[k+n].kind,.int .i64 ts[k+n].n,.string ts[k+n].text]):=by
    show Tk.val _=_;rw [List.getD_eq_getElem?_getD,List.getElem?_eq_getElem (by rw [List.length_drop];omega),Option.getD_some,List.getElem_drop]
    rfl
   obtain ⟨b,off,rfl,hT⟩:=h.toks.place hkn;have hd0:=hT.kind (k+n) hkn;have hd1:=hT.num (k+n) hkn;have hd2:=hT.text (k+n) hkn;have hbl:=hT.lt;clear hT h hb;go_enter Tryz.func117,Tryz.ntmps117;go_wp2_with fail
   go_quiet ((fail))
   go_wp2_with fail
   go_region
   go_wp2_with fail;refine bodyPost_ret (v:=.agg #[.int .i64 ts[k+n].kind,.int .i64 ts[k+n].n,.string ts[k+n].text]) (by simp [results,Tryz.results117,go_sem]) rfl ⟨by rw [HV.out],?_⟩;exact (((below_drewN ((Below.refl _ _).alloc (Nat.le_refl _) _) _).setCell (p:=⟨w.heap.size,0,none⟩) (Nat.le_refl _) _).setCell (p:=⟨w.heap.size,1,none⟩) (Nat.le_refl _) _).setCell (p:=⟨w.heap.size,2,none⟩) (Nat.le_refl _) _
 . have HV:Hid (Tk.val ((ts.drop k).getD n noTk) = .agg #[.int .i64 0,.int .i64 0,.string ⟨#[]⟩]):=by
    show Tk.val _=_;rw [List.getD_eq_getElem?_getD,List.getElem?_eq_none (by rw [List.length_drop];omega)]
    rfl
   clear h hb;go_enter Tryz.func117,Tryz.ntmps117;go_wp2_with fail
   go_quiet ((fail))
   go_wp2_with fail;refine bodyPost_ret (v:=.agg #[.int .i64 0,.int .i64 0,.string ⟨#[]⟩]) (by simp [results,Tryz.results117,go_sem]) rfl ⟨by rw [HV.out],?_⟩;exact (((below_drewN ((Below.refl _ _).alloc (Nat.le_refl _) _) _).setCell (p:=⟨w.heap.size,0,none⟩) (Nat.le_refl _) _).setCell (p:=⟨w.heap.size,1,none⟩) (Nat.le_refl _) _).setCell (p:=⟨w.heap.size,2,none⟩) (Nat.le_refl _) _
end Go.Proofs.YtcekpobmbmnplaaGreatDoor
