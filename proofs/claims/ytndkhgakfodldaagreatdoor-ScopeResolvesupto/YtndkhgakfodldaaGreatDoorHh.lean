import Derived.Test.YtndkhgakfodldaaGreatDoorKp
import Derived.Test.YtndkhgakfodldaaGreatDoorXe
namespace Go.Proofs.YtndkhgakfodldaaGreatDoor
set_option maxRecDepth 100000
set_option maxHeartbeats 3200000
open Go.RowKit Go.Maps Go.WideMaps
set_option linter.unusedSimpArgs false
set_option linter.unusedVariables false
def zr5 (w:World) (N R:Nat) (a:OA) (l:List ByteArray):Prop:=l=[]\/∃ b off,a=some ⟨b,off,none⟩/\b<N/\b≠R/\∀ i (h:i<l.length),w.cell? ⟨b,off+i,none⟩=some (.string l[i])
theorem zr5.keeps {w w':World} {N R:Nat} {a:OA} {l:List ByteArray} (h:zr5 w N R a l) (hN:N<=w.heap.size) (hk:Keeps R w w'):zr5 w' N R a l:=by
 rcases h with h | ⟨b,off,ha,hb,hn,hc⟩
 . exact Or.inl h
 . exact Or.inr ⟨b,off,ha,hb,hn,fun i hi=>(hk.cell (by omega) hn).trans (hc i hi)⟩
theorem zr5.below {w w':World} {N R:Nat} {a:OA} {l:List ByteArray} (h:zr5 w N R a l) (hb:Below N w w'):zr5 w' N R a l:=by
 rcases h with h | ⟨b,off,ha,hl,hn,hc⟩
 . exact Or.inl h
 . exact Or.inr ⟨b,off,ha,hl,hn,fun i hi=>(hb.cell (p:=⟨b,off+i,none⟩) hl).trans (hc i hi)⟩
theorem zr5.place {w:World} {N R:Nat} {a:OA} {l:List ByteArray} (h:zr5 w N R a l) {k:Nat} (hk:k<l.length):∃ b off,a=some ⟨b,off,none⟩/\b<N/\w.cell? ⟨b,off+k,none⟩=some (.string l[k]):=by
 rcases h with rfl | ⟨b,off,ha,hb,_,hc⟩
 . simp at hk
 . exact ⟨b,off,ha,hb,hc k hk⟩
abbrev svC (nm:ByteArray) (a1:OA) (n1 c1:Nat) (a2:OA) (n2 c2:Nat) (a3:OA) (n3 c3:Nat) (a4:OA) (n4 c4:Nat) (al:OA) (nl cl:Nat) (ao:OA) (no co:Nat) (an:OA) (nn cn:Nat) (E:Int):Obj:=
 .cells #[.string nm,.slice a1 n1 c1,.slice a2 n2 c2,.slice a3 n3 c3,.slice a4 n4 c4,.slice al nl cl,.slice ao no co,.slice an nn cn,.int .i64 E] 116
structure Slv (N:Nat) (w0 w:World) (R:Nat) (m:Mo) (l:List Fc) (ns:List ByteArray) (E:Int):Prop where
 blk:∃ a1 c1 a2 c2 a3 c3 a4 c4 al cl ao co an cn,w.heap[R]? = some (svC m.name a1 m.uses.length c1 a2 m.decls.length c2 a3 m.procs.length c3 a4 m.main.length c4 al l.length cl ao (layItems m).length co an ns.length cn E)/\
  DAt w0 Tt a1 m.uses.length (zan m.uses)/\DAt w0 Tt al l.length (ztt l)/\Fx.zbp w0 ao (layItems m)/\zr5 w N R an ns
 hR:w0.heap.size<=R
 hN:R<N/\N<=w.heap.size
 below:Below w0.heap.size w0 w
 few:ns.length<=10000/\(layItems m).length<=10000/\l.length=m.uses.length
section
variable {N:Nat} {w0 w w':World} {R:Nat} {m:Mo} {l:List Fc} {ns:List ByteArray} {E:Int}
theorem Slv.lt (h:Slv N w0 w R m l ns E):R<w.heap.size:=vai h.hN.1 h.hN.2
theorem Slv.step (h:Slv N w0 w R m l ns E) (hb:Below N w w'):Slv N w0 w' R m l ns E:=by
 have hlt:=h.lt;have hn:=h.hN;have hr:=h.hR;have hz:=hb.size;obtain ⟨a1,c1,a2,c2,a3,c3,a4,c4,al,cl,ao,co,an,cn,h1,h2,h3,h4,h5⟩:=h.blk;exact ⟨⟨a1,c1,a2,c2,a3,c3,a4,c4,al,cl,ao,co,an,cn,(hb.block R hn.1).trans h1,h2,h3,h4,h5.below hb⟩,hr,⟨hn.1,by omega⟩,h.below.trans (hb.mono (by omega)),h.few⟩
theorem Slv.later (h:Slv N w0 w R m l ns E) (hb:Below w.heap.size w w'):Slv N w0 w' R m l ns E:=h.step (hb.mono h.hN.2)
theorem Slv.alloc (h:Slv N w0 w R m l ns E) (o:Obj):Slv N w0 (w.alloc o) R m l ns E:=h.later (al1 w o)
theorem Slv.drew (h:Slv N w0 w R m l ns E):Slv N w0 w.drew R m l ns E:=h.later (bdrew w)
theorem Slv.setE (h:Slv N w0 w R m l ns E) (e:Int):Slv N w0 (w.setCell ⟨R,8,none⟩ (.int .i64 e)) R m l ns e:=by
 obtain ⟨a1,c1,a2,c2,a3,c3,a4,c4,al,cl,ao,co,an,cn,h1,h2,h3,h4,h5⟩:=h.blk;exact ⟨⟨a1,c1,a2,c2,a3,c3,a4,c4,al,cl,ao,co,an,cn,zaf h1 _,h2,h3,h4,h5.keeps h.hN.2 (Keeps.setCell R w 8 _)⟩,h.hR,⟨h.hN.1,by rw [vam];exact h.hN.2⟩,h.below.setCell (p:=⟨R,8,none⟩) h.hR _,h.few⟩
theorem Slv.cellE (h:Slv N w0 w R m l ns E):w.cell? ⟨R,8,none⟩=some (.int .i64 E)/\w.frozen? ⟨R,8,none⟩=false:=by
 obtain ⟨_,_,_,_,_,_,_,_,_,_,_,_,_,_,hb,_⟩:=h.blk;exact ⟨by rw [veb hb];rfl,ved hb 8⟩
end
theorem zcd {N:Nat} {w0 w:World} {R:Nat} {m:Mo} {l:List Fc} {ns:List ByteArray} {E:Int} (e:Int) (h:Slv N w0 w R m l ns E) :
 Calls Tryz.prog 65 #[.pointer (some ⟨R,0,none⟩),.int .i64 e] w fun z w'=>z = .returned (.tuple #[])/\Slv N w0 w' R m l ns (zbf e E)/\Keeps R w w':=by
 have HS:=hid h;have hlt:=h.lt;obtain ⟨cE,fE⟩:=h.cellE;clear h
 by_cases hE:E=0
 . subst hE
   go_enter Tryz.func65,Tryz.ntmps65;go_wp2_with fail;go_end0;exact ⟨rfl,HS.out.setE e,Keeps.setCell _ _ _ _⟩
 . have HF:Hid (zbf e E=E):=zea hE
   go_enter Tryz.func65,Tryz.ntmps65;go_wp2_with fail;go_end0;exact ⟨rfl,by rw [HF.out];exact HS.out,Keeps.refl _ _⟩
theorem zt0 (op:Int) (w:World):Calls Tryz.prog 259 #[.int .i64 op] w fun e w'=>e = .returned (.bool (zww op))/\w'=w:=by
 have HR:Hid (zww op=(decide (3<=op)&&decide (op<=5))):=Bool.decide_and _ _;go_enter Tryz.func259,Tryz.ntmps259
 go_wp2_with (go_at_call 63;refine (zaw _ _ _ _).mono ?_;rintro e w' ⟨rfl,rfl⟩)
 go_ret;exact ⟨zab HR.out.symm,rfl⟩
theorem zt1 (op:Int) (w:World):Calls Tryz.prog 163 #[.int .i64 op] w fun e w'=>e = .returned (.bool (zzd op))/\w'=w:=by
 have HR:Hid (zzd op=(decide (1<=op)&&decide (op<=3))):=Bool.decide_and _ _;go_enter Tryz.func163,Tryz.ntmps163
 go_wp2_with (go_at_call 63;refine (zaw _ _ _ _).mono ?_;rintro e w' ⟨rfl,rfl⟩)
 go_ret;exact ⟨zab HR.out.symm,rfl⟩
theorem zzj {ns:List ByteArray} {name:ByteArray} {j:Nat} (h:j<ns.length) (hn:∀ i (hi:i<ns.length),i<j->ns[i]≠name) (e:ns[j]=name):ns.findIdx? (fun x=>decide (x=name))=some j:=by
 rw [vbd];exact ⟨h,decide_eq_true e,fun i hi=>by have:=hn i (by omega) hi;simpa using this⟩
theorem z0z {ns:List ByteArray} {name:ByteArray} (hn:∀ i (hi:i<ns.length),ns[i]≠name):ns.findIdx? (fun x=>decide (x=name))=none:=by
 rw [vbl];intro y hy;obtain ⟨i,hi,rfl⟩:=vay hy;simpa using hn i hi
theorem zqn {l:List It} {name:ByteArray} {j:Nat} (h:j<l.length) (hn:∀ i (hi:i<l.length),i<j->l[i].name≠name) (e:l[j].name=name):zdj l name=some l[j]:=by
 unfold zdj;rw [List.find?_eq_some_iff_getElem];exact ⟨decide_eq_true e,j,h,rfl,fun i hi=>by have:=hn i (by omega) hi;simpa using this⟩
theorem zt2 {l:List It} {name:ByteArray} (hn:∀ i (hi:i<l.length),l[i].name≠name):zdj l name=none:=by
 unfold zdj;rw [vcq];intro y hy;obtain ⟨i,hi,rfl⟩:=vay hy;simpa using hn i hi
def zo6 (o:Option Mg) (e:Ending):Prop:=match o with
 | none=>e = .returned (.tuple #[.int .i64 0,.agg #[.int .i64 0,.int .i64 0,.int .i64 0,.string ⟨#[]⟩],.bool false])
 | some g=>∃ s:ByteArray,e = .returned (.tuple #[.int .i64 g.m,.agg #[.int .i64 g.kind,.int .i64 g.n,.int .i64 g.at_,.string s],.bool true])
theorem zqo {w0 w W:World} {a:OA} {l:List It} (h:Fx.zbp w0 a l) (hb:Below w0.heap.size w0 W) {k R:Nat} (hk:k<l.length) (hR:w0.heap.size<=R) (hw:R<w.heap.size) :
 ∃ b off,a=some ⟨b,off,none⟩/\b<W.heap.size/\b≠w.heap.size/\W.cell? ⟨b,off+k*4,none⟩=some (.int .i64 l[k].kind)/\W.cell? ⟨b,off+k*4+1,none⟩=some (.int .i64 l[k].n)/\W.cell? ⟨b,off+k*4+2,none⟩=some (.int .i64 l[k].at_)/\W.cell? ⟨b,off+k*4+3,none⟩=some (.string l[k].name):=by
 obtain ⟨b,off,ha,hl,c0,c1,c2,c3⟩:=h.place hk;have hz:=hb.size;exact ⟨b,off,ha,by omega,by omega,(hb.cell (p:=⟨b,_,none⟩) hl).trans c0,(hb.cell (p:=⟨b,_,none⟩) hl).trans c1,(hb.cell (p:=⟨b,_,none⟩) hl).trans c2,(hb.cell (p:=⟨b,_,none⟩) hl).trans c3⟩
theorem zt3 {w:World} {b:Nat} {x0 x1 x2 x3:Value} {t:TypeId} (h:w.heap[b]? = some (.cells #[x0,x1,x2,x3] t (0,0))) :
 w.cell? ⟨b,0,none⟩=some x0/\w.cell? ⟨b,1,none⟩=some x1/\w.cell? ⟨b,2,none⟩=some x2/\w.cell? ⟨b,3,none⟩=some x3/\∀ i,w.frozen? ⟨b,i,none⟩=false:=by
 refine ⟨?_,?_,?_,?_,fun i=>ved h i⟩<;>(rw [veb h];rfl)
theorem zqp {a b:ByteArray} (h:a≠b):(a.toList == b.toList)=false:=by rw [zev];exact decide_eq_false h
theorem zqq {w:World} {b:Nat} {x0 x1 x2 x3 x4 x5 x6 x7 x8:Value} {t:TypeId} (h:w.heap[b]? = some (.cells #[x0,x1,x2,x3,x4,x5,x6,x7,x8] t (0,0))) :
 w.cell? ⟨b,1,none⟩=some x1/\w.cell? ⟨b,5,none⟩=some x5/\w.cell? ⟨b,6,none⟩=some x6/\w.cell? ⟨b,7,none⟩=some x7:=by
 refine ⟨?_,?_,?_,?_⟩<;>(rw [veb h];rfl)
theorem z2n {w W:World} {o:Obj} {B:Nat} (hW:W=w.alloc o) (hB:B=w.heap.size) (v0 v1 v2 v3:Value):Below w.heap.size w ((((W.setCell ⟨B,0,none⟩ v0).setCell ⟨B,1,none⟩ v1).setCell ⟨B,2,none⟩ v2).setCell ⟨B,3,none⟩ v3):=by
 subst hW hB;exact zc3 (al1 w o) (vaa _) _ _ _ _
theorem zt4 {N:Nat} {w0 w:World} {R:Nat} {m:Mo} {l:List Fc} {ns:List ByteArray} {E:Int} (h:Slv N w0 w R m l ns E) (mod name:ByteArray) (hm:mod.toList.isEmpty=true) (o:Option Mg)
 (ho:o=match ns.findIdx? (fun x=>decide (x=name)) with | some i=>some ⟨0,0, -1,i⟩ | none=>(zdj (layItems m) name).map (zko 0)) :
 Calls Tryz.prog 164 #[.pointer (some ⟨R,0,none⟩),.string mod,.string name] w fun e w'=>zo6 o e/\Below w.heap.size w w':=by
 obtain ⟨W,hW⟩:∃ W,W=w.alloc (.cells #[.int .i64 0,.int .i64 0,.int .i64 0,.string ⟨#[]⟩] 98):=⟨_,rfl⟩
 have h1:Slv N w0 W R m l ns E:=by rw [hW];exact h.alloc _
 have HBx:Hid (W.heap[w.heap.size]? = some (.cells #[.int .i64 0,.int .i64 0,.int .i64 0,.string ⟨#[]⟩] 98 (0,0))):=by rw [hW];exact heap_newP _ _
 have HBe:Hid (∀ v0 v1 v2 v3,Below w.heap.size w ((((W.setCell ⟨w.heap.size,0,none⟩ v0).setCell ⟨w.heap.size,1,none⟩ v1).setCell ⟨w.heap.size,2,none⟩ v2).setCell ⟨w.heap.size,3,none⟩ v3)):=z2n hW rfl
 have hRn:R≠w.heap.size:=by have:=h.lt;omega
 have hRl0:=h.lt;obtain ⟨a1,c1,a2,c2,a3,c3,a4,c4,al,cl,ao,co,an,cn,hblk,hu,hf,hi,hn⟩:=h1.blk;have HI:=hid (fun (k:Nat) (hk:k<(layItems m).length)=>zqo hi h1.below hk h1.hR hRl0);have HN:=hid hn;have HO:=hid ho;have HW:=hid hW;obtain ⟨k1,k5,k6,k7⟩:=zqq hblk;obtain ⟨b0,b1,b2,b3,bz⟩:=zt3 HBx.out;have hbl:=zaa HBx.out;have hRl:=h1.lt;obtain ⟨f1,f2,f3⟩:=h1.few;have hNz:=h1.hN.2;clear h h1 hu hf hi hn hblk ho hW;go_enter Tryz.func164,Tryz.ntmps164;go_wp2_with fail;rw [← HW.out]
 go_loopw [9] (fun i wr=>∃ j:Nat,j<=ns.length/\i = .int .i64 j/\(∀ i (hi:i<ns.length),i<j->ns[i]≠name)/\W=wr) (fun i _=>ns.length - (intOf i).toNat)
 case atStart=>exact ⟨0,vad _,rfl,fun i _ h=>absurd h (vdc _),rfl⟩
 case round =>
  obtain ⟨j,hj,rfl,hne,rfl⟩:=hrel;have HNe:=hid hne;clear hne
  by_cases hlt:j<ns.length
  . obtain ⟨b,off,rfl,hb0,c0⟩:=HN.out.place hlt
    have hb:b<W.heap.size:=by omega
    by_cases he:ns[j]=name
    . have HR:Hid (o=some ⟨0,0, -1,j⟩):=HO.out.trans (by rw [zzj hlt HNe.out he])
      rw [he] at c0;clear he;go_wp2_with fail;refine bodyPost_ret (v:=.tuple #[.int .i64 (-1),.agg #[.int .i64 0,.int .i64 0,.int .i64 j,.string ⟨#[]⟩],.bool true]) (by simp [results,Tryz.results164,go_sem,b0,b1,b2,b3,hbl]) rfl ⟨by rw [HR.out];exact ⟨_,rfl⟩,HBe.out _ _ _ _⟩
    . have hbe:=zqp he
      have HN2:=hid he;clear he;go_wp2_with fail;go_roundw
      case rel=>exact ⟨j+1,by omega,by go_num,(fun i hi hm=>by
       rcases vbk i j with h1 | h1
       . exact HNe.out i hi h1
       . obtain rfl:i=j:=by omega
         exact HN2.out),(by trivial)⟩
      case measure=>simp [intOf];omega
  . have HR : Hid (o=(zdj (layItems m) name).map (zko 0)):=HO.out.trans (by rw [z0z (fun i hi=>HNe.out i hi (by omega))])
    obtain rfl:j=ns.length:=by omega
    clear HO HNe;go_wp2_with fail
    go_loopw [10] (fun i wr=>∃ j:Nat,j<=(layItems m).length/\i = .int .i64 j/\(∀ i (hi:i<(layItems m).length),i<j->(layItems m)[i].name≠name)/\W=wr) (fun i _=>(layItems m).length - (intOf i).toNat)
    case atStart=>exact ⟨0,vad _,rfl,fun i _ h=>absurd h (vdc _),rfl⟩
    case round=>
     obtain ⟨j,hj,rfl,hne,rfl⟩:=hrel;have HNe:=hid hne;clear hne
     by_cases hlt2:j<(layItems m).length
     . obtain ⟨b,off,rfl,hb,hbn,d0,d1,d2,d3⟩:=HI.out j hlt2
       by_cases he:(layItems m)[j].name=name
       . have HR2:Hid (o=some (zko 0 (layItems m)[j])):=HR.out.trans (by rw [zqn hlt2 HNe.out he];rfl)
         generalize (layItems m)[j]=x at *;obtain ⟨kd,n,at_,nm⟩:=x;simp only at d0 d1 d2 d3 he;subst he;go_wp2_with fail
         (try go_region)
         go_wp2_with fail;refine bodyPost_ret (v:=.tuple #[.int .i64 0,.agg #[.int .i64 kd,.int .i64 n,.int .i64 at_,.string nm],.bool true]) (by simp [results,Tryz.results164,go_sem,b0,b1,b2,b3,hbl]) rfl ⟨by rw [HR2.out];exact ⟨_,rfl⟩,(HBe.out _ _ _ _).drew⟩
       . have hbe:=zqp he
         have HN2:=hid he;clear he;go_wp2_with fail;go_roundw
         case rel=>exact ⟨j+1,by omega,by go_num,(fun i hi hm=>by
          rcases vbk i j with h1 | h1
          . exact HNe.out i hi h1
          . obtain rfl:i=j:=by omega
            exact HN2.out),(by trivial)⟩
         case measure=>simp [intOf];omega
     . have HR2:Hid (o=none):=HR.out.trans (by rw [zt2 (fun i hi=>HNe.out i hi (by omega))];rfl)
       obtain rfl:j=(layItems m).length:=by omega
       go_wp2_with fail;refine bodyPost_ret (v:=.tuple #[.int .i64 0,.agg #[.int .i64 0,.int .i64 0,.int .i64 0,.string ⟨#[]⟩],.bool false]) (by simp [results,Tryz.results164,go_sem,b0,b1,b2,b3,hbl]) rfl ⟨by rw [HR2.out];rfl,HBe.out _ _ _ _⟩
set_option maxHeartbeats 6400000
theorem zr6 {mod name:ByteArray} {us:List ByteArray} {fs:List Fc} {k:Nat} (h:k<us.length) (h':k<fs.length) :
 zbz mod name k (us.drop k) (fs.drop k)=if us[k]=mod then (match zdj fs[k].items name with
  | some i=>some (zko ((k:Int)+1) i)
  | none=>zbz mod name (k+1) (us.drop (k+1)) (fs.drop (k+1))) else zbz mod name (k+1) (us.drop (k+1)) (fs.drop (k+1)):=by
 rw [vci h,vci h',zbz]
 rfl
theorem zt5 {mod name:ByteArray} {us:List ByteArray} {fs:List Fc} {k:Nat} (h:us.length<=k):zbz mod name k (us.drop k) (fs.drop k)=none:=by
 rw [List.drop_of_length_le h]
 rfl
theorem z18 {w0 w W:World} {a:OA} {l:List Fc} (h:DAt w0 Tt a l.length (ztt l)) (hb:Below w0.heap.size w0 W) {k R:Nat} (hk:k<l.length) (hR:w0.heap.size<=R) (hw:R<w.heap.size) :
 ∃ b off ai ci,a=some ⟨b,off,none⟩/\b<W.heap.size/\b≠w.heap.size/\W.cell? ⟨b,off+k*2+1,none⟩=some (.slice ai l[k].items.length ci)/\l[k].items.length<=17592186044416/\
   ∀ j (hj:j<l[k].items.length),∃ b off,ai=some ⟨b,off,none⟩/\b<W.heap.size/\b≠w.heap.size/\W.cell? ⟨b,off+j*4,none⟩=some (.int .i64 l[k].items[j].kind)/\W.cell? ⟨b,off+j*4+1,none⟩=some (.int .i64 l[k].items[j].n)/\W.cell? ⟨b,off+j*4+2,none⟩=some (.int .i64 l[k].items[j].at_)/\W.cell? ⟨b,off+j*4+3,none⟩=some (.string l[k].items[j].name):=by
 obtain ⟨b,off,ai,ci,ha,hl,_,c1,_,hD⟩:=h.fc k hk;have hz:=hb.size;refine ⟨b,off,ai,ci,ha,by omega,by omega,(hb.cell (p:=⟨b,_,none⟩) hl).trans c1,hD.bound,fun j hj=>zqo (zeu hD).1 hb hj hR hw⟩
theorem z00 {w0 W:World} {a:OA} {l:List ByteArray} (h:DAt w0 Tt a l.length (zan l)) (hb:Below w0.heap.size w0 W) {k:Nat} (hk:k<l.length) :
 ∃ b off,a=some ⟨b,off,none⟩/\b<W.heap.size/\W.cell? ⟨b,off+k,none⟩=some (.string l[k]):=by
 obtain ⟨b,off,ha,hl,c0,_⟩:=h.str k hk;have hz:=hb.size;exact ⟨b,off,ha,by omega,(hb.cell (p:=⟨b,_,none⟩) hl).trans c0⟩
theorem zt6 {N:Nat} {w0 w:World} {R:Nat} {m:Mo} {l:List Fc} {ns:List ByteArray} {E:Int} (h:Slv N w0 w R m l ns E) (mod name:ByteArray) (hm:mod.toList.isEmpty=false) (o:Option Mg)
 (ho:o=zbz mod name 0 m.uses l) :
 Calls Tryz.prog 164 #[.pointer (some ⟨R,0,none⟩),.string mod,.string name] w fun e w'=>zo6 o e/\Below w.heap.size w w':=by
 obtain ⟨W,hW⟩:∃ W,W=w.alloc (.cells #[.int .i64 0,.int .i64 0,.int .i64 0,.string ⟨#[]⟩] 98):=⟨_,rfl⟩
 have h1:Slv N w0 W R m l ns E:=by rw [hW];exact h.alloc _
 have HBx:Hid (W.heap[w.heap.size]? = some (.cells #[.int .i64 0,.int .i64 0,.int .i64 0,.string ⟨#[]⟩] 98 (0,0))):=by rw [hW];exact heap_newP _ _
 have HBe:Hid (∀ v0 v1 v2 v3,Below w.heap.size w ((((W.setCell ⟨w.heap.size,0,none⟩ v0).setCell ⟨w.heap.size,1,none⟩ v1).setCell ⟨w.heap.size,2,none⟩ v2).setCell ⟨w.heap.size,3,none⟩ v3)):=z2n hW rfl
 have hRn:R≠w.heap.size:=by have:=h.lt;omega
 have hRl0:=h.lt;obtain ⟨a1,c1,a2,c2,a3,c3,a4,c4,al,cl,ao,co,an,cn,hblk,hu,hf,hi,hn⟩:=h1.blk;have HU:=hid (fun (k:Nat) (hk:k<m.uses.length)=>z00 hu h1.below hk);have HF:=hid (fun (k:Nat) (hk:k<l.length)=>z18 hf h1.below hk h1.hR hRl0);have HO:=hid ho;have HW:=hid hW;obtain ⟨k1,k5,k6,k7⟩:=zqq hblk;obtain ⟨b0,b1,b2,b3,bz⟩:=zt3 HBx.out;have hbl:=zaa HBx.out;have hRl:=h1.lt;have hub:=hu.bound;obtain ⟨f1,f2,f3⟩:=h1.few;have F3:=hid f3;clear h h1 hu hf hi hn hblk ho hW f1 f2;rw [f3] at k5;clear f3;go_enter Tryz.func164,Tryz.ntmps164;go_wp2_with fail;rw [← HW.out]
 go_loopw [11,12] (fun i _ wr=>∃ k:Nat,k<=m.uses.length/\i = .int .i64 k/\o=zbz mod name k (m.uses.drop k) (l.drop k)/\W=wr) (fun i _ _=>m.uses.length - (intOf i).toNat)
 case atStart=>exact ⟨0,vad _,rfl,HO.out,rfl⟩
 case round =>
  obtain ⟨k,hk,rfl,hr,rfl⟩:=hrel;have HR:=hid hr;clear hr
  by_cases hlt:k<m.uses.length
  . have hltf : k<l.length:=by rw [F3.out];exact hlt
    obtain ⟨b,off,rfl,hb,c0⟩:=HU.out k hlt;obtain ⟨bf,of,ai,ci,rfl,hbf,hbn,d1,hlb,hits⟩:=HF.out k hltf;have HIt:=hid hits;have HSt:=hid (HR.out.trans (zr6 hlt hltf));clear hits
    by_cases he:m.uses[k]=mod
    . have HS2:Hid (o=match zdj l[k].items name with
       | some i=>some (zko ((k:Int)+1) i)
       | none=>zbz mod name (k+1) (m.uses.drop (k+1)) (l.drop (k+1))):=HSt.out.trans (if_pos he)
      rw [he] at c0;clear he HSt;generalize l[k].items=its at *;go_wp2_with fail
      go_loopw [12] (fun i wr=>∃ j:Nat,j<=its.length/\i = .int .i64 j/\(∀ i (hi:i<its.length),i<j->its[i].name≠name)/\W=wr) (fun i _=>its.length - (intOf i).toNat)
      case atStart=>exact ⟨0,vad _,rfl,fun i _ h=>absurd h (vdc _),rfl⟩
      case round=>
       obtain ⟨j,hj,rfl,hne,rfl⟩:=hrel;have HNe:=hid hne;clear hne
       by_cases hlt2:j<its.length
       . obtain ⟨bi,oi,rfl,hbi,hin,e0,e1,e2,e3⟩:=HIt.out j hlt2
         by_cases he:its[j].name=name
         . have HR2:Hid (o=some (zko ((k:Int)+1) its[j])):=HS2.out.trans (by rw [zqn hlt2 HNe.out he])
           generalize its[j]=x at *;obtain ⟨kd,n,at_,nm⟩:=x;simp only at e0 e1 e2 e3 he;subst he;go_wp2_with fail
           (try go_region)
           go_wp2_with fail;refine bodyPost_ret (v:=.tuple #[.int .i64 ((k:Int)+1),.agg #[.int .i64 kd,.int .i64 n,.int .i64 at_,.string nm],.bool true]) (by simp [results,Tryz.results164,go_sem,b0,b1,b2,b3,hbl]) rfl ⟨by rw [HR2.out];exact ⟨_,rfl⟩,(HBe.out _ _ _ _).drew⟩
         . have hbe:=zqp he
           have HN2:=hid he;clear he;go_wp2_with fail;go_roundw
           case rel=>exact ⟨j+1,by omega,by go_num,(fun i hi hm=>by
            rcases vbk i j with h1 | h1
            . exact HNe.out i hi h1
            . obtain rfl:i=j:=by omega
              exact HN2.out),(by trivial)⟩
           case measure=>simp [intOf];omega
       . have HR2:Hid (o=zbz mod name (k+1) (m.uses.drop (k+1)) (l.drop (k+1))):=HS2.out.trans (by rw [zt2 (fun i hi=>HNe.out i hi (by omega))])
         obtain rfl:j=its.length:=by omega
         go_wp2_with fail;go_roundw
         case rel=>exact ⟨k+1,by omega,by go_num,HR2.out,(by trivial)⟩
         case measure=>simp [intOf];omega
    . have HS2:Hid (o=zbz mod name (k+1) (m.uses.drop (k+1)) (l.drop (k+1))):=HSt.out.trans (if_neg he)
      have hbe:=zqp he;clear he HSt;generalize m.uses[k]=s at *;go_wp2_with fail
      go_loopw [12] (fun i wr=>i = .int .i64 0/\W=wr) (fun i _=>0)
      case atStart=>exact ⟨rfl,rfl⟩
      case round=>
       obtain ⟨rfl,rfl⟩:=hrel;go_wp2_with fail;go_roundw
       case rel=>exact ⟨k+1,by omega,by go_num,HS2.out,(by trivial)⟩
       case measure=>simp [intOf];omega
  . have HR2:Hid (o=none):=HR.out.trans (zt5 (by omega))
    obtain rfl:k=m.uses.length:=by omega
    go_wp2_with fail;refine bodyPost_ret (v:=.tuple #[.int .i64 0,.agg #[.int .i64 0,.int .i64 0,.int .i64 0,.string ⟨#[]⟩],.bool false]) (by simp [results,Tryz.results164,go_sem,b0,b1,b2,b3,hbl]) rfl ⟨by rw [HR2.out];rfl,HBe.out _ _ _ _⟩
theorem zno {N:Nat} {w0 w:World} {R:Nat} {m:Mo} {l:List Fc} {ns:List ByteArray} {E:Int} (h:Slv N w0 w R m l ns E) (mod name:ByteArray) :
 Calls Tryz.prog 164 #[.pointer (some ⟨R,0,none⟩),.string mod,.string name] w fun e w'=>zo6 (zew (svM m l ns) mod name) e/\Below w.heap.size w w':=by
 have he:=zcj mod;unfold zew
 by_cases hz:mod.size=0
 . rw [if_pos hz]
   rw [decide_eq_true hz] at he;exact zt4 h mod name he _ rfl
 . rw [if_neg hz]
   rw [decide_eq_false hz] at he;exact zt6 h mod name he _ rfl
set_option maxHeartbeats 16000000
theorem znp (v:Sv) (x:Ex):∀ (l:List Ex) (E:Int),exsT v (l++[x]) E=((exsT v l E).1++[(exT v x (exsT v l E).2).1],(exT v x (exsT v l E).2).2)
 | [],E=>by simp [exsT]
 | y :: r,E=>by
   show exsT v (y :: (r++[x])) E=_;rw [exsT,znp v x r,exsT]
   rfl
theorem zt7 (v:Sv) (l:List Ex) (E:Int) {j:Nat} (h:j<l.length):exsT v (l.take (j+1)) E=((exsT v (l.take j) E).1++[(exT v l[j] (exsT v (l.take j) E).2).1],(exT v l[j] (exsT v (l.take j) E).2).2):=by
 rw [vag h,znp]
theorem zmd (v:Sv):∀ (l:List Ex) (E:Int),(exsT v l E).1.length=l.length
 | [],E=>by rw [exsT];rfl
 | x :: r,E=>by rw [exsT];simp [zmd v r]
def z0s (l:List Ex):Prop:=∀ (N:Nat) (w0 w:World) (R:Nat) (m:Mo) (fl:List Fc) (ns:List ByteArray) (E:Int) (A:Nat->Prop) (a:OA) (cap:Nat),DAt w0 A a l.length (za9 l)->Slv N w0 w R m fl ns E->
 Calls Tryz.prog 165 #[.pointer (some ⟨R,0,none⟩),.slice a l.length cap] w fun e w'=>∃ a' c',e = .returned (.slice a' l.length c')/\EAt w' (w.heap.size<=·) a' l.length (ze0 (exsT (svM m fl ns) l E).1)/\Slv N w0 w' R m fl ns (exsT (svM m fl ns) l E).2/\Keeps R w w'
def SxC (x:Ex):Prop:=∀ (N:Nat) (w0 w:World) (R:Nat) (m:Mo) (fl:List Fc) (ns:List ByteArray) (E:Int) (A:Nat->Prop) (a:OA) (cap:Nat),DAt w0 A a x.args.length (za9 x.args)->Slv N w0 w R m fl ns E->
 Calls Tryz.prog 207 #[.pointer (some ⟨R,0,none⟩),.agg #[.int .i64 x.op,.int .i64 x.n,.string x.mod,.string x.name,.slice a x.args.length cap]] w fun e w'=>∃ a' c',e = .returned (.agg #[.int .i64 (exT (svM m fl ns) x E).1.op,.int .i64 (exT (svM m fl ns) x E).1.n,.int .i64 (exT (svM m fl ns) x E).1.m,.int .i64 (exT (svM m fl ns) x E).1.at_,.slice a' x.args.length c'])/\EAt w' (w.heap.size<=·) a' x.args.length (ze0 (exT (svM m fl ns) x E).1.args)/\Slv N w0 w' R m fl ns (exT (svM m fl ns) x E).2/\Keeps R w w'
theorem z19 {w0 W:World} {A:Nat->Prop} {a:OA} {l:List Ex} (h:DAt w0 A a l.length (za9 l)) (hb:Below w0.heap.size w0 W) (k:Nat) (hk:k<l.length) :
 ∃ b off aa cp,a=some ⟨b,off,none⟩/\b<W.heap.size/\W.cell? ⟨b,off+k*5,none⟩=some (.int .i64 l[k].op)/\W.cell? ⟨b,off+k*5+1,none⟩=some (.int .i64 l[k].n)/\W.cell? ⟨b,off+k*5+2,none⟩=some (.string l[k].mod)/\W.cell? ⟨b,off+k*5+3,none⟩=some (.string l[k].name)/\W.cell? ⟨b,off+k*5+4,none⟩=some (.slice aa l[k].args.length cp)/\DAt w0 A aa l[k].args.length (za9 l[k].args):=by
 obtain ⟨b,off,aa,cp,ha,hx⟩:=h.ex k hk;obtain ⟨hbl,x0,x1,x2,x3,x4,hargs,_⟩:=hx;have hz:=hb.size;exact ⟨b,off,aa,cp,ha,by omega,(hb.cell (p:=⟨b,_,none⟩) hbl).trans x0,(hb.cell (p:=⟨b,_,none⟩) hbl).trans x1,(hb.cell (p:=⟨b,_,none⟩) hbl).trans x2,(hb.cell (p:=⟨b,_,none⟩) hbl).trans x3,(hb.cell (p:=⟨b,_,none⟩) hbl).trans x4,hargs⟩
theorem zqr (l:List Ex) (hl5:l.length<=5000) (ih:∀ j (h:j<l.length),SxC l[j]):z0s l:=by
 intro N w0 w R m fl ns E A a cap hD hS;have hRw:=hS.lt;have HN:=hS.hN;have HD:=hid hD;have HS0:=hid hS;have HI:=hid ih;generalize hsv:svM m fl ns=sv at *;have HSV:=hid hsv;clear hD hS ih hsv;go_enter Tryz.func165,Tryz.ntmps165;go_wp2_with fail
 go_loopw [5,6] (fun v i wr=>∃ j:Nat,j<=l.length/\i = .int .i64 j/\Row w.heap.size 253 5 wr v j (ze0 (exsT sv (l.take j) E).1)/\Slv N w0 wr R m fl ns (exsT sv (l.take j) E).2/\Keeps R w wr) (fun _ i _=>l.length - (intOf i).toNat)
 case atStart=>exact ⟨0,vad _,rfl,by rw [vcy,exsT];exact Row.nil _ _ _ _,by rw [vcy,exsT];exact HS0.out,Keeps.refl _ _⟩
 case round=>
  obtain ⟨j,hj,rfl,hrow,hs,hk⟩:=hrel;have HO:=hid hrow;have HS:=hid hs;have HK:=hid hk;have hzr:=hk.size;clear hrow hs hk
  by_cases hlt:j<l.length
  . obtain ⟨b,off,aa,cp,rfl,hbl,x0,x1,x2,x3,x4,hargs⟩:=z19 HD.out HS.out.below j hlt
    have HT:=hid (zt7 sv l E hlt);have HC:=hid (HI.out j hlt N w0 wr R m fl ns _ A aa cp hargs HS.out);rw [HSV.out] at HC;clear hargs;generalize exsT sv (l.take j) E=p at *;obtain ⟨acc,E1⟩:=p;simp only at HC HT HO HS;have HL:=hid (zrv sv l[j] E1);generalize l[j]=x at *;generalize exT sv x E1=y at *;obtain ⟨⟨yo,yn,ym,ya,yl⟩,E2⟩:=y;simp only [Nd.op,Nd.n,Nd.m,Nd.at_,Nd.args] at HC HT
    have hyl:Hid (yl.length=x.args.length):=by
     have h1:=HL.out
     injection h1 with h2 h3
     injection h2 with _ _ _ _ h5
     show yl.length=x.args.length;rw [h5,zmd]
    clear HL;go_wp2_with fail;refine HC.out.mono ?_;rintro e w1 ⟨a',c',rfl,hE,hs1,hk1⟩;have hz1:=hk1.size;have HO1:=hid (HO.out.keeps hk1 (by omega));have HS1:=hid hs1;have HK1:=hid (HK.out.trans hk1);have HLt:=hid (fun k hk=>(HO.out.lt k hk).2)
    have HE1:Hid (zap w1 (wr.heap.size<=·) (Nd.mk yo yn ym ya yl).ds [.int .i64 yo,.int .i64 yn,.int .i64 ym,.int .i64 ya,.slice a' x.args.length c']):=by
     show zap _ _ _ _;rw [← hyl.out];exact zro (by rw [hyl.out];exact hE)
    clear HC hE hs1 hk1 HO
    go_wp2_with (at_builtin;refine zbm rfl (.tmp 13) (.tmp 20) 107 rfl w.heap.size 253 _ 5 56 Tryz.underlying107 Tryz.infoNode rfl (by decide) w1 u5 j (ze0 acc) (Nd.mk yo yn ym ya yl).ds rfl HO1.out #[.int .i64 yo,.int .i64 yn,.int .i64 ym,.int .i64 ya,.slice a' x.args.length c'] _ rfl rfl rfl (wr.heap.size<=·) HE1.out ?_ (by omega) (by decide) (by omega) ?_)
    . intro b _ hb
      have hb':wr.heap.size<=b:=hb;exact ⟨by omega,fun h=>by have:=HLt.out b h;omega⟩
    . intro g5 c5 w5 HO5 HB5 hz5
      have HO5':=hid HO5;have HB5':=hid HB5;clear HO5 HB5 HO1 HE1;go_wp2_with fail;go_roundw
      case rel=>exact ⟨j+1,by omega,by go_num,by rw [HT.out];show Row _ _ _ _ _ _ (ze0 (acc++[Nd.mk yo yn ym ya yl]));rw [zgr,zrk];exact HO5'.out,by rw [HT.out];exact HS1.out.step (HB5'.out.mono (by omega)),HK1.out.belowOf HB5'.out⟩
      case measure=>simp [intOf];omega
  . obtain rfl:j=l.length:=by omega
    rw [vav] at HO HS;obtain ⟨a5,c5,rfl,hea⟩:=HO.out.slice;have HEA:=hid hea;clear hea;go_wp2_with fail;go_ret;exact ⟨a5,c5,rfl,HEA.out,HS.out,HK.out⟩
def SxM (N:Nat) (w0 w:World) (R:Nat) (m:Mo) (fl:List Fc) (ns:List ByteArray) (x:Ex) (aa:OA) (cp:Nat) (E:Int) (wc:World):Prop:=∃ o q g a E',ndT (svM m fl ns) x E=(⟨o,q,g,a,0⟩,E')/\
 wc.heap[w.heap.size]? = some (.cells #[.int .i64 x.op,.int .i64 x.n,.string x.mod,.string x.name,.slice aa x.args.length cp] 174)/\
 wc.heap[w.heap.size+1]? = some (.cells #[.int .i64 0,.int .i64 0,.int .i64 0,.int .i64 0,.slice none 0 0] 253)/\
 wc.heap[w.heap.size+2]? = some (.cells #[.int .i64 o,.int .i64 q,.int .i64 g,.int .i64 a,.slice none 0 0] 253)/\Slv N w0 wc R m fl ns E'/\Keeps R w wc
structure SxI (N:Nat) (w0 w:World) (R:Nat) (m:Mo) (fl:List Fc) (ns:List ByteArray) (x:Ex) (aa:OA) (cp:Nat) (o q g a:Int) (E:Int) (wc:World):Prop where
 b0:wc.heap[w.heap.size]? = some (.cells #[.int .i64 x.op,.int .i64 x.n,.string x.mod,.string x.name,.slice aa x.args.length cp] 174)
 b1:wc.heap[w.heap.size+1]? = some (.cells #[.int .i64 0,.int .i64 0,.int .i64 0,.int .i64 0,.slice none 0 0] 253)
 b2:wc.heap[w.heap.size+2]? = some (.cells #[.int .i64 o,.int .i64 q,.int .i64 g,.int .i64 a,.slice none 0 0] 253)
 sl:Slv N w0 wc R m fl ns E
 kp:Keeps R w wc
section
variable {N:Nat} {w0 w wc w':World} {R:Nat} {m:Mo} {fl:List Fc} {ns:List ByteArray} {x:Ex} {aa:OA} {cp:Nat} {o q g a E:Int}
theorem SxI.later (h:SxI N w0 w R m fl ns x aa cp o q g a E wc) (hb:Below wc.heap.size wc w'):SxI N w0 w R m fl ns x aa cp o q g a E w':=
 ⟨(hb.block _ (zaa h.b0)).trans h.b0,(hb.block _ (zaa h.b1)).trans h.b1,(hb.block _ (zaa h.b2)).trans h.b2,h.sl.later hb,h.kp.later hb⟩
theorem SxI.alloc (h:SxI N w0 w R m fl ns x aa cp o q g a E wc) (ob:Obj):SxI N w0 w R m fl ns x aa cp o q g a E (wc.alloc ob):=h.later (al1 _ _)
theorem SxI.drew (h:SxI N w0 w R m fl ns x aa cp o q g a E wc):SxI N w0 w R m fl ns x aa cp o q g a E wc.drew:=h.later (bdrew _)
theorem SxI.keeps {E':Int} (h:SxI N w0 w R m fl ns x aa cp o q g a E wc) (hRw:R<w.heap.size) (hs:Slv N w0 w' R m fl ns E') (hk:Keeps R wc w'):SxI N w0 w R m fl ns x aa cp o q g a E' w':=
 ⟨(hk.block _ (zaa h.b0) (by omega)).trans h.b0,(hk.block _ (zaa h.b1) (by omega)).trans h.b1,(hk.block _ (zaa h.b2) (by omega)).trans h.b2,hs,h.kp.trans hk⟩
theorem SxI.setC (h:SxI N w0 w R m fl ns x aa cp o q g a E wc) (hN:N<=w.heap.size) (j:Nat) (u:Value) {o' q' g' a':Int} (hc:(wc.setCell ⟨w.heap.size+2,j,none⟩ u).heap[w.heap.size+2]? = some (.cells #[.int .i64 o',.int .i64 q',.int .i64 g',.int .i64 a',.slice none 0 0] 253)):SxI N w0 w R m fl ns x aa cp o' q' g' a' E (wc.setCell ⟨w.heap.size+2,j,none⟩ u):=
 ⟨(heap_set_ne (by show w.heap.size≠w.heap.size+2;omega) _).trans h.b0,(heap_set_ne (by show w.heap.size+1≠w.heap.size+2;omega) _).trans h.b1,hc,h.sl.step ((Below.refl N wc).setCell (p:=⟨w.heap.size+2,j,none⟩) (by show N<=w.heap.size+2;omega) _),h.kp.set (p:=⟨w.heap.size+2,j,none⟩) (by show w.heap.size<=w.heap.size+2;omega) _⟩
theorem SxI.set0 (h:SxI N w0 w R m fl ns x aa cp o q g a E wc) (hN:N<=w.heap.size) (u:Int):SxI N w0 w R m fl ns x aa cp u q g a E (wc.setCell ⟨w.heap.size+2,0,none⟩ (.int .i64 u)):=h.setC hN 0 _ (zaf h.b2 _)
theorem SxI.set1 (h:SxI N w0 w R m fl ns x aa cp o q g a E wc) (hN:N<=w.heap.size) (u:Int):SxI N w0 w R m fl ns x aa cp o u g a E (wc.setCell ⟨w.heap.size+2,1,none⟩ (.int .i64 u)):=h.setC hN 1 _ (zaf h.b2 _)
theorem SxI.set2 (h:SxI N w0 w R m fl ns x aa cp o q g a E wc) (hN:N<=w.heap.size) (u:Int):SxI N w0 w R m fl ns x aa cp o q u a E (wc.setCell ⟨w.heap.size+2,2,none⟩ (.int .i64 u)):=h.setC hN 2 _ (zaf h.b2 _)
theorem SxI.set3 (h:SxI N w0 w R m fl ns x aa cp o q g a E wc) (hN:N<=w.heap.size) (u:Int):SxI N w0 w R m fl ns x aa cp o q g u E (wc.setCell ⟨w.heap.size+2,3,none⟩ (.int .i64 u)):=h.setC hN 3 _ (zaf h.b2 _)
theorem SxI.meet (h:SxI N w0 w R m fl ns x aa cp o q g a E wc) {E0:Int} (e:ndT (svM m fl ns) x E0=(⟨o,q,g,a,0⟩,E)):SxM N w0 w R m fl ns x aa cp E0 wc:=⟨o,q,g,a,E,e,h.b0,h.b1,h.b2,h.sl,h.kp⟩
end
theorem zr7 {op:Int} (h:zww op=true):op=3\/op=4\/op=5:=by have:3<=op/\op<=5:=of_decide_eq_true h;omega
theorem zzk {v:Sv} {x:Ex} {E:Int} {o:Option Mg} (h:zww x.op=true) (ho:zew v x.mod x.name=o):ndT v x E=ndR o x E:=by unfold ndT;rw [if_pos h,ho]
theorem zzl (x:Ex) (hx:z0s x.args):SxC x:=by
 obtain ⟨op,n,mod,name,args⟩:=x;intro N w0 w R m fl ns E A aa cp hD hS;have hx:z0s args:=hx;have hD:DAt w0 A aa args.length (za9 args):=hD;have HX:=hid hx;have HD:=hid hD;have hRw:=hS.lt;have hNz:=hS.hN.2
 obtain ⟨W,hW⟩:∃ W,W=((w.alloc (.cells #[.int .i64 op,.int .i64 n,.string mod,.string name,.slice aa args.length cp] 174)).alloc (.cells #[.int .i64 0,.int .i64 0,.int .i64 0,.int .i64 0,.slice none 0 0] 253)).alloc (.cells #[.int .i64 op,.int .i64 n,.int .i64 0,.int .i64 0,.slice none 0 0] 253):=⟨_,rfl⟩
 have HI:Hid (SxI N w0 w R m fl ns (.mk op n mod name args) aa cp op n 0 0 E W):=by
  obtain ⟨q0,q1,q2⟩:=zj9 (w1:=((w.alloc (.cells #[.int .i64 op,.int .i64 n,.string mod,.string name,.slice aa args.length cp] 174)).alloc (.cells #[.int .i64 0,.int .i64 0,.int .i64 0,.int .i64 0,.slice none 0 0] 253)).alloc (.cells #[.int .i64 op,.int .i64 n,.int .i64 0,.int .i64 0,.slice none 0 0] 253)) (Below.refl _ _);rw [hW];exact ⟨q0,q1,q2,hS.later (bl3 _ _ _ _),Keeps.of_below (bl3 _ _ _ _) R⟩
 have HW:=hid hW;obtain ⟨y0,y1,y2,y3,y4,yz⟩:=zac HI.out.b0;obtain ⟨z0,z1,z2,z3,z4,zz⟩:=zac HI.out.b2;simp only [Ex.op,Ex.n,Ex.mod,Ex.name,Ex.args] at y0 y1 y2 y3 y4;have hl0:=zaa HI.out.b0;have hl2:=zaa HI.out.b2;have HF:=hid (zno HI.out.sl mod name);clear hx hD hS hW;show Calls Tryz.prog 207 #[.pointer (some ⟨R,0,none⟩),.agg #[.int .i64 op,.int .i64 n,.string mod,.string name,.slice aa args.length cp]] w _;go_enter Tryz.func207,Tryz.ntmps207
 go_upto_if 16 with (go_at_call 259;refine (zt0 _ _).mono ?_;rintro e w' ⟨rfl,rfl⟩)
 rw [← HW.out]
 go_cut [] (fun wc=>Hid (SxM N w0 w R m fl ns (.mk op n mod name args) aa cp E wc))
 case first =>
  clear HX HD
  cases hr:zww op with
  | false=>
    have HT:Hid (ndT (svM m fl ns) (.mk op n mod name args) E=(⟨op,n,0,0,0⟩,E)):=by show _=_;unfold ndT;rw [if_neg (by show ¬ zww op=true;rw [hr];decide)];rfl
    clear hr;go_wp2_with fail;go_meet;exact HI.out.meet HT.out
  | true=>
    have HC:=hid (zr7 hr);have HT:=hid (fun o (ho:zew (svM m fl ns) mod name=o)=>zzk (v:=svM m fl ns) (x:=.mk op n mod name args) (E:=E) hr ho);clear hr;go_wp2_with fail;refine HF.out.mono ?_;rintro e w4 ⟨hend,hb4⟩;have HI4:=hid (HI.out.later hb4);have hz4:=hb4.size;clear HF y0 y1 y2 y3 y4 yz z0 z1 z2 z3 z4 zz hb4;generalize hf:zew (svM m fl ns) mod name=o at *;have HT2:=hid (HT.out o rfl);clear HT hf;obtain ⟨y0,y1,y2,y3,y4,yz⟩:=zac HI4.out.b0;obtain ⟨z0,z1,z2,z3,z4,zz⟩:=zac HI4.out.b2;simp only [Ex.op,Ex.n,Ex.mod,Ex.name,Ex.args] at y0 y1 y2 y3 y4;have hk0:=zaa HI4.out.b0;have hk2:=zaa HI4.out.b2;clear hl0 hl2
    cases o with
    | none=>
      obtain rfl:e=_:=hend;have HFl:=hid (zcd 5 (HI4.out.sl.alloc (.cells #[.int .i64 0,.int .i64 0,.int .i64 0,.string ⟨#[]⟩] 98)));go_wp2_with fail;refine HFl.out.mono ?_;rintro e w5 ⟨rfl,hs5,hk5⟩;have HI5:=hid ((HI4.out.alloc _).keeps hRw hs5 hk5);go_wp2_with fail;go_meet;exact HI5.out.meet HT2.out
    | some g=>
      obtain ⟨kd,gn,gm,ga⟩:=g;obtain ⟨s,rfl⟩:=hend;have HI5:=hid (HI4.out.alloc (.cells #[.int .i64 kd,.int .i64 gn,.int .i64 ga,.string s] 98))
      by_cases hm:gm = -1
      . subst hm
        by_cases h3:op=3
        . subst h3
          have HE:Hid (ndT (svM m fl ns) (.mk 3 n mod name args) E=(⟨16,n,0,ga,0⟩,E)):=HT2.out;have HI6:=hid (((HI4.out.set0 hNz 16).set3 hNz ga).alloc (.cells #[.int .i64 kd,.int .i64 gn,.int .i64 ga,.string s] 98)).drew;go_wp2_with fail
          (try go_region)
          go_wp2_with fail;go_meet;exact HI6.out.meet HE.out
        . have HE:Hid (ndT (svM m fl ns) (.mk op n mod name args) E=(⟨16,n,0,ga,0⟩,zbf 7 E)):=HT2.out.trans (by show (_,_)=_;rw [if_neg (show ¬ (Ex.mk op n mod name args).op=3 from h3)];rfl)
          have HI6:=hid (((HI4.out.set0 hNz 16).set3 hNz ga).alloc (.cells #[.int .i64 kd,.int .i64 gn,.int .i64 ga,.string s] 98)).drew
          have h3b:(op != 3)=true:=by simp [h3]
          have HFl:=hid (zcd 7 HI6.out.sl);go_wp2_with fail
          (try go_region)
          go_wp2_with fail;refine HFl.out.mono ?_;rintro e w5 ⟨rfl,hs5,hk5⟩;have HI7:=hid (HI6.out.keeps hRw hs5 hk5);go_wp2_with fail;go_meet;exact HI7.out.meet HE.out
      . obtain rfl | rfl | rfl:=HC.out
        . by_cases h1:kd=1
          . subst h1
            have HE:Hid (ndT (svM m fl ns) (.mk 3 n mod name args) E=(⟨1,gn,0,0,0⟩,E)):=HT2.out.trans (by simp [ndR,Ex.op,Ex.n,Ex.args,hm]);have HI6:=hid ((((HI4.out.set0 hNz 1).set1 hNz gn).alloc (.cells #[.int .i64 1,.int .i64 gn,.int .i64 ga,.string s] 98)).drew);go_wp2_with fail
            (try go_region)
            go_wp2_with fail;go_meet;exact HI6.out.meet HE.out
          . by_cases h2:kd=2
            . subst h2
              have HE:Hid (ndT (svM m fl ns) (.mk 3 n mod name args) E=(⟨3,n,gm,ga,0⟩,E)):=HT2.out.trans (by simp [ndR,Ex.op,Ex.n,Ex.args,hm]);have HI6:=hid ((((HI4.out.set2 hNz gm).set3 hNz ga).alloc (.cells #[.int .i64 2,.int .i64 gn,.int .i64 ga,.string s] 98)).drew);go_wp2_with fail
              (try go_region)
              go_wp2_with fail;go_meet;exact HI6.out.meet HE.out
            . skip
              have HE:Hid (ndT (svM m fl ns) (.mk 3 n mod name args) E=(⟨3,n,0,0,0⟩,zbf 7 E)):=HT2.out.trans (by simp [ndR,Ex.op,Ex.n,Ex.args,hm,h1,h2]);have HFl:=hid (zcd 7 HI5.out.sl);go_wp2_with fail;refine HFl.out.mono ?_;rintro e w5 ⟨rfl,hs5,hk5⟩;have HI7:=hid (HI5.out.keeps hRw hs5 hk5);go_wp2_with fail;go_meet;exact HI7.out.meet HE.out
        . by_cases h1:kd=3
          . subst h1
            have HE:Hid (ndT (svM m fl ns) (.mk 4 n mod name args) E=(⟨4,gn,gm,ga,0⟩,E)):=HT2.out.trans (by simp [ndR,Ex.op,Ex.n,Ex.args,hm]);have HI6:=hid (((((HI4.out.set2 hNz gm).set3 hNz ga).set1 hNz gn).alloc (.cells #[.int .i64 3,.int .i64 gn,.int .i64 ga,.string s] 98)).drew);go_wp2_with fail
            (try go_region)
            go_wp2_with fail;go_meet;exact HI6.out.meet HE.out
          . skip
            have HE:Hid (ndT (svM m fl ns) (.mk 4 n mod name args) E=(⟨4,n,0,0,0⟩,zbf 7 E)):=HT2.out.trans (by simp [ndR,Ex.op,Ex.n,Ex.args,hm,h1]);have HFl:=hid (zcd 7 HI5.out.sl);go_wp2_with fail;refine HFl.out.mono ?_;rintro e w5 ⟨rfl,hs5,hk5⟩;have HI7:=hid (HI5.out.keeps hRw hs5 hk5);go_wp2_with fail;go_meet;exact HI7.out.meet HE.out
        . by_cases h1:kd=4
          . subst h1
            by_cases h2:gn=args.length
            . subst h2
              have HE:Hid (ndT (svM m fl ns) (.mk 5 n mod name args) E=(⟨5,n,gm,ga,0⟩,E)):=HT2.out.trans (by simp [ndR,Ex.op,Ex.n,Ex.args,hm]);have HI6:=hid ((((HI4.out.set2 hNz gm).set3 hNz ga).alloc (.cells #[.int .i64 4,.int .i64 args.length,.int .i64 ga,.string s] 98)).drew);go_wp2_with fail
              (try go_region)
              go_wp2_with fail;go_meet;exact HI6.out.meet HE.out
            . have HE:Hid (ndT (svM m fl ns) (.mk 5 n mod name args) E=(⟨5,n,gm,ga,0⟩,zbf 8 E)):=HT2.out.trans (by simp [ndR,Ex.op,Ex.n,Ex.args,hm,h2])
              have HI6:=hid (((HI4.out.set2 hNz gm).set3 hNz ga).alloc (.cells #[.int .i64 4,.int .i64 gn,.int .i64 ga,.string s] 98)).drew;have HFl:=hid (zcd 8 HI6.out.sl);go_wp2_with fail
              (try go_region)
              go_wp2_with fail;refine HFl.out.mono ?_;rintro e w5 ⟨rfl,hs5,hk5⟩;have HI7:=hid (HI6.out.keeps hRw hs5 hk5);go_wp2_with fail;go_meet;exact HI7.out.meet HE.out
          . skip
            have HE:Hid (ndT (svM m fl ns) (.mk 5 n mod name args) E=(⟨5,n,0,0,0⟩,zbf 7 E)):=HT2.out.trans (by simp [ndR,Ex.op,Ex.n,Ex.args,hm,h1]);have HFl:=hid (zcd 7 HI5.out.sl);go_wp2_with fail;refine HFl.out.mono ?_;rintro e w5 ⟨rfl,hs5,hk5⟩;have HI7:=hid (HI5.out.keeps hRw hs5 hk5);go_wp2_with fail;go_meet;exact HI7.out.meet HE.out
 case rest=>
  obtain ⟨o,q,g,a,E',he,b0,b1,b2,sl,kp⟩:=hcut;have HC:=hid (HX.out N w0 wc R m fl ns E' A aa cp HD.out sl);have HE:=hid (zrv (svM m fl ns) (.mk op n mod name args) E);rw [he] at HE;have B0:=hid b0;have B1:=hid b1;have B2:=hid b2;have hzc:=kp.size;have HKp:=hid kp;clear y0 y1 y2 y3 y4 yz z0 z1 z2 z3 z4 zz hl0 hl2 b1 sl kp he HI HF HX;obtain ⟨y0,y1,y2,y3,y4,yz⟩:=zac b0;simp only [Ex.op,Ex.n,Ex.mod,Ex.name,Ex.args] at y0 y1 y2 y3 y4;have hl0:=zaa b0;have hl2:=zaa b2;clear b0 b2;go_wp2_with fail;refine HC.out.mono ?_;rintro e w5 ⟨a',c',rfl,hE,hs5,hk5⟩;have hz5:=hk5.size;have C1:Hid (w5.heap[w.heap.size+1]? = _):=(hk5.block _ (zaa B1.out) (by omega)).trans B1.out;have C2:Hid (w5.heap[w.heap.size+2]? = _):=(hk5.block _ (zaa B2.out) (by omega)).trans B2.out;obtain ⟨z0,z1,z2,z3,z4,zz⟩:=zac C2.out
  obtain ⟨t0,t1,t2,t3,t4,tz⟩:=zac C1.out;have hm2:=zaa C2.out;have hm1:=zaa C1.out
  have HKf:Hid (∀ v0 v1 v2 v3 v4,Keeps R w (set5 (w5.setCell ⟨w.heap.size+2,4,none⟩ (.slice a' args.length c')) (w.heap.size+1) v0 v1 v2 v3 v4)):=fun v0 v1 v2 v3 v4=>
   ((HKp.out.trans hk5).set (p:=⟨w.heap.size+2,4,none⟩) (by show w.heap.size<=w.heap.size+2;omega) _).set5 (by omega) _ _ _ _ _
  have HSf:Hid (∀ v0 v1 v2 v3 v4,Slv N w0 (set5 (w5.setCell ⟨w.heap.size+2,4,none⟩ (.slice a' args.length c')) (w.heap.size+1) v0 v1 v2 v3 v4) R m fl ns (exsT (svM m fl ns) args E').2):=fun v0 v1 v2 v3 v4=>
   hs5.step (zcb ((Below.refl N w5).setCell (p:=⟨w.heap.size+2,4,none⟩) (by show N<=w.heap.size+2;omega) _) (by omega) _ _ _ _ _)
  have HEf:Hid (∀ v0 v1 v2 v3 v4,EAt (set5 (w5.setCell ⟨w.heap.size+2,4,none⟩ (.slice a' args.length c')) (w.heap.size+1) v0 v1 v2 v3 v4) (w.heap.size<=·) a' args.length (ze0 (exsT (svM m fl ns) args E').1)):=fun v0 v1 v2 v3 v4=>
   hE.moves ((((zae.refl w5 (wc.heap.size<=·)).set (p:=⟨w.heap.size+2,4,none⟩) (by intro b _ hb;show b≠w.heap.size+2;have:wc.heap.size<=b:=hb;omega) _).set5 (b:=w.heap.size+1) (by intro b _ hb;have:wc.heap.size<=b:=hb;omega) v0 v1 v2 v3 v4).trans ⟨vaa _,fun b _ h=>⟨by have:wc.heap.size<=b:=h;show w.heap.size<=b;omega,rfl⟩⟩)
  clear hE hs5 hk5 HC y0 y1 y2 y3 y4 yz hl0 hl2;go_wp2_with fail;refine bodyPost_ret (v:=.agg #[.int .i64 o,.int .i64 q,.int .i64 g,.int .i64 a,.slice a' args.length c']) (by simp [results,Tryz.results207,go_sem,z0,z1,z2,z3,z4,t0,t1,t2,t3,t4,hm1,hm2]) rfl ⟨a',c',by rw [HE.out];rfl,by rw [HE.out];exact HEf.out _ _ _ _ _,by rw [HE.out];exact HSf.out _ _ _ _ _,HKf.out _ _ _ _ _⟩
theorem zt8:∀ (k:Nat) (l:List Ex),zai k l=false->z0s l
 | 0,l,h=>zqr l (by simp [zai] at h;rw [h];simp) (by simp [zai] at h;subst h;intro j hj;simp at hj)
 | k+1,l,h=>by
   simp only [zai,vap] at h;have h1:=of_decide_eq_false h.1
   refine zqr l (by omega) fun j hj=>zzl _ (zt8 k _ ?_)
   have:=h.2;rw [vau] at this;simpa using this l[j] (vah _)
theorem zqs (v:Sv) (x:St):∀ (l:List St) (E:Int),blT v (l++[x]) E=((blT v l E).1++[(stT v x (blT v l E).2).1],(stT v x (blT v l E).2).2)
 | [],E=>by simp [blT]
 | y :: r,E=>by
   show blT v (y :: (r++[x])) E=_;rw [blT,zqs v x r,blT]
   rfl
theorem zw3 (v:Sv) (l:List St) (E:Int) {j:Nat} (h:j<l.length):blT v (l.take (j+1)) E=((blT v (l.take j) E).1++[(stT v l[j] (blT v (l.take j) E).2).1],(stT v l[j] (blT v (l.take j) E).2).2):=by
 rw [vag h,zqs]
theorem zje (v:Sv):∀ (l:List St) (E:Int),(blT v l E).1.length=l.length
 | [],E=>by rw [blT];rfl
 | x :: r,E=>by rw [blT];simp [zje v r]
def zyw (l:List St):Prop:=∀ (N:Nat) (w0 w:World) (R:Nat) (m:Mo) (fl:List Fc) (ns:List ByteArray) (E:Int) (A:Nat->Prop) (a:OA) (cap:Nat),DAt w0 A a l.length (za2 l)->Slv N w0 w R m fl ns E->
 Calls Tryz.prog 66 #[.pointer (some ⟨R,0,none⟩),.slice a l.length cap] w fun e w'=>∃ a' c',e = .returned (.slice a' l.length c')/\EAt w' (w.heap.size<=·) a' l.length (zc2 (blT (svM m fl ns) l E).1)/\Slv N w0 w' R m fl ns (blT (svM m fl ns) l E).2/\Keeps R w w'
def TxC (x:St):Prop:=∀ (N:Nat) (w0 w:World) (R:Nat) (m:Mo) (fl:List Fc) (ns:List ByteArray) (E:Int) (A:Nat->Prop) (a1:OA) (c1:Nat) (a2:OA) (c2:Nat) (a3:OA) (c3:Nat),DAt w0 A a1 x.args.length (za9 x.args)->DAt w0 A a2 x.body.length (za2 x.body)->DAt w0 A a3 x.other.length (za2 x.other)->Slv N w0 w R m fl ns E->
 Calls Tryz.prog 122 #[.pointer (some ⟨R,0,none⟩),.agg #[.int .i64 x.op,.string x.mod,.string x.name,.slice a1 x.args.length c1,.slice a2 x.body.length c2,.slice a3 x.other.length c3]] w fun e w'=>∃ b1 d1 b2 d2 b3 d3,e = .returned (.agg #[.int .i64 (stT (svM m fl ns) x E).1.op,.int .i64 (stT (svM m fl ns) x E).1.n,.int .i64 (stT (svM m fl ns) x E).1.m,.int .i64 (stT (svM m fl ns) x E).1.at_,.slice b1 x.args.length d1,.slice b2 x.body.length d2,.slice b3 x.other.length d3])/\
  EAt w' (w.heap.size<=·) b1 x.args.length (ze0 (stT (svM m fl ns) x E).1.args)/\EAt w' (w.heap.size<=·) b2 x.body.length (zc2 (stT (svM m fl ns) x E).1.body)/\EAt w' (w.heap.size<=·) b3 x.other.length (zc2 (stT (svM m fl ns) x E).1.other)/\Slv N w0 w' R m fl ns (stT (svM m fl ns) x E).2/\Keeps R w w'
theorem z2a {w0 W:World} {A:Nat->Prop} {a:OA} {l:List St} (h:DAt w0 A a l.length (za2 l)) (hb:Below w0.heap.size w0 W) (k:Nat) (hk:k<l.length) :
 ∃ b off a1 p1 a2 p2 a3 p3,a=some ⟨b,off,none⟩/\b<W.heap.size/\W.cell? ⟨b,off+k*6,none⟩=some (.int .i64 l[k].op)/\W.cell? ⟨b,off+k*6+1,none⟩=some (.string l[k].mod)/\W.cell? ⟨b,off+k*6+2,none⟩=some (.string l[k].name)/\W.cell? ⟨b,off+k*6+3,none⟩=some (.slice a1 l[k].args.length p1)/\W.cell? ⟨b,off+k*6+4,none⟩=some (.slice a2 l[k].body.length p2)/\W.cell? ⟨b,off+k*6+5,none⟩=some (.slice a3 l[k].other.length p3)/\
   DAt w0 A a1 l[k].args.length (za9 l[k].args)/\DAt w0 A a2 l[k].body.length (za2 l[k].body)/\DAt w0 A a3 l[k].other.length (za2 l[k].other):=by
 obtain ⟨b,off,a1,p1,a2,p2,a3,p3,ha,hx⟩:=h.st k hk;obtain ⟨hbl,x0,x1,x2,x3,x4,x5,h1,h2,h3,_⟩:=hx;have hz:=hb.size;exact ⟨b,off,a1,p1,a2,p2,a3,p3,ha,by omega,(hb.cell (p:=⟨b,_,none⟩) hbl).trans x0,(hb.cell (p:=⟨b,_,none⟩) hbl).trans x1,(hb.cell (p:=⟨b,_,none⟩) hbl).trans x2,(hb.cell (p:=⟨b,_,none⟩) hbl).trans x3,(hb.cell (p:=⟨b,_,none⟩) hbl).trans x4,(hb.cell (p:=⟨b,_,none⟩) hbl).trans x5,h1,h2,h3⟩
theorem zqt (l:List St) (hl5:l.length<=5000) (ih:∀ j (h:j<l.length),TxC l[j]):zyw l:=by
 intro N w0 w R m fl ns E A a cap hD hS;have hRw:=hS.lt;have HN:=hS.hN;have HD:=hid hD;have HS0:=hid hS;have HI:=hid ih;generalize hsv:svM m fl ns=sv at *;have HSV:=hid hsv;clear hD hS ih hsv;go_enter Tryz.func66,Tryz.ntmps66;go_wp2_with fail
 go_loopw [5,6] (fun v i wr=>∃ j:Nat,j<=l.length/\i = .int .i64 j/\Row w.heap.size 109 7 wr v j (zc2 (blT sv (l.take j) E).1)/\Slv N w0 wr R m fl ns (blT sv (l.take j) E).2/\Keeps R w wr) (fun _ i _=>l.length - (intOf i).toNat)
 case atStart=>exact ⟨0,vad _,rfl,by rw [vcy,blT];exact Row.nil _ _ _ _,by rw [vcy,blT];exact HS0.out,Keeps.refl _ _⟩
 case round=>
  obtain ⟨j,hj,rfl,hrow,hs,hk⟩:=hrel;have HO:=hid hrow;have HS:=hid hs;have HK:=hid hk;have hzr:=hk.size;clear hrow hs hk
  by_cases hlt:j<l.length
  . obtain ⟨b,off,a1,p1,a2,p2,a3,p3,rfl,hbl,x0,x1,x2,x3,x4,x5,h1,h2,h3⟩:=z2a HD.out HS.out.below j hlt
    have HT:=hid (zw3 sv l E hlt);have HC:=hid (HI.out j hlt N w0 wr R m fl ns _ A a1 p1 a2 p2 a3 p3 h1 h2 h3 HS.out);rw [HSV.out] at HC;clear h1 h2 h3;generalize blT sv (l.take j) E=p at *;obtain ⟨acc,E1⟩:=p;simp only at HC HT HO HS;have HL:=hid (zrw sv l[j] E1);generalize l[j]=x at *;generalize stT sv x E1=y at *;obtain ⟨⟨yo,yn,ym,ya,yl,yb,yr⟩,E2⟩:=y;simp only [Ac.op,Ac.n,Ac.m,Ac.at_,Ac.args,Ac.body,Ac.other] at HC HT
    have hyl:Hid (yl.length=x.args.length/\yb.length=x.body.length/\yr.length=x.other.length):=by
     have h1:=HL.out
     injection h1 with h2 h3
     injection h2 with _ _ _ _ h5 h6 h7
     show yl.length=x.args.length/\yb.length=x.body.length/\yr.length=x.other.length;rw [h5,h6,h7,zmd,zje,zje];exact ⟨rfl,rfl,rfl⟩
    clear HL;go_wp2_with fail;refine HC.out.mono ?_;rintro e w1 ⟨b1,d1,b2,d2,b3,d3,rfl,hE1,hE2,hE3,hs1,hk1⟩;have hz1:=hk1.size;have HO1:=hid (HO.out.keeps hk1 (by omega));have HS1:=hid hs1;have HK1:=hid (HK.out.trans hk1);have HLt:=hid (fun k hk=>(HO.out.lt k hk).2)
    have HE1:Hid (zap w1 (wr.heap.size<=·) (Ac.mk yo yn ym ya yl yb yr).ds [.int .i64 yo,.int .i64 yn,.int .i64 ym,.int .i64 ya,.slice b1 x.args.length d1,.slice b2 x.body.length d2,.slice b3 x.other.length d3]):=by
     show zap _ _ _ _;rw [← hyl.out.1,← hyl.out.2.1,← hyl.out.2.2];exact zrp (y:=.mk yo yn ym ya yl yb yr) (by show EAt _ _ _ yl.length _;rw [hyl.out.1];exact hE1) (by show EAt _ _ _ yb.length _;rw [hyl.out.2.1];exact hE2) (by show EAt _ _ _ yr.length _;rw [hyl.out.2.2];exact hE3)
    clear HC hE1 hE2 hE3 hs1 hk1 HO
    go_wp2_with (at_builtin;refine zbm rfl (.tmp 13) (.tmp 20) 40 rfl w.heap.size 109 _ 7 104 Tryz.underlying40 Tryz.infoAct rfl (by decide) w1 u5 j (zc2 acc) (Ac.mk yo yn ym ya yl yb yr).ds rfl HO1.out #[.int .i64 yo,.int .i64 yn,.int .i64 ym,.int .i64 ya,.slice b1 x.args.length d1,.slice b2 x.body.length d2,.slice b3 x.other.length d3] _ rfl rfl rfl (wr.heap.size<=·) HE1.out ?_ (by omega) (by decide) (by omega) ?_)
    . intro b _ hb
      have hb':wr.heap.size<=b:=hb;exact ⟨by omega,fun h=>by have:=HLt.out b h;omega⟩
    . intro g5 c5 w5 HO5 HB5 hz5
      have HO5':=hid HO5;have HB5':=hid HB5;clear HO5 HB5 HO1 HE1;go_wp2_with fail;go_roundw
      case rel=>exact ⟨j+1,by omega,by go_num,by rw [HT.out];show Row _ _ _ _ _ _ (zc2 (acc++[Ac.mk yo yn ym ya yl yb yr]));rw [zgs,zrl];exact HO5'.out,by rw [HT.out];exact HS1.out.step (HB5'.out.mono (by omega)),HK1.out.belowOf HB5'.out⟩
      case measure=>simp [intOf];omega
  . obtain rfl:j=l.length:=by omega
    rw [vav] at HO HS;obtain ⟨a5,c5,rfl,hea⟩:=HO.out.slice;have HEA:=hid hea;clear hea;go_wp2_with fail;go_ret;exact ⟨a5,c5,rfl,HEA.out,HS.out,HK.out⟩
structure TxI (N:Nat) (w0 w:World) (R:Nat) (m:Mo) (fl:List Fc) (ns:List ByteArray) (c0 cs:Array Value) (E:Int) (wc:World):Prop where
 b0:wc.heap[w.heap.size]? = some (.cells c0 176)
 b1:wc.heap[w.heap.size+1]? = some (.cells #[.int .i64 0,.int .i64 0,.int .i64 0,.int .i64 0,.slice none 0 0,.slice none 0 0,.slice none 0 0] 109)
 b2:wc.heap[w.heap.size+2]? = some (.cells cs 109)
 sl:Slv N w0 wc R m fl ns E
 kp:Keeps R w wc
abbrev zto (o q g a:Int):Array Value:=#[.int .i64 o,.int .i64 q,.int .i64 g,.int .i64 a,.slice none 0 0,.slice none 0 0,.slice none 0 0]
section
variable {N:Nat} {w0 w wc w':World} {R:Nat} {m:Mo} {fl:List Fc} {ns:List ByteArray} {c0 cs cs':Array Value} {o q g a E:Int}
theorem TxI.later (h:TxI N w0 w R m fl ns c0 cs E wc) (hb:Below wc.heap.size wc w'):TxI N w0 w R m fl ns c0 cs E w':=
 ⟨(hb.block _ (zaa h.b0)).trans h.b0,(hb.block _ (zaa h.b1)).trans h.b1,(hb.block _ (zaa h.b2)).trans h.b2,h.sl.later hb,h.kp.later hb⟩
theorem TxI.alloc (h:TxI N w0 w R m fl ns c0 cs E wc) (ob:Obj):TxI N w0 w R m fl ns c0 cs E (wc.alloc ob):=h.later (al1 _ _)
theorem TxI.drew (h:TxI N w0 w R m fl ns c0 cs E wc):TxI N w0 w R m fl ns c0 cs E wc.drew:=h.later (bdrew _)
theorem TxI.keeps {E':Int} (h:TxI N w0 w R m fl ns c0 cs E wc) (hRw:R<w.heap.size) (hs:Slv N w0 w' R m fl ns E') (hk:Keeps R wc w'):TxI N w0 w R m fl ns c0 cs E' w':=
 ⟨(hk.block _ (zaa h.b0) (by omega)).trans h.b0,(hk.block _ (zaa h.b1) (by omega)).trans h.b1,(hk.block _ (zaa h.b2) (by omega)).trans h.b2,hs,h.kp.trans hk⟩
theorem TxI.setC (h:TxI N w0 w R m fl ns c0 cs E wc) (hN:N<=w.heap.size) (j:Nat) (u:Value) (hc:(wc.setCell ⟨w.heap.size+2,j,none⟩ u).heap[w.heap.size+2]? = some (.cells cs' 109)):TxI N w0 w R m fl ns c0 cs' E (wc.setCell ⟨w.heap.size+2,j,none⟩ u):=
 ⟨(heap_set_ne (by show w.heap.size≠w.heap.size+2;omega) _).trans h.b0,(heap_set_ne (by show w.heap.size+1≠w.heap.size+2;omega) _).trans h.b1,hc,h.sl.step ((Below.refl N wc).setCell (p:=⟨w.heap.size+2,j,none⟩) (by show N<=w.heap.size+2;omega) _),h.kp.set (p:=⟨w.heap.size+2,j,none⟩) (by show w.heap.size<=w.heap.size+2;omega) _⟩
theorem TxI.set1 (h:TxI N w0 w R m fl ns c0 (zto o q g a) E wc) (hN:N<=w.heap.size) (u:Int):TxI N w0 w R m fl ns c0 (zto o u g a) E (wc.setCell ⟨w.heap.size+2,1,none⟩ (.int .i64 u)):=h.setC hN 1 _ (zaf h.b2 _)
theorem TxI.set2 (h:TxI N w0 w R m fl ns c0 (zto o q g a) E wc) (hN:N<=w.heap.size) (u:Int):TxI N w0 w R m fl ns c0 (zto o q u a) E (wc.setCell ⟨w.heap.size+2,2,none⟩ (.int .i64 u)):=h.setC hN 2 _ (zaf h.b2 _)
theorem TxI.set3 (h:TxI N w0 w R m fl ns c0 (zto o q g a) E wc) (hN:N<=w.heap.size) (u:Int):TxI N w0 w R m fl ns c0 (zto o q g u) E (wc.setCell ⟨w.heap.size+2,3,none⟩ (.int .i64 u)):=h.setC hN 3 _ (zaf h.b2 _)
end
def TxM (N:Nat) (w0 w:World) (R:Nat) (m:Mo) (fl:List Fc) (ns:List ByteArray) (x:St) (c0:Array Value) (E:Int) (wc:World):Prop:=∃ o q g a E',acT (svM m fl ns) x E=(⟨o,q,g,a,0⟩,E')/\TxI N w0 w R m fl ns c0 (zto o q g a) E' wc
theorem zr8 {op:Int} (h:zzd op=true):op=1\/op=2\/op=3:=by have:1<=op/\op<=3:=of_decide_eq_true h;omega
theorem zzm {v:Sv} {x:St} {E:Int} {o:Option Mg} (h:zzd x.op=true) (ho:zew v x.mod x.name=o):acT v x E=acR o x E:=by unfold acT;rw [if_pos h,ho]
theorem zix {R lo:Nat} {w w':World} (h:Keeps R w w') (hR:R<lo):zae w (lo<=·) w' (lo<=·):=(zae.refl w _).keeps h (fun b _ hb=>by have:lo<=b:=hb;omega)
theorem zzn (x:St) (hx:z0s x.args) (hb:zyw x.body) (ho:zyw x.other):TxC x:=by
 obtain ⟨op,mod,name,args,body,other⟩:=x;intro N w0 w R m fl ns E A a1 c1 a2 c2 a3 c3 hD1 hD2 hD3 hS;have hx:z0s args:=hx;have hb:zyw body:=hb;have ho:zyw other:=ho;have hD1:DAt w0 A a1 args.length (za9 args):=hD1;have hD2:DAt w0 A a2 body.length (za2 body):=hD2;have hD3:DAt w0 A a3 other.length (za2 other):=hD3;have HX:=hid hx;have HB:=hid hb;have HO:=hid ho;have HD1:=hid hD1;have HD2:=hid hD2;have HD3:=hid hD3;have hRw:=hS.lt;have hNz:=hS.hN.2
 obtain ⟨W,hW⟩:∃ W,W=((w.alloc (.cells #[.int .i64 op,.string mod,.string name,.slice a1 args.length c1,.slice a2 body.length c2,.slice a3 other.length c3] 176)).alloc (.cells (zto 0 0 0 0) 109)).alloc (.cells (zto op 0 0 0) 109):=⟨_,rfl⟩
 have HI:Hid (TxI N w0 w R m fl ns #[.int .i64 op,.string mod,.string name,.slice a1 args.length c1,.slice a2 body.length c2,.slice a3 other.length c3] (zto op 0 0 0) E W):=by
  obtain ⟨q0,q1,q2⟩:=zj9 (w1:=((w.alloc (.cells #[.int .i64 op,.string mod,.string name,.slice a1 args.length c1,.slice a2 body.length c2,.slice a3 other.length c3] 176)).alloc (.cells (zto 0 0 0 0) 109)).alloc (.cells (zto op 0 0 0) 109)) (Below.refl _ _);rw [hW];exact ⟨q0,q1,q2,hS.later (bl3 _ _ _ _),Keeps.of_below (bl3 _ _ _ _) R⟩
 have HW:=hid hW;obtain ⟨y0,y1,y2,y3,y4,y5,yz⟩:=zao HI.out.b0;obtain ⟨z0,z1,z2,z3,z4,z5,z6,zz⟩:=zbw HI.out.b2;have hl0:=zaa HI.out.b0;have hl2:=zaa HI.out.b2;have HF:=hid (zno HI.out.sl mod name);clear hx hb ho hD1 hD2 hD3 hS hW;show Calls Tryz.prog 122 #[.pointer (some ⟨R,0,none⟩),.agg #[.int .i64 op,.string mod,.string name,.slice a1 args.length c1,.slice a2 body.length c2,.slice a3 other.length c3]] w _;go_enter Tryz.func122,Tryz.ntmps122
 go_upto_if 14 with (go_at_call 163;refine (zt1 _ _).mono ?_;rintro e w' ⟨rfl,rfl⟩)
 rw [← HW.out]
 go_cut [] (fun wc=>Hid (TxM N w0 w R m fl ns (.mk op mod name args body other) #[.int .i64 op,.string mod,.string name,.slice a1 args.length c1,.slice a2 body.length c2,.slice a3 other.length c3] E wc))
 case first =>
  clear HX HB HO HD1 HD2 HD3
  cases hr:zzd op with
  | false=>
    have HT:Hid (acT (svM m fl ns) (.mk op mod name args body other) E=(⟨op,0,0,0,0⟩,E)):=by show _=_;unfold acT;rw [if_neg (by show ¬ zzd op=true;rw [hr];decide)];rfl
    clear hr;go_wp2_with fail;go_meet;exact ⟨_,_,_,_,_,HT.out,HI.out⟩
  | true=>
    have HC:=hid (zr8 hr);have HT:=hid (fun o (ho:zew (svM m fl ns) mod name=o)=>zzm (v:=svM m fl ns) (x:=.mk op mod name args body other) (E:=E) hr ho);clear hr;go_wp2_with fail;refine HF.out.mono ?_;rintro e w4 ⟨hend,hb4⟩;have HI4:=hid (HI.out.later hb4);have hz4:=hb4.size;clear HF y0 y1 y2 y3 y4 y5 yz z0 z1 z2 z3 z4 z5 z6 zz hb4;generalize hf:zew (svM m fl ns) mod name=o at *;have HT2:=hid (HT.out o rfl);clear HT hf;obtain ⟨y0,y1,y2,y3,y4,y5,yz⟩:=zao HI4.out.b0;obtain ⟨z0,z1,z2,z3,z4,z5,z6,zz⟩:=zbw HI4.out.b2;have hk0:=zaa HI4.out.b0;have hk2:=zaa HI4.out.b2;clear hl0 hl2
    cases o with
    | none=>
      obtain rfl:e=_:=hend;have HFl:=hid (zcd 5 (HI4.out.sl.alloc (.cells #[.int .i64 0,.int .i64 0,.int .i64 0,.string ⟨#[]⟩] 98)));go_wp2_with fail;refine HFl.out.mono ?_;rintro e w5 ⟨rfl,hs5,hk5⟩;have HI5:=hid ((HI4.out.alloc _).keeps hRw hs5 hk5);go_wp2_with fail;go_meet;exact ⟨_,_,_,_,_,HT2.out,HI5.out⟩
    | some g=>
      obtain ⟨kd,gn,gm,ga⟩:=g;obtain ⟨s,rfl⟩:=hend;have HI5:=hid (HI4.out.alloc (.cells #[.int .i64 kd,.int .i64 gn,.int .i64 ga,.string s] 98))
      obtain rfl | rfl | rfl:=HC.out
      . by_cases hm:gm = -1
        . subst hm
          have HE:Hid (acT (svM m fl ns) (.mk 1 mod name args body other) E=(⟨1,0, -1,ga,0⟩,E)):=HT2.out.trans (by simp [acR,St.op,St.args,]);have HI6:=hid ((((HI4.out.set2 hNz (-1)).set3 hNz ga).alloc (.cells #[.int .i64 kd,.int .i64 gn,.int .i64 ga,.string s] 98)).drew);go_wp2_with fail
          (try go_region)
          go_wp2_with fail;go_meet;exact ⟨_,_,_,_,_,HE.out,HI6.out⟩
        . by_cases h1:kd=2
          . subst h1
            have HE:Hid (acT (svM m fl ns) (.mk 1 mod name args body other) E=(⟨1,0,gm,ga,0⟩,E)):=HT2.out.trans (by simp [acR,St.op,St.args,hm]);have HI6:=hid ((((HI4.out.set2 hNz gm).set3 hNz ga).alloc (.cells #[.int .i64 2,.int .i64 gn,.int .i64 ga,.string s] 98)).drew);go_wp2_with fail
            (try go_region)
            go_wp2_with fail;go_meet;exact ⟨_,_,_,_,_,HE.out,HI6.out⟩
          . have b1:(gm == -1)=false:=by simp [hm]
            have b2:(kd == 2)=false:=by simp [h1]
            have HE:Hid (acT (svM m fl ns) (.mk 1 mod name args body other) E=(⟨1,0,0,0,0⟩,zbf 7 E)):=HT2.out.trans (by simp [acR,St.op,St.args,hm,h1]);have HFl:=hid (zcd 7 HI5.out.sl);go_wp2_with fail;refine HFl.out.mono ?_;rintro e w5 ⟨rfl,hs5,hk5⟩;have HI7:=hid (HI5.out.keeps hRw hs5 hk5);go_wp2_with fail;go_meet;exact ⟨_,_,_,_,_,HE.out,HI7.out⟩
      . by_cases hm:gm = -1
        . subst hm
          have HE:Hid (acT (svM m fl ns) (.mk 2 mod name args body other) E=(⟨2,0,0,0,0⟩,zbf 7 E)):=HT2.out.trans (by simp [acR,St.op,St.args,]);have HFl:=hid (zcd 7 HI5.out.sl);go_wp2_with fail;refine HFl.out.mono ?_;rintro e w5 ⟨rfl,hs5,hk5⟩;have HI7:=hid (HI5.out.keeps hRw hs5 hk5);go_wp2_with fail;go_meet;exact ⟨_,_,_,_,_,HE.out,HI7.out⟩
        . by_cases h1:kd=3
          . subst h1
            have HE:Hid (acT (svM m fl ns) (.mk 2 mod name args body other) E=(⟨2,gn,gm,ga,0⟩,E)):=HT2.out.trans (by simp [acR,St.op,St.args,hm]);have HI6:=hid (((((HI4.out.set2 hNz gm).set3 hNz ga).set1 hNz gn).alloc (.cells #[.int .i64 3,.int .i64 gn,.int .i64 ga,.string s] 98)).drew);go_wp2_with fail
            (try go_region)
            go_wp2_with fail;go_meet;exact ⟨_,_,_,_,_,HE.out,HI6.out⟩
          . skip
            have HE:Hid (acT (svM m fl ns) (.mk 2 mod name args body other) E=(⟨2,0,0,0,0⟩,zbf 7 E)):=HT2.out.trans (by simp [acR,St.op,St.args,hm,h1]);have HFl:=hid (zcd 7 HI5.out.sl);go_wp2_with fail;refine HFl.out.mono ?_;rintro e w5 ⟨rfl,hs5,hk5⟩;have HI7:=hid (HI5.out.keeps hRw hs5 hk5);go_wp2_with fail;go_meet;exact ⟨_,_,_,_,_,HE.out,HI7.out⟩
      . by_cases hm:gm = -1
        . subst hm
          have HE:Hid (acT (svM m fl ns) (.mk 3 mod name args body other) E=(⟨3,0,0,0,0⟩,zbf 7 E)):=HT2.out.trans (by simp [acR,St.op,St.args,]);have HFl:=hid (zcd 7 HI5.out.sl);go_wp2_with fail;refine HFl.out.mono ?_;rintro e w5 ⟨rfl,hs5,hk5⟩;have HI7:=hid (HI5.out.keeps hRw hs5 hk5);go_wp2_with fail;go_meet;exact ⟨_,_,_,_,_,HE.out,HI7.out⟩
        . by_cases h1:kd=4
          . subst h1
            by_cases h2:gn=args.length
            . subst h2
              have HE:Hid (acT (svM m fl ns) (.mk 3 mod name args body other) E=(⟨3,0,gm,ga,0⟩,E)):=HT2.out.trans (by simp [acR,St.op,St.args,hm]);have HI6:=hid ((((HI4.out.set2 hNz gm).set3 hNz ga).alloc (.cells #[.int .i64 4,.int .i64 args.length,.int .i64 ga,.string s] 98)).drew);go_wp2_with fail
              (try go_region)
              go_wp2_with fail;go_meet;exact ⟨_,_,_,_,_,HE.out,HI6.out⟩
            . have HE:Hid (acT (svM m fl ns) (.mk 3 mod name args body other) E=(⟨3,0,gm,ga,0⟩,zbf 8 E)):=HT2.out.trans (by simp [acR,St.op,St.args,hm,h2])
              have HI6:=hid (((HI4.out.set2 hNz gm).set3 hNz ga).alloc (.cells #[.int .i64 4,.int .i64 gn,.int .i64 ga,.string s] 98)).drew;have HFl:=hid (zcd 8 HI6.out.sl);go_wp2_with fail
              (try go_region)
              go_wp2_with fail;refine HFl.out.mono ?_;rintro e w5 ⟨rfl,hs5,hk5⟩;have HI7:=hid (HI6.out.keeps hRw hs5 hk5);go_wp2_with fail;go_meet;exact ⟨_,_,_,_,_,HE.out,HI7.out⟩
          . skip
            have HE:Hid (acT (svM m fl ns) (.mk 3 mod name args body other) E=(⟨3,0,0,0,0⟩,zbf 7 E)):=HT2.out.trans (by simp [acR,St.op,St.args,hm,h1]);have HFl:=hid (zcd 7 HI5.out.sl);go_wp2_with fail;refine HFl.out.mono ?_;rintro e w5 ⟨rfl,hs5,hk5⟩;have HI7:=hid (HI5.out.keeps hRw hs5 hk5);go_wp2_with fail;go_meet;exact ⟨_,_,_,_,_,HE.out,HI7.out⟩
 case rest=>
  obtain ⟨o,q,g,a,E',he,hi⟩:=hcut;have HE:=hid (zrw (svM m fl ns) (.mk op mod name args body other) E);rw [he] at HE;have HC:=hid (HX.out N w0 wc R m fl ns E' A a1 c1 HD1.out hi.sl);have HIc:=hid hi;have hzc:=hi.kp.size;have hw3:w.heap.size+2<wc.heap.size:=zaa hi.b2;clear y0 y1 y2 y3 y4 y5 yz z0 z1 z2 z3 z4 z5 z6 zz hl0 hl2 he HI HF HX hi;obtain ⟨y0,y1,y2,y3,y4,y5,yz⟩:=zao HIc.out.b0;have hl0:=zaa HIc.out.b0;go_wp2_with fail;refine HC.out.mono ?_;rintro e w5 ⟨b1,d1,rfl,hE1,hs5,hk5⟩;have HI5:=hid (HIc.out.keeps hRw hs5 hk5);have HI5':=hid (HI5.out.setC hNz 4 (.slice b1 args.length d1) (zaf HI5.out.b2 _));have HE1:Hid (EAt (w5.setCell ⟨w.heap.size+2,4,none⟩ (.slice b1 args.length d1)) (w.heap.size+3<=·) b1 args.length _):=(hE1.moves (zae.lower (by omega))).moves ((zae.refl w5 (w.heap.size+3<=·)).set (p:=⟨w.heap.size+2,4,none⟩) (by intro b _ hb;show b≠w.heap.size+2;have:w.heap.size+3<=b:=hb;omega) _)
  have HZ5:Hid ((w5.setCell ⟨w.heap.size+2,4,none⟩ (.slice b1 args.length d1)).heap.size=w5.heap.size):=vam ..;have hz5:=hk5.size;have HC5:=hid (HB.out N w0 _ R m fl ns _ A a2 c2 HD2.out HI5'.out.sl);clear hE1 hs5 hk5 HC y0 y1 y2 y3 y4 y5 yz hl0 HIc;obtain ⟨y0,y1,y2,y3,y4,y5,yz⟩:=zao HI5.out.b0;obtain ⟨z0,z1,z2,z3,z4,z5,z6,zz⟩:=zbw HI5.out.b2;have hl0:=zaa HI5.out.b0;have hl2:=zaa HI5.out.b2;clear HI5;go_wp2_with fail;refine HC5.out.mono ?_;rintro e w6 ⟨b2,d2,rfl,hE2,hs6,hk6⟩;have HI6:=hid (HI5'.out.keeps hRw hs6 hk6);have HI6':=hid (HI6.out.setC hNz 5 (.slice b2 body.length d2) (zaf HI6.out.b2 _));have hz6:=hk6.size;rw [HZ5.out] at hz6;have HE1':Hid (EAt (w6.setCell ⟨w.heap.size+2,5,none⟩ (.slice b2 body.length d2)) (w.heap.size+3<=·) b1 args.length _):=(HE1.out.moves (zix hk6 (by omega))).moves ((zae.refl w6 (w.heap.size+3<=·)).set (p:=⟨w.heap.size+2,5,none⟩) (by intro b _ hb;show b≠w.heap.size+2;have:w.heap.size+3<=b:=hb;omega) _)
  have HE2:Hid (EAt (w6.setCell ⟨w.heap.size+2,5,none⟩ (.slice b2 body.length d2)) (w.heap.size+3<=·) b2 body.length _):=(hE2.moves (zae.lower (by rw [HZ5.out];omega))).moves ((zae.refl w6 (w.heap.size+3<=·)).set (p:=⟨w.heap.size+2,5,none⟩) (by intro b _ hb;show b≠w.heap.size+2;have:w.heap.size+3<=b:=hb;omega) _);have HZ6:Hid ((w6.setCell ⟨w.heap.size+2,5,none⟩ (.slice b2 body.length d2)).heap.size=w6.heap.size):=vam ..;have HC6:=hid (HO.out N w0 _ R m fl ns _ A a3 c3 HD3.out HI6'.out.sl);clear hE2 hs6 hk6 HC5 y0 y1 y2 y3 y4 y5 yz hl0 z0 z1 z2 z3 z4 z5 z6 zz hl2 HI5' HE1;obtain ⟨y0,y1,y2,y3,y4,y5,yz⟩:=zao HI6.out.b0;obtain ⟨z0,z1,z2,z3,z4,z5,z6,zz⟩:=zbw HI6.out.b2;have hl0:=zaa HI6.out.b0;have hl2:=zaa HI6.out.b2;clear HI6;go_wp2_with fail;refine HC6.out.mono ?_;rintro e w7 ⟨b3,d3,rfl,hE3,hs7,hk7⟩
  have HI7:=hid (HI6'.out.keeps hRw hs7 hk7);have hz7:=hk7.size;rw [HZ6.out] at hz7
  have HMv:Hid (∀ v0 v1 v2 v3 v4 v5 v6,zae w7 (w.heap.size+3<=·) (((set5 (w7.setCell ⟨w.heap.size+2,6,none⟩ (.slice b3 other.length d3)) (w.heap.size+1) v0 v1 v2 v3 v4).setCell ⟨w.heap.size+1,5,none⟩ v5).setCell ⟨w.heap.size+1,6,none⟩ v6) (w.heap.size<=·)):=fun v0 v1 v2 v3 v4 v5 v6=>
   (((((zae.refl w7 (w.heap.size+3<=·)).set (p:=⟨w.heap.size+2,6,none⟩) (by intro b _ hb;show b≠w.heap.size+2;have:w.heap.size+3<=b:=hb;omega) _).set5 (b:=w.heap.size+1) (by intro b _ hb;have:w.heap.size+3<=b:=hb;omega) v0 v1 v2 v3 v4).set (p:=⟨w.heap.size+1,5,none⟩) (by intro b _ hb;show b≠w.heap.size+1;have:w.heap.size+3<=b:=hb;omega) v5).set (p:=⟨w.heap.size+1,6,none⟩) (by intro b _ hb;show b≠w.heap.size+1;have:w.heap.size+3<=b:=hb;omega) v6).trans ⟨vaa _,fun b _ h=>⟨by have:w.heap.size+3<=b:=h;show w.heap.size<=b;omega,rfl⟩⟩
  have HA1:=hid (HE1'.out.moves (zix hk7 (by omega)));have HA2:=hid (HE2.out.moves (zix hk7 (by omega)));have HA3:=hid (hE3.moves (zae.lower (lo':=w.heap.size+3) (by rw [HZ6.out];omega)))
  have HSf:Hid (∀ v0 v1 v2 v3 v4 v5 v6,Slv N w0 (((set5 (w7.setCell ⟨w.heap.size+2,6,none⟩ (.slice b3 other.length d3)) (w.heap.size+1) v0 v1 v2 v3 v4).setCell ⟨w.heap.size+1,5,none⟩ v5).setCell ⟨w.heap.size+1,6,none⟩ v6) R m fl ns _):=fun v0 v1 v2 v3 v4 v5 v6=>
   hs7.step (zk1 ((Below.refl N w7).setCell (p:=⟨w.heap.size+2,6,none⟩) (by show N<=w.heap.size+2;omega) _) (by omega) _ _ _ _ _ _ _)
  have HKf:Hid (∀ v0 v1 v2 v3 v4 v5 v6,Keeps R w (((set5 (w7.setCell ⟨w.heap.size+2,6,none⟩ (.slice b3 other.length d3)) (w.heap.size+1) v0 v1 v2 v3 v4).setCell ⟨w.heap.size+1,5,none⟩ v5).setCell ⟨w.heap.size+1,6,none⟩ v6)):=fun v0 v1 v2 v3 v4 v5 v6=>
   (((HI7.out.kp.set (p:=⟨w.heap.size+2,6,none⟩) (by show w.heap.size<=w.heap.size+2;omega) _).set5 (by omega) _ _ _ _ _).set (p:=⟨w.heap.size+1,5,none⟩) (by show w.heap.size<=w.heap.size+1;omega) _).set (p:=⟨w.heap.size+1,6,none⟩) (by show w.heap.size<=w.heap.size+1;omega) _
  clear hE3 hs7 hk7 HC6 y0 y1 y2 y3 y4 y5 yz hl0 z0 z1 z2 z3 z4 z5 z6 zz hl2 HI6' HE1' HE2;obtain ⟨z0,z1,z2,z3,z4,z5,z6,zz⟩:=zbw HI7.out.b2;obtain ⟨t0,t1,t2,t3,t4,t5,t6,tz⟩:=zbw HI7.out.b1;have hl2:=zaa HI7.out.b2;have hl1:=zaa HI7.out.b1;clear HI7;go_wp2_with fail;refine bodyPost_ret (v:=.agg #[.int .i64 o,.int .i64 q,.int .i64 g,.int .i64 a,.slice b1 args.length d1,.slice b2 body.length d2,.slice b3 other.length d3]) (by simp [results,Tryz.results122,go_sem,z0,z1,z2,z3,z4,z5,z6,t0,t1,t2,t3,t4,t5,t6,hl1,hl2]) rfl ⟨b1,d1,b2,d2,b3,d3,by rw [HE.out];rfl,by rw [HE.out];exact HA1.out.moves (HMv.out _ _ _ _ _ _ _),by rw [HE.out];exact HA2.out.moves (HMv.out _ _ _ _ _ _ _),by rw [HE.out];exact HA3.out.moves (HMv.out _ _ _ _ _ _ _),by rw [HE.out];exact HSf.out _ _ _ _ _ _ _,HKf.out _ _ _ _ _ _ _⟩
theorem zme:∀ (k:Nat) (l:List St),zag k l=false->zyw l
 | 0,l,h=>by simp [zag] at h
 | k+1,l,h=>by
   simp only [zag,vap] at h;have h1:=of_decide_eq_false h.1
   refine zqt l (by omega) fun j hj=>?_
   have:=h.2;rw [vau] at this;have hx:=this l[j] (vah _);simp only [vce,vap,vcf] at hx;have none_ok:zyw []:=zqt [] (by simp) (fun j hj=>by simp at hj)
   have nil_of:∀ b:List St,decide (0<b.length)=false->zyw b:=fun b h=>by
    have:b=[]:=vaj (by have:=of_decide_eq_false h;omega)
    rw [this];exact none_ok
   exact zzn _ (zt8 6 _ hx.1) (hx.2.1.elim (fun h=>nil_of _ h.2) (zme k _)) (hx.2.2.elim (nil_of _) (zme k _))
end Go.Proofs.YtndkhgakfodldaaGreatDoor
