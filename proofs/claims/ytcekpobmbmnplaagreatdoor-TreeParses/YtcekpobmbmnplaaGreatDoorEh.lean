/-
  The document's own reader in memory: a list of expressions.
-/
import Derived.Test.YtcekpobmbmnplaaGreatDoorEb
namespace Go.Proofs.YtcekpobmbmnplaaGreatDoor
set_option maxRecDepth 100000
set_option maxHeartbeats 1600000
open Go.RowKit
structure ExE (R B k:Nat):Prop where
 expr:∀ (l:List Tk) (w:World) (d:Int),d=8 - (k:Int)->Ez R B w l->Calls Tryz.prog 120 #[.pointer (some ⟨R,0,none⟩),.int .i64 d] w (zcd R B w (eExpr k l) (zdd (w.heap.size<=·)))
def z0x (v:Value):Nat:=match v with | .slice _ n _=>n | _=>0
theorem zn2 (R B k:Nat) (IH:ExE R B k) (l:List Tk) (w:World) (d:Int) (hd:d=8 - (k:Int)) (h:Ez R B w l) :
 Calls Tryz.prog 122 #[.pointer (some ⟨R,0,none⟩),.int .i64 d] w (zcd R B w (eList (eExpr k) l) (z1g (w.heap.size<=·))):=by
 have HI:=hid (fun l w h=>IH.expr l w d hd h);have HY:=hid h;have hRw:=h.lt;clear IH h hd;go_enter Tryz.func122,Tryz.ntmps122;go_wp2_with fail;refine (zaj R B l tRp w HY.out (by decide)).mono ?_
 cases hs:skB l tRp with
 | true=>
   have HE:Hid (eList (eExpr k) l=([],l.tail)):=by show eList (eExpr k) l=_;unfold eList;rw [if_pos hs]
   have e1:eTk l tRp=l.tail:=if_pos hs;rw [e1];clear e1 hs;rintro e w1 ⟨rfl,h1,K1⟩;have H1:=hid h1;have HK1:=hid K1;clear h1 K1;go_wp2_with fail;go_ret;exact ⟨HK1.out,_,rfl,by rw [HE.out];exact ⟨none,0,rfl,Or.inl rfl⟩,by rw [HE.out];exact H1.out⟩
 | false=>
   have HE:Hid (eList (eExpr k) l=zhi (eExpr k) 4 [] l):=by show eList (eExpr k) l=_;unfold eList;rw [if_neg (by rw [hs];decide)]
   have e1:eTk l tRp=l:=if_neg (by rw [hs];decide);rw [e1];clear e1 hs;rintro e w1 ⟨rfl,h1,K1⟩;have H1:=hid h1;have HK1:=hid K1;have hz1:=K1.size;clear h1 K1;go_wp2_with fail
   go_loopw [5,6] (fun v m wr=>∃ (j:Nat) (acc:List Ex) (l':List Tk) (b:Bool),m = .bool b/\acc.length+j=4/\(eList (eExpr k) l=if b then zhi (eExpr k) j acc l' else (acc,eTk l' tRp))/\Row w.heap.size 76 5 wr v acc.length (zaw acc)/\Ez R B wr l'/\Keeps R w wr) (fun v _ _=>5 - z0x v)
   case atStart=>
    exact ⟨4,[],l,true,rfl,rfl,HE.out,Row.nil _ _ _ _,H1.out,HK1.out⟩
   case round=>
    obtain ⟨j,acc,l',b,rfl,hj,hpm,hrow,hez,hke⟩:=hrel;obtain ⟨a5,c5,rfl,hea⟩:=hrow.slice;have HG:=hid hpm;have HO:=hid hrow;have HD:=hid hez;have HK:=hid hke;have HA:=hid hea;have hzr:=hke.size;clear hpm hrow hez hke hea HE H1 HK1
    cases b with
    | false=>
      go_wp2_with fail;refine (zaj R B l' tRp wr HD.out (by decide)).mono ?_;rintro e w2 ⟨rfl,h2,K2⟩;have H2:=hid h2;have HK2:=hid (HK.out.trans K2);have HA2:=hid (HO.out.keeps K2 hRw).slice;clear h2 K2;go_wp2_with fail;go_ret;exact ⟨HK2.out,_,rfl,by rw [HG.out];exact HA2.out,by rw [HG.out];exact H2.out⟩
    | true=>
      cases j with
      | zero=>
        have hnl:¬ ((acc.length:Int)<=3):=by omega
        have HG0:Hid (eList (eExpr k) l=(acc,eTk l' tRp)):=HG.out;clear hj HG;go_wp2_with fail;refine (zaj R B l' tRp wr HD.out (by decide)).mono ?_;rintro e w2 ⟨rfl,h2,K2⟩;have H2:=hid h2;have HK2:=hid (HK.out.trans K2);have HA2:=hid (HO.out.keeps K2 hRw).slice;clear h2 K2;go_wp2_with fail;go_ret;exact ⟨HK2.out,_,rfl,by rw [HG0.out];exact HA2.out,by rw [HG0.out];exact H2.out⟩
      | succ j=>
        have hn4:(acc.length:Int)<=3:=by omega
        have hn5:acc.length<=3:=by omega
        have HJ:=hid hj;clear hj;go_wp2_with fail;refine (HI.out l' wr HD.out).mono ?_;have HG':Hid (eList (eExpr k) l=if skB (eExpr k l').2 tCom then zhi (eExpr k) j (acc++[(eExpr k l').1]) (eExpr k l').2.tail else (acc++[(eExpr k l').1],eTk (eExpr k l').2 tRp)):=HG.out;clear HG;generalize eExpr k l'=q at *;obtain ⟨y,l4⟩:=q;simp only [] at HG';rintro e w4 ⟨HK4,v,rfl,⟨a4,c4,rfl,hx1,hx2,hx3⟩,HR4⟩;have HX4:Hid (zbg w4 (wr.heap.size<=·) y.ds (zfg y a4 c4)):=zfa hx1 hx2 hx3;have HR4':=hid HR4;have HK4':=hid (HK.out.trans HK4);have HO4:=hid (HO.out.keeps HK4 hRw);have hz4:=HK4.size;have HL:=hid (fun k hk=>(HO.out.lt k hk).2);clear HK4 HR4 hx1 hx2 hx3 HA;generalize hv:Value.slice a5 acc.length c5=v5 at *;clear hv
        go_wp2_with (at_builtin;refine zdz rfl (.tmp 17) (.tmp 21) 45 rfl w.heap.size 76 _ 5 72 Tryz.underlying45 Tryz.infoP80 rfl (by decide) w4 v5 acc.length (zaw acc) y.ds rfl HO4.out _ _ rfl rfl rfl (wr.heap.size<=·) HX4.out ?_ (by omega) (by decide) (by omega) ?_)
        . intro b _ hb
          exact ⟨by omega,fun h=>by have:=HL.out b h;omega⟩
        . intro g5 c5 w5 HO5 HB5 hz5
          have HO5':=hid HO5;have HR5:=hid (HR4'.out.belowOf HB5 hRw (by have:=HY.out.low;omega));have HK5:=hid (HK4'.out.belowOf HB5);clear HO5 HB5 HO4 HR4' HK4' HX4 HO;go_wp2_with fail;refine (zaj R B l4 tCom w5 HR5.out (by decide)).mono ?_
          cases hs:skB l4 tCom with
          | true=>
            have HG2:=hid (HG'.out.trans (if_pos hs));have e1:eTk l4 tCom=l4.tail:=if_pos hs;rw [e1];clear e1 hs;rintro e w6 ⟨rfl,h6,K6⟩;have H6:=hid h6;have HK6:=hid (HK5.out.trans K6);have HO6:=hid (HO5'.out.keeps K6 hRw);clear h6 K6;go_wp2_with fail;go_roundw
            case rel=>exact ⟨j,acc++[y],l4.tail,true,rfl,by have:=HJ.out;simp;omega,HG2.out,by rw [zec,zf8,List.length_append];exact HO6.out,H6.out,HK6.out⟩
            case measure=>have:=HJ.out;simp [z0x];omega
          | false=>
            have HG2:=hid (HG'.out.trans (if_neg (by rw [hs];decide)));have e1:eTk l4 tCom=l4:=if_neg (by rw [hs];decide);rw [e1];clear e1 hs;rintro e w6 ⟨rfl,h6,K6⟩;have H6:=hid h6;have HK6:=hid (HK5.out.trans K6);have HO6:=hid (HO5'.out.keeps K6 hRw);clear h6 K6;go_wp2_with fail;go_roundw
            case rel=>exact ⟨j,acc++[y],l4,false,rfl,by have:=HJ.out;simp;omega,HG2.out,by rw [zec,zf8,List.length_append];exact HO6.out,H6.out,HK6.out⟩
            case measure=>have:=HJ.out;simp [z0x];omega
end Go.Proofs.YtcekpobmbmnplaaGreatDoor

namespace Go.Proofs.YtcekpobmbmnplaaGreatDoor
set_option maxRecDepth 100000
open Go.RowKit
theorem zn3 {R B:Nat} {l l':List Tk} {w w1:World} {r:Ex × List Tk} {x:Ex} {a1:Option Addr} {c1:Nat} (h0:Ez R B w l) (hr:r=(x,l')) (hk:Keeps R w w1) (hrd:Ez R B w1 l')
 (hx1:x.mod.size<=maxLen) (hx2:x.name.size<=maxLen) {lo:Nat} (hx:EAt w1 (lo<=·) a1 x.args.length (zaw x.args)) (hlo:w.heap.size<lo) :
 zcd R B w r (zdd (w.heap.size<=·)) (.returned (.agg #[.int .i64 x.op,.int .i64 x.n,.string x.mod,.string x.name,.slice a1 x.args.length c1])) (set5 w1 w.heap.size (.int .i64 x.op) (.int .i64 x.n) (.string x.mod) (.string x.name) (.slice a1 x.args.length c1)):=by
 subst hr;refine ⟨hk.set5 (Nat.le_refl _) _ _ _ _ _,_,rfl,⟨a1,c1,rfl,hx1,hx2,?_⟩,hrd.set5 h0 (Nat.le_refl _) _ _ _ _ _⟩;exact hx.moves (((Moves.refl w1 (lo<=·)).set5 (by intro b _ hb;omega) _ _ _ _ _).to (by omega))
theorem zy5 {R B:Nat} {l l':List Tk} {w w1:World} {r:Ex × List Tk} {op n:Int} {mod name:ByteArray} {y:Ex} {a1:Option Addr} {c1:Nat} (h0:Ez R B w l) (hr:r=(.mk op n mod name [y],l')) (hk:Keeps R w w1) (hrd:Ez R B w1 l')
 (hx1:mod.size<=maxLen) (hx2:name.size<=maxLen) {lo:Nat} (hy1:y.mod.size<=maxLen) (hy2:y.name.size<=maxLen) (hy:EAt w1 (lo<=·) a1 y.args.length (zaw y.args)) (hlo:w.heap.size<lo) (hlo1:lo<=w1.heap.size) :
 zcd R B w r (zdd (w.heap.size<=·)) (.returned (.agg #[.int .i64 op,.int .i64 n,.string mod,.string name,.slice (some ⟨w1.heap.size,0,none⟩) 1 1])) ((set5 w1 w.heap.size (.int .i64 op) (.int .i64 n) (.string mod) (.string name) (.slice (some ⟨w1.heap.size,0,none⟩) 1 1)).alloc (.cells #[.int .i64 y.op,.int .i64 y.n,.string y.mod,.string y.name,.slice a1 y.args.length c1] 76)):=by
 subst hr;refine ⟨(hk.set5 (Nat.le_refl _) _ _ _ _ _).alloc _,_,rfl,⟨_,_,rfl,hx1,hx2,?_⟩,(hrd.set5 h0 (Nat.le_refl _) _ _ _ _ _).alloc _⟩;refine zez (t:=76) (cap:=c1) hy1 hy2 hy ((((Moves.refl w1 (lo<=·)).set5 (b:=w.heap.size) (by intro b _ hb;omega) _ _ _ _ _).alloc _).to (by omega)) ?_ (by omega);have e:=heap_newP (set5 w1 w.heap.size (.int .i64 op) (.int .i64 n) (.string mod) (.string name) (.slice (some ⟨w1.heap.size,0,none⟩) 1 1)) (.cells #[.int .i64 y.op,.int .i64 y.n,.string y.mod,.string y.name,.slice a1 y.args.length c1] 76);simp only [World.size_setCell] at e;exact e
theorem zpc {R B:Nat} {l l':List Tk} {w w1 wx wy:World} {r:Ex × List Tk} {op:Int} {x y:Ex} {ax ay:Option Addr} {cx cy lx ly:Nat} (h0:Ez R B w l) (hr:r=(.mk op 0 ⟨#[]⟩ ⟨#[]⟩ [x,y],l')) (hk:Keeps R w w1) (hrd:Ez R B w1 l')
 (hx:x.mod.size<=maxLen/\x.name.size<=maxLen/\EAt wx (lx<=·) ax x.args.length (zaw x.args)) (hy:y.mod.size<=maxLen/\y.name.size<=maxLen/\EAt wy (ly<=·) ay y.args.length (zaw y.args))
 (mx:Moves wx (lx<=·) w1 (lx<=·)) (my:Moves wy (ly<=·) w1 (ly<=·)) (hlx:w.heap.size<lx) (hly:w.heap.size<ly) (hl1:w.heap.size<=w1.heap.size) :
 zcd R B w r (zdd (w.heap.size<=·)) (.returned (.agg #[.int .i64 op,.int .i64 0,.string ⟨#[]⟩,.string ⟨#[]⟩,.slice (some ⟨w1.heap.size,0,none⟩) 2 2])) ((set5 w1 w.heap.size (.int .i64 op) (.int .i64 0) (.string ⟨#[]⟩) (.string ⟨#[]⟩) (.slice (some ⟨w1.heap.size,0,none⟩) 2 2)).alloc (.cells #[.int .i64 x.op,.int .i64 x.n,.string x.mod,.string x.name,.slice ax x.args.length cx,.int .i64 y.op,.int .i64 y.n,.string y.mod,.string y.name,.slice ay y.args.length cy] 76)):=by
 subst hr;refine ⟨(hk.set5 (Nat.le_refl _) _ _ _ _ _).alloc _,_,rfl,⟨_,_,rfl,Nat.zero_le _,Nat.zero_le _,?_⟩,(hrd.set5 h0 (Nat.le_refl _) _ _ _ _ _).alloc _⟩;have e:=heap_newP (set5 w1 w.heap.size (.int .i64 op) (.int .i64 0) (.string ⟨#[]⟩) (.string ⟨#[]⟩) (.slice (some ⟨w1.heap.size,0,none⟩) 2 2)) (.cells #[.int .i64 x.op,.int .i64 x.n,.string x.mod,.string x.name,.slice ax x.args.length cx,.int .i64 y.op,.int .i64 y.n,.string y.mod,.string y.name,.slice ay y.args.length cy] 76);simp only [World.size_setCell] at e;have hmx:=mx.1;have hmy:=my.1;exact zuy (t:=76) (cap:=cx) (dap:=cy) hx hy ((((mx.set5 (b:=w.heap.size) (by intro b _ hb;omega) _ _ _ _ _).alloc _).to (by omega))) ((((my.set5 (b:=w.heap.size) (by intro b _ hb;omega) _ _ _ _ _).alloc _).to (by omega))) e (by omega)
theorem zwv (w:World):Calls Tryz.prog 134 #[.int .i64 7] w fun e w'=>e = .returned (.string ⟨#[38]⟩)/\Below w.heap.size w w':=by
 have HB:=hid (fun o:Obj=>(Below.refl w.heap.size w).alloc (Nat.le_refl _) o);go_enter Tryz.func134,Tryz.ntmps134;go_wp2_with fail;go_ret;exact ⟨rfl,HB.out _⟩
theorem zww (w:World):Calls Tryz.prog 134 #[.int .i64 8] w fun e w'=>e = .returned (.string ⟨#[124]⟩)/\Below w.heap.size w w':=by
 have HB:=hid (fun o:Obj=>(Below.refl w.heap.size w).alloc (Nat.le_refl _) o);go_enter Tryz.func134,Tryz.ntmps134;go_wp2_with fail;go_ret;exact ⟨rfl,HB.out _⟩
theorem zwx (w:World):Calls Tryz.prog 134 #[.int .i64 9] w fun e w'=>e = .returned (.string ⟨#[43]⟩)/\Below w.heap.size w w':=by
 have HB:=hid (fun o:Obj=>(Below.refl w.heap.size w).alloc (Nat.le_refl _) o);go_enter Tryz.func134,Tryz.ntmps134;go_wp2_with fail;go_ret;exact ⟨rfl,HB.out _⟩
theorem zwy (w:World):Calls Tryz.prog 134 #[.int .i64 10] w fun e w'=>e = .returned (.string ⟨#[45]⟩)/\Below w.heap.size w w':=by
 have HB:=hid (fun o:Obj=>(Below.refl w.heap.size w).alloc (Nat.le_refl _) o);go_enter Tryz.func134,Tryz.ntmps134;go_wp2_with fail;go_ret;exact ⟨rfl,HB.out _⟩
theorem zwz (w:World):Calls Tryz.prog 134 #[.int .i64 11] w fun e w'=>e = .returned (.string ⟨#[42]⟩)/\Below w.heap.size w w':=by
 have HB:=hid (fun o:Obj=>(Below.refl w.heap.size w).alloc (Nat.le_refl _) o);go_enter Tryz.func134,Tryz.ntmps134;go_wp2_with fail;go_ret;exact ⟨rfl,HB.out _⟩
theorem zw0 (w:World):Calls Tryz.prog 134 #[.int .i64 12] w fun e w'=>e = .returned (.string ⟨#[47]⟩)/\Below w.heap.size w w':=by
 have HB:=hid (fun o:Obj=>(Below.refl w.heap.size w).alloc (Nat.le_refl _) o);go_enter Tryz.func134,Tryz.ntmps134;go_wp2_with fail;go_ret;exact ⟨rfl,HB.out _⟩
theorem zw1 (w:World):Calls Tryz.prog 134 #[.int .i64 13] w fun e w'=>e = .returned (.string ⟨#[37]⟩)/\Below w.heap.size w w':=by
 have HB:=hid (fun o:Obj=>(Below.refl w.heap.size w).alloc (Nat.le_refl _) o);go_enter Tryz.func134,Tryz.ntmps134;go_wp2_with fail;go_ret;exact ⟨rfl,HB.out _⟩
theorem zw2 (w:World):Calls Tryz.prog 134 #[.int .i64 14] w fun e w'=>e = .returned (.string ⟨#[61]⟩)/\Below w.heap.size w w':=by
 have HB:=hid (fun o:Obj=>(Below.refl w.heap.size w).alloc (Nat.le_refl _) o);go_enter Tryz.func134,Tryz.ntmps134;go_wp2_with fail;go_ret;exact ⟨rfl,HB.out _⟩
theorem zw3 (w:World):Calls Tryz.prog 134 #[.int .i64 15] w fun e w'=>e = .returned (.string ⟨#[60]⟩)/\Below w.heap.size w w':=by
 have HB:=hid (fun o:Obj=>(Below.refl w.heap.size w).alloc (Nat.le_refl _) o);go_enter Tryz.func134,Tryz.ntmps134;go_wp2_with fail;go_ret;exact ⟨rfl,HB.out _⟩
theorem zlp (j:Nat) (hj:j<opTexts.length) (w:World) :
 Calls Tryz.prog 134 #[.int .i64 (7+j)] w fun e w'=>e = .returned (.string opTexts[j])/\Below w.heap.size w w':=by
 have hj':j<9:=hj
 obtain rfl | rfl | rfl | rfl | rfl | rfl | rfl | rfl | rfl:j=0\/j=1\/j=2\/j=3\/j=4\/j=5\/j=6\/j=7\/j=8:=by omega
 . exact zwv w
 . exact zww w
 . exact zwx w
 . exact zwy w
 . exact zwz w
 . exact zw0 w
 . exact zw1 w
 . exact zw2 w
 . exact zw3 w
theorem zy6 {l:List Tk} {j:Nat} (hj:j<opTexts.length) (hn:(opTexts.take j).all (fun t=>!skB l t)=true) (hs:skB l opTexts[j]=true):eOp l=(7+(j:Int),l.tail):=by
 have e:zm4 l=some j:=by
  unfold zm4;rw [List.findIdx?_eq_some_iff_getElem];refine ⟨hj,hs,fun i hi=>?_⟩;rw [List.all_eq_true] at hn;have:=hn opTexts[i] (List.mem_take_iff_getElem.2 ⟨i,by omega,rfl⟩);simpa using this
 unfold eOp;rw [e]
theorem z0y {l:List Tk} (hn:(opTexts.take opTexts.length).all (fun t=>!skB l t)=true):eOp l=(0,l):=by
 have e:zm4 l=none:=by
  unfold zm4;rw [List.findIdx?_eq_none_iff];intro x hx;rw [List.take_length,List.all_eq_true] at hn;simpa using hn x hx
 unfold eOp;rw [e]
end Go.Proofs.YtcekpobmbmnplaaGreatDoor

namespace Go.Proofs.YtcekpobmbmnplaaGreatDoor
set_option maxRecDepth 100000
set_option maxHeartbeats 400000
open Go.RowKit
theorem zyg {R B:Nat} {l:List Tk} {w:World} {r:Ex × List Tk} (h0:Ez R B w l) (hr:r=(ex0,l)) (cs:Array Value) :
 zcd R B w r (zdd (w.heap.size<=·)) (.returned (.agg #[.int .i64 0,.int .i64 0,.string ⟨#[]⟩,.string ⟨#[]⟩,.slice none 0 0])) (w.alloc (.cells cs 76)):=by
 subst hr;exact ⟨(Keeps.refl R w).alloc _,_,rfl,⟨none,0,rfl,Nat.zero_le _,Nat.zero_le _,Or.inl rfl⟩,h0.alloc _⟩
theorem ztt (R B:Nat):ExE R B 0:=by
 refine ⟨fun l w d hd h=>?_⟩
 have hd':d=8:=by simpa using hd
 subst hd';have HF:=hid (zyg h (r:=eExpr 0 l) rfl);have hlt:=h.lt;clear h hd;go_enter Tryz.func120,Tryz.ntmps120;go_wp2_with fail;refine bodyPost_ret (v:=.agg #[.int .i64 0,.int .i64 0,.string ⟨#[]⟩,.string ⟨#[]⟩,.slice none 0 0]) (by simp [results,Tryz.results120,go_sem]) rfl ?_;exact HF.out _
theorem zw4 (R B k:Nat) (w:World) (d:Int) (hd7:¬ (7<d)) (h:Ez R B w []) :
 Calls Tryz.prog 120 #[.pointer (some ⟨R,0,none⟩),.int .i64 d] w (zcd R B w (eExpr (k+1) []) (zdd (w.heap.size<=·))):=by
 have HF:=hid (zyg h (r:=eExpr (k+1) []) (by rw [eExpr,if_pos (by rfl)]));have hlt:=h.lt;obtain ⟨a,cap,h⟩:=h
 have hc0:w.cell? ⟨R,0,none⟩=some (.slice a 0 cap):=by rw [Lib.cell_of_heap h.blk];rfl
 clear h;go_enter Tryz.func120,Tryz.ntmps120;go_wp2_with fail;refine bodyPost_ret (v:=.agg #[.int .i64 0,.int .i64 0,.string ⟨#[]⟩,.string ⟨#[]⟩,.slice none 0 0]) (by simp [results,Tryz.results120,go_sem]) rfl ?_;exact HF.out _
abbrev ezZ:Obj:=.cells #[.int .i64 0,.int .i64 0,.string ⟨#[]⟩,.string ⟨#[]⟩,.slice none 0 0] 76 (0,0)
theorem zw5 (R B k:Nat) (x:Tk) (r:List Tk) (w:World) (d:Int) (hd7:¬ (7<d)) (h:Ez R B w (x :: r)) (hx:x.kind=2) :
 Calls Tryz.prog 120 #[.pointer (some ⟨R,0,none⟩),.int .i64 d] w (zcd R B w (eExpr (k+1) (x :: r)) (zdd (w.heap.size<=·))):=by
 have HX:Hid (eExpr (k+1) (x :: r)=(.mk 1 x.n ⟨#[]⟩ ⟨#[]⟩ [],r)):=by show eExpr (k+1) (x :: r)=_;rw [eExpr,if_neg (by simp),if_pos (by exact hx)];rfl
 have HN:Hid (eNum (x :: r)=(x.n,r)):=if_pos hx;have hlt:=h.lt;have HY:=hid h;obtain ⟨a,cap,h⟩:=h;obtain ⟨b,off,rfl,hne,hT⟩:=h.toks.resolve_left (by simp)
 have hc0:w.cell? ⟨R,0,none⟩=some (.slice (some ⟨b,off,none⟩) (x :: r).length cap):=by rw [Lib.cell_of_heap h.blk];rfl
 have k0:=hT.kind 0 (by simp);simp only [Nat.zero_mul,Nat.add_zero,List.getElem_cons_zero] at k0;rw [hx] at k0;have hbl:=hT.lt;simp only [List.length_cons] at hc0;clear h hT hx hne;generalize r.length=n at *
 have hz:((n:Int)+1 == 0)=false:=by simp;omega
 go_enter Tryz.func120,Tryz.ntmps120;go_wp2_with fail;refine (ziu R B (x :: r) _ (HY.out.alloc _)).mono ?_;rw [HN.out];rintro e w2 ⟨rfl,h2,K2⟩;have HB2:w2.heap[w.heap.size]? = some ezZ:=(K2.block w.heap.size (by simp) (by omega)).trans (heap_newP _ _);obtain ⟨h0,h1,h2',h3,h4,h5⟩:=zaf HB2;have hz2:=K2.size;simp at hz2
 have hq0:w.heap.size<w2.heap.size:=by omega
 have HF:Hid (zcd R B w (eExpr (k+1) (x :: r)) (zdd (w.heap.size<=·)) (.returned (.agg #[.int .i64 1,.int .i64 x.n,.string ⟨#[]⟩,.string ⟨#[]⟩,.slice none 0 0])) (set5 w2 w.heap.size (.int .i64 1) (.int .i64 x.n) (.string ⟨#[]⟩) (.string ⟨#[]⟩) (.slice none 0 0))):=
  zn3 (x:=.mk 1 x.n ⟨#[]⟩ ⟨#[]⟩ []) HY.out HX.out (((Keeps.refl R w).alloc _).trans K2) h2 (Nat.zero_le _) (Nat.zero_le _) (lo:=w2.heap.size) (Or.inl rfl) hq0
 clear h2 K2 HB2;go_wp2_with fail;refine bodyPost_ret (v:=.agg #[.int .i64 1,.int .i64 x.n,.string ⟨#[]⟩,.string ⟨#[]⟩,.slice none 0 0]) (by simp [results,Tryz.results120,go_sem,h0,h1,h2',h3,h4]) rfl HF.out
end Go.Proofs.YtcekpobmbmnplaaGreatDoor
