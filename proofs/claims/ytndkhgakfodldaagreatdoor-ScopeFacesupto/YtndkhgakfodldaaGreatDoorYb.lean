/-
  The reference's face of a module.
-/
import Derived.Test.YtndkhgakfodldaaGreatDoorYa
import Derived.Test.YtndkhgakfodldaaGreatDoorRgc
import Derived.Test.YtndkhgakfodldaaGreatDoorKp
import Derived.Test.YtndkhgakfodldaaGreatDoorXe
import Derived.Deep.RegionLaw
import Derived.Deep.RegionHeld
namespace Go.Proofs.YtndkhgakfodldaaGreatDoor
set_option maxRecDepth 100000
set_option maxHeartbeats 12800000
open Go.RowKit Go.Maps Go.WideMaps
set_option linter.unusedSimpArgs false
set_option linter.unusedVariables false
theorem str_one (s:ByteArray):∀ u ∈ (#[Value.string s]:Array Value).toList,u.oneCell'=true:=by
 intro u hu;simp at hu
 subst hu;rfl
theorem twice_own {w:World} {B:Nat} {v:Value} {l:List It} (h:w.ownsRow B 9 1 v l.length (Fx.strs l)) (hl:l.length<=1000000) :
 Calls Tryz.prog 53 #[v] w fun e w'=>e = .returned (.bool (Fx.dupB (Fx.namesOf l)))/\Below w.heap.size w w':=by
 obtain ⟨a,c,rfl,hS⟩:=Fx.strs_own h;rw [← Fx.lists_names];exact Fx.twice_any a c _ w hS (by rw [List.length_map];omega)
theorem chk_of {m:Mo} (h:m.err=0):chkM m=if Fx.dupB (Fx.lists m.uses)||Fx.dupB (Fx.namesOf (layItems m)) then 6 else 0:=by unfold chkM;rw [if_neg (by simp [h])]
theorem FaceOf_any (m:Mo) (v:Value) (a1:Option Addr) (c1:Nat) (a2:Option Addr) (c2:Nat) (a3:Option Addr) (c3:Nat) (a4:Option Addr) (c4:Nat) (w:World) (hM:MoAt w Tt m v a1 c1 a2 c2 a3 c3 a4 c4) (hs:Small m) :
 Calls Tryz.prog 16 #[v] w fun e w'=>faceEnd w.heap.size m e w'/\Below w.heap.size w w':=by
 obtain rfl:=hM.val;have HM:=hid hM;have HC:=hid (CheckModule_any m _ a1 c1 a2 c2 a3 c3 a4 c4 ((w.alloc (.cells #[.string m.name,.slice a1 m.uses.length c1,.slice a2 m.decls.length c2,.slice a3 m.procs.length c3,.slice a4 m.main.length c4] 27)).alloc (.cells #[.string ⟨#[]⟩,.slice none 0 0] 30)) (hM.later (bl2 _ _ _)) hs);clear hM hs;go_enter Tryz.func16,Tryz.ntmps16;go_wp2_with fail;refine HC.out.mono ?_;rintro e w1 ⟨rfl,hb1⟩;have HB1:=hid (thenB (bl2 w _ _) hb1);have hz1:=hb1.size;simp at hz1;have HX1:=hid ((hb1.block w.heap.size (by simp;omega)).trans (heap_old (heap_newP w (.cells #[.string m.name,.slice a1 m.uses.length c1,.slice a2 m.decls.length c2,.slice a3 m.procs.length c3,.slice a4 m.main.length c4] 27))));have HY1:Hid (w1.heap[w.heap.size+1]? = some (.cells #[.string ⟨#[]⟩,.slice none 0 0] 30)):=(hb1.block (w.heap.size+1) (by simp)).trans (newP1 w _ _)
 obtain ⟨x0,x1,x2,x3,x4,_⟩:=cellsOf5 HX1.out;obtain ⟨y0,y1,yf⟩:=cellsOf2 HY1.out;have xz:=lt_of_heap HX1.out;have yz:=lt_of_heap HY1.out;clear hb1 HC
 by_cases he:m.err=0
 . have hlay:=lay_ok he
   have hu3:=(many_parts he).1;have hd10:=hlay.decls;have hp6:=hlay.procs;have HCh:=hid (chk_of he);have HC2:=hid (itemsOf_any m _ a1 c1 a2 c2 a3 c3 a4 c4 w1 (HM.out.later HB1.out) hlay);have hl16:=layItems_len m;have hlp:=pubs_len m;have HL16:=hid hl16;have HLp:=hid hlp
   have hi16:(layItems m).length<=16:=by omega
   have hps:(pubs m).length=(layItems m).length:=by omega
   have HPs:=hid hps;rw [he];clear he hlay hl16 hlp hps;go_wp2_with fail;refine HC2.out.mono ?_;rintro e w2 ⟨⟨ai,ci,ap,cp,rfl,hit,hpb⟩,hb2⟩;have HB2:=hid (thenB HB1.out hb2);have hz2:=hb2.size;have HX2:=hid ((hb2.block _ xz).trans HX1.out);have HY2:=hid ((hb2.block _ yz).trans HY1.out);obtain ⟨hI,hAF⟩:=items_at hit;have HI:=hid hI;have HPb:=hid hpb;have HAF:=hid hAF;have HSh:Hid (shownIts m=pick (pubs m) (layItems m)):=rfl;clear hb2 HC2 hit hpb hI hAF x0 x1 x2 x3 x4 y0 y1 yf;obtain ⟨x0,x1,x2,x3,x4,_⟩:=cellsOf5 HX2.out;have xz2:=lt_of_heap HX2.out;have yz2:=lt_of_heap HY2.out;generalize hits:layItems m=its at *;generalize hpubs:pubs m=ps at *;go_wp2_with fail
   obtain ⟨W2,hW2⟩:∃ W2,W2=w2.alloc (.cells #[.string m.name,.slice none 0 0] 30):=⟨_,rfl⟩
   have hB2:Below w2.heap.size w2 W2:=by rw [hW2];exact al1 _ _
   have hzW:W2.heap.size=w2.heap.size+1:=by rw [hW2];simp
   have HZW:=hid hzW
   have HF2:Hid (W2.heap[w2.heap.size]? = some (.cells #[.string m.name,.slice none 0 0] 30 (0,0))):=by rw [hW2];exact heap_newP _ _
   have HI2:=hid (HI.out.later hB2);have HPb2:=hid (HPb.out.later hB2);have HBW2:=hid (thenB HB2.out hB2);have HX3:=hid ((hB2.block _ xz2).trans HX2.out);have HY3:=hid ((hB2.block _ yz2).trans HY2.out)
   have HIne:Hid (∀ b' off,its≠[]->ai=some ⟨b',off,none⟩->b'≠w2.heap.size):=fun b' off hne e=>by
    rcases HI.out with h | ⟨b,o,e2,h⟩
    . exact absurd h hne
    . rw [e] at e2;injection e2 with e2;injection e2 with e2 _;have:=h.lt;omega
   have HPne:Hid (∀ b' off,ps≠[]->ap=some ⟨b',off,none⟩->b'≠w2.heap.size):=fun b' off hne e=>by
    rcases HPb.out with h | ⟨b,o,e2,h,_⟩
    . exact absurd h hne
    . rw [e] at e2;injection e2 with e2;injection e2 with e2 _;omega
   rw [← hW2];clear hW2 hB2 HI HPb HB2 HX2 HY2 x0 x1 x2 x3 x4 hzW;go_wp2_with fail
   go_loopw [8,10] (fun nv i wr=>∃ (j:Nat) (fa:Option Addr) (fc:Nat),j<=its.length/\i = .int .i64 j/\wr.ownsRow W2.heap.size 9 1 nv j (Fx.strs (its.take j))/\wr.ownsRow W2.heap.size 98 4 (.slice fa (pick (ps.take j) (its.take j)).length fc) (pick (ps.take j) (its.take j)).length (itsV (pick (ps.take j) (its.take j)))/\Apt (.slice fa (pick (ps.take j) (its.take j)).length fc) nv/\wr.heap[w2.heap.size]? = some (.cells #[.string m.name,.slice fa (pick (ps.take j) (its.take j)).length fc] 30 (0,0))/\Keeps w2.heap.size W2 wr) (fun _ i _=>its.length - (intOf i).toNat)
   case atStart=>exact ⟨0,none,0,Nat.zero_le _,rfl,World.ownsRow_nil _ _ _ _,by simp [pick,itsV];exact World.ownsRow_nil _ _ _ _,by simp [pick];exact Apt.nil _,by simpa [pick] using HF2.out,Keeps.refl _ _⟩
   case round=>
    obtain ⟨j,fa,fc,hj,rfl,hnr,hfr,hap,hbx,hk⟩:=hrel;have HNr:=hid hnr;have HFr:=hid hfr;have HAp:=hid hap;have HBx:=hid hbx;have HK:=hid hk;have hzk:=hk.size;have hzb:=lt_of_heap hbx;clear hnr hfr hap hbx hk
    by_cases hlt:j<its.length
    . have hltp:j<ps.length:=by have:=HPs.out;omega
      have HSt:=hid (pick_step ps its j hltp hlt);have HTk:=hid (Fx.take_succ its j hlt)
      have hpl:(pick (ps.take j) (its.take j)).length<=16:=by
       have:=(pick_sub (ps.take j) (its.take j)).length_le;rw [List.length_take] at this;omega
      have HIk:=hid (Keeps.items HI2.out HK.out (fun b' off h1 h2=>HIne.out b' off h1 h2));obtain ⟨b,off,hai,hbl,c0,c1,c2,c3⟩:=HIk.out.place hlt;have hbne:b≠w2.heap.size:=HIne.out b off (by intro h;rw [h] at hlt;simp at hlt) hai
      have HPc:Hid (∃ b' off',ap=some ⟨b',off',none⟩/\b'<wr.heap.size/\b'<W2.heap.size/\b'≠w2.heap.size/\wr.cell? ⟨b',off'+j,none⟩=some (.bool ps[j])):=by
       obtain ⟨b',off',e,h1,h2⟩:=HPb2.out.place hltp;have hne:=HPne.out b' off' (by intro h;rw [h] at hltp;simp at hltp) e;exact ⟨b',off',e,Nat.lt_of_lt_of_le h1 hzk,h1,hne,(HK.out.cell h1 hne).trans h2⟩
      obtain ⟨b',off',hap',hbl',hbw',hbne',p0⟩:=HPc.out
      have hbw:b<W2.heap.size:=by
       rcases HI2.out with h | ⟨b4,o4,e4,h4⟩
       . rw [h] at hlt;simp at hlt
       . rw [hai] at e4;injection e4 with e4;injection e4 with e4 _;have:=h4.lt;omega
      have HNf:Hid (∀ (u:Value) (e:TypeId) (z n:Nat) (xs:List Value) (W:World),W.ownsRow W2.heap.size e z u n xs->u.ownBlock≠some w2.heap.size):=fun u e z n xs W h e2=>by have:=(h.lt _ e2).1;have:=HZW.out;omega
      subst hai hap';have HIt:Hid (itV its[j]=[.int .i64 its[j].kind,.int .i64 its[j].n,.int .i64 its[j].at_,.string its[j].name]):=rfl
      have HStr:Hid (Fx.strs (its.take j)++[.string its[j].name]=Fx.strs (its.take (j+1))):=by show _=_;rw [HTk.out];exact Fx.strs_snoc _ _
      generalize pick (ps.take j) (its.take j)=pk at *;generalize its[j]=it at *
      have hjl:(j:Int)<its.length:=by omega
      have hjp:(j:Int)<ps.length:=by omega
      have HWc:Hid (∀ W,Below W2.heap.size wr W->(W.cell? ⟨b,off+j*4,none⟩=some (.int .i64 it.kind)/\W.cell? ⟨b,off+j*4+1,none⟩=some (.int .i64 it.n)/\W.cell? ⟨b,off+j*4+2,none⟩=some (.int .i64 it.at_)/\W.cell? ⟨b,off+j*4+3,none⟩=some (.string it.name))/\W.cell? ⟨b',off'+j,none⟩=some (.bool ps[j])):=fun W hW=>
       ⟨⟨(hW.cell (p:=⟨b,_,none⟩) hbw).trans c0,(hW.cell (p:=⟨b,_,none⟩) hbw).trans c1,(hW.cell (p:=⟨b,_,none⟩) hbw).trans c2,(hW.cell (p:=⟨b,_,none⟩) hbw).trans c3⟩,(hW.cell (p:=⟨b',_,none⟩) hbw').trans p0⟩
      clear p0
      cases hpj:ps[j] with
      | false=>
        rw [hpj] at HWc HSt;have HS1:Hid (pick (ps.take (j+1)) (its.take (j+1))=pk):=hid (by have:=HSt.out;simpa using this);clear HSt
        go_wp2_with (at_builtin;refine append_two rfl (.tmp 32) (.tmp 38) 22 rfl W2.heap.size 9 _ 1 16 Tryz.underlying22 Tryz.infoStr rfl (by decide) wr u8 j (Fx.strs (its.take j)) rfl HNr.out #[.string it.name] _ rfl rfl rfl (str_one it.name) (by omega) (by decide) hzk ?_;intro g5 k5 w5 ho5 hb5 hz5 hkp5 hkb5;have HN5:=hid ho5;have HB5:=hid hb5;obtain ⟨hp5,hap5⟩:=hkp5 _ _ _ _ _ _ HFr.out HAp.out;have HF5:=hid hp5;have HAp5:=hid hap5;have HBx5:=hid (hkb5 _ _ HBx.out (HNf.out _ _ _ _ _ _ HNr.out));obtain ⟨⟨e0,e1,e2,e3⟩,p0⟩:=HWc.out _ HB5.out;obtain ⟨r0,r1,rf⟩:=cellsOf2 HBx5.out;have hbl5:b<w5.heap.size:=(by omega);have hbl5':b'<w5.heap.size:=(by omega);have hzb5:w2.heap.size<w5.heap.size:=(by omega);clear ho5 hb5 hkp5 hkb5 hp5 hap5)
        go_roundw
        case rel=>exact ⟨j+1,fa,fc,by omega,by go_num,by rw [← HStr.out];exact HN5.out,by rw [HS1.out];exact HF5.out,by rw [HS1.out];exact HAp5.out,by rw [HS1.out];exact HBx5.out,HK.out.belowOf HB5.out⟩
        case measure=>simp [intOf];omega
      | true=>
        rw [hpj] at HWc HSt;have HS1:Hid (pick (ps.take (j+1)) (its.take (j+1))=pk++[it]):=hid (by have:=HSt.out;simpa using this);clear HSt
        go_wp2_with (at_builtin;refine append_two rfl (.tmp 32) (.tmp 38) 22 rfl W2.heap.size 9 _ 1 16 Tryz.underlying22 Tryz.infoStr rfl (by decide) wr u8 j (Fx.strs (its.take j)) rfl HNr.out #[.string it.name] _ rfl rfl rfl (str_one it.name) (by omega) (by decide) hzk ?_;intro g5 k5 w5 ho5 hb5 hz5 hkp5 hkb5;have HN5:=hid ho5;have HB5:=hid hb5;obtain ⟨hp5,hap5⟩:=hkp5 _ _ _ _ _ _ HFr.out HAp.out;have HF5:=hid hp5;have HAp5:=hid hap5;have HBx5:=hid (hkb5 _ _ HBx.out (HNf.out _ _ _ _ _ _ HNr.out));obtain ⟨⟨e0,e1,e2,e3⟩,p0⟩:=HWc.out _ HB5.out;obtain ⟨r0,r1,rf⟩:=cellsOf2 HBx5.out;have hbl5:b<w5.heap.size:=(by omega);have hbl5':b'<w5.heap.size:=(by omega);have hzb5:w2.heap.size<w5.heap.size:=(by omega);clear ho5 hb5 hkp5 hkb5 hp5 hap5)
        have HFd:Hid (w5.drew.ownsRow W2.heap.size 98 4 (.slice fa pk.length fc) pk.length (itsV pk)):=HF5.out.drew;have HNd:Hid (w5.drew.ownsRow W2.heap.size 9 1 (.slice (some ⟨g5,0,none⟩) (j+1) k5) (j+1) (Fx.strs (its.take j)++[.string it.name])):=HN5.out.drew;have HBd:Hid (w5.drew.heap[w2.heap.size]? = some (.cells #[.string m.name,.slice fa pk.length fc] 30 (0,0))):=HBx5.out;have HBw:Hid (Below W2.heap.size w5 w5.drew):=(Below.refl _ _).drew;go_wp2_with fail
        go_region_law (first
         | (refine step_append_two rfl (.tmp 45) (.tmp 50) 28 rfl W2.heap.size 98 _ 4 40 Tryz.underlying28 Tryz.infoItem rfl (by decide) w5.drew (.slice fa pk.length fc) pk.length (itsV pk) rfl HFd.out #[.int .i64 it.kind,.int .i64 it.n,.int .i64 it.at_,.string it.name] _ (by simp) rfl rfl (it_one it) (by omega) (by decide) (by simp;omega) _ rfl ?_;intro g6 k6 w6 ho6 hb6 hz6 hkp6 hkb6;have HF6:=hid ho6;have HB6:=hid (HBw.out.trans hb6);obtain ⟨hp6,hap6⟩:=hkp6 _ _ _ _ _ _ HNd.out (HAp5.out.symm);have HN6:=hid hp6;have HAp6:=hid hap6;have HBx6:=hid (hkb6 _ _ HBd.out (HNf.out _ _ _ _ _ _ HFd.out));obtain ⟨t0,t1,tf⟩:=cellsOf2 HBx6.out;have hzb6:w2.heap.size<w6.heap.size:=(by simp at hz6;omega);clear ho6 hb6 hkp6 hkb6 hp6 hap6))
        all_goals
         have HLn:Hid ((pk++[it]).length=pk.length+1):=by show _=_;simp
         go_wp2_with fail;go_roundw
         case rel=>exact ⟨j+1,some ⟨g6,0,none⟩,k6,by omega,by go_num,by rw [← HStr.out];exact ownsRow_setCell_below HN6.out (by show w2.heap.size<W2.heap.size;have:=HZW.out;omega) _,by rw [HS1.out,HLn.out,itsV_snoc];exact ownsRow_setCell_below HF6.out (by show w2.heap.size<W2.heap.size;have:=HZW.out;omega) _,by rw [HS1.out,HLn.out];exact HAp6.out.symm,by rw [HS1.out,HLn.out];exact heap_set HBx6.out _,((HK.out.belowOf HB5.out).belowOf HB6.out).own 1 _⟩
         case measure=>simp [intOf];omega
    . obtain rfl:j=its.length:=by omega
      have HEp:Hid (pick (ps.take its.length) (its.take its.length)=pick ps its):=by show _=_;rw [List.take_length,List.take_of_length_le (by have:=HPs.out;omega)]
      rw [HEp.out] at HFr HAp HBx
      have HNa:Hid (wr.ownsRow W2.heap.size 9 1 u8 its.length (Fx.strs its)):=by have:=HNr.out;rw [List.take_length] at this;exact this
      obtain ⟨aE,cE,e1,hE⟩:=its_own HFr.out (fun i hi=>HAF.out i ((pick_sub ps its).subset hi))
      injection e1 with e1 _ e3
      subst e1 e3;have HE:=hid hE;have HX4:=hid ((HK.out.block _ (by have:=HZW.out;omega) (by omega)).trans HX3.out);have HY4:=hid ((HK.out.block _ (by have:=HZW.out;omega) (by omega)).trans HY3.out);have HU:=hid ((strs_at (HM.out.later HBW2.out).uses).1)
      have HBw4:Hid (Below w.heap.size w wr):=⟨HK.out.os.trans HBW2.out.os,HK.out.tape.trans HBW2.out.tape,HK.out.output.trans HBW2.out.output,Nat.le_trans HBW2.out.size HK.out.size,fun k hk=>(HK.out.block k (by have:=HBW2.out.size;omega) (by omega)).trans (HBW2.out.block k hk)⟩
      have HU4:=hid ((strs_at (HM.out.later HBw4.out).uses).1);obtain ⟨x0,x1,x2,x3,x4,_⟩:=cellsOf5 HX4.out;have xz4:=lt_of_heap HX4.out;have HC3:=hid (Fx.twice_any a1 c1 m.uses wr HU4.out (by omega));clear hE HNr HFr HAp HU HX3 HY3;generalize pick ps its=pk at *;go_wp2_with fail;refine HC3.out.mono ?_
      cases hd1:Fx.dupB (Fx.lists m.uses) with
      | true=>
        rintro e w5 ⟨rfl,hb5⟩;have HB5:=hid (thenB HBw4.out hb5);have HY5:=hid ((hb5.block _ (lt_of_heap HY4.out)).trans HY4.out)
        have HR:Hid (chkM m=6):=by show _=_;rw [HCh.out,hd1];rfl
        obtain ⟨y0,y1,yf⟩:=cellsOf2 HY5.out;have yz5:=lt_of_heap HY5.out;clear hb5 x0 x1 x2 x3 x4;go_wp2_with fail;refine bodyPost_ret (v:=.tuple #[.agg #[.string ⟨#[]⟩,.slice none 0 0],.int .i64 6]) (by simp [results,Tryz.results16,go_sem,y0,y1,yz5]) rfl ⟨Or.inl ⟨by rw [HR.out];decide,by rw [HR.out]⟩,?_⟩;exact (HB5.out.setCell (p:=⟨w.heap.size+1,0,none⟩) (by show w.heap.size<=w.heap.size+1;omega) _).setCell (p:=⟨w.heap.size+1,1,none⟩) (by show w.heap.size<=w.heap.size+1;omega) _
      | false=>
        rintro e w5 ⟨rfl,hb5⟩;have HBa:=hid hb5;have HC4:=hid (twice_own (l:=its) (ownsRow_later HNa.out hb5) (by omega));clear hb5 x0 x1 x2 x3 x4;go_wp2_with fail;refine HC4.out.mono ?_
        cases hd2:Fx.dupB (Fx.namesOf its) with
        | true=>
          rintro e w6 ⟨rfl,hb6⟩;have HB6:=hid (thenB HBa.out hb6);have HY6:=hid ((HB6.out.block _ (lt_of_heap HY4.out)).trans HY4.out)
          have HR:Hid (chkM m=6):=by show _=_;rw [HCh.out,hd1,hd2];rfl
          obtain ⟨y0,y1,yf⟩:=cellsOf2 HY6.out;have yz6:=lt_of_heap HY6.out;clear hb6;go_wp2_with fail;refine bodyPost_ret (v:=.tuple #[.agg #[.string ⟨#[]⟩,.slice none 0 0],.int .i64 6]) (by simp [results,Tryz.results16,go_sem,y0,y1,yz6]) rfl ⟨Or.inl ⟨by rw [HR.out];decide,by rw [HR.out]⟩,?_⟩;exact ((thenB HBw4.out HB6.out).setCell (p:=⟨w.heap.size+1,0,none⟩) (by show w.heap.size<=w.heap.size+1;omega) _).setCell (p:=⟨w.heap.size+1,1,none⟩) (by show w.heap.size<=w.heap.size+1;omega) _
        | false=>
          rintro e w6 ⟨rfl,hb6⟩;have HB6:=hid (thenB HBa.out hb6);have HY6:=hid ((HB6.out.block _ (lt_of_heap HY4.out)).trans HY4.out);have HF6:=hid ((HB6.out.block _ (lt_of_heap HBx.out)).trans HBx.out)
          have HR:Hid (chkM m=0):=by show _=_;rw [HCh.out,hd1,hd2];rfl
          have HE6:=hid (HE.out.later HB6.out);obtain ⟨y0,y1,yf⟩:=cellsOf2 HY6.out;have yz6:=lt_of_heap HY6.out;obtain ⟨r0,r1,rf⟩:=cellsOf2 HF6.out;have rz6:=lt_of_heap HF6.out;clear hb6;go_wp2_with fail;refine bodyPost_ret (v:=.tuple #[.agg #[.string m.name,.slice fa pk.length fc],.int .i64 0]) (by simp [results,Tryz.results16,go_sem,y0,y1,yz6]) rfl ⟨Or.inr ⟨HR.out,fa,fc,by rw [HSh.out],?_⟩,?_⟩
          . rw [HSh.out]
            exact (HE6.out.moves (((Moves.refl w6 _).set (p:=⟨w.heap.size+1,0,none⟩) (by intro b _ hb;have:W2.heap.size<=b:=hb;have:=HZW.out;show b≠w.heap.size+1;omega) _).set (p:=⟨w.heap.size+1,1,none⟩) (by intro b _ hb;have:W2.heap.size<=b:=hb;have:=HZW.out;show b≠w.heap.size+1;omega) _)).moves ⟨Nat.le_refl _,fun b _ h=>⟨by have:W2.heap.size<=b:=h;have:=HZW.out;show w.heap.size<=b;omega,rfl⟩⟩
          . exact ((thenB HBw4.out HB6.out).setCell (p:=⟨w.heap.size+1,0,none⟩) (by show w.heap.size<=w.heap.size+1;omega) _).setCell (p:=⟨w.heap.size+1,1,none⟩) (by show w.heap.size<=w.heap.size+1;omega) _
 . have HR:Hid (chkM m=m.err):=by show _=_;unfold chkM;rw [if_pos he]
   have HF:Hid (faceEnd w.heap.size m (.returned (.tuple #[.agg #[.string ⟨#[]⟩,.slice none 0 0],.int .i64 m.err])) ((w1.setCell ⟨w.heap.size+1,0,none⟩ (.string ⟨#[]⟩)).setCell ⟨w.heap.size+1,1,none⟩ (.slice none 0 0))):=Or.inl ⟨by rw [HR.out];exact he,by rw [HR.out]⟩;go_wp2_with fail;refine bodyPost_ret (v:=.tuple #[.agg #[.string ⟨#[]⟩,.slice none 0 0],.int .i64 m.err]) (by simp [results,Tryz.results16,go_sem,y0,y1,yz]) rfl ⟨HF.out,?_⟩;exact (HB1.out.setCell (p:=⟨w.heap.size+1,0,none⟩) (by show w.heap.size<=w.heap.size+1;omega) _).setCell (p:=⟨w.heap.size+1,1,none⟩) (by show w.heap.size<=w.heap.size+1;omega) _
end Go.Proofs.YtndkhgakfodldaaGreatDoor

namespace Go.Proofs.YtndkhgakfodldaaGreatDoor
set_option maxRecDepth 100000
set_option maxHeartbeats 6400000
open Go.RowKit Go.Maps Go.WideMaps
set_option linter.unusedSimpArgs false
set_option linter.unusedVariables false
theorem box2 {W:World} {b:Nat} {v0 v1:Value} {t:TypeId} (h:W.heap[b]? = some (.cells #[v0,v1] t (0,0))):W.cell? ⟨b,0,none⟩=some v0/\W.cell? ⟨b,1,none⟩=some v1:=⟨(cellsOf2 h).1,(cellsOf2 h).2.1⟩
theorem ScopeFaces_any (hSB:Begun 17) (m:Mo) (v:Value) (a1:Option Addr) (c1:Nat) (a2:Option Addr) (c2:Nat) (a3:Option Addr) (c3:Nat) (a4:Option Addr) (c4:Nat) (f:Fc) (af:Option Addr) (cf:Nat) (w:World) (hM:MoAt w Tt m v a1 c1 a2 c2 a3 c3 a4 c4) (hs:Small m)
 (hI:Fx.ItemsAt w af f.items) (hl:f.items.length<=1000000000000000) (hn:f.name.size<=maxLen) (hf:Fx.AllFit f.items) :
 Calls Tryz.prog 3 #[v,.agg #[.string f.name,.slice af f.items.length cf]] w fun e w'=>e = .returned (.bool true)/\Below w.heap.size w w':=by
 obtain rfl:=hM.val;have HS:=hid hSB;have HM:=hid hM;have HC:=hid (Face_any m _ a1 c1 a2 c2 a3 c3 a4 c4 ((w.alloc (.cells #[.string m.name,.slice a1 m.uses.length c1,.slice a2 m.decls.length c2,.slice a3 m.procs.length c3,.slice a4 m.main.length c4] 27)).alloc (.cells #[.string f.name,.slice af f.items.length cf] 30)) (hM.later (bl2 _ _ _)));have HFo:=hid (fun W (hW:Below w.heap.size w W)=>FaceOf_any m _ a1 c1 a2 c2 a3 c3 a4 c4 W (hM.later hW) hs);have HCa:=hid (fun W (hW:Below w.heap.size w W)=>Fx.scopeCheck_any f af cf W (hI.later hW) hl hn hf);have HCb:=hid (fun W (hW:Below w.heap.size w W)=>Fx.CheckFace_any f af cf W (hI.later hW) hl hn hf);have hub:=hM.uses.bound;clear hSB hM hs hI hl hn hf;generalize Fx.chkF f=zf at *;go_enter Tryz.func3,Tryz.ntmps3;go_wp2_with fail;refine HC.out.mono ?_;rintro e w1 ⟨hend,hb1⟩;have HB1:=hid (thenB (bl2 w _ _) hb1)
 have hz1:=hb1.size;simp at hz1;have HX1:=hid ((hb1.block w.heap.size (by simp;omega)).trans (heap_old (heap_newP w (.cells #[.string m.name,.slice a1 m.uses.length c1,.slice a2 m.decls.length c2,.slice a3 m.procs.length c3,.slice a4 m.main.length c4] 27))));have HY1:Hid (w1.heap[w.heap.size+1]? = some (.cells #[.string f.name,.slice af f.items.length cf] 30)):=(hb1.block (w.heap.size+1) (by simp)).trans (newP1 w _ _);obtain ⟨q0,q1,q2,q3,q4,_⟩:=cellsOf5 HX1.out;have qz:=lt_of_heap HX1.out;clear hb1 HC;unfold faceEnd at hend
 rcases hend with ⟨hc,rfl⟩ | ⟨hc,ai,ci,rfl,hE⟩
 . go_wp2_with fail
   refine (HFo.out _ (thenB HB1.out (al1 _ _))).mono ?_;rintro e w2 ⟨hend,hb2⟩;have HB2:=hid (thenB HB1.out (thenB (al1 _ _) hb2));have hz2:=hb2.size;simp at hz2;have HY2:=hid ((hb2.block _ (by simp;have:=lt_of_heap HY1.out;omega)).trans (heap_old HY1.out));have HA2:=hid ((hb2.block _ (by simp)).trans (heap_newP w1 (.cells #[.string ⟨#[]⟩,.slice none 0 0] 30)));unfold faceEnd at hend
   rcases hend with ⟨_,rfl⟩ | ⟨hc2,_⟩
   rotate_left
   . exact absurd hc2 hc
   clear hb2 q0 q1 q2 q3 q4 qz;generalize chkM m=z at *;go_wp2_with fail
   obtain ⟨W2,hW2⟩:∃ W2,W2=w2.alloc (.cells #[.string ⟨#[]⟩,.slice none 0 0] 30):=⟨_,rfl⟩
   have hB:Below w2.heap.size w2 W2:=by rw [hW2];exact al1 _ _
   have HA3:=hid ((hB.block _ (lt_of_heap HA2.out)).trans HA2.out);have HY3:=hid ((hB.block _ (lt_of_heap HY2.out)).trans HY2.out)
   have HG3:Hid (W2.heap[w2.heap.size]? = some (.cells #[.string ⟨#[]⟩,.slice none 0 0] 30 (0,0))):=by rw [hW2];exact heap_newP _ _
   have HBW:=hid (thenB HB2.out hB);rw [← hW2];clear hW2 hB HA2 HY2 HB2
   have HSx:Hid (∀ W,Below W2.heap.size W2 W->W.cell? ⟨w1.heap.size,0,none⟩=some (.string ⟨#[]⟩)/\W.cell? ⟨w1.heap.size,1,none⟩=some (.slice none 0 0)/\W.cell? ⟨w2.heap.size,0,none⟩=some (.string ⟨#[]⟩)/\W.cell? ⟨w2.heap.size,1,none⟩=some (.slice none 0 0)/\W.cell? ⟨w.heap.size+1,0,none⟩=some (.string f.name)/\W.cell? ⟨w.heap.size+1,1,none⟩=some (.slice af f.items.length cf)):=fun W hW=>by
    have e1:=box2 ((hW.block _ (lt_of_heap HA3.out)).trans HA3.out);have e2:=box2 ((hW.block _ (lt_of_heap HG3.out)).trans HG3.out);have e3:=box2 ((hW.block _ (lt_of_heap HY3.out)).trans HY3.out);exact ⟨e1.1,e1.2,e2.1,e2.2,e3.1,e3.2⟩
   have HBc:Hid (Below W2.heap.size W2 W2.drew):=bdrew W2;go_wp2_with fail
   go_region_held (fun W=>W.cell? ⟨w1.heap.size,0,none⟩=some (.string ⟨#[]⟩)/\W.cell? ⟨w1.heap.size,1,none⟩=some (.slice none 0 0)/\W.cell? ⟨w2.heap.size,0,none⟩=some (.string ⟨#[]⟩)/\W.cell? ⟨w2.heap.size,1,none⟩=some (.slice none 0 0)/\W.cell? ⟨w.heap.size+1,0,none⟩=some (.string f.name)/\W.cell? ⟨w.heap.size+1,1,none⟩=some (.slice af f.items.length cf)) (exact HSx.out _ HBc.out)
    (first
    | (go_at_call 17;refine (HS.out _).mono ?_;rintro e w5 ⟨rfl,hb5⟩;have HBc:=hid (thenB HBc.out hb5);clear hb5)
    | (go_at_call 18;refine (SameFaces_same ⟨⟨#[]⟩,[]⟩ none none 0 0 _ (Or.inl rfl) (Or.inl rfl) (by simp)).mono ?_;rintro e w6 ⟨rfl,hb6⟩;have HBc:=hid (thenB HBc.out hb6);clear hb6)
    | (go_at_call 19;refine (HCa.out _ (thenB HBW.out HBc.out)).mono ?_;rintro e w7 ⟨rfl,hb7⟩;have HBc:=hid (thenB HBc.out hb7);clear hb7)
    | (go_at_call 20;refine (HCb.out _ (thenB HBW.out HBc.out)).mono ?_;rintro e w8 ⟨rfl,hb8⟩;have HBc:=hid (thenB HBc.out hb8);clear hb8))
   all_goals
    go_wp2_with fail;go_ret;exact ⟨rfl,thenB HBW.out HBc.out⟩
 . have HI1:=hid (items_at hE).1
   have HL16:Hid ((shownIts m).length<=1000):=by
    show _<=1000;have h1:=(pick_sub (pubs m) (layItems m)).length_le;have h2:=layItems_len m;have h3:=lay_ok (chk_err hc);have:=h3.decls;have:=h3.procs;unfold shownIts;omega
   clear hE;go_wp2_with fail;refine (HFo.out _ (thenB HB1.out (al1 _ _))).mono ?_;rintro e w2 ⟨hend,hb2⟩;have HB2:=hid (thenB HB1.out (thenB (al1 _ _) hb2));have hz2:=hb2.size;simp at hz2;have HY2:=hid ((hb2.block _ (by simp;have:=lt_of_heap HY1.out;omega)).trans (heap_old HY1.out));have HA2:=hid ((hb2.block _ (by simp)).trans (heap_newP w1 (.cells #[.string m.name,.slice ai (shownIts m).length ci] 30)));unfold faceEnd at hend
   rcases hend with ⟨hc2,_⟩ | ⟨_,ag,cg,rfl,hE2⟩
   . exact absurd hc hc2
   have HIb:=hid (items_at hE2).1;have HIa:=hid (HI1.out.later (thenB (al1 _ _) hb2));clear hE2;clear hb2 q0 q1 q2 q3 q4 qz;clear hc;go_wp2_with fail
   obtain ⟨W2,hW2⟩:∃ W2,W2=w2.alloc (.cells #[.string m.name,.slice ag (shownIts m).length cg] 30):=⟨_,rfl⟩
   have hB:Below w2.heap.size w2 W2:=by rw [hW2];exact al1 _ _
   have HA3:=hid ((hB.block _ (lt_of_heap HA2.out)).trans HA2.out);have HY3:=hid ((hB.block _ (lt_of_heap HY2.out)).trans HY2.out)
   have HG3:Hid (W2.heap[w2.heap.size]? = some (.cells #[.string m.name,.slice ag (shownIts m).length cg] 30 (0,0))):=by rw [hW2];exact heap_newP _ _
   have HBW:=hid (thenB HB2.out hB);have HIa3:=hid (HIa.out.later hB);have HIb3:=hid (HIb.out.later hB);rw [← hW2];clear hW2 hB HA2 HY2 HB2 HIa HIb
   have HSx:Hid (∀ W,Below W2.heap.size W2 W->W.cell? ⟨w1.heap.size,0,none⟩=some (.string m.name)/\W.cell? ⟨w1.heap.size,1,none⟩=some (.slice ai (shownIts m).length ci)/\W.cell? ⟨w2.heap.size,0,none⟩=some (.string m.name)/\W.cell? ⟨w2.heap.size,1,none⟩=some (.slice ag (shownIts m).length cg)/\W.cell? ⟨w.heap.size+1,0,none⟩=some (.string f.name)/\W.cell? ⟨w.heap.size+1,1,none⟩=some (.slice af f.items.length cf)):=fun W hW=>by
    have e1:=box2 ((hW.block _ (lt_of_heap HA3.out)).trans HA3.out);have e2:=box2 ((hW.block _ (lt_of_heap HG3.out)).trans HG3.out);have e3:=box2 ((hW.block _ (lt_of_heap HY3.out)).trans HY3.out);exact ⟨e1.1,e1.2,e2.1,e2.2,e3.1,e3.2⟩
   have HBc:Hid (Below W2.heap.size W2 W2.drew):=bdrew W2;go_wp2_with fail
   go_region_held (fun W=>W.cell? ⟨w1.heap.size,0,none⟩=some (.string m.name)/\W.cell? ⟨w1.heap.size,1,none⟩=some (.slice ai (shownIts m).length ci)/\W.cell? ⟨w2.heap.size,0,none⟩=some (.string m.name)/\W.cell? ⟨w2.heap.size,1,none⟩=some (.slice ag (shownIts m).length cg)/\W.cell? ⟨w.heap.size+1,0,none⟩=some (.string f.name)/\W.cell? ⟨w.heap.size+1,1,none⟩=some (.slice af f.items.length cf)) (exact HSx.out _ HBc.out)
    (first
    | (go_at_call 17;refine (HS.out _).mono ?_;rintro e w5 ⟨rfl,hb5⟩;have HBc:=hid (thenB HBc.out hb5);clear hb5)
    | (go_at_call 18;refine (SameFaces_same ⟨m.name,shownIts m⟩ ai ag ci cg _ (HIa3.out.later HBc.out) (HIb3.out.later HBc.out) HL16.out).mono ?_;rintro e w6 ⟨rfl,hb6⟩;have HBc:=hid (thenB HBc.out hb6);clear hb6)
    | (go_at_call 19;refine (HCa.out _ (thenB HBW.out HBc.out)).mono ?_;rintro e w7 ⟨rfl,hb7⟩;have HBc:=hid (thenB HBc.out hb7);clear hb7)
    | (go_at_call 20;refine (HCb.out _ (thenB HBW.out HBc.out)).mono ?_;rintro e w8 ⟨rfl,hb8⟩;have HBc:=hid (thenB HBc.out hb8);clear hb8))
   all_goals
    go_wp2_with fail;go_ret;exact ⟨rfl,thenB HBW.out HBc.out⟩
end Go.Proofs.YtndkhgakfodldaaGreatDoor
