import Derived.Test.YtndkhgakfodldaaGreatDoorYa
import Derived.Test.YtndkhgakfodldaaGreatDoorRf
import Derived.Test.YtndkhgakfodldaaGreatDoorHh
namespace Go.Proofs.YtndkhgakfodldaaGreatDoor
set_option maxRecDepth 100000
set_option maxHeartbeats 12800000
open Go.RowKit Go.Maps Go.WideMaps
set_option linter.unusedSimpArgs false
set_option linter.unusedVariables false
theorem zws (s:ByteArray):∀ u ∈ (#[Value.string s]:Array Value).toList,u.oneCell'=true:=by
 intro u hu;simp at hu
 subst hu;rfl
theorem zwt {w:World} {B:Nat} {v:Value} {l:List It} (h:w.ownsRow B 9 1 v l.length (Fx.strs l)) (hl:l.length<=1000000) :
 Calls Tryz.prog 53 #[v] w fun e w'=>e = .returned (.bool (Fx.zd9 (Fx.zbs l)))/\Below w.heap.size w w':=by
 obtain ⟨a,c,rfl,hS⟩:=Fx.zi7 h;rw [← Fx.zfc];exact Fx.zhw a c _ w hS (by rw [vbm];omega)
theorem z1z {m:Mo} (h:m.err=0):chkM m=if Fx.zd9 (Fx.zbk m.uses)||Fx.zd9 (Fx.zbs (layItems m)) then 6 else 0:=by unfold chkM;rw [if_neg (by simp [h])]
theorem ztl (m:Mo) (v:Value) (a1:OA) (c1:Nat) (a2:OA) (c2:Nat) (a3:OA) (c3:Nat) (a4:OA) (c4:Nat) (w:World) (hM:MoAt w Tt m v a1 c1 a2 c2 a3 c3 a4 c4) (hs:Small m) :
 Calls Tryz.prog 16 #[v] w fun e w'=>zkd w.heap.size m e w'/\Below w.heap.size w w':=by
 obtain rfl:=hM.val;have HM:=hid hM;have HC:=hid (zj3 m _ a1 c1 a2 c2 a3 c3 a4 c4 ((w.alloc (.cells #[.string m.name,.slice a1 m.uses.length c1,.slice a2 m.decls.length c2,.slice a3 m.procs.length c3,.slice a4 m.main.length c4] 27)).alloc (.cells #[.string ⟨#[]⟩,.slice none 0 0] 30)) (hM.later (bl2 _ _ _)) hs);clear hM hs;go_enter Tryz.func16,Tryz.ntmps16;go_wp2_with fail;refine HC.out.mono ?_;rintro e w1 ⟨rfl,hb1⟩;have HB1:=hid (thenB (bl2 w _ _) hb1);have hz1:=hb1.size;simp at hz1;have HX1:=hid ((hb1.block w.heap.size (by simp;omega)).trans (zad (heap_newP w (.cells #[.string m.name,.slice a1 m.uses.length c1,.slice a2 m.decls.length c2,.slice a3 m.procs.length c3,.slice a4 m.main.length c4] 27))));have HY1:Hid (w1.heap[w.heap.size+1]? = some (.cells #[.string ⟨#[]⟩,.slice none 0 0] 30)):=(hb1.block (w.heap.size+1) (by simp)).trans (z2l w _ _)
 obtain ⟨x0,x1,x2,x3,x4,_⟩:=zac HX1.out;obtain ⟨y0,y1,yf⟩:=zbd HY1.out;have xz:=zaa HX1.out;have yz:=zaa HY1.out;clear hb1 HC
 by_cases he:m.err=0
 . have hlay:=zol he
   have hu3:=(zc5 he).1;have hd10:=hlay.decls;have hp6:=hlay.procs;have HCh:=hid (z1z he);have HC2:=hid (zkk m _ a1 c1 a2 c2 a3 c3 a4 c4 w1 (HM.out.later HB1.out) hlay);have hl16:=zc4 m;have hlp:=ze9 m;have HL16:=hid hl16;have HLp:=hid hlp
   have hi16:(layItems m).length<=16:=by omega
   have hps:(zgt m).length=(layItems m).length:=by omega
   have HPs:=hid hps;rw [he];clear he hlay hl16 hlp hps;go_wp2_with fail;refine HC2.out.mono ?_;rintro e w2 ⟨⟨ai,ci,ap,cp,rfl,hit,hpb⟩,hb2⟩;have HB2:=hid (thenB HB1.out hb2);have hz2:=hb2.size;have HX2:=hid ((hb2.block _ xz).trans HX1.out);have HY2:=hid ((hb2.block _ yz).trans HY1.out);obtain ⟨hI,hAF⟩:=zfz hit;have HI:=hid hI;have HPb:=hid hpb;have HAF:=hid hAF;have HSh:Hid (zf0 m=pick (zgt m) (layItems m)):=rfl;clear hb2 HC2 hit hpb hI hAF x0 x1 x2 x3 x4 y0 y1 yf;obtain ⟨x0,x1,x2,x3,x4,_⟩:=zac HX2.out;have xz2:=zaa HX2.out;have yz2:=zaa HY2.out;generalize hits:layItems m=its at *;generalize hpubs:zgt m=ps at *;go_wp2_with fail
   obtain ⟨W2,hW2⟩:∃ W2,W2=w2.alloc (.cells #[.string m.name,.slice none 0 0] 30):=⟨_,rfl⟩
   have hB2:Below w2.heap.size w2 W2:=by rw [hW2];exact al1 _ _
   have hzW:W2.heap.size=w2.heap.size+1:=by rw [hW2];simp
   have HZW:=hid hzW
   have HF2:Hid (W2.heap[w2.heap.size]? = some (.cells #[.string m.name,.slice none 0 0] 30 (0,0))):=by rw [hW2];exact heap_newP _ _
   have HI2:=hid (HI.out.later hB2);have HPb2:=hid (HPb.out.later hB2);have HBW2:=hid (thenB HB2.out hB2);have HX3:=hid ((hB2.block _ xz2).trans HX2.out);have HY3:=hid ((hB2.block _ yz2).trans HY2.out)
   have HIne:Hid (∀ b' off,its≠[]->ai=some ⟨b',off,none⟩->b'≠w2.heap.size):=fun b' off hne e=>by
    rcases HI.out with h | ⟨b,o,e2,h⟩
    . exact absurd h hne
    . rw [e] at e2;injection e2 with e2;injection e2 with e2 _;have:=h.lt;omega
   have HPne:Hid (∀ b' off,ps≠[]->ap=some ⟨b',off,none⟩->b'≠w2.heap.size):=fun b' off hne e=>by
    rcases HPb.out with h | ⟨b,o,e2,h,_⟩
    . exact absurd h hne
    . rw [e] at e2;injection e2 with e2;injection e2 with e2 _;omega
   rw [← hW2];clear hW2 hB2 HI HPb HB2 HX2 HY2 x0 x1 x2 x3 x4 hzW;go_wp2_with fail
   go_loopw [8,10] (fun nv i wr=>∃ (j:Nat) (fa:OA) (fc:Nat),j<=its.length/\i = .int .i64 j/\wr.ownsRow W2.heap.size 9 1 nv j (Fx.strs (its.take j))/\wr.ownsRow W2.heap.size 98 4 (.slice fa (pick (ps.take j) (its.take j)).length fc) (pick (ps.take j) (its.take j)).length (zng (pick (ps.take j) (its.take j)))/\Apt (.slice fa (pick (ps.take j) (its.take j)).length fc) nv/\wr.heap[w2.heap.size]? = some (.cells #[.string m.name,.slice fa (pick (ps.take j) (its.take j)).length fc] 30 (0,0))/\Keeps w2.heap.size W2 wr) (fun _ i _=>its.length - (intOf i).toNat)
   case atStart=>exact ⟨0,none,0,vad _,rfl,veg _ _ _ _,by simp [pick,zng];exact veg _ _ _ _,by simp [pick];exact Apt.nil _,by simpa [pick] using HF2.out,Keeps.refl _ _⟩
   case round=>
    obtain ⟨j,fa,fc,hj,rfl,hnr,hfr,hap,hbx,hk⟩:=hrel;have HNr:=hid hnr;have HFr:=hid hfr;have HAp:=hid hap;have HBx:=hid hbx;have HK:=hid hk;have hzk:=hk.size;have hzb:=zaa hbx;clear hnr hfr hap hbx hk
    by_cases hlt:j<its.length
    . have hltp:j<ps.length:=by have:=HPs.out;omega
      have HSt:=hid (zkc ps its j hltp hlt);have HTk:=hid (Fx.zhu its j hlt)
      have hpl:(pick (ps.take j) (its.take j)).length<=16:=by
       have:=(zmh (ps.take j) (its.take j)).length_le;rw [vbu] at this;omega
      have HIk:=hid (Keeps.items HI2.out HK.out (fun b' off h1 h2=>HIne.out b' off h1 h2));obtain ⟨b,off,hai,hbl,c0,c1,c2,c3⟩:=HIk.out.place hlt;have hbne:b≠w2.heap.size:=HIne.out b off (by intro h;rw [h] at hlt;simp at hlt) hai
      have HPc:Hid (∃ b' off',ap=some ⟨b',off',none⟩/\b'<wr.heap.size/\b'<W2.heap.size/\b'≠w2.heap.size/\wr.cell? ⟨b',off'+j,none⟩=some (.bool ps[j])):=by
       obtain ⟨b',off',e,h1,h2⟩:=HPb2.out.place hltp;have hne:=HPne.out b' off' (by intro h;rw [h] at hltp;simp at hltp) e;exact ⟨b',off',e,vai h1 hzk,h1,hne,(HK.out.cell h1 hne).trans h2⟩
      obtain ⟨b',off',hap',hbl',hbw',hbne',p0⟩:=HPc.out
      have hbw:b<W2.heap.size:=by
       rcases HI2.out with h | ⟨b4,o4,e4,h4⟩
       . rw [h] at hlt;simp at hlt
       . rw [hai] at e4;injection e4 with e4;injection e4 with e4 _;have:=h4.lt;omega
      have HNf:Hid (∀ (u:Value) (e:TypeId) (z n:Nat) (xs:List Value) (W:World),W.ownsRow W2.heap.size e z u n xs->u.ownBlock≠some w2.heap.size):=fun u e z n xs W h e2=>by have:=(h.lt _ e2).1;have:=HZW.out;omega
      subst hai hap';have HIt:Hid (itV its[j]=[.int .i64 its[j].kind,.int .i64 its[j].n,.int .i64 its[j].at_,.string its[j].name]):=rfl
      have HStr:Hid (Fx.strs (its.take j)++[.string its[j].name]=Fx.strs (its.take (j+1))):=by show _=_;rw [HTk.out];exact Fx.zki _ _
      generalize pick (ps.take j) (its.take j)=pk at *;generalize its[j]=it at *
      have hjl:(j:Int)<its.length:=by omega
      have hjp:(j:Int)<ps.length:=by omega
      have HWc:Hid (∀ W,Below W2.heap.size wr W->(W.cell? ⟨b,off+j*4,none⟩=some (.int .i64 it.kind)/\W.cell? ⟨b,off+j*4+1,none⟩=some (.int .i64 it.n)/\W.cell? ⟨b,off+j*4+2,none⟩=some (.int .i64 it.at_)/\W.cell? ⟨b,off+j*4+3,none⟩=some (.string it.name))/\W.cell? ⟨b',off'+j,none⟩=some (.bool ps[j])):=fun W hW=>
       ⟨⟨(hW.cell (p:=⟨b,_,none⟩) hbw).trans c0,(hW.cell (p:=⟨b,_,none⟩) hbw).trans c1,(hW.cell (p:=⟨b,_,none⟩) hbw).trans c2,(hW.cell (p:=⟨b,_,none⟩) hbw).trans c3⟩,(hW.cell (p:=⟨b',_,none⟩) hbw').trans p0⟩
      clear p0
      cases hpj:ps[j] with
      | false=>
        rw [hpj] at HWc HSt;have HS1:Hid (pick (ps.take (j+1)) (its.take (j+1))=pk):=hid (by have:=HSt.out;simpa using this);clear HSt
        go_wp2_with (at_builtin;refine zck rfl (.tmp 32) (.tmp 38) 22 rfl W2.heap.size 9 _ 1 16 Tryz.underlying22 Tryz.infoStr rfl (by decide) wr u8 j (Fx.strs (its.take j)) rfl HNr.out #[.string it.name] _ rfl rfl rfl (zws it.name) (by omega) (by decide) hzk ?_;intro g5 k5 w5 ho5 hb5 hz5 hkp5 hkb5;have HN5:=hid ho5;have HB5:=hid hb5;obtain ⟨hp5,hap5⟩:=hkp5 _ _ _ _ _ _ HFr.out HAp.out;have HF5:=hid hp5;have HAp5:=hid hap5;have HBx5:=hid (hkb5 _ _ HBx.out (HNf.out _ _ _ _ _ _ HNr.out));obtain ⟨⟨e0,e1,e2,e3⟩,p0⟩:=HWc.out _ HB5.out;obtain ⟨r0,r1,rf⟩:=zbd HBx5.out;have hbl5:b<w5.heap.size:=(by omega);have hbl5':b'<w5.heap.size:=(by omega);have hzb5:w2.heap.size<w5.heap.size:=(by omega);clear ho5 hb5 hkp5 hkb5 hp5 hap5)
        go_roundw
        case rel=>exact ⟨j+1,fa,fc,by omega,by go_num,by rw [← HStr.out];exact HN5.out,by rw [HS1.out];exact HF5.out,by rw [HS1.out];exact HAp5.out,by rw [HS1.out];exact HBx5.out,HK.out.belowOf HB5.out⟩
        case measure=>simp [intOf];omega
      | true=>
        rw [hpj] at HWc HSt;have HS1:Hid (pick (ps.take (j+1)) (its.take (j+1))=pk++[it]):=hid (by have:=HSt.out;simpa using this);clear HSt
        go_wp2_with (at_builtin;refine zck rfl (.tmp 32) (.tmp 38) 22 rfl W2.heap.size 9 _ 1 16 Tryz.underlying22 Tryz.infoStr rfl (by decide) wr u8 j (Fx.strs (its.take j)) rfl HNr.out #[.string it.name] _ rfl rfl rfl (zws it.name) (by omega) (by decide) hzk ?_;intro g5 k5 w5 ho5 hb5 hz5 hkp5 hkb5;have HN5:=hid ho5;have HB5:=hid hb5;obtain ⟨hp5,hap5⟩:=hkp5 _ _ _ _ _ _ HFr.out HAp.out;have HF5:=hid hp5;have HAp5:=hid hap5;have HBx5:=hid (hkb5 _ _ HBx.out (HNf.out _ _ _ _ _ _ HNr.out));obtain ⟨⟨e0,e1,e2,e3⟩,p0⟩:=HWc.out _ HB5.out;obtain ⟨r0,r1,rf⟩:=zbd HBx5.out;have hbl5:b<w5.heap.size:=(by omega);have hbl5':b'<w5.heap.size:=(by omega);have hzb5:w2.heap.size<w5.heap.size:=(by omega);clear ho5 hb5 hkp5 hkb5 hp5 hap5)
        have HFd:Hid (w5.drew.ownsRow W2.heap.size 98 4 (.slice fa pk.length fc) pk.length (zng pk)):=HF5.out.drew;have HNd:Hid (w5.drew.ownsRow W2.heap.size 9 1 (.slice (some ⟨g5,0,none⟩) (j+1) k5) (j+1) (Fx.strs (its.take j)++[.string it.name])):=HN5.out.drew;have HBd:Hid (w5.drew.heap[w2.heap.size]? = some (.cells #[.string m.name,.slice fa pk.length fc] 30 (0,0))):=HBx5.out;have HBw:Hid (Below W2.heap.size w5 w5.drew):=(Below.refl _ _).drew;go_wp2_with fail
        go_region_law (first
         | (refine zfs rfl (.tmp 45) (.tmp 50) 28 rfl W2.heap.size 98 _ 4 40 Tryz.underlying28 Tryz.infoItem rfl (by decide) w5.drew (.slice fa pk.length fc) pk.length (zng pk) rfl HFd.out #[.int .i64 it.kind,.int .i64 it.n,.int .i64 it.at_,.string it.name] _ (by simp) rfl rfl (zov it) (by omega) (by decide) (by simp;omega) _ rfl ?_;intro g6 k6 w6 ho6 hb6 hz6 hkp6 hkb6;have HF6:=hid ho6;have HB6:=hid (HBw.out.trans hb6);obtain ⟨hp6,hap6⟩:=hkp6 _ _ _ _ _ _ HNd.out (HAp5.out.symm);have HN6:=hid hp6;have HAp6:=hid hap6;have HBx6:=hid (hkb6 _ _ HBd.out (HNf.out _ _ _ _ _ _ HFd.out));obtain ⟨t0,t1,tf⟩:=zbd HBx6.out;have hzb6:w2.heap.size<w6.heap.size:=(by simp at hz6;omega);clear ho6 hb6 hkp6 hkb6 hp6 hap6))
        all_goals
         have HLn:Hid ((pk++[it]).length=pk.length+1):=by show _=_;simp
         go_wp2_with fail;go_roundw
         case rel=>exact ⟨j+1,some ⟨g6,0,none⟩,k6,by omega,by go_num,by rw [← HStr.out];exact ownsRow_setCell_below HN6.out (by show w2.heap.size<W2.heap.size;have:=HZW.out;omega) _,by rw [HS1.out,HLn.out,zfr];exact ownsRow_setCell_below HF6.out (by show w2.heap.size<W2.heap.size;have:=HZW.out;omega) _,by rw [HS1.out,HLn.out];exact HAp6.out.symm,by rw [HS1.out,HLn.out];exact zaf HBx6.out _,((HK.out.belowOf HB5.out).belowOf HB6.out).own 1 _⟩
         case measure=>simp [intOf];omega
    . obtain rfl:j=its.length:=by omega
      have HEp:Hid (pick (ps.take its.length) (its.take its.length)=pick ps its):=by show _=_;rw [vav,vaq (by have:=HPs.out;omega)]
      rw [HEp.out] at HFr HAp HBx
      have HNa:Hid (wr.ownsRow W2.heap.size 9 1 u8 its.length (Fx.strs its)):=by have:=HNr.out;rw [vav] at this;exact this
      obtain ⟨aE,cE,e1,hE⟩:=zwq HFr.out (fun i hi=>HAF.out i ((zmh ps its).subset hi))
      injection e1 with e1 _ e3
      subst e1 e3;have HE:=hid hE;have HX4:=hid ((HK.out.block _ (by have:=HZW.out;omega) (by omega)).trans HX3.out);have HY4:=hid ((HK.out.block _ (by have:=HZW.out;omega) (by omega)).trans HY3.out);have HU:=hid ((zek (HM.out.later HBW2.out).uses).1)
      have HBw4:Hid (Below w.heap.size w wr):=⟨HK.out.os.trans HBW2.out.os,HK.out.tape.trans HBW2.out.tape,HK.out.output.trans HBW2.out.output,vbe HBW2.out.size HK.out.size,fun k hk=>(HK.out.block k (by have:=HBW2.out.size;omega) (by omega)).trans (HBW2.out.block k hk)⟩
      have HU4:=hid ((zek (HM.out.later HBw4.out).uses).1);obtain ⟨x0,x1,x2,x3,x4,_⟩:=zac HX4.out;have xz4:=zaa HX4.out;have HC3:=hid (Fx.zhw a1 c1 m.uses wr HU4.out (by omega));clear hE HNr HFr HAp HU HX3 HY3;generalize pick ps its=pk at *;go_wp2_with fail;refine HC3.out.mono ?_
      cases hd1:Fx.zd9 (Fx.zbk m.uses) with
      | true=>
        rintro e w5 ⟨rfl,hb5⟩;have HB5:=hid (thenB HBw4.out hb5);have HY5:=hid ((hb5.block _ (zaa HY4.out)).trans HY4.out)
        have HR:Hid (chkM m=6):=by show _=_;rw [HCh.out,hd1];rfl
        obtain ⟨y0,y1,yf⟩:=zbd HY5.out;have yz5:=zaa HY5.out;clear hb5 x0 x1 x2 x3 x4;go_wp2_with fail;refine bodyPost_ret (v:=.tuple #[.agg #[.string ⟨#[]⟩,.slice none 0 0],.int .i64 6]) (by simp [results,Tryz.results16,go_sem,y0,y1,yz5]) rfl ⟨Or.inl ⟨by rw [HR.out];decide,by rw [HR.out]⟩,?_⟩;exact (HB5.out.setCell (p:=⟨w.heap.size+1,0,none⟩) (by show w.heap.size<=w.heap.size+1;omega) _).setCell (p:=⟨w.heap.size+1,1,none⟩) (by show w.heap.size<=w.heap.size+1;omega) _
      | false=>
        rintro e w5 ⟨rfl,hb5⟩;have HBa:=hid hb5;have HC4:=hid (zwt (l:=its) (ownsRow_later HNa.out hb5) (by omega));clear hb5 x0 x1 x2 x3 x4;go_wp2_with fail;refine HC4.out.mono ?_
        cases hd2:Fx.zd9 (Fx.zbs its) with
        | true=>
          rintro e w6 ⟨rfl,hb6⟩;have HB6:=hid (thenB HBa.out hb6);have HY6:=hid ((HB6.out.block _ (zaa HY4.out)).trans HY4.out)
          have HR:Hid (chkM m=6):=by show _=_;rw [HCh.out,hd1,hd2];rfl
          obtain ⟨y0,y1,yf⟩:=zbd HY6.out;have yz6:=zaa HY6.out;clear hb6;go_wp2_with fail;refine bodyPost_ret (v:=.tuple #[.agg #[.string ⟨#[]⟩,.slice none 0 0],.int .i64 6]) (by simp [results,Tryz.results16,go_sem,y0,y1,yz6]) rfl ⟨Or.inl ⟨by rw [HR.out];decide,by rw [HR.out]⟩,?_⟩;exact ((thenB HBw4.out HB6.out).setCell (p:=⟨w.heap.size+1,0,none⟩) (by show w.heap.size<=w.heap.size+1;omega) _).setCell (p:=⟨w.heap.size+1,1,none⟩) (by show w.heap.size<=w.heap.size+1;omega) _
        | false=>
          rintro e w6 ⟨rfl,hb6⟩;have HB6:=hid (thenB HBa.out hb6);have HY6:=hid ((HB6.out.block _ (zaa HY4.out)).trans HY4.out);have HF6:=hid ((HB6.out.block _ (zaa HBx.out)).trans HBx.out)
          have HR:Hid (chkM m=0):=by show _=_;rw [HCh.out,hd1,hd2];rfl
          have HE6:=hid (HE.out.later HB6.out);obtain ⟨y0,y1,yf⟩:=zbd HY6.out;have yz6:=zaa HY6.out;obtain ⟨r0,r1,rf⟩:=zbd HF6.out;have rz6:=zaa HF6.out;clear hb6;go_wp2_with fail;refine bodyPost_ret (v:=.tuple #[.agg #[.string m.name,.slice fa pk.length fc],.int .i64 0]) (by simp [results,Tryz.results16,go_sem,y0,y1,yz6]) rfl ⟨Or.inr ⟨HR.out,fa,fc,by rw [HSh.out],?_⟩,?_⟩
          . rw [HSh.out]
            exact (HE6.out.moves (((zae.refl w6 _).set (p:=⟨w.heap.size+1,0,none⟩) (by intro b _ hb;have:W2.heap.size<=b:=hb;have:=HZW.out;show b≠w.heap.size+1;omega) _).set (p:=⟨w.heap.size+1,1,none⟩) (by intro b _ hb;have:W2.heap.size<=b:=hb;have:=HZW.out;show b≠w.heap.size+1;omega) _)).moves ⟨vaa _,fun b _ h=>⟨by have:W2.heap.size<=b:=h;have:=HZW.out;show w.heap.size<=b;omega,rfl⟩⟩
          . exact ((thenB HBw4.out HB6.out).setCell (p:=⟨w.heap.size+1,0,none⟩) (by show w.heap.size<=w.heap.size+1;omega) _).setCell (p:=⟨w.heap.size+1,1,none⟩) (by show w.heap.size<=w.heap.size+1;omega) _
 . have HR:Hid (chkM m=m.err):=by show _=_;unfold chkM;rw [if_pos he]
   have HF:Hid (zkd w.heap.size m (.returned (.tuple #[.agg #[.string ⟨#[]⟩,.slice none 0 0],.int .i64 m.err])) ((w1.setCell ⟨w.heap.size+1,0,none⟩ (.string ⟨#[]⟩)).setCell ⟨w.heap.size+1,1,none⟩ (.slice none 0 0))):=Or.inl ⟨by rw [HR.out];exact he,by rw [HR.out]⟩;go_wp2_with fail;refine bodyPost_ret (v:=.tuple #[.agg #[.string ⟨#[]⟩,.slice none 0 0],.int .i64 m.err]) (by simp [results,Tryz.results16,go_sem,y0,y1,yz]) rfl ⟨HF.out,?_⟩;exact (HB1.out.setCell (p:=⟨w.heap.size+1,0,none⟩) (by show w.heap.size<=w.heap.size+1;omega) _).setCell (p:=⟨w.heap.size+1,1,none⟩) (by show w.heap.size<=w.heap.size+1;omega) _
def Fra (R U:Nat) (w w':World):Prop:=w.heap.size<=w'.heap.size/\∀ b,b<w.heap.size->b≠R->b≠U->w'.heap[b]? = w.heap[b]?
theorem Fra.refl (R U:Nat) (w:World):Fra R U w w:=⟨vaa _,fun _ _ _ _=>rfl⟩
theorem Fra.keeps {R U:Nat} {w w1 w2:World} (h:Fra R U w w1) (k:Keeps R w1 w2):Fra R U w w2:=⟨vbe h.1 k.size,fun b hb h1 h2=>(k.block b (vai hb h.1) h1).trans (h.2 b hb h1 h2)⟩
theorem Fra.belowB {R U B:Nat} {w w1 w2:World} (h:Fra R U w w1) (k:Below B w1 w2) (hB:w.heap.size<=B):Fra R U w w2:=⟨vbe h.1 k.size,fun b hb h1 h2=>(k.block b (by omega)).trans (h.2 b hb h1 h2)⟩
theorem Fra.setU {R U:Nat} {w w1:World} (h:Fra R U w w1) (j:Nat) (v:Value):Fra R U w (w1.setCell ⟨U,j,none⟩ v):=⟨by rw [vam];exact h.1,fun b hb h1 h2=>(heap_set_ne (p:=⟨U,j,none⟩) h2 v).trans (h.2 b hb h1 h2)⟩
theorem Fra.moves {R U:Nat} {w w':World} (h:Fra R U w w') {A A':Nat->Prop} (hA:∀ b,A b->b≠R/\b≠U/\A' b):zae w A w' A':=⟨h.1,fun b hb ha=>⟨(hA b ha).2.2,h.2 b hb (hA b ha).1 (hA b ha).2.1⟩⟩
theorem zr0 {w:World} {base:Nat} {v:Value} {l:List ByteArray} (h:zmv w base v l) (hs:∀ s ∈ l,s.size<=maxLen):∃ a c,v = .slice a l.length c/\EAt w (fun b=>base<=b/\∃ cur,w.heap[b]? = some (.cells cur 9 (0,0))) a l.length (zan l)/\Fx.zd2 w a l/\∀ R,R<base->zr5 w w.heap.size R a l:=by
 have hE:∀ (A:Nat->Prop) (l:List ByteArray),(∀ s ∈ l,s.size<=maxLen)->zap w A (zan l) (l.map Value.string):=fun A l=>by
  induction l with
  | nil=>exact fun _=>.nil
  | cons x r ih=>exact fun hs=>.cons (zs5 (hs x (vbg ..))) (ih fun s h=>hs s (vbi _ h))
 obtain ⟨a,c,e,hc⟩:=h.cell
 rcases h.2 with ⟨h1,h2⟩ | ⟨g,cap,cur,h1,hb,hg,hr⟩
 . have hl:l=[]:=by simpa using h2
   subst hl;exact ⟨a,c,e,Or.inl rfl,Or.inl rfl,fun R _=>Or.inl rfl⟩
 . rw [e] at h1
   injection h1 with h3 _ h4
   subst h3 h4;refine ⟨_,_,e,?_,?_,fun R hR=>?_⟩
   . refine Or.inr ⟨g,0,l.map .string,rfl,⟨hb,cur,hg⟩,zaa hg,fun j u hj=>?_,hE _ l hs⟩
     rw [vdr] at hj;obtain ⟨s,hs',rfl⟩:=Option.map_eq_some_iff.1 hj;obtain ⟨hj',rfl⟩:=List.getElem?_eq_some_iff.1 hs';obtain ⟨b,e1,_,hc1⟩:=hc j hj'
     cases e1
     rw [vbc];exact hc1
   . refine Or.inr ⟨g,0,rfl,zaa hg,fun i hi=>?_⟩
     obtain ⟨b,e1,_,hc1⟩:=hc i hi
     cases e1
     rw [vbc];exact hc1
   . refine Or.inr ⟨g,0,rfl,zaa hg,by omega,fun i hi=>?_⟩
     obtain ⟨b,e1,_,hc1⟩:=hc i hi
     cases e1
     rw [vbc];exact hc1
theorem zi9 (w:World) (B:Nat) (hB:B<=w.heap.size):zmv (w.alloc (.cells #[] 9)) B (.slice (some ⟨w.heap.size,0,none⟩) 0 0) []:=
 ⟨rfl,Or.inr ⟨w.heap.size,0,#[],rfl,hB,heap_newP w _,vaa _,by simp [maxLen],rfl,rfl⟩⟩
theorem ztm {w:World} {base:Nat} {v:Value} {l:List ByteArray} (h:zmv w base v l):∀ k,v.ownBlock=some k->base<=k:=fun k hk=>(h.lt k hk).1
theorem z0p (w:World) (ps ls:List ByteArray) (a5 a6:OA) (c5 c6:Nat) (h5:DAt w Tt a5 ps.length (zan ps)) (h6:DAt w Tt a6 ls.length (zan ls)) (hp:ps.length<=1000) (hl:ls.length<=1000) :
 ∃ v1 w5 v2 w6,(Builtin.append_ #[22,22] 22 #[.slice (some ⟨w.heap.size,0,none⟩) 0 0,.slice a5 ps.length c5]).run Tryz.prog (w.drew.alloc (.cells #[] 9)) = .ok v1 w5/\Below w.heap.size w w5/\
   (Builtin.append_ #[22,22] 22 #[v1,.slice a6 ls.length c6]).run Tryz.prog w5 = .ok v2 w6/\Below w.heap.size w w6/\zmv w6 w.heap.size v2 (ps++ls):=by
 have hB0:Below w.heap.size w (w.drew.alloc (.cells #[] 9)):=((Below.refl _ _).drew).alloc (by simp) _;have hown:zmv (w.drew.alloc (.cells #[] 9)) w.heap.size (.slice (some ⟨w.heap.size,0,none⟩) 0 0) []:=zi9 w.drew w.heap.size (vaa _);obtain ⟨v1,w5,hr1,ho1,hg1⟩:=zjx _ w.heap.size 22 _ [] hown a5 c5 ps (h5.later hB0) (by simp;omega) (by simp);have hB5:Below w.heap.size w w5:=hB0.grown hg1 (by simp) (fun k hk=>by simp [Value.ownBlock] at hk;omega);obtain ⟨v2,w6,hr2,ho2,hg2⟩:=zjx w5 w.heap.size 22 v1 ([]++ps) ho1 a6 c6 ls (h6.later hB5) (by simp;omega) hB5.size;have hB6:Below w.heap.size w w6:=hB5.grown hg2 hB5.size (ztm ho1);rw [vcb] at ho2;exact ⟨v1,w5,v2,w6,hr1,hB5,hr2,hB6,ho2⟩
def UnS (W:World) (m:Mo) (U:Nat) (wc:World):Prop:=∃ ua uc,wc.heap[U]? = some (.cells #[.string m.name,.slice ua m.uses.length uc,.int .i64 (zav m),.slice none 0 0,.slice none 0 0] 42 (0,0))/\W.heap.size<=U/\Below W.heap.size W wc/\EAt wc (fun b=>W.heap.size<=b/\b≠U) ua m.uses.length (zan m.uses)
theorem zwu {W X:World} {m:Mo} {U base:Nat} {v:Value} (hb:Below W.heap.size W X) (hbase:W.heap.size<=base) (ho:zmv X base v m.uses) (hU:X.heap[U]? = some (.cells #[.string ⟨#[]⟩,.slice none 0 0,.int .i64 0,.slice none 0 0,.slice none 0 0] 42 (0,0))) (hWU:W.heap.size<=U) (hs:∀ s ∈ m.uses,s.size<=maxLen) :
 ∃ ua uc,v = .slice ua m.uses.length uc/\UnS W m U (set5 X U (.string m.name) (.slice ua m.uses.length uc) (.int .i64 (zav m)) (.slice none 0 0) (.slice none 0 0)):=by
 obtain ⟨ua,uc,e,hE,_,_⟩:=zr0 ho hs;refine ⟨ua,uc,e,ua,uc,zaf (zaf (zaf (zaf (zaf hU _) _) _) _) _,hWU,zcb hb hWU _ _ _ _ _,?_⟩
 have mv:zae X (fun b=>base<=b/\∃ cur,X.heap[b]? = some (.cells cur 9 (0,0))) X (fun b=>W.heap.size<=b/\b≠U):=⟨vaa _,fun b _ ha=>⟨⟨by have:=ha.1;omega,fun e=>by
  obtain ⟨cur,hc⟩:=ha.2;rw [e,hU] at hc
  cases hc⟩,rfl⟩⟩
 exact (hE.moves mv).moves ((zae.refl X _).set5 (by intro b _ hb;exact hb.2) _ _ _ _ _)
theorem znh {W X:World} {m:Mo} {a1:OA} (c1:Nat) (hd:DAt W Tt a1 m.uses.length (zan m.uses)) (hl:m.uses.length<=1000) (n:Nat) (hb:Below W.heap.size W X) (ho:zmv X W.heap.size (.slice (some ⟨n,0,none⟩) 0 0) []) (hn:W.heap.size<=n) :
 ∃ v5 w5,(Builtin.append_ #[22,22] 22 #[.slice (some ⟨n,0,none⟩) 0 0,.slice a1 m.uses.length c1]).run Tryz.prog X = .ok v5 w5/\Below W.heap.size W w5/\zmv w5 W.heap.size v5 m.uses/\∀ U o,X.heap[U]? = some o->U≠n->w5.heap[U]? = some o:=by
 obtain ⟨v5,w5,hr,ho5,hg⟩:=zjx X W.heap.size 22 _ [] ho a1 c1 m.uses (hd.later hb) (by simp;omega) hb.size;rw [vcb] at ho5;exact ⟨v5,w5,hr,hb.grown hg hb.size (fun k hk=>by simp [Value.ownBlock] at hk;omega),ho5,fun U o h hne=>(hg.block U (zaa h) (by simp [Value.ownBlock];exact fun e=>hne (by first | exact e | exact e.symm))).trans h⟩
theorem zid {w:World} {A:Nat->Prop} {a:OA} {l:List ByteArray} (h:DAt w A a l.length (zan l)):∀ s ∈ l,s.size<=maxLen:=fun s hs=>by
 obtain ⟨i,hi,rfl⟩:=vay hs;obtain ⟨b,off,_,_,_,h1⟩:=h.str i hi;exact h1
theorem zyr (m:Mo) (l:List Fc) {j:Nat} (h:j<m.procs.length):psT m l (m.procs.take (j+1)) 0=((psT m l (m.procs.take j) 0).1++[(prT m l m.procs[j] (psT m l (m.procs.take j) 0).2).1],(prT m l m.procs[j] (psT m l (m.procs.take j) 0).2).2):=by
 rw [vag h,zqx]
structure Slw (w0 w:World) (R:Nat) (m:Mo) (l:List Fc) (E:Int):Prop where
 blk:∃ a1 c1 a2 c2 a3 c3 a4 c4 al cl ao co an nn cn,w.heap[R]? = some (svC m.name a1 m.uses.length c1 a2 m.decls.length c2 a3 m.procs.length c3 a4 m.main.length c4 al l.length cl ao (layItems m).length co an nn cn E)/\
  DAt w0 Tt a1 m.uses.length (zan m.uses)/\DAt w0 Tt al l.length (ztt l)/\Fx.zbp w0 ao (layItems m)
 hR:w0.heap.size<=R
 below:Below w0.heap.size w0 w
 few:(layItems m).length<=10000/\l.length=m.uses.length
section
variable {N:Nat} {w0 w w':World} {R:Nat} {m:Mo} {l:List Fc} {ns:List ByteArray} {E:Int}
theorem Slv.weak (h:Slv N w0 w R m l ns E):Slw w0 w R m l E:=by
 obtain ⟨a1,c1,a2,c2,a3,c3,a4,c4,al,cl,ao,co,an,cn,h1,h2,h3,h4,_⟩:=h.blk;exact ⟨⟨a1,c1,a2,c2,a3,c3,a4,c4,al,cl,ao,co,an,_,cn,h1,h2,h3,h4⟩,h.hR,h.below,h.few.2⟩
theorem Slw.lt (h:Slw w0 w R m l E):R<w.heap.size:=by obtain ⟨_,_,_,_,_,_,_,_,_,_,_,_,_,_,_,hb,_⟩:=h.blk;exact zaa hb
theorem Slw.cell (h:Slw w0 w R m l E):(∃ v,w.cell? ⟨R,7,none⟩=some v)/\(∀ i,w.frozen? ⟨R,i,none⟩=false)/\w.cell? ⟨R,8,none⟩=some (.int .i64 E):=by
 obtain ⟨_,_,_,_,_,_,_,_,_,_,_,_,_,_,_,hb,_⟩:=h.blk;exact ⟨⟨_,(zqq hb).2.2.2⟩,fun i=>ved hb i,by rw [veb hb];rfl⟩
theorem Slw.same (h:Slw w0 w R m l E) (h1:w'.heap[R]? = w.heap[R]?) (h2:Below w0.heap.size w0 w'):Slw w0 w' R m l E:=by
 obtain ⟨a1,c1,a2,c2,a3,c3,a4,c4,al,cl,ao,co,an,nn,cn,g1,g2,g3,g4⟩:=h.blk;exact ⟨⟨a1,c1,a2,c2,a3,c3,a4,c4,al,cl,ao,co,an,nn,cn,h1.trans g1,g2,g3,g4⟩,h.hR,h2,h.few⟩
theorem Slw.belowB {B:Nat} (h:Slw w0 w R m l E) (hb:Below B w w') (hB:R<B):Slw w0 w' R m l E:=h.same (hb.block R hB) (h.below.trans (hb.mono (by have:=h.hR;omega)))
theorem Slw.later (h:Slw w0 w R m l E) (hb:Below w.heap.size w w'):Slw w0 w' R m l E:=h.belowB hb h.lt
theorem Slw.setU (h:Slw w0 w R m l E) {U:Nat} (hU:R<U) (j:Nat) (u:Value):Slw w0 (w.setCell ⟨U,j,none⟩ u) R m l E:=h.same (heap_set_ne (by show R≠U;omega) _) (h.below.setCell (p:=⟨U,j,none⟩) (by have:=h.hR;show w0.heap.size<=U;omega) _)
theorem Slw.names {a:OA} {c:Nat} (h:Slw w0 w R m l E) (hn:zr5 w N R a ns) (hN:R<N/\N<=w.heap.size) (hl:ns.length<=10000):Slv N w0 (w.setCell ⟨R,7,none⟩ (.slice a ns.length c)) R m l ns E:=by
 obtain ⟨a1,c1,a2,c2,a3,c3,a4,c4,al,cl,ao,co,an,nn,cn,h1,h2,h3,h4⟩:=h.blk;exact ⟨⟨a1,c1,a2,c2,a3,c3,a4,c4,al,cl,ao,co,a,c,zaf h1 _,h2,h3,h4,hn.keeps hN.2 (Keeps.setCell R w 7 _)⟩,h.hR,⟨hN.1,by rw [vam];exact hN.2⟩,h.below.setCell (p:=⟨R,7,none⟩) h.hR _,hl,h.few⟩
theorem zr5.strs {a:OA} (h:zr5 w N R a ns) (hN:N<=w.heap.size):Fx.zd2 w a ns:=by
 rcases h with h | ⟨b,off,ha,hb,_,hc⟩
 . exact Or.inl h
 . exact Or.inr ⟨b,off,ha,by omega,hc⟩
end
theorem step_append_rowK {P:Program} {ops:Array Oper} {o:Oper} {a:Act} {K:Act->World->Prop} {Q:Exit->Act->World->Prop} {E:Prop} (hgd:o.guard=none) (s x:Operand) (t:TypeId)
 (ho:o.op = .call { callee:=.builtin .append,args:=#[s,x],argTypes:=#[t,t] }) (base:Nat) (e:TypeId) (z:Value) (size bytes:Nat) (ht:P.underlying t=some (.slice e))
 (hi:(P.info? e).map (fun i=>(i.zero,i.size,i.bytes))=some (some z,size,bytes)) (hzs:z.cells.size=size) (hsz:0<size) (w:World) (v:Value) (n:Nat) (ds nd:List D) (hs:a.eval s=v) (hrow:Row base e size w v n ds)
 (cs:Array Value) (H:Nat) (hH:H=w.heap.size) (hx:a.eval x = .slice (some ⟨H,0,none⟩) 1 1) (hcs:cs.size=size) (A:Nat->Prop) (hnd:zap w A nd cs.toList) (hA:∀ b,b<w.heap.size->A b->zdu base v b)
 (hn:n<=5000) (hby:bytes<=200) (hbase:base<=w.heap.size)
 (h:∀ g cap w',Row base e size w' (.slice (some ⟨g,0,none⟩) (n+1) cap) (n+1) (ds++nd)->Below base w w'->w.heap.size<w'.heap.size->(∀ b,b<w.heap.size->v.ownBlock≠some b->w'.heap[b]? = w.heap[b]?)->K (a.put o.dst (.slice (some ⟨g,0,none⟩) (n+1) cap)) w') :
 if Region.wanted o (yielded ops a.tmps)=true then Oper.wp P o a (w.alloc (.cells cs e)) K Q else E:=by
 obtain ⟨i0,hi,hz0,hz1,hz2⟩:=info_parts hi;obtain ⟨xs,hown,hds⟩:=hrow
 have hsize:(w.alloc (.cells cs e)).heap.size=w.heap.size+1:=by simp
 refine step_append_lies (w.alloc (.cells cs e)) hgd s x t ho base e i0 z size bytes ht hi hz0 hz1 hz2 hzs hsz v n xs hs (hown.alloc _) ⟨H,0,none⟩ 1 1 cs.toList hx (by simp [hcs]) ?_ hnd.one (by omega) (by unfold maxLen;omega) ?_ (by omega) _ rfl ?_
 . intro j u hj
   subst hH
   have:(⟨w.heap.size,0,none⟩:Addr).add j=⟨w.heap.size,j,none⟩:=by unfold Addr.add;split<;>simp_all
   rw [this,veb (heap_newP w _)];simpa using hj
 . have:(n+1)*bytes<=5001*200:=vdf (by omega) hby
   omega
 . intro g cap w' hown' hgrow hat hlt
   have hbel:Below base w w':=((Below.refl base w).alloc hbase _).grown hgrow (by omega) (fun k hk=>(hown.lt k hk).1);have hgz:=hgrow.size
   have hold:∀ b,b<w.heap.size->v.ownBlock≠some b->w'.heap[b]? = w.heap[b]?:=fun b hb hv=>
    (hgrow.block b (by omega) (fun h=>hv h.symm)).trans (((Below.refl w.heap.size w).alloc (vaa _) (.cells cs e)).block b hb)
   refine h g cap w' ⟨xs++cs.toList,hown',?_⟩ hbel (by omega) hold
   have hmv:∀ A':Nat->Prop,(∀ b,b<w.heap.size->A' b->zdu base v b)->zae w A' w' (zdu base (.slice (some ⟨g,0,none⟩) (n+1) cap)):=by
    intro A' hA';refine ⟨by omega,fun b hb ha=>⟨⟨(hA' b hb ha).1,fun hgb=>?_⟩,hold b hb (hA' b hb ha).2⟩⟩
    have hgb':g=b:=by simpa [Value.ownBlock] using hgb
    rcases hat with h1 | h1
    . exact (hA' b hb ha).2 (by rw [h1,hgb'])
    . omega
   exact (hds.moves (hmv _ (fun _ _ h=>h))).append (hnd.moves (hmv A hA))
theorem zys (w:World) (o:Obj):Below w.heap.size w (w.drew.alloc o):=((Below.refl _ _).drew).alloc (by simp) o
theorem zwv (m:Mo) (l:List Fc):∀ (ps:List Pr) (E:Int),(psT m l ps E).1.length=ps.length
 | [],E=>rfl
 | p :: r,E=>by
   show ((prT m l p E).1 :: (psT m l r (prT m l p E).2).1).length=_;rw [vax,zwv m l r]
   rfl
set_option maxHeartbeats 6400000
end Go.Proofs.YtndkhgakfodldaaGreatDoor
