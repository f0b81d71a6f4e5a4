/-
  moduleLook, level 3.
-/
import Derived.Test.YtndkhgakfodldaaGreatDoorRe
namespace Go.Proofs.YtndkhgakfodldaaGreatDoor
set_option maxRecDepth 100000
set_option maxHeartbeats 4000000
open Go.RowKit Go.Maps
theorem moduleLook3_any (m:Mo) (v:Value) (a1:Option Addr) (c1:Nat) (a2:Option Addr) (c2:Nat) (a3:Option Addr) (c3:Nat) (a4:Option Addr) (c4:Nat) (w:World) (hM:MoAt w Tt m v a1 c1 a2 c2 a3 c3 a4 c4) (hsm:Small m) :
 Calls Tryz.prog 113 #[v,.int .i64 3] w fun e w'=>e = .returned (.bool (mL3 m))/\Below w.heap.size w w':=by
 obtain rfl:=hM.val;have hn1:=hM.uses.bound;have hn2:=hM.decls.bound;have HP:=hid (procs_bound hM.procs);have hn3:=HP.out;have HM:=hid hM;have HSm:=hid hsm;clear hM hsm;have HBx:Hid (Blk (w.alloc (.cells #[.string m.name,.slice a1 m.uses.length c1,.slice a2 m.decls.length c2,.slice a3 m.procs.length c3,.slice a4 m.main.length c4] 27)) w.heap.size [.string m.name,.slice a1 m.uses.length c1,.slice a2 m.decls.length c2,.slice a3 m.procs.length c3,.slice a4 m.main.length c4]):=Blk.new w _ _;have HB0:Hid (Below w.heap.size w (w.alloc (.cells #[.string m.name,.slice a1 m.uses.length c1,.slice a2 m.decls.length c2,.slice a3 m.procs.length c3,.slice a4 m.main.length c4] 27))):=al1 _ _
 have HR:Hid (∀ {b:Bool},(!nameOk m.name||(m.uses.any nB||(m.decls.any dB3||(m.procs.any pB3||bL 3 6 m.main))))=b->b=mL3 m):=fun h=>by rw [← h];rfl
 go_enter Tryz.func113,Tryz.ntmps113;go_wp2_with fail;refine (isNAME_any m.name _ HM.out.wna).mono ?_
 cases HNm:nameOk m.name with
 | false=>
   rintro e w2 ⟨rfl,k2⟩;go_wp2_with fail;go_ret;exact ⟨ret_bool (HR.out (by simp [HNm])),thenB HB0.out k2⟩
 | true =>
   rintro e w2 ⟨rfl,k2⟩;have HB0':=hid (thenB HB0.out k2);have HBx':=hid (HBx.out.later k2);clear HB0 HBx k2;have HB0:=HB0';have HBx:=HBx';clear HB0' HBx';obtain ⟨m0,m1,m2,m3,m4,mz⟩:=HBx.out.c5;go_wp2_with fail
   go_loopw [5] (fun i wr=>∃ j:Nat,j<=m.uses.length/\i = .int .i64 j/\(m.uses.take j).any nB=false/\Below w.heap.size w wr/\Blk wr w.heap.size [.string m.name,.slice a1 m.uses.length c1,.slice a2 m.decls.length c2,.slice a3 m.procs.length c3,.slice a4 m.main.length c4]) (fun i _=>m.uses.length - (intOf i).toNat)
   case atStart=>exact ⟨0,Nat.zero_le _,rfl,rfl,HB0.out,HBx.out⟩
   case round =>
    clear m0 m1 m2 m3 m4 mz;clear HB0 HBx;obtain ⟨j,hj,rfl,hall,hb,hB⟩:=hrel;obtain ⟨m0,m1,m2,m3,m4,mz⟩:=hB.c5;have HB:=hid hB;have HA:=hid hall;clear hB hall
    by_cases hlt:j<m.uses.length
    . skip
      obtain ⟨b,off,rfl,hbl,hc,hsz⟩:=(HM.out.uses.later hb).str j hlt;go_wp2_with fail;refine (isNAME_any m.uses[j] _ hsz).mono ?_
      cases hr:nameOk m.uses[j] with
      | false=>
        have HF:Hid (m.uses.any nB=true):=any_at m.uses nB j hlt (by simp [nB,hr]);rintro e w3 ⟨rfl,k3⟩;go_wp2_with fail;go_ret;exact ⟨ret_bool (HR.out (by rw [HF.out];simp)),thenB hb k3⟩
      | true=>
        have HT:Hid ((m.uses.take (j+1)).any nB=false):=by
         show _=_
         rw [any_snoc m.uses nB j hlt,HA.out];simp [nB,hr]
        rintro e w3 ⟨rfl,k3⟩;go_wp2_with fail;go_roundw
        case rel=>exact ⟨j+1,by omega,by go_num,HT.out,thenB hb k3,HB.out.later k3⟩
        case measure=>simp [intOf];omega
    . have HU : Hid (m.uses.any nB=false):=any_end HA.out hlt
      clear HA;go_wp2_with fail
      go_loopw [6,7] (fun i _ wr=>∃ j:Nat,j<=m.decls.length/\i = .int .i64 j/\(m.decls.take j).any dB3=false/\Below w.heap.size w wr/\Blk wr w.heap.size [.string m.name,.slice a1 m.uses.length c1,.slice a2 m.decls.length c2,.slice a3 m.procs.length c3,.slice a4 m.main.length c4]) (fun i _ _=>m.decls.length - (intOf i).toNat)
      case atStart=>exact ⟨0,Nat.zero_le _,rfl,rfl,hb,HB.out⟩
      case round =>
       clear m0 m1 m2 m3 m4 mz HB hb hlt hj;obtain ⟨j,hj,rfl,hall,hb,hB⟩:=hrel;obtain ⟨m0,m1,m2,m3,m4,mz⟩:=hB.c5;have HB:=hid hB;have HA:=hid hall;clear hB hall
       by_cases hlt:j<m.decls.length
       . obtain ⟨b, off,rfl,hx⟩:=(HM.out.decls.later hb).de j hlt
         have hc0:=hx.c0;have hc1:=hx.c1;have hc2:=hx.c2;have hc3:=hx.c3;have hlb:=hx.lt;have HX:=hid hx;clear hx;go_wp2_with fail;refine (isNAME_any m.decls[j].name _ HX.out.wna).mono ?_
         cases hnm:nameOk m.decls[j].name with
         | false=>
           have HF:Hid (m.decls.any dB3=true):=any_at m.decls dB3 j hlt (by simp [dB3,hnm]);rintro e w3 ⟨rfl,k3⟩;go_wp2_with fail;go_ret;exact ⟨ret_bool (HR.out (by rw [HF.out];simp)),thenB hb (thenB (al1 _ _) k3)⟩
         | true =>
           rintro e w3 ⟨rfl,k3⟩;have B1:=(Blk.new wr #[.int .i64 m.decls[j].kind,.string m.decls[j].name,.bool m.decls[j].pub,.int .i64 m.decls[j].n] 170).later k3;obtain ⟨y0,y1,y2,y3,yz⟩:=B1.c4;have hb4:Below wr.heap.size wr w3:=thenB (al1 _ _) k3;clear k3 B1 m0 m1 m2 m3 m4 mz hc0 hc1 hc2 hc3 hlb y1 y2
           cases h1:(m.decls[j].kind == 1) with
           | true=>
             have e1:m.decls[j].kind=1:=by simpa using h1
             have h2:(m.decls[j].kind == 2)=false:=by rw [e1];rfl
             have h3:(m.decls[j].kind == 3)=false:=by rw [e1];rfl
             clear e1
             cases hN:inB m.decls[j].n 0 1099511627775 with
             | false=>
               have HF:Hid (m.decls.any dB3=true):=any_at m.decls dB3 j hlt (by simp [dB3,h1,hN])
               go_wp2_with (go_at_call 63;refine (within_at hN _).mono ?_;rintro e w' ⟨rfl,rfl⟩)
               go_ret;exact ⟨ret_bool (HR.out (by rw [HF.out];simp)),thenB hb hb4⟩
             | true=>
               have HT:Hid ((m.decls.take (j+1)).any dB3=false):=by
                show _=_
                rw [any_snoc m.decls dB3 j hlt,HA.out];simp [dB3,hnm,h1,h2,h3,hN]
               go_wp2_with (go_at_call 63;refine (within_at hN _).mono ?_;rintro e w' ⟨rfl,rfl⟩)
               go_roundw
               case rel=>exact ⟨j+1,by omega,by go_num,HT.out,thenB hb hb4,HB.out.later hb4⟩
               case measure=>simp [intOf];omega
           | false =>
             cases h2:(m.decls[j].kind == 2) with
             | true=>
               have e1:m.decls[j].kind=2:=by simpa using h2
               have h3:(m.decls[j].kind == 3)=false:=by rw [e1];rfl
               clear e1
               cases hN:(m.decls[j].n != 0) with
               | true=>
                 have HF:Hid (m.decls.any dB3=true):=any_at m.decls dB3 j hlt (by simp [dB3,h2,hN]);go_wp2_with fail;go_ret;exact ⟨ret_bool (HR.out (by rw [HF.out];simp)),thenB hb hb4⟩
               | false=>
                 have HT:Hid ((m.decls.take (j+1)).any dB3=false):=by
                  show _=_
                  rw [any_snoc m.decls dB3 j hlt,HA.out];simp [dB3,hnm,h1,h2,h3,hN]
                 go_wp2_with fail;go_roundw
                 case rel=>exact ⟨j+1,by omega,by go_num,HT.out,thenB hb hb4,HB.out.later hb4⟩
                 case measure=>simp [intOf];omega
             | false=>
               cases h3:(m.decls[j].kind == 3) with
               | true=>
                 cases hN:inB m.decls[j].n 1 32 with
                 | false=>
                   have HF:Hid (m.decls.any dB3=true):=any_at m.decls dB3 j hlt (by simp [dB3,h3,hN])
                   go_wp2_with (go_at_call 63;refine (within_at hN _).mono ?_;rintro e w' ⟨rfl,rfl⟩)
                   go_ret;exact ⟨ret_bool (HR.out (by rw [HF.out];simp)),thenB hb hb4⟩
                 | true=>
                   have HT:Hid ((m.decls.take (j+1)).any dB3=false):=by
                    show _=_
                    rw [any_snoc m.decls dB3 j hlt,HA.out];simp [dB3,hnm,h1,h2,h3,hN]
                   go_wp2_with (go_at_call 63;refine (within_at hN _).mono ?_;rintro e w' ⟨rfl,rfl⟩)
                   go_roundw
                   case rel=>exact ⟨j+1,by omega,by go_num,HT.out,thenB hb hb4,HB.out.later hb4⟩
                   case measure=>simp [intOf];omega
               | false=>
                 have HT:Hid ((m.decls.take (j+1)).any dB3=false):=by
                  show _=_
                  rw [any_snoc m.decls dB3 j hlt,HA.out];simp [dB3,hnm,h1,h2,h3]
                 go_wp2_with fail;go_roundw
                 case rel=>exact ⟨j+1,by omega,by go_num,HT.out,thenB hb hb4,HB.out.later hb4⟩
                 case measure=>simp [intOf];omega
       . have HDs : Hid (m.decls.any dB3=false):=any_end HA.out hlt
         clear HA;go_wp2_with fail
         go_loopw [8,9,10,11] (fun i _ _ _ wr=>∃ j:Nat,j<=m.procs.length/\i = .int .i64 j/\(m.procs.take j).any pB3=false/\Below w.heap.size w wr/\Blk wr w.heap.size [.string m.name,.slice a1 m.uses.length c1,.slice a2 m.decls.length c2,.slice a3 m.procs.length c3,.slice a4 m.main.length c4]) (fun i _ _ _ _=>m.procs.length - (intOf i).toNat)
         case atStart=>exact ⟨0,Nat.zero_le _,rfl,rfl,hb,HB.out⟩
         case round =>
          clear m0 m1 m2 m3 m4 mz HB hb hlt hj HP;obtain ⟨j,hj,rfl,hall,hb,hB⟩:=hrel;obtain ⟨m0,m1,m2,m3,m4,mz⟩:=hB.c5;have HB:=hid hB;have HA:=hid hall;clear hB hall
          by_cases hlt:j<m.procs.length
          . obtain ⟨b,off,a5,c5,a6,c6,a7,c7,rfl,hx⟩:=(HM.out.procs.later hb).pr j hlt
            have hc0:=hx.c0;have hc1:=hx.c1;have hc2:=hx.c2;have hc3:=hx.c3;have hc4:=hx.c4;have hlb:=hx.lt;have hnp:=hx.params.bound;have hnl:=hx.locals.bound;have HX:=hid hx;clear hx;go_wp2_with fail;refine (isNAME_any m.procs[j].name _ HX.out.wna).mono ?_
            cases hnm:nameOk m.procs[j].name with
            | false=>
              have HF:Hid (m.procs.any pB3=true):=any_at m.procs pB3 j hlt (by simp [pB3,hnm]);rintro e w3 ⟨rfl,k3⟩;go_wp2_with fail;go_ret;exact ⟨ret_bool (HR.out (by rw [HF.out];simp)),thenB hb (thenB (al1 _ _) k3)⟩
            | true =>
              rintro e w3 ⟨rfl,k3⟩;have B3:=(Blk.new wr #[.string m.procs[j].name,.bool m.procs[j].pub,.slice a5 m.procs[j].params.length c5,.slice a6 m.procs[j].locals.length c6,.slice a7 m.procs[j].body.length c7] 118).later k3;have hb3:Below wr.heap.size wr w3:=thenB (al1 _ _) k3;clear k3;obtain ⟨y0,y1,y2,y3,y4,yz⟩:=B3.c5
              have HBad:Hid ((!nameOk m.procs[j].name||(bL 3 6 m.procs[j].body||(m.procs[j].params++m.procs[j].locals).any nB))=true->true=mL3 m):=fun h=>HR.out (by rw [any_at m.procs pB3 j hlt h];simp)
              go_wp2_with fail;refine (blockLook_any Tt 3 (by omega) 6 (by omega) 1 (by omega) m.procs[j].body a7 c7 _ (HX.out.body.later hb3)).mono ?_
              cases hrb:bL 3 6 m.procs[j].body with
              | true=>
                have HF:Hid (m.procs.any pB3=true):=any_at m.procs pB3 j hlt (by simp [pB3,hrb]);rintro e w4 ⟨rfl,k4⟩;go_wp2_with fail;go_ret;exact ⟨ret_bool (HR.out (by rw [HF.out];simp)),thenB hb (thenB hb3 k4)⟩
              | false =>
                rintro e w4 ⟨rfl,k4⟩;have B1:=B3.later k4;have hb4:Below wr.heap.size wr w4:=thenB hb3 k4;clear k4 m0 m1 m2 m3 m4 mz y0 y1 y2 y3 y4 yz B3 hb3;obtain ⟨y0,y1,y2,y3,y4,yz⟩:=B1.c5;clear B1 y0 y1 y4 hc0 hc1 hc2 hc3 hc4 hlb;go_wp2_with fail;obtain ⟨v1,w5,ga,gc,w6,hr1,hB5,hr2,hB6,hcs⟩:=names_two w4 m.procs[j].params m.procs[j].locals a5 a6 c5 c6 (HX.out.params.later hb4) (HX.out.locals.later hb4) (HSm.out _ (List.getElem_mem hlt)).1 (HSm.out _ (List.getElem_mem hlt)).2
                have S5:Hid (w5.cell? ⟨wr.heap.size,2,none⟩=some (.slice a5 m.procs[j].params.length c5)/\w5.cell? ⟨wr.heap.size,3,none⟩=some (.slice a6 m.procs[j].locals.length c6)):=⟨(hB5.cell (p:=⟨wr.heap.size,2,none⟩) yz).trans y2,(hB5.cell (p:=⟨wr.heap.size,3,none⟩) yz).trans y3⟩
                have S6:Hid (w6.cell? ⟨wr.heap.size,2,none⟩=some (.slice a5 m.procs[j].params.length c5)/\w6.cell? ⟨wr.heap.size,3,none⟩=some (.slice a6 m.procs[j].locals.length c6)):=⟨(hB6.cell (p:=⟨wr.heap.size,2,none⟩) yz).trans y2,(hB6.cell (p:=⟨wr.heap.size,3,none⟩) yz).trans y3⟩
                have hb6:Below w.heap.size w w6:=thenB hb (thenB hb4 hB6);have HB6:=hid (HB.out.later (thenB hb4 hB6))
                have hsz6:(m.procs[j].params++m.procs[j].locals).length<=2097152:=by
                 have h1:=(HSm.out _ (List.getElem_mem hlt)).1;have h2:=(HSm.out _ (List.getElem_mem hlt)).2
                 simp;omega
                have HSz:Hid (∀ t (h:t<(m.procs[j].params++m.procs[j].locals).length),((m.procs[j].params++m.procs[j].locals)[t]).size<=maxLen):=by
                 intro t h;rw [List.getElem_append];split
                 . rename_i h1
                   obtain ⟨_,_,_,_,_,hs⟩:=HX.out.params.str t h1;exact hs
                 . rename_i h1
                   rw [List.length_append] at h;obtain ⟨_,_,_,_,_,hs⟩:=HX.out.locals.str (t - m.procs[j].params.length) (by omega);exact hs
                have HC:=hid hcs;clear hcs hB5
                obtain ⟨al,hal⟩:∃ al,al=m.procs[j].params++m.procs[j].locals:=⟨_,rfl⟩
                have HAl:=hid hal;rw [← hal] at hsz6 hr2
                have HC':Hid (∀ j (hj:j<al.length),∃ b,ga=some ⟨b,0,none⟩/\b<w6.heap.size/\w6.cell? ⟨b,j,none⟩=some (.string al[j])):=by subst hal;exact HC.out
                have HSz':Hid (∀ t (h:t<al.length),(al[t]).size<=maxLen):=by subst hal;exact HSz.out
                clear HC HSz;have HC:=HC';have HSz:=HSz';clear HC' HSz';clear hal;have HR1:=hid hr1;have HR2:=hid hr2;clear hr1 hr2;refine wp_region_held_drew (S:=(fun W=>W.cell? ⟨wr.heap.size,2,none⟩=some (.slice a5 m.procs[j].params.length c5)/\W.cell? ⟨wr.heap.size,3,none⟩=some (.slice a6 m.procs[j].locals.length c6))) (by kernel_rfl) ?_ (fun hHeld=>?_)
                . (try dsimp only);go_keep
                refine tk (i:=1) (oi:=⟨some 163,_,_,_,_,_⟩) (v:=?va1) rfl (by kernel_rfl) (fun _ _ _ h=>h) (Or.inl ⟨by rfl,?ha1⟩) hHeld ?ra1
                case ha1=>(intro w hSw;(try dsimp only at hSw);go_simp;(try with_reducible rfl))
                (try simp only [Act.put,sx])
                refine tk (i:=2) (oi:=⟨some 164,_,_,_,_,_⟩) (v:=?va2) rfl (by kernel_rfl) (fun _ _ _ h=>h) (Or.inl ⟨by rfl,?ha2⟩) hHeld ?ra2
                case ha2=>(intro w hSw;(try dsimp only at hSw);go_simp;(try with_reducible rfl))
                (try simp only [Act.put,sx])
                refine tk (i:=4) (oi:=⟨some 166,_,_,_,_,_⟩) (v:=?va4) rfl (by kernel_rfl) (fun _ _ _ h=>h) (Or.inl ⟨by rfl,?ha4⟩) hHeld ?ra4
                case ha4=>(intro w hSw;(try dsimp only at hSw);go_simp;(try with_reducible rfl))
                (try simp only [Act.put,sx])
                refine tk (i:=5) (oi:=⟨some 167,_,_,_,_,_⟩) (v:=?va5) rfl (by kernel_rfl) (fun _ _ _ h=>h) (Or.inl ⟨by rfl,?ha5⟩) hHeld ?ra5
                case ha5=>(intro w hSw;(try dsimp only at hSw);go_simp;(try with_reducible rfl))
                (try simp only [Act.put,sx])
                refine wpAnyH_ready (rs:=[0]) (by kernel_rfl) (by simp) ?_;refine AllReadyH.cons rfl (fun K hK=>?_) AllReadyH.nil;go_simp;refine hK.out _ _ ?_ (fun hHeld=>?_)
                . (try dsimp only);go_keep
                clear hK K;refine wpAnyH_ready (rs:=[3]) (by kernel_rfl) (by simp) ?_;refine AllReadyH.cons (o:=⟨some 165,_,_,_,_,_⟩) rfl (fun K hK=>?_) AllReadyH.nil;refine step_append_run rfl _ _ _ rfl _ _ _ rfl rfl HR1.out ?_;refine hK.out _ _ S5.out (fun hHeld=>?_);clear hK K
                (try simp only [Act.put,sx])
                refine wpAnyH_ready (rs:=[6]) (by kernel_rfl) (by simp) ?_;refine AllReadyH.cons (o:=⟨some 168,_,_,_,_,_⟩) rfl (fun K hK=>?_) AllReadyH.nil;refine step_append_run rfl _ _ _ rfl _ _ _ rfl rfl HR2.out ?_;refine hK.out _ _ S6.out (fun hHeld=>?_);clear hK K hHeld;have hHeld:=S6.out
                (try simp only [Act.put,sx])
                refine tk (i:=7) (oi:=⟨some 10,_,_,_,_,_⟩) (v:=?va7) rfl (by kernel_rfl) (fun _ _ _ h=>h) (Or.inl ⟨by rfl,?ha7⟩) hHeld ?ra7
                case ha7=>(intro w hSw;(try dsimp only at hSw);go_simp;(try with_reducible rfl))
                (try simp only [Act.put,sx])
                refine wpAnyH_done (by kernel_rfl) ?_ _;clear hHeld y2 y3 yz;go_wp2_with fail
                go_loopw [11] (fun i wr=>∃ t:Nat,t<=al.length/\i = .int .i64 t/\(al.take t).any nB=false/\Below w6.heap.size w6 wr) (fun i _=>al.length - (intOf i).toNat)
                case atStart=>exact ⟨0,Nat.zero_le _,rfl,rfl,Below.refl _ _⟩
                case round=>
                 obtain ⟨t,ht,rfl,ha2,hbq⟩:=hrel;have HA2:=hid ha2;clear ha2
                 by_cases htl:t<al.length
                 . skip
                   obtain ⟨bg,rfl,hbl,hcl⟩:=HC.out t htl;have hcq:wr.cell? ⟨bg,t,none⟩=some (.string al[t]):=(hbq.cell (p:=⟨bg,t,none⟩) hbl).trans hcl;have hbq':bg<wr.heap.size:=Nat.lt_of_lt_of_le hbl hbq.size;clear hcl hbl;go_wp2_with fail;refine (isNAME_any al[t] _ (HSz.out t htl)).mono ?_
                   cases hr:nameOk al[t] with
                   | false=>
                     have HF:Hid (al.any nB=true):=any_at al nB t htl (by simp [nB,hr]);rintro e w8 ⟨rfl,hb8⟩;go_wp2_with fail;go_ret;exact ⟨ret_bool (HBad.out (by rw [← HAl.out,HF.out,Bool.or_true,Bool.or_true])),thenB hb6 (thenB hbq hb8)⟩
                   | true=>
                     have HT:Hid ((al.take (t+1)).any nB=false):=by
                      show _=_
                      rw [any_snoc al nB t htl,HA2.out];simp [nB,hr]
                     rintro e w8 ⟨rfl,hb8⟩;go_wp2_with fail;go_roundw
                     case rel=>exact ⟨t+1,by omega,by go_num,HT.out,thenB hbq hb8⟩
                     case measure=>simp [intOf];omega
                 . have HAll:Hid (al.any nB=false):=any_end HA2.out htl
                   have HT:Hid ((m.procs.take (j+1)).any pB3=false):=by
                    show _=_
                    rw [any_snoc m.procs pB3 j hlt,HA.out];simp only [pB3,hnm,hrb,← HAl.out,HAll.out];rfl
                   go_wp2_with fail;go_roundw
                   case rel=>exact ⟨j+1,by omega,by go_num,HT.out,thenB hb6 hbq,HB6.out.later hbq⟩
                   case measure=>simp [intOf];omega
          . have HPs:Hid (m.procs.any pB3=false):=any_end HA.out hlt
            go_wp2_with fail;refine (blockLook_any Tt 3 (by omega) 6 (by omega) 1 (by omega) m.main a4 c4 _ (HM.out.main.later hb)).mono ?_;rintro e w9 ⟨rfl,hb9⟩;go_wp2_with fail;go_ret;exact ⟨ret_bool (HR.out (by simp [HNm,HU.out,HDs.out,HPs.out])),thenB hb hb9⟩
end Go.Proofs.YtndkhgakfodldaaGreatDoor

namespace Go.Proofs.YtndkhgakfodldaaGreatDoor
set_option maxRecDepth 100000
set_option maxHeartbeats 1600000
open Go.RowKit Go.Maps
theorem CheckModule_any (m:Mo) (v:Value) (a1:Option Addr) (c1:Nat) (a2:Option Addr) (c2:Nat) (a3:Option Addr) (c3:Nat) (a4:Option Addr) (c4:Nat) (w:World) (hM:MoAt w Tt m v a1 c1 a2 c2 a3 c3 a4 c4) (hs:Small m) :
 Calls Tryz.prog 51 #[v] w fun e w'=>e = .returned (.int .i64 m.err)/\Below w.heap.size w w':=by
 have HS:=hid hs;obtain rfl:=hM.val;have HM:=hid hM;clear hM hs;have HB:Hid (Blk (w.alloc (.cells #[.string m.name,.slice a1 m.uses.length c1,.slice a2 m.decls.length c2,.slice a3 m.procs.length c3,.slice a4 m.main.length c4] 27)) w.heap.size [.string m.name,.slice a1 m.uses.length c1,.slice a2 m.decls.length c2,.slice a3 m.procs.length c3,.slice a4 m.main.length c4]):=Blk.new w _ _;have HE:Hid (m.err=if m.kinds then (if m.many then 2 else (if m.form then 0 else 1)) else 4):=rfl;go_enter Tryz.func51,Tryz.ntmps51;go_wp2_with fail;refine (moduleLook1_any m _ a1 c1 a2 c2 a3 c3 a4 c4 _ (HM.out.later (al1 _ _)) HS.out).mono ?_;rw [mL1_kinds]
 cases hk:m.kinds with
 | false=>
   rintro e w1 ⟨rfl,hb1⟩
   have HF:Hid (m.err=4):=by show _=_;rw [HE.out,hk];rfl
   go_wp2_with fail;go_ret;exact ⟨ret_int HF.out.symm,thenB (al1 _ _) hb1⟩
 | true=>
   rintro e w1 ⟨rfl,hb1⟩;have hb1':=thenB (al1 _ _) hb1;have B1:=HB.out.later hb1;clear HB hb1;obtain ⟨y0,y1,y2,y3,y4,yz⟩:=B1.c5;have HB:=hid B1;clear B1;go_wp2_with fail;refine (moduleLook2_any m _ a1 c1 a2 c2 a3 c3 a4 c4 _ (HM.out.later hb1') HS.out).mono ?_;rw [mL2_many]
   cases hm:m.many with
   | true=>
     rintro e w2 ⟨rfl,hb2⟩
     have HF:Hid (m.err=2):=by show _=_;rw [HE.out,hk,hm];rfl
     go_wp2_with fail;go_ret;exact ⟨ret_int HF.out.symm,thenB hb1' hb2⟩
   | false=>
     rintro e w2 ⟨rfl,hb2⟩;have hb2':=thenB hb1' hb2;have B1:=HB.out.later hb2;clear HB hb2 hb1' y0 y1 y2 y3 y4 yz;obtain ⟨y0,y1,y2,y3,y4,yz⟩:=B1.c5;clear B1;go_wp2_with fail;refine (moduleLook3_any m _ a1 c1 a2 c2 a3 c3 a4 c4 _ (HM.out.later hb2') HS.out).mono ?_;rw [mL3_form m hk hm]
     cases hf:m.form with
     | true=>
       rintro e w3 ⟨rfl,hb3⟩
       have HF:Hid (m.err=0):=by show _=_;rw [HE.out,hk,hm,hf];rfl
       go_wp2_with fail;go_ret;exact ⟨ret_int HF.out.symm,thenB hb2' hb3⟩
     | false=>
       rintro e w3 ⟨rfl,hb3⟩
       have HF:Hid (m.err=1):=by show _=_;rw [HE.out,hk,hm,hf];rfl
       go_wp2_with fail;go_ret;exact ⟨ret_int HF.out.symm,thenB hb2' hb3⟩
end Go.Proofs.YtndkhgakfodldaaGreatDoor
