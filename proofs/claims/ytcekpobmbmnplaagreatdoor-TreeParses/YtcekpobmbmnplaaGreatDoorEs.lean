/-
  The document's own reader in memory: a module.
-/
import Derived.Test.YtcekpobmbmnplaaGreatDoorEq
import Derived.Test.YtcekpobmbmnplaaGreatDoorFj
import Derived.Test.YtcekpobmbmnplaaGreatDoorRgb
import Derived.Test.YtcekpobmbmnplaaGreatDoorQc
import Derived.Deep.DeepCutAuto
namespace Go.Proofs.YtcekpobmbmnplaaGreatDoor
set_option maxRecDepth 100000
set_option maxHeartbeats 32000000
open Go.RowKit Go.Shelf
abbrev deZ:Obj:=.cells #[.int .i64 0,.string ⟨#[]⟩,.bool false,.int .i64 0] 58 (0,0)
theorem zk8 (ts:List Tk) (a:Option Addr) (cap:Nat) (w:World) (hT:zb9 w a ts) (hR:zam ts) (hl:ts.length<=4096) (hc:ts.length<=cap) :
 Calls Tryz.prog 26 #[.slice a ts.length cap] w fun e w'=>∃ v,e = .returned (.tuple #[v,.bool (zeq ts)])/\zgk (w.heap.size<=·) (fromM ts) w' v/\Below w.heap.size w w':=by
 have HT:=hid hT;have HRt:=hid hR
 obtain ⟨W0,hW0⟩:∃ W0,W0=(w.alloc zcl).alloc (.cells #[.slice a ts.length cap] 95):=⟨_,rfl⟩
 have hEz:Ez (w.heap.size+1) w.heap.size W0 ts:=by rw [hW0];exact Ez.first hT hR hl hc _
 have hWz:W0.heap.size=w.heap.size+2:=by rw [hW0];simp
 have hZ0:W0.heap[w.heap.size]? = some zcl:=by rw [hW0];exact zai (heap_newP _ _)
 have hB0:Below w.heap.size w W0:=by rw [hW0];exact al2 _ _ _
 obtain ⟨w2,hw2⟩:∃ w2,w2=W0.alloc zcl:=⟨_,rfl⟩
 have hG2:Gs (w.heap.size+1) w.heap.size W0 w2 W0.heap.size 27 #[.string ⟨#[]⟩,.slice none 0 0,.slice none 0 0,.slice none 0 0,.slice none 0 0] w2 ts:=by rw [hw2];exact Gs.new hEz _
 have hz2:w2.heap.size=w.heap.size+3:=by rw [hw2];simp [hWz]
 clear hT hR;go_enter Tryz.func26,Tryz.ntmps26;go_wp2_with fail;rw [hWz] at hG2
 have hwE:w2=((w.alloc zcl).alloc (.cells #[.slice a ts.length cap] 95)).alloc zcl:=by rw [hw2,hW0]
 rw [← hwE];have HZ0:=hid hZ0;have HB0:=hid hB0;have HF2:=hid hG2
 have hlt0:w.heap.size<W0.heap.size:=by omega
 clear hwE hw2 hW0 hEz hZ0 hB0 hG2
 obtain ⟨R,hRe⟩:∃ R,R=w.heap.size+1:=⟨_,rfl⟩
 obtain ⟨M,hMe⟩:∃ M,M=R+1:=⟨_,rfl⟩
 rw [← hRe] at HF2 ⊢;rw [show w.heap.size+2=M from by omega] at HF2;rw [← hMe]
 have hRw:w.heap.size<R:=by omega
 have hRM:R<M:=by omega
 have hM2:M<w2.heap.size:=by omega
 clear hRe hMe hWz hz2;refine (zaj R w.heap.size ts tModule w2 HF2.out.ez (by decide)).mono ?_;rintro e w3 ⟨rfl,ZE,ZK⟩;have HF3:=hid (HF2.out.keeps ZK ZE);have hz_w3:=ZK.size;clear ZE ZK;clear HF2;go_wp2_with fail;refine (zci R w.heap.size (eTk ts tModule) w3 HF3.out.ez).mono ?_;have hnm:=HF3.out.ez.fit;have hl1:=(za7 ts tModule).len;have hl2:=(zce (eTk ts tModule)).len;generalize hq:eName (eTk ts tModule)=q at *;obtain ⟨nm,l2⟩:=q;have HN:=hid hq;clear hq;rintro e w4 ⟨rfl,ZE,ZK⟩
 try simp only [] at hnm hl2 ZE
 have HF4:=hid (HF3.out.keeps ZK ZE);have hz4:=ZK.size;clear ZE ZK HF3;have HF5:Hid (Gs R w.heap.size W0 w2 M 27 #[.string nm,.slice none 0 0,.slice none 0 0,.slice none 0 0,.slice none 0 0] (w4.setCell ⟨M,0,none⟩ (.string nm)) l2):=HF4.out.put 0 (.string nm)
 have hz5:(w4.setCell ⟨M,0,none⟩ (.string nm)).heap.size=w4.heap.size:=by simp only [World.size_setCell]
 obtain ⟨h0,h1,h2,h3,h4,h5⟩:=zaf HF4.out.cb;have hq4:M<w4.heap.size:=zac HF4.out.cb;go_wp2_with fail;generalize w4.setCell ⟨M,0,none⟩ (.string nm)=w5 at *;clear h0 h1 h2 h3 h4 h5 HF4;refine (zaj R w.heap.size l2 tLb w5 HF5.out.ez (by decide)).mono ?_;rintro e w6 ⟨rfl,ZE,ZK⟩;have HF6:=hid (HF5.out.keeps ZK ZE);have hz_w6:=ZK.size;clear ZE ZK;have hl3:=(za7 l2 tLb).len;clear HF5;generalize hq:eTk l2 tLb=l3 at *;have HL3:=hid hq;clear hq;have HW:=hid HF6.out.restart;have hC6:M<w6.heap.size:=zac HF6.out.cb;clear HF6;go_wp2_with fail
 go_loopw [] (fun wr=>∃ (f:Nat) (acc:List ByteArray) (l':List Tk) (v:Value),Hid (eUses tUse (l3.length+1) [] l3=eUses tUse f acc l')/\l'.length+1<=f/\acc.length+l'.length<=l3.length/\Gs R w.heap.size W0 w6 M 27 #[.string nm,v,.slice none 0 0,.slice none 0 0,.slice none 0 0] wr l'/\Row w6.heap.size 9 1 wr v acc.length (zax acc)) (fun wr=>ztj R wr)
 case atStart=>exact ⟨_,[],l3,_,rfl,Nat.le_refl _,by simp,HW.out,Row.nil _ _ _ _⟩
 case round=>
 obtain ⟨f,acc,l',v,HG,hf,hacc,hF,hrow⟩:=hrel;have HF:=hid hF;have HO:=hid hrow;have HDl:Hid (ztj R wr=l'.length):=hF.ez.left
 obtain ⟨f,rfl⟩:∃ f',f=f'+1:=⟨f - 1,by omega⟩
 have hwz:w6.heap.size<=wr.heap.size:=hF.mv.1;clear hF hrow HW;go_wp2_with fail
 cases hs:skB l' tUse with
 | true=>
   refine (zbj R w.heap.size l' tUse wr HF.out.ez (by decide) hs).mono ?_;rintro e w3 ⟨rfl,HR3,HK3⟩;have hl3:=zaq (by decide) hs;have hz3:=HK3.size;have HF3:=hid (HF.out.keeps HK3 HR3);have HO3:=hid (HO.out.keeps HK3 (by omega));obtain ⟨h0,h1,h2,h3,h4,h5⟩:=zaf HF3.out.cb;have hvw3:=h1;have hCw3:M<w3.heap.size:=zac HF3.out.cb
   have HG2:Hid (eUses tUse (l3.length+1) [] l3=eUses tUse f (acc++[(eName l'.tail).1]) (eTk (eName l'.tail).2 tSem)):=by
    show _=_;rw [HG.out,eUses,if_pos hs]
   clear HK3 HR3 HF HO HG hs
   have HE:Hid (∀ w',Ez R w.heap.size w' l'.tail->Calls Tryz.prog 53 #[.pointer (some ⟨R,0,none⟩)] w' fun e w''=>∃ u,e = .returned u/\(u = .string (eName l'.tail).1/\Keeps R w' w''/\Ez R w.heap.size w'' (eName l'.tail).2)):=fun w' h'=>by
    refine (zci R w.heap.size _ w' h').mono ?_;rintro e w'' ⟨rfl,hd,hk⟩;exact ⟨_,rfl,rfl,hk,hd⟩
   have hfit:=HF3.out.ez.fit;have hsf:=(zce l'.tail).len;generalize eName l'.tail=q at *;obtain ⟨y,ly⟩:=q
   try simp only [] at hfit hsf
   go_wp2_with fail
   go_region_law (first
    | (refine zc0 (by rfl) 53 _ _ (by rfl) zt2 _ (by rfl) (HE.out _ HF3.out.ez.drew) ?_
       rintro u8 w8 ⟨rfl,HK8,HR8⟩;have hz8:w3.heap.size<=w8.heap.size:=HK8.size;have HF8:=hid (HF3.out.drew.keeps HK8 HR8);have hc8:w8.cell? ⟨M,1,none⟩=some v:=(HK8.cell (show M<w3.heap.size from hCw3) (by omega)).trans hvw3
       have hq8:M<w8.heap.size:=by omega
       have HO8:Hid (Row w6.heap.size 9 1 w8 v acc.length (zax acc)):=(HO3.out.keeps (Keeps.refl R w3).drew (by omega)).keeps HK8 (by omega))
    | (refine zbb (by rfl) _ _ 22 (by rfl) w6.heap.size 9 _ 1 16 Tryz.underlying22 Tryz.infoP9 rfl (by decide) w8 _ acc.length (zax acc) [.str y] (by rfl) HO8.out #[.string y] _ rfl (by rfl) rfl (fun _=>False) (.cons (zs9 hfit) .nil) (fun b hb hA=>?_) (by omega) (by decide) (by omega) ?_
       focus (exact hA.elim)
       intro g9 c9 w9 HO9 HB9 hz9;obtain ⟨k0,k1,k2,k3,k4,k5⟩:=zaf (HF8.out.belowB HB9 (by omega)).cb
       have hq9:M<w9.heap.size:=by omega
       have HF9:=hid ((HF8.out.belowB HB9 (by omega)).put 1 (.slice (some ⟨g9,0,none⟩) (acc.length+1) c9))
       have HO9':=hid (HO9.set (p:=⟨M,1,none⟩) (by show M<w6.heap.size;omega) (.slice (some ⟨g9,0,none⟩) (acc.length+1) c9))))
   all_goals
    clear HE;go_wp2_with fail;generalize w9.setCell ⟨M,1,none⟩ (.slice (some ⟨g9,0,none⟩) (acc.length+1) c9)=w10 at *;refine (zaj R w.heap.size ly tSem w10 HF9.out.ez (by decide)).mono ?_;rintro e z1 ⟨rfl,ZE,ZK⟩;have HFz:=hid (HF9.out.keeps ZK ZE);have HOz:=hid (HO9'.out.keeps ZK (by omega));have hlz:=(za7 ly tSem).len;clear ZE ZK HF9 HO9';go_wp2_with fail;go_roundw
    case rel=>exact ⟨f,acc++[y],eTk ly tSem,_,HG2,by omega,by simp;omega,HFz.out,by rw [List.length_append];rw [show zax (acc++[y])=zax acc++[.str y] from by simp [zax]];exact HOz.out⟩
    case measure=>rw [HFz.out.ez.left,HDl.out];omega
 | false=>
 refine (za2 R w.heap.size l' tUse wr HF.out.ez (by decide) hs).mono ?_;rintro e w3 ⟨rfl,HR3,HK3⟩;have HF3:=hid (HF.out.keeps HK3 HR3);have HO3:=hid (HO.out.keeps HK3 (by omega))
 have HU3:Hid (eUses tUse (l3.length+1) [] l3=(acc,l')):=by
  show _=_;rw [HG.out,eUses,if_neg (by rw [hs];decide)]
 have hz3:=HK3.size;clear HK3 HR3 HF HO hs HG HDl;obtain ⟨a1,c1,rfl,hus⟩:=HO3.out.slice;have HUs:=hid (low hus (C:=M) (by omega));have HW1:=hid HF3.out.restart;have hC3:M<w3.heap.size:=zac HF3.out.cb
 have hl4:l'.length<=4096:=by omega
 clear hus HO3 HF3
 obtain ⟨us,rfl⟩:∃ us:List ByteArray,us=acc:=⟨acc,rfl⟩
 obtain ⟨l4,rfl⟩:∃ l4:List Tk,l4=l':=⟨l',rfl⟩
 clear hf hacc;go_wp2_with fail;refine (zaj R w.heap.size l4 tPub w3 HW1.out.ez (by decide)).mono ?_;rintro e w4 ⟨rfl,ZE,ZK⟩;have HW2':=hid (HW1.out.keeps ZK ZE);have HUs4:=hid (HW2'.out.at' HUs.out);have HW2:=hid HW2'.out.restart;have hlp4:=(za7 l4 tPub).len;have hz4':=ZK.size;have hC4:M<w4.heap.size:=zac HW2.out.cb;clear ZE ZK HW1 HW2' HUs;go_wp2_with fail
 go_loopw [6,7,8] (fun is g _ wr=>∃ (f:Nat) (pb gb:Bool) (acc:List De) (l':List Tk) (v:Value),is = .bool pb/\g = .bool gb/\Hid (eDecls (l4.length+1) (skB l4 tPub) [] (eTk l4 tPub)=if gb then eDecls f pb acc l' else ((acc,pb),l'))/\l'.length+1<=f/\acc.length+l'.length<=4096/\Gs R w.heap.size W0 w4 M 27 #[.string nm,.slice a1 us.length c1,v,.slice none 0 0,.slice none 0 0] wr l'/\Row w4.heap.size 58 4 wr v acc.length (zfk acc)) (fun _ g _ wr=>2*ztj R wr+zn8 g)
 case atStart=>exact ⟨l4.length+1,_,true,[],eTk l4 tPub,_,rfl,rfl,(by show _=_;rw [if_pos rfl]),by omega,by simp;omega,HW2.out,Row.nil _ _ _ _⟩
 case round=>
 obtain ⟨f,pb,gb,acc,l',v,rfl,rfl,HG,hf,hacc,hF,hrow⟩:=hrel;have HF:=hid hF;have HO:=hid hrow;have HDl:Hid (ztj R wr=l'.length):=hF.ez.left;have hwz:w4.heap.size<=wr.heap.size:=hF.mv.1;clear hF hrow HW2
 cases gb with
 | true =>
   obtain ⟨f,rfl⟩:∃ f',f=f'+1:=⟨f - 1,by omega⟩
   have HD0:Hid (Gs R w.heap.size wr (wr.alloc deZ) wr.heap.size 58 #[.int .i64 0,.string ⟨#[]⟩,.bool false,.int .i64 0] (wr.alloc deZ) l'):=Gs.new HF.out.ez _;go_wp2_with fail
   obtain ⟨D,hDe⟩:∃ D,D=wr.heap.size:=⟨_,rfl⟩
   rw [← hDe] at HD0 ⊢
   have hDM:M<D:=by omega
   have hDw:w4.heap.size<=D:=by omega
   clear hDe
   obtain ⟨wd,hwd⟩:∃ wd,wd=wr.alloc deZ:=⟨_,rfl⟩
   have HD1:Hid (Gs R w.heap.size wr (wr.alloc deZ) D 58 #[.int .i64 0,.string ⟨#[]⟩,.bool false,.int .i64 0] wd l'):=by rw [hwd];exact HD0
   have hzd:wr.heap.size<=wd.heap.size:=by rw [hwd];simp
   rw [← hwd];clear hwd HD0
   cases hs:skB l' tConst with
   | true=>
     have HG2:Hid (eDecls (l4.length+1) (skB l4 tPub) [] (eTk l4 tPub)=eDecls f (skB (eTk (eNum (eTk (eName l'.tail).2 tEq)).2 tSem) tPub) (acc++[⟨1,(eName l'.tail).1,pb,(eNum (eTk (eName l'.tail).2 tEq)).1⟩]) (eTk (eTk (eNum (eTk (eName l'.tail).2 tEq)).2 tSem) tPub)):=by
      show _=_;rw [HG.out];show eDecls (f+1) pb acc l'=_;rw [eDecls,show zex pb l'=some (⟨1,(eName l'.tail).1,pb,(eNum (eTk (eName l'.tail).2 tEq)).1⟩,eTk (eNum (eTk (eName l'.tail).2 tEq)).2 tSem) from by unfold zex;rw [if_pos hs]]
     refine (zbj R w.heap.size l' tConst wd HD1.out.ez (by decide) hs).mono ?_;rintro e y1 ⟨rfl,ZE,ZK⟩;have hly1:=zaq (by decide) hs;have HY1:=hid (HD1.out.keeps ZK ZE);have hzy1:=ZK.size;clear ZE ZK HD1 hs;go_wp2_with fail;refine (zci R w.heap.size l'.tail y1 HY1.out.ez).mono ?_;have hfit:=HY1.out.ez.fit;have hly2:=(zce l'.tail).len;generalize eName l'.tail=q at *;obtain ⟨dn,ln⟩:=q
     try simp only [] at hfit hly2
     rintro e y2 ⟨rfl,ZE,ZK⟩
     try simp only [] at ZE
     have HY2:=hid (HY1.out.keeps ZK ZE);have hzy2:=ZK.size;clear ZE ZK HY1;have HY3:Hid (Gs R w.heap.size wr (wr.alloc deZ) D 58 #[.int .i64 1,.string dn,.bool false,.int .i64 0] ((((y2.setCell ⟨D,0,none⟩ (.int .i64 1)).setCell ⟨D,1,none⟩ (.string dn)).setCell ⟨D,2,none⟩ (.bool false)).setCell ⟨D,3,none⟩ (.int .i64 0)) ln):=(((HY2.out.put 0 (.int .i64 1)).put 1 (.string dn)).put 2 (.bool false)).put 3 (.int .i64 0);obtain ⟨h0,h1,h2,h3,h4⟩:=zbk HY2.out.cb;have hqy:D<y2.heap.size:=zac HY2.out.cb
     have hzy3:((((y2.setCell ⟨D,0,none⟩ (.int .i64 1)).setCell ⟨D,1,none⟩ (.string dn)).setCell ⟨D,2,none⟩ (.bool false)).setCell ⟨D,3,none⟩ (.int .i64 0)).heap.size=y2.heap.size:=by simp only [World.size_setCell]
     clear HY2;go_wp2_with fail;generalize (((y2.setCell ⟨D,0,none⟩ (.int .i64 1)).setCell ⟨D,1,none⟩ (.string dn)).setCell ⟨D,2,none⟩ (.bool false)).setCell ⟨D,3,none⟩ (.int .i64 0)=y3 at *;clear h0 h1 h2 h3 h4;refine (zaj R w.heap.size ln tEq y3 HY3.out.ez (by decide)).mono ?_;rintro e y4 ⟨rfl,ZE,ZK⟩;have HY4:=hid (HY3.out.keeps ZK ZE);have hz_y4:=ZK.size;clear ZE ZK;have hle:=(za7 ln tEq).len;clear HY3;go_wp2_with fail;generalize eTk ln tEq=le at *;refine (ziu R w.heap.size le y4 HY4.out.ez).mono ?_;have hln:=(zmn le).len;generalize eNum le=q at *;obtain ⟨nn,lnn⟩:=q
     try simp only [] at hln
     rintro e y5 ⟨rfl,ZE,ZK⟩
     try simp only [] at ZE
     have HY5:=hid (HY4.out.keeps ZK ZE);have hzy5:=ZK.size;clear ZE ZK HY4;have HY6:Hid (Gs R w.heap.size wr (wr.alloc deZ) D 58 #[.int .i64 1,.string dn,.bool false,.int .i64 nn] (y5.setCell ⟨D,3,none⟩ (.int .i64 nn)) lnn):=HY5.out.put 3 (.int .i64 nn);obtain ⟨h0,h1,h2,h3,h4⟩:=zbk HY5.out.cb;have hqy:D<y5.heap.size:=zac HY5.out.cb
     have hzy6:(y5.setCell ⟨D,3,none⟩ (.int .i64 nn)).heap.size=y5.heap.size:=by simp only [World.size_setCell]
     clear HY5;go_wp2_with fail;generalize y5.setCell ⟨D,3,none⟩ (.int .i64 nn)=y6 at *;clear h0 h1 h2 h3 h4;refine (zaj R w.heap.size lnn tSem y6 HY6.out.ez (by decide)).mono ?_;rintro e x1 ⟨rfl,ZE,ZK⟩;have HX1:=hid (HY6.out.keeps ZK ZE);have hz_x1:=ZK.size;clear ZE ZK;have hly:=(za7 lnn tSem).len;clear HY6;have HX2:Hid (Gs R w.heap.size wr (wr.alloc deZ) D 58 #[.int .i64 1,.string dn,.bool pb,.int .i64 nn] (x1.setCell ⟨D,2,none⟩ (.bool pb)) (eTk lnn tSem)):=HX1.out.put 2 (.bool pb);obtain ⟨h0,h1,h2,h3,h4⟩:=zbk HX1.out.cb;have hqx:D<x1.heap.size:=zac HX1.out.cb
     have hzx:(x1.setCell ⟨D,2,none⟩ (.bool pb)).heap.size=x1.heap.size:=by simp only [World.size_setCell]
     have HM2:=hid (HF.out.keeps HX2.out.ke HX2.out.ez);have HO2:=hid (HO.out.keeps HX2.out.ke (by omega));obtain ⟨m0,m1,m2,m3,m4,m5⟩:=zaf HM2.out.cb;obtain ⟨d0,d1,d2,d3,d4⟩:=zbk HX2.out.cb;have hqm:M<(x1.setCell ⟨D,2,none⟩ (.bool pb)).heap.size:=zac HM2.out.cb;have hqd:D<(x1.setCell ⟨D,2,none⟩ (.bool pb)).heap.size:=zac HX2.out.cb
     have hbz:w4.heap.size<=x1.heap.size:=by omega
     clear HX1 HX2;generalize eTk lnn tSem=lz at *;go_upto_region 27 with fail;generalize x1.setCell ⟨D,2,none⟩ (.bool pb)=x2 at *
     have hbz2:w4.heap.size<=x2.heap.size:=by omega
     clear h0 h1 h2 h3 h4 hzx hbz
     go_wp2_with (at_builtin;refine zdz rfl (.tmp 70) (.tmp 72) 23 rfl w4.heap.size 58 _ 4 40 Tryz.underlying23 Tryz.infoP56 rfl (by decide) x2 v acc.length (zfk acc) (De.mk 1 dn pb nn).ds rfl HO2.out _ _ rfl rfl rfl (fun _=>False) (zjl (d:=De.mk 1 dn pb nn) hfit) ?_ (by omega) (by decide) (by omega) ?_)
     . intro b _ hb
       exact hb.elim
     intro g9 c9 w9 HO9 HB9 hz9;have HM9:=hid (HM2.out.belowB HB9 (Nat.le_refl _));obtain ⟨k0,k1,k2,k3,k4,k5⟩:=zaf HM9.out.cb;have hq9:M<w9.heap.size:=zac HM9.out.cb;have HM10:Hid (Gs R w.heap.size W0 w4 M 27 #[.string nm,.slice a1 us.length c1,.slice (some ⟨g9,0,none⟩) (acc.length+1) c9,.slice none 0 0,.slice none 0 0] (w9.setCell ⟨M,2,none⟩ (.slice (some ⟨g9,0,none⟩) (acc.length+1) c9)) lz):=HM9.out.put 2 _;have HO10:=hid (HO9.set (p:=⟨M,2,none⟩) (by show M<w4.heap.size;omega) (.slice (some ⟨g9,0,none⟩) (acc.length+1) c9));clear HO9 HB9 HM9 HM2 HO2 m0 m1 m2 m3 m4 m5 d0 d1 d2 d3 d4;go_wp2_with fail;generalize w9.setCell ⟨M,2,none⟩ (.slice (some ⟨g9,0,none⟩) (acc.length+1) c9)=w10 at *;refine (zaj R w.heap.size lz tPub w10 HM10.out.ez (by decide)).mono ?_;rintro e w11 ⟨rfl,ZE,ZK⟩;have HM11:=hid (HM10.out.keeps ZK ZE)
     have HO11:=hid (HO10.out.keeps ZK (by omega));have hlp:=(za7 lz tPub).len;clear ZE ZK HM10 HO10;go_wp2_with fail;go_roundw
     case rel=>exact ⟨f,skB lz tPub,true,acc++[De.mk 1 dn pb nn],eTk lz tPub,_,rfl,rfl,HG2,by omega,by simp;omega,HM11.out,by rw [List.length_append];rw [show zfk (acc++[De.mk 1 dn pb nn])=zfk acc++(De.mk 1 dn pb nn).ds from by simp [zfk]];exact HO11.out⟩
     case measure=>rw [HM11.out.ez.left,HDl.out];simp [zn8];omega
   | false =>
     refine (za2 R w.heap.size l' tConst wd HD1.out.ez (by decide) hs).mono ?_;rintro e we ⟨rfl,ZE,ZK⟩;have HD2:=hid (HD1.out.keeps ZK ZE);have hzwe:=ZK.size;have n1:=hs;clear ZE ZK HD1 hs;go_wp2_with fail
     cases hs:skB l' tVar with
     | true=>
       have HG2:Hid (eDecls (l4.length+1) (skB l4 tPub) [] (eTk l4 tPub)=eDecls f (skB (eTk (eName l'.tail).2 tSem) tPub) (acc++[⟨2,(eName l'.tail).1,pb,0⟩]) (eTk (eTk (eName l'.tail).2 tSem) tPub)):=by
        show _=_;rw [HG.out];show eDecls (f+1) pb acc l'=_;rw [eDecls,show zex pb l'=some (⟨2,(eName l'.tail).1,pb,0⟩,eTk (eName l'.tail).2 tSem) from by unfold zex;rw [if_neg (by rw [n1];decide),if_pos hs]]
       refine (zbj R w.heap.size l' tVar we HD2.out.ez (by decide) hs).mono ?_;rintro e y1 ⟨rfl,ZE,ZK⟩;have hly1:=zaq (by decide) hs;have HY1:=hid (HD2.out.keeps ZK ZE);have hzy1:=ZK.size;clear ZE ZK HD2 hs;go_wp2_with fail;refine (zci R w.heap.size l'.tail y1 HY1.out.ez).mono ?_;have hfit:=HY1.out.ez.fit;have hly2:=(zce l'.tail).len;generalize eName l'.tail=q at *;obtain ⟨dn,ln⟩:=q
       try simp only [] at hfit hly2
       rintro e y2 ⟨rfl,ZE,ZK⟩
       try simp only [] at ZE
       have HY2:=hid (HY1.out.keeps ZK ZE);have hzy2:=ZK.size;clear ZE ZK HY1;have HY3:Hid (Gs R w.heap.size wr (wr.alloc deZ) D 58 #[.int .i64 2,.string dn,.bool false,.int .i64 0] ((((y2.setCell ⟨D,0,none⟩ (.int .i64 2)).setCell ⟨D,1,none⟩ (.string dn)).setCell ⟨D,2,none⟩ (.bool false)).setCell ⟨D,3,none⟩ (.int .i64 0)) ln):=(((HY2.out.put 0 (.int .i64 2)).put 1 (.string dn)).put 2 (.bool false)).put 3 (.int .i64 0);obtain ⟨h0,h1,h2,h3,h4⟩:=zbk HY2.out.cb;have hqy:D<y2.heap.size:=zac HY2.out.cb
       have hzy3:((((y2.setCell ⟨D,0,none⟩ (.int .i64 2)).setCell ⟨D,1,none⟩ (.string dn)).setCell ⟨D,2,none⟩ (.bool false)).setCell ⟨D,3,none⟩ (.int .i64 0)).heap.size=y2.heap.size:=by simp only [World.size_setCell]
       clear HY2;go_wp2_with fail;generalize (((y2.setCell ⟨D,0,none⟩ (.int .i64 2)).setCell ⟨D,1,none⟩ (.string dn)).setCell ⟨D,2,none⟩ (.bool false)).setCell ⟨D,3,none⟩ (.int .i64 0)=y3 at *;clear h0 h1 h2 h3 h4;refine (zaj R w.heap.size ln tSem y3 HY3.out.ez (by decide)).mono ?_;rintro e x1 ⟨rfl,ZE,ZK⟩;have HX1:=hid (HY3.out.keeps ZK ZE);have hz_x1:=ZK.size;clear ZE ZK;have hly:=(za7 ln tSem).len;clear HY3;have HX2:Hid (Gs R w.heap.size wr (wr.alloc deZ) D 58 #[.int .i64 2,.string dn,.bool pb,.int .i64 0] (x1.setCell ⟨D,2,none⟩ (.bool pb)) (eTk ln tSem)):=HX1.out.put 2 (.bool pb);obtain ⟨h0,h1,h2,h3,h4⟩:=zbk HX1.out.cb;have hqx:D<x1.heap.size:=zac HX1.out.cb
       have hzx:(x1.setCell ⟨D,2,none⟩ (.bool pb)).heap.size=x1.heap.size:=by simp only [World.size_setCell]
       have HM2:=hid (HF.out.keeps HX2.out.ke HX2.out.ez);have HO2:=hid (HO.out.keeps HX2.out.ke (by omega));obtain ⟨m0,m1,m2,m3,m4,m5⟩:=zaf HM2.out.cb;obtain ⟨d0,d1,d2,d3,d4⟩:=zbk HX2.out.cb;have hqm:M<(x1.setCell ⟨D,2,none⟩ (.bool pb)).heap.size:=zac HM2.out.cb;have hqd:D<(x1.setCell ⟨D,2,none⟩ (.bool pb)).heap.size:=zac HX2.out.cb
       have hbz:w4.heap.size<=x1.heap.size:=by omega
       clear HX1 HX2;generalize eTk ln tSem=lz at *;go_upto_region 27 with fail;generalize x1.setCell ⟨D,2,none⟩ (.bool pb)=x2 at *
       have hbz2:w4.heap.size<=x2.heap.size:=by omega
       clear h0 h1 h2 h3 h4 hzx hbz
       go_wp2_with (at_builtin;refine zdz rfl (.tmp 70) (.tmp 72) 23 rfl w4.heap.size 58 _ 4 40 Tryz.underlying23 Tryz.infoP56 rfl (by decide) x2 v acc.length (zfk acc) (De.mk 2 dn pb 0).ds rfl HO2.out _ _ rfl rfl rfl (fun _=>False) (zjl (d:=De.mk 2 dn pb 0) hfit) ?_ (by omega) (by decide) (by omega) ?_)
       . intro b _ hb
         exact hb.elim
       intro g9 c9 w9 HO9 HB9 hz9;have HM9:=hid (HM2.out.belowB HB9 (Nat.le_refl _));obtain ⟨k0,k1,k2,k3,k4,k5⟩:=zaf HM9.out.cb;have hq9:M<w9.heap.size:=zac HM9.out.cb;have HM10:Hid (Gs R w.heap.size W0 w4 M 27 #[.string nm,.slice a1 us.length c1,.slice (some ⟨g9,0,none⟩) (acc.length+1) c9,.slice none 0 0,.slice none 0 0] (w9.setCell ⟨M,2,none⟩ (.slice (some ⟨g9,0,none⟩) (acc.length+1) c9)) lz):=HM9.out.put 2 _;have HO10:=hid (HO9.set (p:=⟨M,2,none⟩) (by show M<w4.heap.size;omega) (.slice (some ⟨g9,0,none⟩) (acc.length+1) c9));clear HO9 HB9 HM9 HM2 HO2 m0 m1 m2 m3 m4 m5 d0 d1 d2 d3 d4;go_wp2_with fail;generalize w9.setCell ⟨M,2,none⟩ (.slice (some ⟨g9,0,none⟩) (acc.length+1) c9)=w10 at *;refine (zaj R w.heap.size lz tPub w10 HM10.out.ez (by decide)).mono ?_;rintro e w11 ⟨rfl,ZE,ZK⟩;have HM11:=hid (HM10.out.keeps ZK ZE)
       have HO11:=hid (HO10.out.keeps ZK (by omega));have hlp:=(za7 lz tPub).len;clear ZE ZK HM10 HO10;go_wp2_with fail;go_roundw
       case rel=>exact ⟨f,skB lz tPub,true,acc++[De.mk 2 dn pb 0],eTk lz tPub,_,rfl,rfl,HG2,by omega,by simp;omega,HM11.out,by rw [List.length_append];rw [show zfk (acc++[De.mk 2 dn pb 0])=zfk acc++(De.mk 2 dn pb 0).ds from by simp [zfk]];exact HO11.out⟩
       case measure=>rw [HM11.out.ez.left,HDl.out];simp [zn8];omega
     | false=>
       refine (za2 R w.heap.size l' tVar we HD2.out.ez (by decide) hs).mono ?_;rintro e wf ⟨rfl,ZE,ZK⟩;have HD3:=hid (HD2.out.keeps ZK ZE);have hzwf:=ZK.size;have n2:=hs;clear ZE ZK HD2 hs;go_wp2_with fail
       cases hs:skB l' tArray with
       | true=>
         have HG2:Hid (eDecls (l4.length+1) (skB l4 tPub) [] (eTk l4 tPub)=eDecls f (skB (eTk (eTk (eNum (eTk (eName l'.tail).2 tLs)).2 tRs) tSem) tPub) (acc++[⟨3,(eName l'.tail).1,pb,(eNum (eTk (eName l'.tail).2 tLs)).1⟩]) (eTk (eTk (eTk (eNum (eTk (eName l'.tail).2 tLs)).2 tRs) tSem) tPub)):=by
          show _=_;rw [HG.out];show eDecls (f+1) pb acc l'=_;rw [eDecls,show zex pb l'=some (⟨3,(eName l'.tail).1,pb,(eNum (eTk (eName l'.tail).2 tLs)).1⟩,eTk (eTk (eNum (eTk (eName l'.tail).2 tLs)).2 tRs) tSem) from by unfold zex;rw [if_neg (by rw [n1];decide),if_neg (by rw [n2];decide),if_pos hs]]
         refine (zbj R w.heap.size l' tArray wf HD3.out.ez (by decide) hs).mono ?_;rintro e y1 ⟨rfl,ZE,ZK⟩;have hly1:=zaq (by decide) hs;have HY1:=hid (HD3.out.keeps ZK ZE);have hzy1:=ZK.size;clear ZE ZK HD3 hs;go_wp2_with fail;refine (zci R w.heap.size l'.tail y1 HY1.out.ez).mono ?_;have hfit:=HY1.out.ez.fit;have hly2:=(zce l'.tail).len;generalize eName l'.tail=q at *;obtain ⟨dn,ln⟩:=q
         try simp only [] at hfit hly2
         rintro e y2 ⟨rfl,ZE,ZK⟩
         try simp only [] at ZE
         have HY2:=hid (HY1.out.keeps ZK ZE);have hzy2:=ZK.size;clear ZE ZK HY1;have HY3:Hid (Gs R w.heap.size wr (wr.alloc deZ) D 58 #[.int .i64 3,.string dn,.bool false,.int .i64 0] ((((y2.setCell ⟨D,0,none⟩ (.int .i64 3)).setCell ⟨D,1,none⟩ (.string dn)).setCell ⟨D,2,none⟩ (.bool false)).setCell ⟨D,3,none⟩ (.int .i64 0)) ln):=(((HY2.out.put 0 (.int .i64 3)).put 1 (.string dn)).put 2 (.bool false)).put 3 (.int .i64 0);obtain ⟨h0,h1,h2,h3,h4⟩:=zbk HY2.out.cb;have hqy:D<y2.heap.size:=zac HY2.out.cb
         have hzy3:((((y2.setCell ⟨D,0,none⟩ (.int .i64 3)).setCell ⟨D,1,none⟩ (.string dn)).setCell ⟨D,2,none⟩ (.bool false)).setCell ⟨D,3,none⟩ (.int .i64 0)).heap.size=y2.heap.size:=by simp only [World.size_setCell]
         clear HY2;go_wp2_with fail;generalize (((y2.setCell ⟨D,0,none⟩ (.int .i64 3)).setCell ⟨D,1,none⟩ (.string dn)).setCell ⟨D,2,none⟩ (.bool false)).setCell ⟨D,3,none⟩ (.int .i64 0)=y3 at *;clear h0 h1 h2 h3 h4;refine (zaj R w.heap.size ln tLs y3 HY3.out.ez (by decide)).mono ?_;rintro e y4 ⟨rfl,ZE,ZK⟩;have HY4:=hid (HY3.out.keeps ZK ZE);have hz_y4:=ZK.size;clear ZE ZK;have hle:=(za7 ln tLs).len;clear HY3;go_wp2_with fail;generalize eTk ln tLs=le at *;refine (ziu R w.heap.size le y4 HY4.out.ez).mono ?_;have hln:=(zmn le).len;generalize eNum le=q at *;obtain ⟨nn,lnn⟩:=q
         try simp only [] at hln
         rintro e y5 ⟨rfl,ZE,ZK⟩
         try simp only [] at ZE
         have HY5:=hid (HY4.out.keeps ZK ZE);have hzy5:=ZK.size;clear ZE ZK HY4;have HY6:Hid (Gs R w.heap.size wr (wr.alloc deZ) D 58 #[.int .i64 3,.string dn,.bool false,.int .i64 nn] (y5.setCell ⟨D,3,none⟩ (.int .i64 nn)) lnn):=HY5.out.put 3 (.int .i64 nn);obtain ⟨h0,h1,h2,h3,h4⟩:=zbk HY5.out.cb;have hqy:D<y5.heap.size:=zac HY5.out.cb
         have hzy6:(y5.setCell ⟨D,3,none⟩ (.int .i64 nn)).heap.size=y5.heap.size:=by simp only [World.size_setCell]
         clear HY5;go_wp2_with fail;generalize y5.setCell ⟨D,3,none⟩ (.int .i64 nn)=y6 at *;clear h0 h1 h2 h3 h4;refine (zaj R w.heap.size lnn tRs y6 HY6.out.ez (by decide)).mono ?_;rintro e y7 ⟨rfl,ZE,ZK⟩;have HY7:=hid (HY6.out.keeps ZK ZE);have hz_y7:=ZK.size;clear ZE ZK;have hlr:=(za7 lnn tRs).len;clear HY6;go_wp2_with fail;generalize eTk lnn tRs=lr at *;refine (zaj R w.heap.size lr tSem y7 HY7.out.ez (by decide)).mono ?_;rintro e x1 ⟨rfl,ZE,ZK⟩;have HX1:=hid (HY7.out.keeps ZK ZE);have hz_x1:=ZK.size;clear ZE ZK;have hly:=(za7 lr tSem).len;clear HY7;have HX2:Hid (Gs R w.heap.size wr (wr.alloc deZ) D 58 #[.int .i64 3,.string dn,.bool pb,.int .i64 nn] (x1.setCell ⟨D,2,none⟩ (.bool pb)) (eTk lr tSem)):=HX1.out.put 2 (.bool pb);obtain ⟨h0,h1,h2,h3,h4⟩:=zbk HX1.out.cb;have hqx:D<x1.heap.size:=zac HX1.out.cb
         have hzx:(x1.setCell ⟨D,2,none⟩ (.bool pb)).heap.size=x1.heap.size:=by simp only [World.size_setCell]
         have HM2:=hid (HF.out.keeps HX2.out.ke HX2.out.ez);have HO2:=hid (HO.out.keeps HX2.out.ke (by omega));obtain ⟨m0,m1,m2,m3,m4,m5⟩:=zaf HM2.out.cb;obtain ⟨d0,d1,d2,d3,d4⟩:=zbk HX2.out.cb;have hqm:M<(x1.setCell ⟨D,2,none⟩ (.bool pb)).heap.size:=zac HM2.out.cb;have hqd:D<(x1.setCell ⟨D,2,none⟩ (.bool pb)).heap.size:=zac HX2.out.cb
         have hbz:w4.heap.size<=x1.heap.size:=by omega
         clear HX1 HX2;generalize eTk lr tSem=lz at *;go_upto_region 27 with fail;generalize x1.setCell ⟨D,2,none⟩ (.bool pb)=x2 at *
         have hbz2:w4.heap.size<=x2.heap.size:=by omega
         clear h0 h1 h2 h3 h4 hzx hbz
         go_wp2_with (at_builtin;refine zdz rfl (.tmp 70) (.tmp 72) 23 rfl w4.heap.size 58 _ 4 40 Tryz.underlying23 Tryz.infoP56 rfl (by decide) x2 v acc.length (zfk acc) (De.mk 3 dn pb nn).ds rfl HO2.out _ _ rfl rfl rfl (fun _=>False) (zjl (d:=De.mk 3 dn pb nn) hfit) ?_ (by omega) (by decide) (by omega) ?_)
         . intro b _ hb
           exact hb.elim
         intro g9 c9 w9 HO9 HB9 hz9;have HM9:=hid (HM2.out.belowB HB9 (Nat.le_refl _));obtain ⟨k0,k1,k2,k3,k4,k5⟩:=zaf HM9.out.cb;have hq9:M<w9.heap.size:=zac HM9.out.cb;have HM10:Hid (Gs R w.heap.size W0 w4 M 27 #[.string nm,.slice a1 us.length c1,.slice (some ⟨g9,0,none⟩) (acc.length+1) c9,.slice none 0 0,.slice none 0 0] (w9.setCell ⟨M,2,none⟩ (.slice (some ⟨g9,0,none⟩) (acc.length+1) c9)) lz):=HM9.out.put 2 _;have HO10:=hid (HO9.set (p:=⟨M,2,none⟩) (by show M<w4.heap.size;omega) (.slice (some ⟨g9,0,none⟩) (acc.length+1) c9));clear HO9 HB9 HM9 HM2 HO2 m0 m1 m2 m3 m4 m5 d0 d1 d2 d3 d4;go_wp2_with fail;generalize w9.setCell ⟨M,2,none⟩ (.slice (some ⟨g9,0,none⟩) (acc.length+1) c9)=w10 at *;refine (zaj R w.heap.size lz tPub w10 HM10.out.ez (by decide)).mono ?_;rintro e w11 ⟨rfl,ZE,ZK⟩;have HM11:=hid (HM10.out.keeps ZK ZE)
         have HO11:=hid (HO10.out.keeps ZK (by omega));have hlp:=(za7 lz tPub).len;clear ZE ZK HM10 HO10;go_wp2_with fail;go_roundw
         case rel=>exact ⟨f,skB lz tPub,true,acc++[De.mk 3 dn pb nn],eTk lz tPub,_,rfl,rfl,HG2,by omega,by simp;omega,HM11.out,by rw [List.length_append];rw [show zfk (acc++[De.mk 3 dn pb nn])=zfk acc++(De.mk 3 dn pb nn).ds from by simp [zfk]];exact HO11.out⟩
         case measure=>rw [HM11.out.ez.left,HDl.out];simp [zn8];omega
       | false=>
         have HG2:Hid (eDecls (l4.length+1) (skB l4 tPub) [] (eTk l4 tPub)=((acc,pb),l')):=by
          show _=_;rw [HG.out];show eDecls (f+1) pb acc l'=_;rw [eDecls,show zex pb l'=none from by unfold zex;rw [if_neg (by rw [n1];decide),if_neg (by rw [n2];decide),if_neg (by rw [hs];decide)]]
         refine (za2 R w.heap.size l' tArray wf HD3.out.ez (by decide) hs).mono ?_;rintro e wg ⟨rfl,ZE,ZK⟩;have HD4:=hid (HD3.out.keeps ZK ZE);clear ZE ZK HD3 hs;have HM2:=hid (HF.out.keeps HD4.out.ke HD4.out.ez);have HO2:=hid (HO.out.keeps HD4.out.ke (by omega));clear HD4;go_wp2_with fail;go_roundw
         case rel=>exact ⟨f+1,pb,false,acc,l',_,rfl,rfl,HG2,by omega,by omega,HM2.out,HO2.out⟩
         case measure=>rw [HM2.out.ez.left,HDl.out];simp [zn8]
 | false=>
 have HDs:Hid (eDecls (l4.length+1) (skB l4 tPub) [] (eTk l4 tPub)=((acc,pb),l')):=HG.out;obtain ⟨a2,c2,rfl,hds⟩:=HO.out.slice;have HDsE:=hid (low hds (C:=M) (by omega));have HUs5:=hid (HF.out.at' HUs4.out);have HW3:=hid HF.out.restart;have hC5:M<wr.heap.size:=zac HF.out.cb
 have hl6:l'.length<=4096:=by omega
 clear hds HO HF HDl HUs4 hf hacc hwz HG
 obtain ⟨ds,rfl⟩:∃ ds:List De,ds=acc:=⟨acc,rfl⟩
 obtain ⟨l6,rfl⟩:∃ l6:List Tk,l6=l':=⟨l',rfl⟩
 obtain ⟨wd,rfl⟩:∃ wd:World,wd=wr:=⟨wr,rfl⟩
 go_wp2_with fail
 go_loopw [6,9,10] (fun is _ _ wr=>∃ (f:Nat) (p3:Bool) (acc:List Pr) (l':List Tk) (v:Value),is = .bool p3/\Hid (eProcs (l6.length+1) pb [] l6=eProcs f p3 acc l')/\l'.length+1<=f/\acc.length+l'.length<=4096/\Gs R w.heap.size W0 wd M 27 #[.string nm,.slice a1 us.length c1,.slice a2 ds.length c2,v,.slice none 0 0] wr l'/\Row wd.heap.size 60 5 wr v acc.length (zf9 acc)) (fun _ _ _ wr=>ztj R wr)
 case atStart=>exact ⟨l6.length+1,pb,[],l6,_,rfl,(by show _=_;rfl),by omega,by simp;omega,HW3.out,Row.nil _ _ _ _⟩
 case round=>
 obtain ⟨f3,p3,acc3,l7,v3,rfl,HG3,hf3,hacc3,hF,hrow⟩:=hrel;have HFm:=hid hF;have HOm:=hid hrow;have HDl3:Hid (ztj R wr=l7.length):=hF.ez.left;have hwz3:wd.heap.size<=wr.heap.size:=hF.mv.1;clear hF hrow HW3
 obtain ⟨wo,rfl⟩:∃ wo:World,wo=wr:=⟨wr,rfl⟩
 obtain ⟨f3,rfl⟩:∃ f',f3=f'+1:=⟨f3 - 1,by omega⟩
 go_wp2_with fail
 cases hs:skB l7 tProc with
 | true =>
   have HSp:=hid hs;have hlt7:=zaq (by decide) hs;refine (zbj R w.heap.size l7 tProc wo HFm.out.ez (by decide) hs).mono ?_;rintro e q1 ⟨rfl,ZE,ZK⟩;have HE1:=hid ZE;have HKq1:=hid ZK;have hzq1:=ZK.size;clear ZE ZK hs;go_wp2_with fail;refine (zci R w.heap.size l7.tail q1 HE1.out).mono ?_;have hfitp:=HE1.out.fit;have hlp1:=(zce l7.tail).len;generalize hq:eName l7.tail=q at *;obtain ⟨pn,lp1⟩:=q;have HNp:=hid hq;clear hq
   try simp only [] at hfitp hlp1
   rintro e q2 ⟨rfl,ZE,ZK⟩
   try simp only [] at ZE
   have HKq:=hid (HKq1.out.trans ZK);have hzq2:=ZK.size
   obtain ⟨q3,hq3⟩:∃ q3,q3=q2.alloc (.cells #[.string pn,.bool p3,.slice none 0 0,.slice none 0 0,.slice none 0 0] 60):=⟨_,rfl⟩
   have hP0:Gs R w.heap.size q2 q3 q2.heap.size 60 #[.string pn,.bool p3,.slice none 0 0,.slice none 0 0,.slice none 0 0] q3 lp1:=by rw [hq3];exact Gs.new ZE _
   have hzq3:q3.heap.size=q2.heap.size+1:=by rw [hq3];simp
   have HP0:=hid hP0;clear ZE ZK HE1 HKq1 hP0;go_wp2_with fail;rw [← hq3];clear hq3
   obtain ⟨P,hPe⟩:∃ P,P=q2.heap.size:=⟨_,rfl⟩
   rw [← hPe] at HP0 ⊢
   have hMP:M<P:=by omega
   have hwoP:wo.heap.size<=P:=by omega
   have hPq3:P<q3.heap.size:=by omega
   clear hPe hzq3;refine (zaj R w.heap.size lp1 tLp q3 HP0.out.ez (by decide)).mono ?_;rintro e q4 ⟨rfl,ZE,ZK⟩;have HP4:=hid (HP0.out.keeps ZK ZE);have hzq4:=ZK.size;have hlp2:=(za7 lp1 tLp).len;clear ZE ZK HP0;generalize hq:eTk lp1 tLp=lp2 at *;have HLp:=hid hq;clear hq;go_wp2_with fail;refine (zaj R w.heap.size lp2 tRp q4 HP4.out.ez (by decide)).mono ?_;rintro e q5 ⟨rfl,ZE,ZK⟩;have HP5:=hid (HP4.out.keeps ZK ZE);have hzq5:=ZK.size;clear ZE ZK HP4
   go_upto_if 87 with fail
   go_cut [] (fun wc=>∃ (ps:List ByteArray) (l8:List Tk) (v:Value),Hid (zey lp2=(ps,l8))/\l8.length<=lp2.length/\ps.length<=4097/\Hid (Gs R w.heap.size q2 q3 P 60 #[.string pn,.bool p3,v,.slice none 0 0,.slice none 0 0] wc l8)/\Hid (Row q3.heap.size 9 1 wc v ps.length (zax ps)))
   case first=>
    cases hs2:skB lp2 tRp with
    | true=>
      rw [ztu hs2] at HP5;have hlt8:=zaq (by decide) hs2;go_wp2_with fail;go_meet;exact ⟨[],lp2.tail,.slice none 0 0,(by show _=_;unfold zey;rw [if_pos hs2]),by omega,by simp,HP5,Row.nil _ _ _ _⟩
    | false =>
      rw [zyh hs2] at HP5;simp only [Bool.not_false];have HP6:=HP5;clear HP5
      have HPz:Hid (zey lp2=ze9 (lp2.length+1) [] lp2):=by show _=_;unfold zey;rw [if_neg (by rw [hs2];decide)]
      clear hs2;go_wp2_with fail
      go_loopw [10] (fun mo wr=>∃ (f:Nat) (gb:Bool) (acc:List ByteArray) (l':List Tk) (v:Value),mo = .bool gb/\Hid (zey lp2=if gb then ze9 f acc l' else (acc,eTk l' tRp))/\(gb=true->l'.length+1<=f/\acc.length+l'.length<=lp2.length)/\acc.length<=lp2.length+1/\l'.length<=lp2.length/\Gs R w.heap.size q2 q3 P 60 #[.string pn,.bool p3,v,.slice none 0 0,.slice none 0 0] wr l'/\Row q3.heap.size 9 1 wr v acc.length (zax acc)) (fun mo wr=>2*ztj R wr+zn8 mo)
      case atStart=>exact ⟨lp2.length+1,true,[],lp2,_,rfl,(by show _=_;rw [HPz.out,if_pos rfl]),fun _=>⟨Nat.le_refl _,by simp⟩,by simp,Nat.le_refl _,HP6.out,Row.nil _ _ _ _⟩
      case round=>
      obtain ⟨f,gb,acc,l',v,rfl,HG,hgb,hal,hll,hF,hrow⟩:=hrel;have HF:=hid hF;have HO:=hid hrow;have HDl:Hid (ztj R wr=l'.length):=hF.ez.left;have hwz:q3.heap.size<=wr.heap.size:=hF.mv.1;clear hF hrow HP6
      cases gb with
      | true=>
        obtain ⟨hf,hacc⟩:=hgb rfl
        obtain ⟨f,rfl⟩:∃ f',f=f'+1:=⟨f - 1,by omega⟩
        have HG':Hid (zey lp2=if skB (eName l').2 tCom then ze9 f (acc++[(eName l').1]) (eName l').2.tail else (acc++[(eName l').1],eTk (eName l').2 tRp)):=by
         show _=_
         rw [HG.out];rfl
        obtain ⟨h0,h1,h2,h3,h4,h5⟩:=zaf HF.out.cb;have hvwr:=h2;have hCwr:P<wr.heap.size:=zac HF.out.cb;clear HG hgb;go_wp2_with fail
        have HE:Hid (∀ w',Ez R w.heap.size w' l'->Calls Tryz.prog 53 #[.pointer (some ⟨R,0,none⟩)] w' fun e w''=>∃ u,e = .returned u/\(u = .string (eName l').1/\Keeps R w' w''/\Ez R w.heap.size w'' (eName l').2)):=fun w' h'=>by
         refine (zci R w.heap.size _ w' h').mono ?_;rintro e w'' ⟨rfl,hd,hk⟩;exact ⟨_,rfl,rfl,hk,hd⟩
        have hfit:=HF.out.ez.fit;have hsf:=(zce l').len;generalize eName l'=q at *;obtain ⟨y,ly⟩:=q
        try simp only [] at hfit hsf
        go_wp2_with fail
        go_region_law (first
         | (refine zc0 (by rfl) 53 _ _ (by rfl) zt2 _ (by rfl) (HE.out _ HF.out.ez.drew) ?_
            rintro u8 w8 ⟨rfl,HK8,HR8⟩;have hz8:wr.heap.size<=w8.heap.size:=HK8.size;have HF8:=hid (HF.out.drew.keeps HK8 HR8);have hc8:w8.cell? ⟨P,2,none⟩=some v:=(HK8.cell (show P<wr.heap.size from hCwr) (by omega)).trans hvwr
            have hq8:P<w8.heap.size:=by omega
            have HO8:Hid (Row q3.heap.size 9 1 w8 v acc.length (zax acc)):=(HO.out.keeps (Keeps.refl R wr).drew (by omega)).keeps HK8 (by omega))
         | (refine zbb (by rfl) _ _ 22 (by rfl) q3.heap.size 9 _ 1 16 Tryz.underlying22 Tryz.infoP9 rfl (by decide) w8 _ acc.length (zax acc) [.str y] (by rfl) HO8.out #[.string y] _ rfl (by rfl) rfl (fun _=>False) (.cons (zs9 hfit) .nil) (fun b hb hA=>?_) (by omega) (by decide) (by omega) ?_
            focus (exact hA.elim)
            intro g9 c9 w9 HO9 HB9 hz9;obtain ⟨k0,k1,k2,k3,k4,k5⟩:=zaf (HF8.out.belowB HB9 (by omega)).cb
            have hq9:P<w9.heap.size:=by omega
            have HF9:=hid ((HF8.out.belowB HB9 (by omega)).put 2 (.slice (some ⟨g9,0,none⟩) (acc.length+1) c9))
            have HO9':=hid (HO9.set (p:=⟨P,2,none⟩) (by show P<q3.heap.size;omega) (.slice (some ⟨g9,0,none⟩) (acc.length+1) c9))))
        all_goals
         clear HE;go_wp2_with fail;generalize w9.setCell ⟨P,2,none⟩ (.slice (some ⟨g9,0,none⟩) (acc.length+1) c9)=w10 at *
         cases hsc:skB ly tCom with
         | true=>
           have HG2:=hid (HG'.out.trans (if_pos hsc));have hlc:=zaq (by decide) hsc;refine (zbj R w.heap.size ly tCom w10 HF9.out.ez (by decide) hsc).mono ?_;rintro e z1 ⟨rfl,ZE,ZK⟩;have HFz:=hid (HF9.out.keeps ZK ZE);have HOz:=hid (HO9'.out.keeps ZK (by omega));clear ZE ZK HF9 HO9' hsc;go_wp2_with fail;go_roundw
           case rel=>exact ⟨f,true,acc++[y],ly.tail,_,rfl,HG2,fun _=>⟨by omega,by simp;omega⟩,by simp;omega,by omega,HFz.out,by rw [List.length_append];rw [show zax (acc++[y])=zax acc++[.str y] from by simp [zax]];exact HOz.out⟩
           case measure=>rw [HFz.out.ez.left,HDl.out];simp [zn8];omega
         | false=>
           have HG2:=hid (HG'.out.trans (if_neg (by rw [hsc];decide)));refine (za2 R w.heap.size ly tCom w10 HF9.out.ez (by decide) hsc).mono ?_;rintro e z1 ⟨rfl,ZE,ZK⟩;have HFz:=hid (HF9.out.keeps ZK ZE);have HOz:=hid (HO9'.out.keeps ZK (by omega));clear ZE ZK HF9 HO9' hsc;go_wp2_with fail;go_roundw
           case rel=>exact ⟨f,false,acc++[y],ly,_,rfl,HG2,(fun h=>by cases h),by simp;omega,by omega,HFz.out,by rw [List.length_append];rw [show zax (acc++[y])=zax acc++[.str y] from by simp [zax]];exact HOz.out⟩
           case measure=>rw [HFz.out.ez.left,HDl.out];simp [zn8];omega
      | false=>
        have HPe:Hid (zey lp2=(acc,eTk l' tRp)):=HG.out;clear HG hgb;go_wp2_with fail;refine (zaj R w.heap.size l' tRp wr HF.out.ez (by decide)).mono ?_;rintro e z1 ⟨rfl,ZE,ZK⟩;have HFz:=hid (HF.out.keeps ZK ZE);have HOz:=hid (HO.out.keeps ZK (by omega));have hlz:=(za7 l' tRp).len;clear ZE ZK HF HO;go_wp2_with fail;go_meet;exact ⟨acc,eTk l' tRp,v,HPe,by omega,by omega,HFz,HOz⟩
   case rest=>
   obtain ⟨ps,l8,v8,HPp,hl8,hps8,HF8,HO8⟩:=hcut;obtain ⟨b1,d1,rfl,hps⟩:=HO8.out.slice;have HPs:=hid (low hps (C:=P) (by omega));have HWp:=hid HF8.out.restart;have hCc:P<wc.heap.size:=zac HF8.out.cb;have hqc:q3.heap.size<=wc.heap.size:=HF8.out.mv.1;clear hps HO8 HF8
   try clear HP5
   go_wp2_with fail
   go_loopw [] (fun wr=>∃ (f:Nat) (acc:List ByteArray) (l':List Tk) (v:Value),Hid (eUses zar (l8.length+1) [] l8=eUses zar f acc l')/\l'.length+1<=f/\acc.length+l'.length<=l8.length/\Gs R w.heap.size q2 wc P 60 #[.string pn,.bool p3,.slice b1 ps.length d1,v,.slice none 0 0] wr l'/\Row wc.heap.size 9 1 wr v acc.length (zax acc)) (fun wr=>ztj R wr)
   case atStart=>exact ⟨_,[],l8,_,rfl,Nat.le_refl _,by simp,HWp.out,Row.nil _ _ _ _⟩
   case round=>
   obtain ⟨f,acc,l',v,HG,hf,hacc,hF,hrow⟩:=hrel;have HF:=hid hF;have HO:=hid hrow;have HDl:Hid (ztj R wr=l'.length):=hF.ez.left
   obtain ⟨f,rfl⟩:∃ f',f=f'+1:=⟨f - 1,by omega⟩
   have hwz:wc.heap.size<=wr.heap.size:=hF.mv.1;clear hF hrow HWp;go_wp2_with fail
   cases hs:skB l' zar with
   | true=>
     refine (zbj R w.heap.size l' zar wr HF.out.ez (by decide) hs).mono ?_;rintro e w3 ⟨rfl,HR3,HK3⟩;have hl3:=zaq (by decide) hs;have hz3:=HK3.size;have HF3:=hid (HF.out.keeps HK3 HR3);have HO3:=hid (HO.out.keeps HK3 (by omega));obtain ⟨h0,h1,h2,h3,h4,h5⟩:=zaf HF3.out.cb;have hvw3:=h3;have hCw3:P<w3.heap.size:=zac HF3.out.cb
     have HG2:Hid (eUses zar (l8.length+1) [] l8=eUses zar f (acc++[(eName l'.tail).1]) (eTk (eName l'.tail).2 tSem)):=by
      show _=_;rw [HG.out,eUses,if_pos hs]
     clear HK3 HR3 HF HO HG hs
     have HE:Hid (∀ w',Ez R w.heap.size w' l'.tail->Calls Tryz.prog 53 #[.pointer (some ⟨R,0,none⟩)] w' fun e w''=>∃ u,e = .returned u/\(u = .string (eName l'.tail).1/\Keeps R w' w''/\Ez R w.heap.size w'' (eName l'.tail).2)):=fun w' h'=>by
      refine (zci R w.heap.size _ w' h').mono ?_;rintro e w'' ⟨rfl,hd,hk⟩;exact ⟨_,rfl,rfl,hk,hd⟩
     have hfit:=HF3.out.ez.fit;have hsf:=(zce l'.tail).len;generalize eName l'.tail=q at *;obtain ⟨y,ly⟩:=q
     try simp only [] at hfit hsf
     go_wp2_with fail
     go_region_law (first
      | (refine zc0 (by rfl) 53 _ _ (by rfl) zt2 _ (by rfl) (HE.out _ HF3.out.ez.drew) ?_
         rintro u8 w8 ⟨rfl,HK8,HR8⟩;have hz8:w3.heap.size<=w8.heap.size:=HK8.size;have HF8:=hid (HF3.out.drew.keeps HK8 HR8);have hc8:w8.cell? ⟨P,3,none⟩=some v:=(HK8.cell (show P<w3.heap.size from hCw3) (by omega)).trans hvw3
         have hq8:P<w8.heap.size:=by omega
         have HO8:Hid (Row wc.heap.size 9 1 w8 v acc.length (zax acc)):=(HO3.out.keeps (Keeps.refl R w3).drew (by omega)).keeps HK8 (by omega))
      | (refine zbb (by rfl) _ _ 22 (by rfl) wc.heap.size 9 _ 1 16 Tryz.underlying22 Tryz.infoP9 rfl (by decide) w8 _ acc.length (zax acc) [.str y] (by rfl) HO8.out #[.string y] _ rfl (by rfl) rfl (fun _=>False) (.cons (zs9 hfit) .nil) (fun b hb hA=>?_) (by omega) (by decide) (by omega) ?_
         focus (exact hA.elim)
         intro g9 c9 w9 HO9 HB9 hz9;obtain ⟨k0,k1,k2,k3,k4,k5⟩:=zaf (HF8.out.belowB HB9 (by omega)).cb
         have hq9:P<w9.heap.size:=by omega
         have HF9:=hid ((HF8.out.belowB HB9 (by omega)).put 3 (.slice (some ⟨g9,0,none⟩) (acc.length+1) c9))
         have HO9':=hid (HO9.set (p:=⟨P,3,none⟩) (by show P<wc.heap.size;omega) (.slice (some ⟨g9,0,none⟩) (acc.length+1) c9))))
     all_goals
      clear HE;go_wp2_with fail;generalize w9.setCell ⟨P,3,none⟩ (.slice (some ⟨g9,0,none⟩) (acc.length+1) c9)=w10 at *;refine (zaj R w.heap.size ly tSem w10 HF9.out.ez (by decide)).mono ?_;rintro e z1 ⟨rfl,ZE,ZK⟩;have HFz:=hid (HF9.out.keeps ZK ZE);have HOz:=hid (HO9'.out.keeps ZK (by omega));have hlz:=(za7 ly tSem).len;clear ZE ZK HF9 HO9';go_wp2_with fail;go_roundw
      case rel=>exact ⟨f,acc++[y],eTk ly tSem,_,HG2,by omega,by simp;omega,HFz.out,by rw [List.length_append];rw [show zax (acc++[y])=zax acc++[.str y] from by simp [zax]];exact HOz.out⟩
      case measure=>rw [HFz.out.ez.left,HDl.out];omega
   | false=>
   refine (za2 R w.heap.size l' zar wr HF.out.ez (by decide) hs).mono ?_;rintro e w3 ⟨rfl,HR3,HK3⟩;have HF3:=hid (HF.out.keeps HK3 HR3);have HO3:=hid (HO.out.keeps HK3 (by omega))
   have HU3:Hid (eUses zar (l8.length+1) [] l8=(acc,l')):=by
    show _=_;rw [HG.out,eUses,if_neg (by rw [hs];decide)]
   have hz3:=HK3.size;clear HK3 HR3 HF HO hs HG HDl;obtain ⟨b2,d2,rfl,hls⟩:=HO3.out.slice;have HLs:=hid (low hls (C:=P) (by omega));have HR3:=hid HF3.out.restart;have hC3:P<w3.heap.size:=zac HF3.out.cb;clear hls HO3 hf hacc
   obtain ⟨ls,rfl⟩:∃ ls:List ByteArray,ls=acc:=⟨acc,rfl⟩
   obtain ⟨l9,rfl⟩:∃ l9:List Tk,l9=l':=⟨l',rfl⟩
   have hl9:l9.length<=l8.length:=(by have:=(zhz zar (l8.length+1) [] l8).2.len;rw [HU3.out] at this;exact this)
   go_wp2_with fail;refine (zi5 R w.heap.size l9 w3 HF3.out.ez).mono ?_;have hlb:=(zgw 6 l9 HF3.out.ez.right).2.2.len;generalize hq:eBlock 6 l9=q at *;obtain ⟨bd,l10⟩:=q;have HBq:=hid hq;clear hq;rintro e w5 ⟨KK,v,rfl,⟨b3,d3,rfl,hb5⟩,ZE⟩
   try simp only [] at hlb ZE hb5
   have hz5':=KK.size;have HF6:Hid (Gs R w.heap.size q2 wc P 60 #[.string pn,.bool p3,.slice b1 ps.length d1,.slice b2 ls.length d2,.slice b3 bd.length d3] (w5.setCell ⟨P,4,none⟩ (.slice b3 bd.length d3)) l10):=(HF3.out.keeps KK ZE).put 4 (.slice b3 bd.length d3);have HR6:Hid (Gs R w.heap.size q2 w3 P 60 #[.string pn,.bool p3,.slice b1 ps.length d1,.slice b2 ls.length d2,.slice b3 bd.length d3] (w5.setCell ⟨P,4,none⟩ (.slice b3 bd.length d3)) l10):=(HR3.out.keeps KK ZE).put 4 (.slice b3 bd.length d3);have HE1:=hid (HF6.out.at' HPs.out);have HE2:=hid (HR6.out.at' HLs.out);have HE3:Hid (EAt (w5.setCell ⟨P,4,none⟩ (.slice b3 bd.length d3)) (P<·) b3 bd.length (za0 bd)):=(EAt.weak hb5 (A':=(P<·)) (by intro b _ hb;omega)).moves ((Moves.refl w5 _).set (fun k _ hk=>by show k≠P;omega) _);have HKo:=hid (HKq.out.trans HF6.out.ke);have HM6:=hid (HFm.out.keeps HKo.out HF6.out.ez)
   have HO6:=hid (HOm.out.keeps HKo.out (by omega));have HLt:=hid (fun k hk=>(HOm.out.lt k hk).2)
   have HG6:Hid (eProcs (l6.length+1) pb [] l6=eProcs f3 (skB l10 tPub) (acc3++[Pr.mk pn p3 ps ls bd]) (eTk l10 tPub)):=by
    have e1:zhe p3 l7.tail=(Pr.mk pn p3 ps ls bd,l10):=by
     unfold zhe;simp only [HNp.out,HLp.out,HPp.out,HU3.out,HBq.out]
    show _=_;rw [HG3.out,eProcs,if_pos HSp.out,e1]
   obtain ⟨f0,f1,f2,f3',f4,f5⟩:=zaf (HF3.out.keeps KK ZE).cb
   have hqp5:P<w5.heap.size:=by omega
   obtain ⟨m0,m1,m2,m3,m4,m5⟩:=zaf HM6.out.cb;obtain ⟨p0,p1,p2,p3',p4,p5⟩:=zaf HF6.out.cb;have hqm:M<(w5.setCell ⟨P,4,none⟩ (.slice b3 bd.length d3)).heap.size:=zac HM6.out.cb;have hqp:P<(w5.setCell ⟨P,4,none⟩ (.slice b3 bd.length d3)).heap.size:=zac HF6.out.cb
   have hz6':(w5.setCell ⟨P,4,none⟩ (.slice b3 bd.length d3)).heap.size=w5.heap.size:=by simp only [World.size_setCell]
   clear KK ZE hb5 HF3 HR3 HF6 HR6 HPs HLs HKo;go_upto_region 42 with fail;generalize w5.setCell ⟨P,4,none⟩ (.slice b3 bd.length d3)=x2 at *
   have hbz2:wd.heap.size<=x2.heap.size:=by omega
   have hwox:wo.heap.size<=P:=by omega
   clear hz6' f0 f1 f2 f3' f4 f5 hqp5
   go_wp2_with (at_builtin;refine zdz rfl (.tmp 115) (.tmp 117) 24 rfl wd.heap.size 60 _ 5 96 Tryz.underlying24 Tryz.infoP60 rfl (by decide) x2 v3 acc3.length (zf9 acc3) (Pr.mk pn p3 ps ls bd).ds rfl HO6.out _ _ rfl rfl rfl (P<·) (zrh (p:=Pr.mk pn p3 ps ls bd) hfitp HE1.out HE2.out HE3.out) ?_ (by omega) (by decide) (by omega) ?_)
   . intro b _ hb
     exact ⟨by omega,fun h=>by have:=HLt.out b h;omega⟩
   intro g9 c9 w9 HO9 HB9 hz9;have HM9:=hid (HM6.out.belowB HB9 (Nat.le_refl _));obtain ⟨k0,k1,k2,k3,k4,k5⟩:=zaf HM9.out.cb;have hq9:M<w9.heap.size:=zac HM9.out.cb;have HM10:Hid (Gs R w.heap.size W0 wd M 27 #[.string nm,.slice a1 us.length c1,.slice a2 ds.length c2,.slice (some ⟨g9,0,none⟩) (acc3.length+1) c9,.slice none 0 0] (w9.setCell ⟨M,3,none⟩ (.slice (some ⟨g9,0,none⟩) (acc3.length+1) c9)) l10):=HM9.out.put 3 _;have HO10:=hid (HO9.set (p:=⟨M,3,none⟩) (by show M<wd.heap.size;omega) (.slice (some ⟨g9,0,none⟩) (acc3.length+1) c9));clear HO9 HB9 HM9 HM6 HO6 HE1 HE2 HE3 m0 m1 m2 m3 m4 m5 p0 p1 p2 p3' p4 p5;go_wp2_with fail;generalize w9.setCell ⟨M,3,none⟩ (.slice (some ⟨g9,0,none⟩) (acc3.length+1) c9)=w10 at *;refine (zaj R w.heap.size l10 tPub w10 HM10.out.ez (by decide)).mono ?_;rintro e w11 ⟨rfl,ZE,ZK⟩;have HM11:=hid (HM10.out.keeps ZK ZE)
   have HO11:=hid (HO10.out.keeps ZK (by omega));have hlp:=(za7 l10 tPub).len;clear ZE ZK HM10 HO10;go_wp2_with fail;go_roundw
   case rel=>exact ⟨f3,skB l10 tPub,acc3++[Pr.mk pn p3 ps ls bd],eTk l10 tPub,_,rfl,HG6,by omega,by simp;omega,HM11.out,by rw [List.length_append];rw [show zf9 (acc3++[Pr.mk pn p3 ps ls bd])=zf9 acc3++(Pr.mk pn p3 ps ls bd).ds from by simp [zf9]];exact HO11.out⟩
   case measure=>rw [HM11.out.ez.left,HDl3.out];omega
 | false=>
 have HPr:Hid (eProcs (l6.length+1) pb [] l6=(acc3,l7)):=by
  show _=_;rw [HG3.out,eProcs,if_neg (by rw [hs];decide)]
 refine (za2 R w.heap.size l7 tProc wo HFm.out.ez (by decide) hs).mono ?_;rintro e q1 ⟨rfl,ZE,ZK⟩;have HM1:=hid (HFm.out.keeps ZK ZE);have HO1:=hid (HOm.out.keeps ZK (by omega));have hzq1:=ZK.size;clear ZE ZK hs HFm HOm HG3 HDl3 hf3 hacc3;obtain ⟨a3,c3,rfl,hpr⟩:=HO1.out.slice;have HPr1:=hid (low hpr (C:=M) (by omega));have HUs6:=hid (HM1.out.at' HUs5.out);have HDs6:=hid (HM1.out.at' HDsE.out);have HW4:=hid HM1.out.restart;clear hpr HO1 HUs5 HDsE HM1
 obtain ⟨ps,rfl⟩:∃ ps:List Pr,ps=acc3:=⟨acc3,rfl⟩
 go_wp2_with fail;refine (zaj R w.heap.size l7 tMain q1 HW4.out.ez (by decide)).mono ?_;rintro e q2 ⟨rfl,ZE,ZK⟩;have HM2:=hid (HW4.out.keeps ZK ZE);have hzq2:=ZK.size;clear ZE ZK HW4;go_wp2_with fail;refine (zi5 R w.heap.size (eTk l7 tMain) q2 HM2.out.ez).mono ?_;generalize hq:eBlock 6 (eTk l7 tMain)=q at *;obtain ⟨bd,l10⟩:=q;have HBq:=hid hq;clear hq;rintro e w8 ⟨KK,v,rfl,⟨a4,c4,rfl,hb8⟩,ZE⟩
 try simp only [] at ZE hb8
 have hz8':=KK.size;have hMq2:M<q2.heap.size:=zac HM2.out.cb;have HM8:=hid (HM2.out.keeps KK ZE);have HM9:Hid (Gs R w.heap.size W0 q1 M 27 #[.string nm,.slice a1 us.length c1,.slice a2 ds.length c2,.slice a3 ps.length c3,.slice a4 bd.length c4] (w8.setCell ⟨M,4,none⟩ (.slice a4 bd.length c4)) l10):=HM8.out.put 4 (.slice a4 bd.length c4);have HE4:Hid (EAt (w8.setCell ⟨M,4,none⟩ (.slice a4 bd.length c4)) (M<·) a4 bd.length (za0 bd)):=(EAt.weak hb8 (A':=(M<·)) (by intro b _ hb;omega)).moves ((Moves.refl w8 _).set (fun k _ hk=>by show k≠M;omega) _)
 have HEm:Hid (eModule ts=⟨nm,us,ds,ps,bd⟩):=by
  show _=_;unfold eModule;simp only [HN.out,HL3.out,HU3.out,HDs.out,HPr.out,HBq.out]
 have HMR:Hid (zgk (M<·) ⟨nm,us,ds,ps,bd⟩ (w8.setCell ⟨M,4,none⟩ (.slice a4 bd.length c4)) (.agg #[.string nm,.slice a1 us.length c1,.slice a2 ds.length c2,.slice a3 ps.length c3,.slice a4 bd.length c4])):=⟨a1,c1,a2,c2,a3,c3,a4,c4,rfl,hnm,HM9.out.at' HUs6.out,HM9.out.at' HDs6.out,HM9.out.at' HPr1.out,HE4.out⟩
 obtain ⟨hfine,hsm⟩:=zph ts HRt.out hl;rw [HEm.out] at hfine hsm;have HFi:=hid hfine
 have HSm:Hid (Small ⟨nm,us,ds,ps,bd⟩):=fun p hp=>by have:=hsm p hp;omega
 have HZ9:Hid ((w8.setCell ⟨M,4,none⟩ (.slice a4 bd.length c4)).heap[w.heap.size]? = some zcl):=(HM9.out.ke.block w.heap.size hlt0 (by omega)).trans HZ0.out
 have HB9:Hid (Below w.heap.size w (w8.setCell ⟨M,4,none⟩ (.slice a4 bd.length c4))):=⟨(HM9.out.ke.os).trans HB0.out.os,(HM9.out.ke.tape).trans HB0.out.tape,(HM9.out.ke.output).trans HB0.out.output,Nat.le_trans HB0.out.size HM9.out.ke.size,fun k hk=>(HM9.out.ke.block k (by omega) (by omega)).trans (HB0.out.block k hk)⟩
 obtain ⟨h0,h1,h2,h3,h4,h5⟩:=zaf HM8.out.cb;have hqM:M<w8.heap.size:=zac HM8.out.cb;obtain ⟨k0,k1,k2,k3,k4,k5⟩:=zaf HM9.out.cb;have hqM9:M<(w8.setCell ⟨M,4,none⟩ (.slice a4 bd.length c4)).heap.size:=zac HM9.out.cb;have HCb:=hid HM9.out.cb
 have hMl:w.heap.size<M:=by omega
 clear KK ZE hb8 HM2 HM8 HM9 HE4 HUs6 HDs6 HPr1 HN HL3 HU3 HDs HPr HBq hfine hsm;go_upto_region 46 with fail;generalize (w8.setCell ⟨M,4,none⟩ (.slice a4 bd.length c4))=w9 at *;clear h0 h1 h2 h3 h4 h5
 obtain ⟨m,hm⟩:∃ m:Mo,m=⟨nm,us,ds,ps,bd⟩:=⟨_,rfl⟩
 rw [← hm] at HEm HMR HFi HSm
 have hCk:∀ W,Below w9.heap.size w9 W->Calls Tryz.prog 8 #[(.agg #[.string nm,.slice a1 us.length c1,.slice a2 ds.length c2,.slice a3 ps.length c3,.slice a4 bd.length c4])] W fun e w'=>e = .returned (.int .i64 m.err)/\Below W.heap.size W w':=fun W hW=>by
  obtain ⟨b1,d1,b2,d2,b3,d3,b4,d4,hA⟩:=zvk (zgk.moves HMR.out (Moves.of_below hW _)) HFi.out;exact zgq m _ _ _ _ _ _ _ _ _ W hA HSm.out
 have HCk:=hid hCk;clear hCk
 have hTx:m.err=0->∀ W,Below w9.heap.size w9 W->Calls Tryz.prog 56 #[(.agg #[.string nm,.slice a1 us.length c1,.slice a2 ds.length c2,.slice a3 ps.length c3,.slice a4 bd.length c4])] W fun e w'=>e = .returned (.string (strOf (showL (tM m))))/\Below W.heap.size W w':=fun he W hW=>by
  obtain ⟨b1,d1,b2,d2,b3,d3,b4,d4,hA⟩:=zvk (zgk.moves HMR.out (Moves.of_below hW _)) HFi.out;exact zpm Tt m _ _ _ _ _ _ _ _ _ W hA he
 have HTx:=hid hTx;clear hTx;have HTt:=hid (fun W (h:Below w.heap.size w W)=>zo1 a cap ts W (HT.out.later h) hl HRt.out)
 have HFr:Hid (zeq ts=(decide (m.err=0)&&decide (showL (tM m)=showL ts))/\fromM ts=if zeq ts then m else mo0):=by
  refine ⟨?_,?_⟩
  . unfold zeq;rw [HEm.out]
  . unfold fromM;rw [HEm.out]
 clear HEm HFi HSm hm;go_wp2_with fail;refine (HCk.out w9 (Below.refl _ _)).mono ?_;rintro e wa ⟨rfl,hba⟩;have HBa:=hid hba;have hza:=hba.size;have HCa:=hid ((hba.block M hqM9).trans HCb.out);obtain ⟨j0,j1,j2,j3,j4,j5⟩:=zaf HCa.out
 have hqMa:M<wa.heap.size:=by omega
 clear hba HCk
 by_cases he:m.err=0
 . have HTe:=hid (HTx.out he)
   have HFe:Hid (zeq ts=decide (showL (tM m)=showL ts)):=by show _=_;rw [HFr.out.1,he];simp
   rw [he];clear he HTx;go_wp2_with fail;refine (HTe.out wa HBa.out).mono ?_;rintro e wb ⟨rfl,hbb⟩;have HBb:=hid (zab HBa.out hbb);have hzb:=hbb.size;clear hbb HTe;go_wp2_with fail;refine (HTt.out wb (HB9.out.trans (HBb.out.mono HB9.out.size))).mono ?_;rintro e wx ⟨rfl,hbc⟩;have HBc:=hid (zab HBb.out hbc);have hzc:=hbc.size;clear hbc HTt;have HZc:=hid ((HBc.out.block w.heap.size (by omega)).trans HZ9.out);have HCc:=hid ((HBc.out.block M hqM9).trans HCb.out);have HBw:=hid (HB9.out.trans (HBc.out.mono HB9.out.size));have HMc:=hid (zgk.moves HMR.out (Moves.of_below HBc.out _));obtain ⟨h0,h1,h2,h3,h4,h5⟩:=zaf HZc.out;obtain ⟨i0,i1,i2,i3,i4,i5⟩:=zaf HCc.out
   have hqc:M<wx.heap.size:=by omega
   have hqz:w.heap.size<wx.heap.size:=by omega
   have hse:((strOf (showL (tM m))).toList == (strOf (showL ts)).toList)=decide (showL (tM m)=showL ts):=by
    rw [Lib.toList_data,Lib.toList_data,zdh,zdh];exact zip _ _
   by_cases heq:showL (tM m)=showL ts
   . have HFv:Hid (zeq ts=true/\fromM ts=m):=by
      have e1:zeq ts=true:=by rw [HFe.out,heq];simp
      exact ⟨e1,by rw [HFr.out.2,if_pos e1]⟩
     have hse':((strOf (showL (tM m))).toList == (strOf (showL ts)).toList)=true:=by rw [hse,heq];simp
     clear hse heq HFe HFr;generalize strOf (showL (tM m))=T1 at *;generalize strOf (showL ts)=T2 at *;have HFin:Hid (zgk (w.heap.size<=·) m (set5 wx w.heap.size (.string nm) (.slice a1 us.length c1) (.slice a2 ds.length c2) (.slice a3 ps.length c3) (.slice a4 bd.length c4)) (.agg #[.string nm,.slice a1 us.length c1,.slice a2 ds.length c2,.slice a3 ps.length c3,.slice a4 bd.length c4])):=HMc.out.moves (((Moves.refl wx (M<·)).set5 (b:=w.heap.size) (by intro k _ hk;omega) _ _ _ _ _).trans ⟨Nat.le_refl _,fun k _ hk=>⟨by omega,rfl⟩⟩);have HBf:=hid (zc1 HBw.out (Nat.le_refl _) (.string nm) (.slice a1 us.length c1) (.slice a2 ds.length c2) (.slice a3 ps.length c3) (.slice a4 bd.length c4))
     have hne:w.heap.size≠M:=by omega
     go_wp2_with fail;refine bodyPost_ret (v:=.tuple #[(.agg #[.string nm,.slice a1 us.length c1,.slice a2 ds.length c2,.slice a3 ps.length c3,.slice a4 bd.length c4]),.bool true]) (by simp [results,Tryz.results26,go_sem,h0,h1,h2,h3,h4]) rfl ?_;exact ⟨_,by rw [HFv.out.1],by rw [HFv.out.2];exact HFin.out,HBf.out⟩
   . focus
      have HFv:Hid (zeq ts=false/\fromM ts=mo0):=by
       have e1:zeq ts=false:=by rw [HFe.out];exact decide_eq_false heq
       exact ⟨e1,by rw [HFr.out.2,e1];rfl⟩
      have hse':((strOf (showL (tM m))).toList == (strOf (showL ts)).toList)=false:=by rw [hse];exact decide_eq_false heq
      have HBf:=hid (zc1 HBw.out (Nat.le_refl _) (.string ⟨#[]⟩) (.slice none 0 0) (.slice none 0 0) (.slice none 0 0) (.slice none 0 0));clear hse heq HFe HFr;generalize strOf (showL (tM m))=T1 at *;generalize strOf (showL ts)=T2 at *;go_wp2_with fail;refine bodyPost_ret (v:=.tuple #[.agg #[.string ⟨#[]⟩,.slice none 0 0,.slice none 0 0,.slice none 0 0,.slice none 0 0],.bool false]) (by simp [results,Tryz.results26,go_sem,h0,h1,h2,h3,h4]) rfl ?_;exact ⟨_,by rw [HFv.out.1],by rw [HFv.out.2];exact ⟨none,0,none,0,none,0,none,0,rfl,Nat.zero_le _,Or.inl rfl,Or.inl rfl,Or.inl rfl,Or.inl rfl⟩,HBf.out⟩
 . focus
    have HFv:Hid (zeq ts=false/\fromM ts=mo0):=by
     have e1:zeq ts=false:=by rw [HFr.out.1,decide_eq_false he];rfl
     exact ⟨e1,by rw [HFr.out.2,e1];rfl⟩
    have hne0:(m.err != 0)=true:=by simp [he]
    have HZc:=hid ((HBa.out.block w.heap.size (by omega)).trans HZ9.out);have HBw:=hid (HB9.out.trans (HBa.out.mono HB9.out.size));have HBf:=hid (zc1 HBw.out (Nat.le_refl _) (.string ⟨#[]⟩) (.slice none 0 0) (.slice none 0 0) (.slice none 0 0) (.slice none 0 0));obtain ⟨h0,h1,h2,h3,h4,h5⟩:=zaf HZc.out
    have hqz:w.heap.size<wa.heap.size:=by omega
    clear he HTx HTt HFr;generalize m.err=me at *;go_wp2_with fail;refine bodyPost_ret (v:=.tuple #[.agg #[.string ⟨#[]⟩,.slice none 0 0,.slice none 0 0,.slice none 0 0,.slice none 0 0],.bool false]) (by simp [results,Tryz.results26,go_sem,h0,h1,h2,h3,h4]) rfl ?_;exact ⟨_,by rw [HFv.out.1],by rw [HFv.out.2];exact ⟨none,0,none,0,none,0,none,0,rfl,Nat.zero_le _,Or.inl rfl,Or.inl rfl,Or.inl rfl,Or.inl rfl⟩,HBf.out⟩
end Go.Proofs.YtcekpobmbmnplaaGreatDoor
