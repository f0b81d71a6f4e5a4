import Derived.Test.YtndkhgakfodldaaGreatDoorTd
namespace Go.Proofs.YtndkhgakfodldaaGreatDoor
set_option maxRecDepth 100000
set_option maxHeartbeats 1600000
open Go.RowKit Go.Maps
theorem zzf {w w1 w3:World} {o1:Obj} (hb:Below w.heap.size w w1) (h3:Below (w1.alloc o1).heap.size (w1.alloc o1) w3):Below w.heap.size w w3:=by
 have h1:=hb.alloc hb.size o1;exact h1.trans (h3.mono h1.size)
theorem z11 {w w1 w3:World} {o1 o2:Obj} (hb:Below w.heap.size w w1) (h3:Below ((w1.alloc o1).alloc o2).heap.size ((w1.alloc o1).alloc o2) w3):Below w.heap.size w w3:=
 zzf (hb.alloc hb.size o1) h3
theorem thenB {w w1 w3:World} (hb:Below w.heap.size w w1) (h3:Below w1.heap.size w1 w3):Below w.heap.size w w3:=hb.trans (h3.mono hb.size)
theorem al1 (w:World) (o:Obj):Below w.heap.size w (w.alloc o):=(Below.refl _ _).alloc (vaa _) _
theorem al2 (w:World) (o1 o2:Obj):Below w.heap.size w ((w.alloc o1).alloc o2):=(al1 w o1).alloc (by simp) _
structure Blk (w:World) (b:Nat) (cs:List Value):Prop where
 lt:b<w.heap.size
 cell:∀ j v,cs[j]? = some v->w.cell? ⟨b,j,none⟩=some v
theorem Blk.later {w w':World} {b:Nat} {cs:List Value} (h:Blk w b cs) (hb:Below w.heap.size w w'):Blk w' b cs:=
 ⟨vai h.lt hb.size,fun j v hj=>(hb.cell (p:=⟨b,j,none⟩) h.lt).trans (h.cell j v hj)⟩
theorem Blk.new (w:World) (cs:Array Value) (t:TypeId):Blk (w.alloc (.cells cs t)) w.heap.size cs.toList:=
 ⟨by simp,fun j v hj=>by rw [veb (zm2 w _)];simpa using hj⟩
theorem Blk.new1 (w:World) (cs:Array Value) (t:TypeId) (o:Obj):Blk ((w.alloc (.cells cs t)).alloc o) w.heap.size cs.toList:=(Blk.new w cs t).later (al1 _ _)
theorem Blk.new2 (w:World) (cs:Array Value) (t:TypeId) (o:Obj):Blk ((w.alloc o).alloc (.cells cs t)) (w.heap.size+1) cs.toList:=by
 have:=Blk.new (w.alloc o) cs t;simpa using this
theorem Blk.c2 {w:World} {b:Nat} {a0 a1:Value} (h:Blk w b [a0,a1]):w.cell? ⟨b,0,none⟩=some a0/\w.cell? ⟨b,1,none⟩=some a1/\b<w.heap.size:=⟨h.cell 0 _ rfl,h.cell 1 _ rfl,h.lt⟩
theorem Blk.c5 {w:World} {b:Nat} {a0 a1 a2 a3 a4:Value} (h:Blk w b [a0,a1,a2,a3,a4]):w.cell? ⟨b,0,none⟩=some a0/\w.cell? ⟨b,1,none⟩=some a1/\w.cell? ⟨b,2,none⟩=some a2/\w.cell? ⟨b,3,none⟩=some a3/\w.cell? ⟨b,4,none⟩=some a4/\b<w.heap.size:=
 ⟨h.cell 0 _ rfl,h.cell 1 _ rfl,h.cell 2 _ rfl,h.cell 3 _ rfl,h.cell 4 _ rfl,h.lt⟩
theorem Blk.c6 {w:World} {b:Nat} {a0 a1 a2 a3 a4 a5:Value} (h:Blk w b [a0,a1,a2,a3,a4,a5]):w.cell? ⟨b,0,none⟩=some a0/\w.cell? ⟨b,1,none⟩=some a1/\w.cell? ⟨b,2,none⟩=some a2/\w.cell? ⟨b,3,none⟩=some a3/\w.cell? ⟨b,4,none⟩=some a4/\w.cell? ⟨b,5,none⟩=some a5/\b<w.heap.size:=
 ⟨h.cell 0 _ rfl,h.cell 1 _ rfl,h.cell 2 _ rfl,h.cell 3 _ rfl,h.cell 4 _ rfl,h.cell 5 _ rfl,h.lt⟩
theorem zja (be bs:Nat) (A:Nat->Prop):∀ (k:Nat),k<=6->∀ (l:List Ex) (a:OA) (cap:Nat) (deep:Int) (w:World),deep=7 - (k:Int)->DAt w A a l.length (za9 l)->zc8 w be 15 zhm->
 Calls Tryz.prog 235 #[.agg #[.map (some be),.map (some bs)],.slice a l.length cap,.int .i64 deep] w fun e w'=>e = .returned (.bool (zau k l))/\Below w.heap.size w w'
 | 0,_,l,a,cap,deep,w,hd,_,_=>by
   subst hd
   have HR:Hid (zau 0 l=true):=by show _=_;simp [zau]
   go_enter Tryz.func235,Tryz.ntmps235;go_wp2_with fail;go_ret;exact ⟨zab HR.out.symm,(Below.refl _ _).alloc (vaa _) _⟩
 | k + 1, hk,l,a,cap,deep,w,hd,hD,hS=>by
   have HR:Hid (zau (k+1) l=l.all (fun x=>exB x.op&&zau k x.args)):=by show _=_;simp [zau]
   have hbd:=hD.bound
   have hd1:1<=deep:=by omega
   have hd6:deep<=6:=by omega
   have HI:Hid (∀ (l:List Ex) (a:OA) (cap:Nat) (w:World),DAt w A a l.length (za9 l)->zc8 w be 15 zhm->
    Calls Tryz.prog 235 #[.agg #[.map (some be),.map (some bs)],.slice a l.length cap,.int .i64 (deep+1)] w fun e w'=>e = .returned (.bool (zau k l))/\Below w.heap.size w w'):=
    fun l a cap w h1 h2=>zja be bs A k (by omega) l a cap (deep+1) w (by omega) h1 h2
   have HD:Hid (DAt w A a l.length (za9 l)):=hD;have HS:Hid (zc8 w be 15 zhm):=hS;clear hD hS hd;have HB:Hid (Blk (w.alloc (.cells #[.map (some be),.map (some bs)] 235)) w.heap.size [.map (some be),.map (some bs)]):=Blk.new w _ _;go_enter Tryz.func235,Tryz.ntmps235;go_wp2_with fail
   go_loopw [15] (fun i wr=>∃ j:Nat,j<=l.length/\i = .int .i64 j/\(l.take j).all (fun x=>exB x.op&&zau k x.args)=true/\Below w.heap.size w wr/\Blk wr w.heap.size [.map (some be),.map (some bs)]) (fun i _=>l.length - (intOf i).toNat)
   case atStart=>exact ⟨0,vad _,rfl,rfl,al1 _ _,HB.out⟩
   case round=>
    clear HB;obtain ⟨j,hj,rfl,hall,hb,hB⟩:=hrel;have q0:=hB.cell 0 _ rfl;have q1:=hB.cell 1 _ rfl;have qz:=hB.lt;have HB:Hid (Blk wr w.heap.size [.map (some be),.map (some bs)]):=hB;have HA:Hid ((l.take j).all (fun x=>exB x.op&&zau k x.args)=true):=hall;clear hall hB
    by_cases hlt:j<l.length
    . obtain ⟨b,off,aa,cp,rfl,hx⟩:=(HD.out.later hb).ex j hlt
      have hc0:=hx.c0;have hc1:=hx.c1;have hc2:=hx.c2;have hc3:=hx.c3;have hc4:=hx.c4;have hlb:=hx.lt;have HX:Hid (DAt wr A aa l[j].args.length (za9 l[j].args)):=hx.args;have hlk:=((HS.out.later hb).later (al1 _ (.cells #[.int .i64 l[j].op,.int .i64 l[j].n,.string l[j].mod,.string l[j].name,.slice aa l[j].args.length cp] 174))).look_ok hx.wop;simp only [Sh.val] at hlk;clear hx
      cases hop:(zhm l[j].op).isSome with
      | false=>
        rw [hop] at hlk;have HF:Hid (l.all (fun x=>exB x.op&&zau k x.args)=false):=all_not l _ j hlt (by simp [exB,hop]);go_wp2_with fail;go_ret;exact ⟨zab (by rw [HR.out,HF.out]),thenB hb (al2 _ _ _)⟩
      | true=>
        rw [hop] at hlk;go_wp2_with fail;refine (HI.out l[j].args aa cp _ (HX.out.later (al2 _ _ _)) ((HS.out.later hb).later (al2 _ _ _))).mono ?_
        cases hr:zau k l[j].args with
        | false=>
          have HF:Hid (l.all (fun x=>exB x.op&&zau k x.args)=false):=all_not l _ j hlt (by simp [hr]);rintro e w3 ⟨rfl,hb3⟩;go_wp2_with fail;go_ret;exact ⟨zab (by rw [HR.out,HF.out]),z11 hb hb3⟩
        | true=>
          have HT:Hid ((l.take (j+1)).all (fun x=>exB x.op&&zau k x.args)=true):=by
           show _=_
           rw [all_snoc l _ j hlt,HA.out];simp [exB,hop,hr]
          rintro e w3 ⟨rfl,hb3⟩;go_wp2_with fail;go_roundw
          case rel=>exact ⟨j+1,by omega,by go_num,HT.out,z11 hb hb3,HB.out.later (thenB (al2 _ _ _) hb3)⟩
          case measure=>simp [intOf];omega
    . have HT:Hid (l.all (fun x=>exB x.op&&zau k x.args)=true):=zej HA.out hlt
      go_wp2_with fail;go_ret;exact ⟨zab (by rw [HR.out,HT.out]),hb⟩
theorem zk3 (a:OA) (cap:Nat) (deep:Int) (w:World) :
 Calls Tryz.prog 236 #[.slice a 0 cap,.int .i64 deep] w fun e w'=>e = .returned (.bool false)/\Below w.heap.size w w':=by
 go_enter Tryz.func236,Tryz.ntmps236;go_wp2_with fail
 go_loopw [21] (fun i wr=>i = .int .i64 0/\wr=w) (fun _ _=>0)
 case atStart=>exact ⟨rfl,rfl⟩
 case round=>
  obtain ⟨rfl,rfl⟩:=hrel;go_wp2_with fail;go_ret;exact ⟨rfl,Below.refl _ _⟩
theorem zgx (k:Nat) {l:List Ex} (h:l.length=0):zai k l=false:=by
 have:l=[]:=vaj h;subst this
 cases k<;>simp [zai]
theorem zk4 (A:Nat->Prop):∀ (k:Nat),k<=6->∀ (l:List Ex) (a:OA) (cap:Nat) (deep:Int) (w:World),deep=7 - (k:Int)->DAt w A a l.length (za9 l)->
 Calls Tryz.prog 236 #[.slice a l.length cap,.int .i64 deep] w fun e w'=>e = .returned (.bool (zai k l))/\Below w.heap.size w w'
 | 0,_,l,a,cap,deep,w,hd,hD=>by
   subst hd;have hbd:=hD.bound;clear hD
   by_cases h0:l.length=0
   . rw [zgx 0 h0,h0]
     exact zk3 a cap _ w
   . have HR:Hid (zai 0 l=true):=by show _=_;simp [zai];omega
     by_cases h3:3<l.length
     . go_enter Tryz.func236,Tryz.ntmps236
       go_wp2_with fail;go_ret;exact ⟨zab HR.out.symm,Below.refl _ _⟩
     . go_enter Tryz.func236,Tryz.ntmps236
       go_wp2_with fail;go_ret;exact ⟨zab HR.out.symm,Below.refl _ _⟩
 | k + 1, hk,l,a,cap,deep,w,hd,hD=>by
   have HR:Hid (zai (k+1) l=(decide (3<l.length)||l.any (fun x=>zai k x.args))):=by show _=_;simp [zai]
   have hbd:=hD.bound
   have hd1:1<=deep:=by omega
   have hd6:deep<=6:=by omega
   have HI:Hid (∀ (l:List Ex) (a:OA) (cap:Nat) (w:World),DAt w A a l.length (za9 l)->
    Calls Tryz.prog 236 #[.slice a l.length cap,.int .i64 (deep+1)] w fun e w'=>e = .returned (.bool (zai k l))/\Below w.heap.size w w'):=
    fun l a cap w h1=>zk4 A k (by omega) l a cap (deep+1) w (by omega) h1
   have HD:Hid (DAt w A a l.length (za9 l)):=hD;clear hD hd
   by_cases h0:l.length=0
   . rw [zgx (k+1) h0,h0]
     exact zk3 a cap _ w
   have h0':0<l.length:=by omega
   clear h0
   by_cases h3:3<l.length
   . have HT:Hid (zai (k+1) l=true):=by show _=_;rw [HR.out];simp [h3]
     clear hd1;go_enter Tryz.func236,Tryz.ntmps236;go_wp2_with fail;go_ret;exact ⟨zab HT.out.symm,Below.refl _ _⟩
   . have HN : Hid (zai (k+1) l=l.any (fun x=>zai k x.args)):=by show _=_;rw [HR.out];simp [h3]
     clear HR;go_enter Tryz.func236,Tryz.ntmps236;go_wp2_with fail
     . go_loopw [21] (fun i wr=>∃ j:Nat,j<=l.length/\i = .int .i64 j/\(l.take j).any (fun x=>zai k x.args)=false/\Below w.heap.size w wr) (fun i _=>l.length - (intOf i).toNat)
       case atStart=>exact ⟨0,vad _,rfl,rfl,Below.refl _ _⟩
       case round=>
        obtain ⟨j,hj,rfl,hall,hb⟩:=hrel;have HA:Hid ((l.take j).any (fun x=>zai k x.args)=false):=hall;clear hall
        by_cases hlt:j<l.length
        . obtain ⟨b,off,aa,cp,rfl,hx⟩:=(HD.out.later hb).ex j hlt
          have hc0:=hx.c0;have hc1:=hx.c1;have hc2:=hx.c2;have hc3:=hx.c3;have hc4:=hx.c4;have hlb:=hx.lt;have HX:Hid (DAt wr A aa l[j].args.length (za9 l[j].args)):=hx.args;clear hx;go_wp2_with fail;refine (HI.out l[j].args aa cp _ (HX.out.later (al1 _ _))).mono ?_
          cases hr:zai k l[j].args with
          | true=>
            have HF:Hid (l.any (fun x=>zai k x.args)=true):=zbj l _ j hlt hr;rintro e w3 ⟨rfl,hb3⟩;go_wp2_with fail;go_ret;exact ⟨zab (by rw [HN.out,HF.out]),zzf hb hb3⟩
          | false=>
            have HT:Hid ((l.take (j+1)).any (fun x=>zai k x.args)=false):=by
             show _=_
             rw [zat l _ j hlt,HA.out];simp [hr]
            rintro e w3 ⟨rfl,hb3⟩;go_wp2_with fail;go_roundw
            case rel=>exact ⟨j+1,by omega,by go_num,HT.out,zzf hb hb3⟩
            case measure=>simp [intOf];omega
        . have HT:Hid (l.any (fun x=>zai k x.args)=false):=zbh HA.out hlt
          go_wp2_with fail;go_ret;exact ⟨zab (by rw [HN.out,HT.out]),hb⟩
theorem zoz {k:Nat} {l:List Ex} (h:zai (k+1) l=false) (j:Nat) (hj:j<l.length):zai k l[j].args=false:=by
 simp only [zai,vap,vau] at h;have:=h.2 l[j] (vah hj);simpa using this
theorem zr1 (be bs:Nat) (A:Nat->Prop):∀ (k:Nat) (l:List Ex) (a:OA) (cap:Nat) (w:World),DAt w A a l.length (za9 l)->zc8 w be 15 zhm->zai k l=false->
 Calls Tryz.prog 244 #[.agg #[.map (some be),.map (some bs)],.slice a l.length cap] w fun e w'=>e = .returned (.bool (zbc k l))/\Below w.heap.size w w':=by
 intro k
 induction k with
 | zero=>
   intro l a cap w hD hS hM
   have h0:l.length=0:=by simp [zai] at hM;simp [hM]
   have HR:Hid (zbc 0 l=true):=by show _=_;simp [zbc]
   rw [h0];go_enter Tryz.func244,Tryz.ntmps244;go_wp2_with fail
   go_loopw [10] (fun i wr=>i = .int .i64 0/\Below w.heap.size w wr) (fun _ _=>0)
   case atStart=>exact ⟨rfl,al1 _ _⟩
   case round=>
    obtain ⟨rfl,hb⟩:=hrel;go_wp2_with fail;go_ret;exact ⟨zab HR.out.symm,hb⟩
 | succ k ih=>
   intro l a cap w hD hS hM
   have HR:Hid (zbc (k+1) l=l.all (fun x=>zca (exS x.op) x.mod x.name&&(nOk (exS x.op) x.n&&(zas (exS x.op) x.args.length&&zbc k x.args)))):=by show _=_;simp [zbc]
   have hbd:=hD.bound
   have HI:Hid (∀ (l:List Ex) (a:OA) (cap:Nat) (w:World),DAt w A a l.length (za9 l)->zc8 w be 15 zhm->zai k l=false->
    Calls Tryz.prog 244 #[.agg #[.map (some be),.map (some bs)],.slice a l.length cap] w fun e w'=>e = .returned (.bool (zbc k l))/\Below w.heap.size w w'):=ih
   have HD:Hid (DAt w A a l.length (za9 l)):=hD;have HS:Hid (zc8 w be 15 zhm):=hS;have HM:Hid (∀ (j:Nat) (hj:j<l.length),zai k l[j].args=false):=zoz hM;clear hD hS ih hM;have HB:Hid (Blk (w.alloc (.cells #[.map (some be),.map (some bs)] 235)) w.heap.size [.map (some be),.map (some bs)]):=Blk.new w _ _;go_enter Tryz.func244,Tryz.ntmps244;go_wp2_with fail
   go_loopw [10] (fun i wr=>∃ j:Nat,j<=l.length/\i = .int .i64 j/\(l.take j).all (fun x=>zca (exS x.op) x.mod x.name&&(nOk (exS x.op) x.n&&(zas (exS x.op) x.args.length&&zbc k x.args)))=true/\Below w.heap.size w wr/\Blk wr w.heap.size [.map (some be),.map (some bs)]) (fun i _=>l.length - (intOf i).toNat)
   case atStart=>exact ⟨0,vad _,rfl,rfl,al1 _ _,HB.out⟩
   case round =>
    clear HB;obtain ⟨j,hj,rfl,hall,hb,hB⟩:=hrel;have q0:=hB.cell 0 _ rfl;have q1:=hB.cell 1 _ rfl;have qz:=hB.lt;have HB:Hid (Blk wr w.heap.size [.map (some be),.map (some bs)]):=hB;have HA:Hid ((l.take j).all (fun x=>zca (exS x.op) x.mod x.name&&(nOk (exS x.op) x.n&&(zas (exS x.op) x.args.length&&zbc k x.args)))=true):=hall;clear hall hB
    by_cases hlt:j<l.length
    . obtain ⟨b,off,aa,cp,rfl,hx⟩:=(HD.out.later hb).ex j hlt
      have hc0:=hx.c0;have hc1:=hx.c1;have hc2:=hx.c2;have hc3:=hx.c3;have hc4:=hx.c4;have hlb:=hx.lt;have HX:Hid (ExAt wr A b (off+j*5) l[j] aa cp):=hx
      have HF:Hid (∀ c:Bool,(zca (exS l[j].op) l[j].mod l[j].name&&(nOk (exS l[j].op) l[j].n&&(zas (exS l[j].op) l[j].args.length&&zbc k l[j].args)))=false->zbc (k+1) l=false):=fun _ h=>by rw [HR.out];exact all_not l _ j hlt h
      have HT:Hid ((zca (exS l[j].op) l[j].mod l[j].name&&(nOk (exS l[j].op) l[j].n&&(zas (exS l[j].op) l[j].args.length&&zbc k l[j].args)))=true->(l.take (j+1)).all (fun x=>zca (exS x.op) x.mod x.name&&(nOk (exS x.op) x.n&&(zas (exS x.op) x.args.length&&zbc k x.args)))=true):=fun h=>by
       rw [all_snoc l _ j hlt,HA.out,h];rfl
      have hlk:=((HS.out.later hb).later (al1 _ (.cells #[.int .i64 l[j].op,.int .i64 l[j].n,.string l[j].mod,.string l[j].name,.slice aa l[j].args.length cp] 174))).look hx.wop;clear hx;have hlk':(Instr.lookup 232 (.map (some be)) (.int .i64 l[j].op) false).run Tryz.prog (wr.alloc (.cells #[.int .i64 l[j].op,.int .i64 l[j].n,.string l[j].mod,.string l[j].name,.slice aa l[j].args.length cp] 174)) = .ok (exS l[j].op).val (wr.alloc (.cells #[.int .i64 l[j].op,.int .i64 l[j].n,.string l[j].mod,.string l[j].name,.slice aa l[j].args.length cp] 174)):=hlk;clear hlk;generalize hs:exS l[j].op=s at hlk' HF HT;clear hs;simp only [Sh.val] at hlk';go_wp2_with fail;refine (zil s l[j].mod l[j].name _ HX.out.wm HX.out.wna).mono ?_
      cases h1:zca s l[j].mod l[j].name with
      | false=>
        rintro e w3 ⟨rfl,c3⟩;have hb3:Below wr.heap.size wr w3:=thenB (al2 _ _ _) c3;clear c3;go_wp2_with fail;go_ret;exact ⟨zab (HF.out true (by simp [h1])).symm,thenB hb hb3⟩
      | true=>
        rintro e w3 ⟨rfl,c3⟩;have B0:=(HB.out.later (al2 _ _ _)).later c3;have B1:=(Blk.new1 wr #[.int .i64 l[j].op,.int .i64 l[j].n,.string l[j].mod,.string l[j].name,.slice aa l[j].args.length cp] 174 _).later c3;have B2:=(Blk.new2 wr #[.bool s.named,.bool s.number,.int .i64 s.least,.int .i64 s.most,.bool s.body,.bool s.other] 270 _).later c3;have hb3:Below wr.heap.size wr w3:=thenB (al2 _ _ _) c3;clear c3 q0 q1 qz;obtain ⟨q0,q1,qz⟩:=B0.c2;obtain ⟨x0,x1,x2,x3,x4,xz⟩:=B1.c5;obtain ⟨y0,y1,y2,y3,y4,y5,yz⟩:=B2.c6;have K0:Hid (Blk w3 w.heap.size [.map (some be),.map (some bs)]):=B0;have K1:Hid (Blk w3 wr.heap.size [.int .i64 l[j].op,.int .i64 l[j].n,.string l[j].mod,.string l[j].name,.slice aa l[j].args.length cp]):=B1;have K2:Hid (Blk w3 (wr.heap.size+1) [.bool s.named,.bool s.number,.int .i64 s.least,.int .i64 s.most,.bool s.body,.bool s.other]):=B2
        clear B0 B1 B2;go_wp2_with fail;refine (zj7 s l[j].n _).mono ?_
        cases h2:nOk s l[j].n with
        | false=>
          rintro e w4 ⟨rfl,c4⟩;have hb4:=thenB hb3 c4;clear c4;go_wp2_with fail;go_ret;exact ⟨zab (HF.out true (by simp [h2])).symm,thenB hb hb4⟩
        | true=>
          rintro e w4 ⟨rfl,c4⟩;have B0:=K0.out.later c4;have B1:=K1.out.later c4;have B2:=K2.out.later c4;have hb4:=thenB hb3 c4;clear c4 K0 K1 K2;clear q0 q1 qz x0 x1 x2 x3 x4 xz y0 y1 y2 y3 y4 y5 yz;obtain ⟨q0,q1,qz⟩:=B0.c2;obtain ⟨x0,x1,x2,x3,x4,xz⟩:=B1.c5;obtain ⟨y0,y1,y2,y3,y4,y5,yz⟩:=B2.c6;have K0:Hid (Blk w4 w.heap.size [.map (some be),.map (some bs)]):=B0;have K1:Hid (Blk w4 wr.heap.size [.int .i64 l[j].op,.int .i64 l[j].n,.string l[j].mod,.string l[j].name,.slice aa l[j].args.length cp]):=B1;have K2:Hid (Blk w4 (wr.heap.size+1) [.bool s.named,.bool s.number,.int .i64 s.least,.int .i64 s.most,.bool s.body,.bool s.other]):=B2;clear B0 B1 B2;go_wp2_with fail;refine (zgb s aa l[j].args.length cp _).mono ?_
          cases h3:zas s l[j].args.length with
          | false=>
            rintro e w5 ⟨rfl,c5⟩;have hb5:=thenB hb4 c5;clear c5;go_wp2_with fail;go_ret;exact ⟨zab (HF.out true (by simp [h3])).symm,thenB hb hb5⟩
          | true=>
            rintro e w5 ⟨rfl,c5⟩;have B0:=K0.out.later c5;have B1:=K1.out.later c5;have B2:=K2.out.later c5;have hb5:=thenB hb4 c5;clear c5 K0 K1 K2;clear q0 q1 qz x0 x1 x2 x3 x4 xz y0 y1 y2 y3 y4 y5 yz;obtain ⟨q0,q1,qz⟩:=B0.c2;obtain ⟨x0,x1,x2,x3,x4,xz⟩:=B1.c5;obtain ⟨y0,y1,y2,y3,y4,y5,yz⟩:=B2.c6;have K0:Hid (Blk w5 w.heap.size [.map (some be),.map (some bs)]):=B0;have K1:Hid (Blk w5 wr.heap.size [.int .i64 l[j].op,.int .i64 l[j].n,.string l[j].mod,.string l[j].name,.slice aa l[j].args.length cp]):=B1;have K2:Hid (Blk w5 (wr.heap.size+1) [.bool s.named,.bool s.number,.int .i64 s.least,.int .i64 s.most,.bool s.body,.bool s.other]):=B2;clear B0 B1 B2;go_wp2_with fail;refine (HI.out l[j].args aa cp _ (HX.out.args.later hb5) ((HS.out.later hb).later hb5) (HM.out j hlt)).mono ?_
            cases h4:zbc k l[j].args with
            | false=>
              rintro e w6 ⟨rfl,c6⟩;have hb6:=thenB hb5 c6;clear c6;go_wp2_with fail;go_ret;exact ⟨zab (HF.out true (by simp [h4])).symm,thenB hb hb6⟩
            | true=>
              rintro e w6 ⟨rfl,c6⟩;have hb6:=thenB hb5 c6;have B0:=K0.out.later c6;clear c6;have HT':Hid ((l.take (j+1)).all (fun x=>zca (exS x.op) x.mod x.name&&(nOk (exS x.op) x.n&&(zas (exS x.op) x.args.length&&zbc k x.args)))=true):=HT.out (by simp [h1,h2,h3,h4]);go_wp2_with fail;go_roundw
              case rel=>exact ⟨j+1,by omega,by go_num,HT'.out,thenB hb hb6,B0⟩
              case measure=>simp [intOf];omega
    . have HT:Hid (l.all (fun x=>zca (exS x.op) x.mod x.name&&(nOk (exS x.op) x.n&&(zas (exS x.op) x.args.length&&zbc k x.args)))=true):=zej HA.out hlt
      go_wp2_with fail;go_ret;exact ⟨zab (by rw [HR.out,HT.out]),hb⟩
set_option maxHeartbeats 3200000
theorem zwx (a0 a1:Bool) (a2 a3:Int) (a4 a5:Bool) (w:World):(Instr.field 270 (.agg #[.bool a0,.bool a1,.int .i64 a2,.int .i64 a3,.bool a4,.bool a5]) 4).run Tryz.prog w = .ok (.bool a4) w:=by kernel_rfl
theorem zjb (be bs:Nat) (A:Nat->Prop):∀ (k:Nat),k<=6->∀ (l:List St) (a:OA) (cap:Nat) (deep:Int) (w:World),deep=7 - (k:Int)->DAt w A a l.length (za2 l)->zc8 w be 15 zhm->zc8 w bs 7 zi5->
 Calls Tryz.prog 184 #[.agg #[.map (some be),.map (some bs)],.slice a l.length cap,.int .i64 deep] w fun e w'=>e = .returned (.bool (zal k l))/\Below w.heap.size w w'
 | 0,_,l,a,cap,deep,w,hd,_,_,_=>by
   subst hd
   have HR:Hid (zal 0 l=true):=by show _=_;simp [zal]
   go_enter Tryz.func184,Tryz.ntmps184;go_wp2_with fail;go_ret;exact ⟨zab HR.out.symm,al1 _ _⟩
 | k + 1, hk, l,a,cap,deep,w,hd,hD,hS,hT=>by
   have HR:Hid (zal (k+1) l=l.all (fun s=>stB s.op&&(zau 6 s.args&&(zal k s.body&&zal k s.other)))):=by show _=_;simp [zal]
   have hbd:=hD.bound
   have hd1:1<=deep:=by omega
   have hd6:deep<=6:=by omega
   have HI:Hid (∀ (l:List St) (a:OA) (cap:Nat) (w:World),DAt w A a l.length (za2 l)->zc8 w be 15 zhm->zc8 w bs 7 zi5->
    Calls Tryz.prog 184 #[.agg #[.map (some be),.map (some bs)],.slice a l.length cap,.int .i64 (deep+1)] w fun e w'=>e = .returned (.bool (zal k l))/\Below w.heap.size w w'):=
    fun l a cap w h1 h2 h3=>zjb be bs A k (by omega) l a cap (deep+1) w (by omega) h1 h2 h3
   have HD:Hid (DAt w A a l.length (za2 l)):=hD;have HS:Hid (zc8 w be 15 zhm):=hS;have HU:Hid (zc8 w bs 7 zi5):=hT;clear hD hS hT hd;have HB:Hid (Blk (w.alloc (.cells #[.map (some be),.map (some bs)] 235)) w.heap.size [.map (some be),.map (some bs)]):=Blk.new w _ _;go_enter Tryz.func184,Tryz.ntmps184;go_wp2_with fail
   go_loopw [15] (fun i wr=>∃ j:Nat,j<=l.length/\i = .int .i64 j/\(l.take j).all (fun s=>stB s.op&&(zau 6 s.args&&(zal k s.body&&zal k s.other)))=true/\Below w.heap.size w wr/\Blk wr w.heap.size [.map (some be),.map (some bs)]) (fun i _=>l.length - (intOf i).toNat)
   case atStart=>exact ⟨0,vad _,rfl,rfl,al1 _ _,HB.out⟩
   case round =>
    clear HB;obtain ⟨j,hj,rfl,hall,hb,hB⟩:=hrel;have q0:=hB.cell 0 _ rfl;have q1:=hB.cell 1 _ rfl;have qz:=hB.lt;have HB:Hid (Blk wr w.heap.size [.map (some be),.map (some bs)]):=hB;have HA:Hid ((l.take j).all (fun s=>stB s.op&&(zau 6 s.args&&(zal k s.body&&zal k s.other)))=true):=hall;clear hall hB
    by_cases hlt:j<l.length
    . obtain ⟨b,off,a1,p1,a2,p2,a3,p3,rfl,hx⟩:=(HD.out.later hb).st j hlt
      have hc0:=hx.c0;have hc1:=hx.c1;have hc2:=hx.c2;have hc3:=hx.c3;have hc4:=hx.c4;have hc5:=hx.c5;have hlb:=hx.lt;have hn1:=hx.args.bound;have hn2:=hx.body.bound;have hn3:=hx.other.bound;have HX:Hid (StAt wr A b (off+j*6) l[j] a1 p1 a2 p2 a3 p3):=hx
      have HF:Hid ((stB l[j].op&&(zau 6 l[j].args&&(zal k l[j].body&&zal k l[j].other)))=false->zal (k+1) l=false):=fun h=>by rw [HR.out];exact all_not l _ j hlt h
      have HT:Hid ((stB l[j].op&&(zau 6 l[j].args&&(zal k l[j].body&&zal k l[j].other)))=true->(l.take (j+1)).all (fun s=>stB s.op&&(zau 6 s.args&&(zal k s.body&&zal k s.other)))=true):=fun h=>by rw [all_snoc l _ j hlt,HA.out,h];rfl
      have hlk:=((HU.out.later hb).later (al1 _ (.cells #[.int .i64 l[j].op,.string l[j].mod,.string l[j].name,.slice a1 l[j].args.length p1,.slice a2 l[j].body.length p2,.slice a3 l[j].other.length p3] 176))).look_ok hx.wop;clear hx
      cases hop:(zi5 l[j].op).isSome with
      | false=>
        rw [hop] at hlk;simp only [Sh.val] at hlk;go_wp2_with fail;go_ret;exact ⟨zab (HF.out (by simp [stB,hop])).symm,thenB hb (al2 _ _ _)⟩
      | true=>
        rw [hop] at hlk;generalize hs:(zi5 l[j].op).getD sh0=s at hlk;simp only [Sh.val] at hlk;clear hs;go_wp2_with fail;refine (zja be bs A 6 (by omega) l[j].args a1 p1 1 _ (by omega) (HX.out.args.later (al2 _ _ _)) ((HS.out.later hb).later (al2 _ _ _))).mono ?_
        cases h1:zau 6 l[j].args with
        | false=>
          rintro e w3 ⟨rfl,c3⟩;go_wp2_with fail;go_ret;exact ⟨zab (HF.out (by simp [h1])).symm,z11 hb c3⟩
        | true=>
          rintro e w3 ⟨rfl,c3⟩;have B0:=(HB.out.later (al2 _ _ _)).later c3;have B1:=(Blk.new1 wr #[.int .i64 l[j].op,.string l[j].mod,.string l[j].name,.slice a1 l[j].args.length p1,.slice a2 l[j].body.length p2,.slice a3 l[j].other.length p3] 176 _).later c3;have hb3:Below wr.heap.size wr w3:=thenB (al2 _ _ _) c3;clear c3 q0 q1 qz;obtain ⟨q0,q1,qz⟩:=B0.c2;obtain ⟨x0,x1,x2,x3,x4,x5,xz⟩:=B1.c6;have K0:Hid (Blk w3 w.heap.size [.map (some be),.map (some bs)]):=B0;have K1:Hid (Blk w3 wr.heap.size [.int .i64 l[j].op,.string l[j].mod,.string l[j].name,.slice a1 l[j].args.length p1,.slice a2 l[j].body.length p2,.slice a3 l[j].other.length p3]):=B1;clear B0 B1;go_wp2_with fail;refine (HI.out l[j].body a2 p2 _ (HX.out.body.later hb3) ((HS.out.later hb).later hb3) ((HU.out.later hb).later hb3)).mono ?_
          cases h2:zal k l[j].body with
          | false=>
            rintro e w4 ⟨rfl,c4⟩;have hb4:=thenB hb3 c4;clear c4;go_wp2_with fail;go_ret;exact ⟨zab (HF.out (by simp [h2])).symm,thenB hb hb4⟩
          | true=>
            rintro e w4 ⟨rfl,c4⟩;have B0:=K0.out.later c4;have B1:=K1.out.later c4;have hb4:=thenB hb3 c4;clear c4 K0 K1;clear q0 q1 qz x0 x1 x2 x3 x4 x5 xz;obtain ⟨q0,q1,qz⟩:=B0.c2;obtain ⟨x0,x1,x2,x3,x4,x5,xz⟩:=B1.c6;have K0:Hid (Blk w4 w.heap.size [.map (some be),.map (some bs)]):=B0;have K1:Hid (Blk w4 wr.heap.size [.int .i64 l[j].op,.string l[j].mod,.string l[j].name,.slice a1 l[j].args.length p1,.slice a2 l[j].body.length p2,.slice a3 l[j].other.length p3]):=B1;clear B0 B1;go_wp2_with fail;refine (HI.out l[j].other a3 p3 _ (HX.out.other.later hb4) ((HS.out.later hb).later hb4) ((HU.out.later hb).later hb4)).mono ?_
            cases h3:zal k l[j].other with
            | false=>
              rintro e w5 ⟨rfl,c5⟩;have hb5:=thenB hb4 c5;clear c5;go_wp2_with fail;go_ret;exact ⟨zab (HF.out (by simp [h3])).symm,thenB hb hb5⟩
            | true=>
              rintro e w5 ⟨rfl,c5⟩;have K0':=K0.out.later c5;have hb5:=thenB hb4 c5;clear c5;have HT':Hid ((l.take (j+1)).all (fun s=>stB s.op&&(zau 6 s.args&&(zal k s.body&&zal k s.other)))=true):=HT.out (by simp [stB,hop,h1,h2,h3]);go_wp2_with fail;go_roundw
              case rel=>exact ⟨j+1,by omega,by go_num,HT'.out,thenB hb hb5,K0'⟩
              case measure=>simp [intOf];omega
    . have HT:Hid (l.all (fun s=>stB s.op&&(zau 6 s.args&&(zal k s.body&&zal k s.other)))=true):=zej HA.out hlt
      go_wp2_with fail;go_ret;exact ⟨zab (by rw [HR.out,HT.out]),hb⟩
theorem zk5 (be bs:Nat) (A:Nat->Prop):∀ (k:Nat),k<=6->∀ (l:List St) (a:OA) (cap:Nat) (deep:Int) (w:World),deep=7 - (k:Int)->DAt w A a l.length (za2 l)->zc8 w be 15 zhm->zc8 w bs 7 zi5->
 Calls Tryz.prog 185 #[.agg #[.map (some be),.map (some bs)],.slice a l.length cap,.int .i64 deep] w fun e w'=>e = .returned (.bool (zag k l))/\Below w.heap.size w w'
 | 0,_,l,a,cap,deep,w,hd,_,_,_=>by
   subst hd
   have HR:Hid (zag 0 l=true):=by show _=_;simp [zag]
   go_enter Tryz.func185,Tryz.ntmps185;go_wp2_with fail;go_ret;exact ⟨zab HR.out.symm,al1 _ _⟩
 | k + 1, hk, l,a,cap,deep,w,hd,hD,hS,hT=>by
   have HR:Hid (zag (k+1) l=(decide (10<l.length)||l.any (fun s=>zai 6 s.args||(((stS s.op).body||decide (0<s.body.length))&&zag k s.body||(decide (0<s.other.length)&&zag k s.other))))):=by show _=_;simp [zag]
   have hbd:=hD.bound
   have hd1:1<=deep:=by omega
   have hd6:deep<=6:=by omega
   have HI:Hid (∀ (l:List St) (a:OA) (cap:Nat) (w:World),DAt w A a l.length (za2 l)->zc8 w be 15 zhm->zc8 w bs 7 zi5->
    Calls Tryz.prog 185 #[.agg #[.map (some be),.map (some bs)],.slice a l.length cap,.int .i64 (deep+1)] w fun e w'=>e = .returned (.bool (zag k l))/\Below w.heap.size w w'):=
    fun l a cap w h1 h2 h3=>zk5 be bs A k (by omega) l a cap (deep+1) w (by omega) h1 h2 h3
   have HD:Hid (DAt w A a l.length (za2 l)):=hD;have HS:Hid (zc8 w be 15 zhm):=hS;have HU:Hid (zc8 w bs 7 zi5):=hT;clear hD hS hT hd;have HB:Hid (Blk (w.alloc (.cells #[.map (some be),.map (some bs)] 235)) w.heap.size [.map (some be),.map (some bs)]):=Blk.new w _ _
   by_cases h10:10<l.length
   . have HN:Hid (zag (k+1) l=true):=by show _=_;rw [HR.out];simp [h10]
     go_enter Tryz.func185,Tryz.ntmps185;go_wp2_with fail;go_ret;exact ⟨zab HN.out.symm,al1 _ _⟩
   have HN:Hid (zag (k+1) l=l.any (fun s=>zai 6 s.args||(((stS s.op).body||decide (0<s.body.length))&&zag k s.body||(decide (0<s.other.length)&&zag k s.other)))):=by show _=_;rw [HR.out];simp [h10]
   clear HR;go_enter Tryz.func185,Tryz.ntmps185;go_wp2_with fail
   go_loopw [18] (fun i wr=>∃ j:Nat,j<=l.length/\i = .int .i64 j/\(l.take j).any (fun s=>zai 6 s.args||(((stS s.op).body||decide (0<s.body.length))&&zag k s.body||(decide (0<s.other.length)&&zag k s.other)))=false/\Below w.heap.size w wr/\Blk wr w.heap.size [.map (some be),.map (some bs)]) (fun i _=>l.length - (intOf i).toNat)
   case atStart=>exact ⟨0,vad _,rfl,rfl,al1 _ _,HB.out⟩
   case round =>
    clear HB;obtain ⟨j,hj,rfl,hall,hb,hB⟩:=hrel;have q0:=hB.cell 0 _ rfl;have q1:=hB.cell 1 _ rfl;have qz:=hB.lt;have HB:Hid (Blk wr w.heap.size [.map (some be),.map (some bs)]):=hB;have HA:Hid ((l.take j).any (fun s=>zai 6 s.args||(((stS s.op).body||decide (0<s.body.length))&&zag k s.body||(decide (0<s.other.length)&&zag k s.other)))=false):=hall;clear hall hB
    by_cases hlt:j<l.length
    . obtain ⟨b,off,a1,p1,a2,p2,a3,p3,rfl,hx⟩:=(HD.out.later hb).st j hlt
      have hc0:=hx.c0;have hc1:=hx.c1;have hc2:=hx.c2;have hc3:=hx.c3;have hc4:=hx.c4;have hc5:=hx.c5;have hlb:=hx.lt;have hn1:=hx.args.bound;have hn2:=hx.body.bound;have hn3:=hx.other.bound;have HX:Hid (StAt wr A b (off+j*6) l[j] a1 p1 a2 p2 a3 p3):=hx
      have HF:Hid ((zai 6 l[j].args||(((stS l[j].op).body||decide (0<l[j].body.length))&&zag k l[j].body||(decide (0<l[j].other.length)&&zag k l[j].other)))=true->zag (k+1) l=true):=fun h=>by rw [HN.out];exact zbj l _ j hlt h
      have HT:Hid ((zai 6 l[j].args||(((stS l[j].op).body||decide (0<l[j].body.length))&&zag k l[j].body||(decide (0<l[j].other.length)&&zag k l[j].other)))=false->(l.take (j+1)).any (fun s=>zai 6 s.args||(((stS s.op).body||decide (0<s.body.length))&&zag k s.body||(decide (0<s.other.length)&&zag k s.other)))=false):=fun h=>by rw [zat l _ j hlt,HA.out,h];rfl
      clear hx;go_wp2_with fail;refine (zk4 A 6 (by omega) l[j].args a1 p1 1 _ (by omega) (HX.out.args.later (al1 _ _))).mono ?_
      cases h1:zai 6 l[j].args with
      | true=>
        rintro e w3 ⟨rfl,c3⟩;go_wp2_with fail;go_ret;exact ⟨zab (HF.out (by simp [h1])).symm,zzf hb c3⟩
      | false =>
        rintro e w3 ⟨rfl,c3⟩;have B0:=(HB.out.later (al1 _ _)).later c3;have B1:=(Blk.new wr #[.int .i64 l[j].op,.string l[j].mod,.string l[j].name,.slice a1 l[j].args.length p1,.slice a2 l[j].body.length p2,.slice a3 l[j].other.length p3] 176).later c3;have hb3:Below wr.heap.size wr w3:=thenB (al1 _ _) c3;clear c3 q0 q1 qz;obtain ⟨q0,q1,qz⟩:=B0.c2;obtain ⟨x0,x1,x2,x3,x4,x5,xz⟩:=B1.c6;have K0:Hid (Blk w3 w.heap.size [.map (some be),.map (some bs)]):=B0;have K1:Hid (Blk w3 wr.heap.size [.int .i64 l[j].op,.string l[j].mod,.string l[j].name,.slice a1 l[j].args.length p1,.slice a2 l[j].body.length p2,.slice a3 l[j].other.length p3]):=B1;clear B0 B1;have hlk:(Instr.lookup 232 (.map (some bs)) (.int .i64 l[j].op) false).run Tryz.prog w3 = .ok (stS l[j].op).val w3:=((HU.out.later hb).later hb3).look HX.out.wop;simp only [Sh.val] at hlk;have hfd:=zwx
        cases hbo:(stS l[j].op).body with
        | true=>
          rw [hbo] at hlk
          have HG:Hid (((stS l[j].op).body||decide (0<l[j].body.length))=true):=by show _=_;simp [hbo]
          clear hbo;go_wp2_with fail;refine (HI.out l[j].body a2 p2 _ (HX.out.body.later hb3) ((HS.out.later hb).later hb3) ((HU.out.later hb).later hb3)).mono ?_
          cases h2:zag k l[j].body with
          | true=>
            rintro e w4 ⟨rfl,c4⟩;have hb4:=thenB hb3 c4;clear c4;go_wp2_with fail;go_ret;exact ⟨zab (HF.out (by simp [HG.out,h2])).symm,thenB hb hb4⟩
          | false=>
            rintro e w4 ⟨rfl,c4⟩;have B0:=K0.out.later c4;have B1:=K1.out.later c4;have hb4:=thenB hb3 c4;clear c4 K0 K1;clear q0 q1 qz x0 x1 x2 x3 x4 x5 xz;obtain ⟨q0,q1,qz⟩:=B0.c2;obtain ⟨x0,x1,x2,x3,x4,x5,xz⟩:=B1.c6;have K0:Hid (Blk w4 w.heap.size [.map (some be),.map (some bs)]):=B0;have K1:Hid (Blk w4 wr.heap.size [.int .i64 l[j].op,.string l[j].mod,.string l[j].name,.slice a1 l[j].args.length p1,.slice a2 l[j].body.length p2,.slice a3 l[j].other.length p3]):=B1;clear B0 B1
            have HQ:Hid ((((stS l[j].op).body||decide (0<l[j].body.length))&&zag k l[j].body)=false):=by show _=_;simp [h2]
            by_cases h5:0<l[j].other.length
            . go_wp2_with fail
              refine (HI.out l[j].other a3 p3 _ (HX.out.other.later hb4) ((HS.out.later hb).later hb4) ((HU.out.later hb).later hb4)).mono ?_
              cases h6:zag k l[j].other with
              | true=>
                rintro e w9 ⟨rfl,c9⟩;have hb9:=thenB hb4 c9;clear c9;go_wp2_with fail;go_ret;exact ⟨zab (HF.out (by simp [h5,h6])).symm,thenB hb hb9⟩
              | false=>
                rintro e w9 ⟨rfl,c9⟩;have K0':=K0.out.later c9;have hb9:=thenB hb4 c9;clear c9;have HT':Hid ((l.take (j+1)).any (fun s=>zai 6 s.args||(((stS s.op).body||decide (0<s.body.length))&&zag k s.body||(decide (0<s.other.length)&&zag k s.other)))=false):=HT.out (by simp [h1,h6,HQ.out]);go_wp2_with fail;go_roundw
                case rel=>exact ⟨j+1,by omega,by go_num,HT'.out,thenB hb hb9,K0'⟩
                case measure=>simp [intOf];omega
            . have HT':Hid ((l.take (j+1)).any (fun s=>zai 6 s.args||(((stS s.op).body||decide (0<s.body.length))&&zag k s.body||(decide (0<s.other.length)&&zag k s.other)))=false):=HT.out (by simp [h1,h5,HQ.out])
              have K0':=K0.out;go_wp2_with fail;go_roundw
              case rel=>exact ⟨j+1,by omega,by go_num,HT'.out,thenB hb hb4,K0'⟩
              case measure=>simp [intOf];omega
        | false =>
          rw [hbo] at hlk
          by_cases h4:0<l[j].body.length
          . have HG:Hid (((stS l[j].op).body||decide (0<l[j].body.length))=true):=by show _=_;simp [h4]
            clear hbo;go_wp2_with fail;refine (HI.out l[j].body a2 p2 _ (HX.out.body.later hb3) ((HS.out.later hb).later hb3) ((HU.out.later hb).later hb3)).mono ?_
            cases h2:zag k l[j].body with
            | true=>
              rintro e w4 ⟨rfl,c4⟩;have hb4:=thenB hb3 c4;clear c4;go_wp2_with fail;go_ret;exact ⟨zab (HF.out (by simp [HG.out,h2])).symm,thenB hb hb4⟩
            | false=>
              rintro e w4 ⟨rfl,c4⟩;have B0:=K0.out.later c4;have B1:=K1.out.later c4;have hb4:=thenB hb3 c4;clear c4 K0 K1;clear q0 q1 qz x0 x1 x2 x3 x4 x5 xz;obtain ⟨q0,q1,qz⟩:=B0.c2;obtain ⟨x0,x1,x2,x3,x4,x5,xz⟩:=B1.c6;have K0:Hid (Blk w4 w.heap.size [.map (some be),.map (some bs)]):=B0;have K1:Hid (Blk w4 wr.heap.size [.int .i64 l[j].op,.string l[j].mod,.string l[j].name,.slice a1 l[j].args.length p1,.slice a2 l[j].body.length p2,.slice a3 l[j].other.length p3]):=B1;clear B0 B1
              have HQ:Hid ((((stS l[j].op).body||decide (0<l[j].body.length))&&zag k l[j].body)=false):=by show _=_;simp [h2]
              by_cases h5:0<l[j].other.length
              . go_wp2_with fail
                refine (HI.out l[j].other a3 p3 _ (HX.out.other.later hb4) ((HS.out.later hb).later hb4) ((HU.out.later hb).later hb4)).mono ?_
                cases h6:zag k l[j].other with
                | true=>
                  rintro e w9 ⟨rfl,c9⟩;have hb9:=thenB hb4 c9;clear c9;go_wp2_with fail;go_ret;exact ⟨zab (HF.out (by simp [h5,h6])).symm,thenB hb hb9⟩
                | false=>
                  rintro e w9 ⟨rfl,c9⟩;have K0':=K0.out.later c9;have hb9:=thenB hb4 c9;clear c9;have HT':Hid ((l.take (j+1)).any (fun s=>zai 6 s.args||(((stS s.op).body||decide (0<s.body.length))&&zag k s.body||(decide (0<s.other.length)&&zag k s.other)))=false):=HT.out (by simp [h1,h6,HQ.out]);go_wp2_with fail;go_roundw
                  case rel=>exact ⟨j+1,by omega,by go_num,HT'.out,thenB hb hb9,K0'⟩
                  case measure=>simp [intOf];omega
              . have HT':Hid ((l.take (j+1)).any (fun s=>zai 6 s.args||(((stS s.op).body||decide (0<s.body.length))&&zag k s.body||(decide (0<s.other.length)&&zag k s.other)))=false):=HT.out (by simp [h1,h5,HQ.out])
                have K0':=K0.out;go_wp2_with fail;go_roundw
                case rel=>exact ⟨j+1,by omega,by go_num,HT'.out,thenB hb hb4,K0'⟩
                case measure=>simp [intOf];omega
          . have HQ:Hid ((((stS l[j].op).body||decide (0<l[j].body.length))&&zag k l[j].body)=false):=by show _=_;simp [hbo,h4]
            clear hbo
            by_cases h5:0<l[j].other.length
            . go_wp2_with fail
              refine (HI.out l[j].other a3 p3 _ (HX.out.other.later hb3) ((HS.out.later hb).later hb3) ((HU.out.later hb).later hb3)).mono ?_
              cases h6:zag k l[j].other with
              | true=>
                rintro e w9 ⟨rfl,c9⟩;have hb9:=thenB hb3 c9;clear c9;go_wp2_with fail;go_ret;exact ⟨zab (HF.out (by simp [h5,h6])).symm,thenB hb hb9⟩
              | false=>
                rintro e w9 ⟨rfl,c9⟩;have K0':=K0.out.later c9;have hb9:=thenB hb3 c9;clear c9;have HT':Hid ((l.take (j+1)).any (fun s=>zai 6 s.args||(((stS s.op).body||decide (0<s.body.length))&&zag k s.body||(decide (0<s.other.length)&&zag k s.other)))=false):=HT.out (by simp [h1,h6,HQ.out]);go_wp2_with fail;go_roundw
                case rel=>exact ⟨j+1,by omega,by go_num,HT'.out,thenB hb hb9,K0'⟩
                case measure=>simp [intOf];omega
            . have HT':Hid ((l.take (j+1)).any (fun s=>zai 6 s.args||(((stS s.op).body||decide (0<s.body.length))&&zag k s.body||(decide (0<s.other.length)&&zag k s.other)))=false):=HT.out (by simp [h1,h5,HQ.out])
              have K0':=K0.out;go_wp2_with fail;go_roundw
              case rel=>exact ⟨j+1,by omega,by go_num,HT'.out,thenB hb hb3,K0'⟩
              case measure=>simp [intOf];omega
    . have HT:Hid (l.any (fun s=>zai 6 s.args||(((stS s.op).body||decide (0<s.body.length))&&zag k s.body||(decide (0<s.other.length)&&zag k s.other)))=false):=zbh HA.out hlt
      go_wp2_with fail;go_ret;exact ⟨zab (by rw [HN.out,HT.out]),hb⟩
theorem ztu {k:Nat} {l:List St} (h:l.length=0\/zag (k+1) l=false) (j:Nat) (hj:j<l.length):zai 6 l[j].args=false/\(l[j].body.length=0\/zag k l[j].body=false)/\(l[j].other.length=0\/zag k l[j].other=false):=by
 rcases h with h | h
 . omega
 . simp only [zag,vap,vau] at h
   have:=h.2 l[j] (vah hj);simp only [vce,vap,vcf,decide_eq_false_iff_not] at this;refine ⟨this.1,?_,?_⟩
   . rcases this.2.1 with h1 | h1
     . left;omega
     . exact Or.inr h1
   . rcases this.2.2 with h1 | h1
     . left;omega
     . exact Or.inr h1
theorem zr2 (be bs:Nat) (A:Nat->Prop):∀ (k:Nat) (l:List St) (a:OA) (cap:Nat) (w:World),DAt w A a l.length (za2 l)->zc8 w be 15 zhm->zc8 w bs 7 zi5->(l.length=0\/zag k l=false)->
 Calls Tryz.prog 189 #[.agg #[.map (some be),.map (some bs)],.slice a l.length cap] w fun e w'=>e = .returned (.bool (zaj k l))/\Below w.heap.size w w':=by
 intro k
 induction k with
 | zero=>
   intro l a cap w hD hS hT hM
   have h0 : l.length = 0 := by rcases hM with h | h
                                . exact h
                                . simp [zag] at h
   have HR:Hid (zaj 0 l=true):=by show _=_;simp [zaj]
   rw [h0];go_enter Tryz.func189,Tryz.ntmps189;go_wp2_with fail
   go_loopw [10] (fun i wr=>i = .int .i64 0/\Below w.heap.size w wr) (fun _ _=>0)
   case atStart=>exact ⟨rfl,al1 _ _⟩
   case round=>
    obtain ⟨rfl,hb⟩:=hrel;go_wp2_with fail;go_ret;exact ⟨zab HR.out.symm,hb⟩
 | succ k ih=>
   intro l a cap w hD hS hT hM
   have HR:Hid (zaj (k+1) l=l.all (fun s=>zca (stS s.op) s.mod s.name&&(zas (stS s.op) s.args.length&&(zbc 6 s.args&&(((stS s.op).body||decide (s.body.length=0))&&(((stS s.op).other||decide (s.other.length=0))&&(zaj k s.body&&zaj k s.other))))))):=by show _=_;simp [zaj]
   have hbd:=hD.bound
   have HI:Hid (∀ (l:List St) (a:OA) (cap:Nat) (w:World),DAt w A a l.length (za2 l)->zc8 w be 15 zhm->zc8 w bs 7 zi5->(l.length=0\/zag k l=false)->
    Calls Tryz.prog 189 #[.agg #[.map (some be),.map (some bs)],.slice a l.length cap] w fun e w'=>e = .returned (.bool (zaj k l))/\Below w.heap.size w w'):=ih
   have HD:Hid (DAt w A a l.length (za2 l)):=hD;have HS:Hid (zc8 w be 15 zhm):=hS;have HU:Hid (zc8 w bs 7 zi5):=hT;have HM:Hid (∀ (j:Nat) (hj:j<l.length),zai 6 l[j].args=false/\(l[j].body.length=0\/zag k l[j].body=false)/\(l[j].other.length=0\/zag k l[j].other=false)):=ztu hM;clear hD hS hT hM ih;have HB:Hid (Blk (w.alloc (.cells #[.map (some be),.map (some bs)] 235)) w.heap.size [.map (some be),.map (some bs)]):=Blk.new w _ _;go_enter Tryz.func189,Tryz.ntmps189;go_wp2_with fail
   go_loopw [10] (fun i wr=>∃ j:Nat,j<=l.length/\i = .int .i64 j/\(l.take j).all (fun s=>zca (stS s.op) s.mod s.name&&(zas (stS s.op) s.args.length&&(zbc 6 s.args&&(((stS s.op).body||decide (s.body.length=0))&&(((stS s.op).other||decide (s.other.length=0))&&(zaj k s.body&&zaj k s.other))))))=true/\Below w.heap.size w wr/\Blk wr w.heap.size [.map (some be),.map (some bs)]) (fun i _=>l.length - (intOf i).toNat)
   case atStart=>exact ⟨0,vad _,rfl,rfl,al1 _ _,HB.out⟩
   case round =>
    clear HB;obtain ⟨j,hj,rfl,hall,hb,hB⟩:=hrel;have q0:=hB.cell 0 _ rfl;have q1:=hB.cell 1 _ rfl;have qz:=hB.lt;have HB:Hid (Blk wr w.heap.size [.map (some be),.map (some bs)]):=hB;have HA:Hid ((l.take j).all (fun s=>zca (stS s.op) s.mod s.name&&(zas (stS s.op) s.args.length&&(zbc 6 s.args&&(((stS s.op).body||decide (s.body.length=0))&&(((stS s.op).other||decide (s.other.length=0))&&(zaj k s.body&&zaj k s.other))))))=true):=hall;clear hall hB
    by_cases hlt:j<l.length
    . obtain ⟨b, off, a1,p1,a2,p2,a3,p3,rfl,hx⟩:=(HD.out.later hb).st j hlt
      have hc0:=hx.c0;have hc1:=hx.c1;have hc2:=hx.c2;have hc3:=hx.c3;have hc4:=hx.c4;have hc5:=hx.c5;have hlb:=hx.lt;have hn1:=hx.args.bound;have hn2:=hx.body.bound;have hn3:=hx.other.bound;have HX:Hid (StAt wr A b (off+j*6) l[j] a1 p1 a2 p2 a3 p3):=hx
      have HF:Hid ((zca (stS l[j].op) l[j].mod l[j].name&&(zas (stS l[j].op) l[j].args.length&&(zbc 6 l[j].args&&(((stS l[j].op).body||decide (l[j].body.length=0))&&(((stS l[j].op).other||decide (l[j].other.length=0))&&(zaj k l[j].body&&zaj k l[j].other))))))=false->zaj (k+1) l=false):=fun h=>by rw [HR.out];exact all_not l _ j hlt h
      have HT:Hid ((zca (stS l[j].op) l[j].mod l[j].name&&(zas (stS l[j].op) l[j].args.length&&(zbc 6 l[j].args&&(((stS l[j].op).body||decide (l[j].body.length=0))&&(((stS l[j].op).other||decide (l[j].other.length=0))&&(zaj k l[j].body&&zaj k l[j].other))))))=true->(l.take (j+1)).all (fun s=>zca (stS s.op) s.mod s.name&&(zas (stS s.op) s.args.length&&(zbc 6 s.args&&(((stS s.op).body||decide (s.body.length=0))&&(((stS s.op).other||decide (s.other.length=0))&&(zaj k s.body&&zaj k s.other))))))=true):=fun h=>by rw [all_snoc l _ j hlt,HA.out,h];rfl
      have hlk:(Instr.lookup 232 (.map (some bs)) (.int .i64 l[j].op) false).run Tryz.prog (wr.alloc (.cells #[.int .i64 l[j].op,.string l[j].mod,.string l[j].name,.slice a1 l[j].args.length p1,.slice a2 l[j].body.length p2,.slice a3 l[j].other.length p3] 176)) = .ok (stS l[j].op).val (wr.alloc (.cells #[.int .i64 l[j].op,.string l[j].mod,.string l[j].name,.slice a1 l[j].args.length p1,.slice a2 l[j].body.length p2,.slice a3 l[j].other.length p3] 176)):=((HU.out.later hb).later (al1 _ (.cells #[.int .i64 l[j].op,.string l[j].mod,.string l[j].name,.slice a1 l[j].args.length p1,.slice a2 l[j].body.length p2,.slice a3 l[j].other.length p3] 176))).look hx.wop;clear hx;generalize hs:stS l[j].op=s at hlk HF HT;clear hs;simp only [Sh.val] at hlk;go_wp2_with fail;refine (zil s l[j].mod l[j].name _ HX.out.wm HX.out.wna).mono ?_
      cases h1:zca s l[j].mod l[j].name with
      | false=>
        rintro e w3 ⟨rfl,c3⟩;go_wp2_with fail;go_ret;exact ⟨zab (HF.out (by simp [h1])).symm,z11 hb c3⟩
      | true=>
        rintro e w3 ⟨rfl,c3⟩;have B0:=(HB.out.later (al2 _ _ _)).later c3;have B1:=(Blk.new1 wr #[.int .i64 l[j].op,.string l[j].mod,.string l[j].name,.slice a1 l[j].args.length p1,.slice a2 l[j].body.length p2,.slice a3 l[j].other.length p3] 176 _).later c3;have B2:=(Blk.new2 wr #[.bool s.named,.bool s.number,.int .i64 s.least,.int .i64 s.most,.bool s.body,.bool s.other] 270 _).later c3;have hb3:Below wr.heap.size wr w3:=thenB (al2 _ _ _) c3;clear c3 q0 q1 qz;obtain ⟨q0,q1,qz⟩:=B0.c2;obtain ⟨x0,x1,x2,x3,x4,x5,xz⟩:=B1.c6;obtain ⟨y0,y1,y2,y3,y4,y5,yz⟩:=B2.c6;have K0:Hid (Blk w3 w.heap.size [.map (some be),.map (some bs)]):=B0;have K1:Hid (Blk w3 wr.heap.size [.int .i64 l[j].op,.string l[j].mod,.string l[j].name,.slice a1 l[j].args.length p1,.slice a2 l[j].body.length p2,.slice a3 l[j].other.length p3]):=B1;have K2:Hid (Blk w3 (wr.heap.size+1) [.bool s.named,.bool s.number,.int .i64 s.least,.int .i64 s.most,.bool s.body,.bool s.other]):=B2
        clear B0 B1 B2;go_wp2_with fail;refine (zgb s a1 l[j].args.length p1 _).mono ?_
        cases h2:zas s l[j].args.length with
        | false=>
          rintro e w4 ⟨rfl,c4⟩;have hb4:=thenB hb3 c4;clear c4;go_wp2_with fail;go_ret;exact ⟨zab (HF.out (by simp [h2])).symm,thenB hb hb4⟩
        | true=>
          rintro e w4 ⟨rfl,c4⟩;have B0:=K0.out.later c4;have B1:=K1.out.later c4;have B2:=K2.out.later c4;have hb4:=thenB hb3 c4;clear c4 K0 K1 K2;clear q0 q1 qz x0 x1 x2 x3 x4 x5 xz y0 y1 y2 y3 y4 y5 yz;obtain ⟨q0,q1,qz⟩:=B0.c2;obtain ⟨x0,x1,x2,x3,x4,x5,xz⟩:=B1.c6;obtain ⟨y0,y1,y2,y3,y4,y5,yz⟩:=B2.c6;have K0:Hid (Blk w4 w.heap.size [.map (some be),.map (some bs)]):=B0;have K1:Hid (Blk w4 wr.heap.size [.int .i64 l[j].op,.string l[j].mod,.string l[j].name,.slice a1 l[j].args.length p1,.slice a2 l[j].body.length p2,.slice a3 l[j].other.length p3]):=B1;have K2:Hid (Blk w4 (wr.heap.size+1) [.bool s.named,.bool s.number,.int .i64 s.least,.int .i64 s.most,.bool s.body,.bool s.other]):=B2;clear B0 B1 B2;go_wp2_with fail;refine (zr1 be bs A 6 l[j].args a1 p1 _ (HX.out.args.later hb4) ((HS.out.later hb).later hb4) (HM.out j hlt).1).mono ?_
          cases h3:zbc 6 l[j].args with
          | false=>
            rintro e w5 ⟨rfl,c5⟩;have hb5:=thenB hb4 c5;clear c5;go_wp2_with fail;go_ret;exact ⟨zab (HF.out (by simp [h3])).symm,thenB hb hb5⟩
          | true=>
            rintro e w5 ⟨rfl,c5⟩;have B0:=K0.out.later c5;have B1:=K1.out.later c5;have B2:=K2.out.later c5;have hb5:=thenB hb4 c5;clear c5 K0 K1 K2;clear q0 q1 qz x0 x1 x2 x3 x4 x5 xz y0 y1 y2 y3 y4 y5 yz;obtain ⟨q0,q1,qz⟩:=B0.c2;obtain ⟨x0,x1,x2,x3,x4,x5,xz⟩:=B1.c6;obtain ⟨y0,y1,y2,y3,y4,y5,yz⟩:=B2.c6;have K0:Hid (Blk w5 w.heap.size [.map (some be),.map (some bs)]):=B0;have K1:Hid (Blk w5 wr.heap.size [.int .i64 l[j].op,.string l[j].mod,.string l[j].name,.slice a1 l[j].args.length p1,.slice a2 l[j].body.length p2,.slice a3 l[j].other.length p3]):=B1;have K2:Hid (Blk w5 (wr.heap.size+1) [.bool s.named,.bool s.number,.int .i64 s.least,.int .i64 s.most,.bool s.body,.bool s.other]):=B2;clear B0 B1 B2
            cases hbo:s.body with
            | false =>
              rw [hbo] at y4
              by_cases h4:0<l[j].body.length
              . go_wp2_with fail
                go_ret;exact ⟨zab (HF.out (by simp [hbo,show ¬ l[j].body.length=0 from by omega])).symm,thenB hb hb5⟩
              . have HG : Hid ((s.body||decide (l[j].body.length=0))=true):=by show _=_;simp [show l[j].body.length=0 from by omega]
                cases hot:s.other with
                | false =>
                  rw [hot] at y5
                  by_cases h5:0<l[j].other.length
                  . go_wp2_with fail
                    go_ret;exact ⟨zab (HF.out (by simp [hot,show ¬ l[j].other.length=0 from by omega])).symm,thenB hb hb5⟩
                  . have HO:Hid ((s.other||decide (l[j].other.length=0))=true):=by show _=_;simp [show l[j].other.length=0 from by omega]
                    go_wp2_with fail;refine (HI.out l[j].body a2 p2 _ (HX.out.body.later hb5) ((HS.out.later hb).later hb5) ((HU.out.later hb).later hb5) (HM.out j hlt).2.1).mono ?_
                    cases h7:zaj k l[j].body with
                    | false=>
                      rintro e w6 ⟨rfl,c6⟩;have hb6:=thenB hb5 c6;clear c6;go_wp2_with fail;go_ret;exact ⟨zab (HF.out (by simp [h7])).symm,thenB hb hb6⟩
                    | true=>
                      rintro e w6 ⟨rfl,c6⟩;have B0:=K0.out.later c6;have B1:=K1.out.later c6;have B2:=K2.out.later c6;have hb6:=thenB hb5 c6;clear c6 K0 K1 K2;clear q0 q1 qz x0 x1 x2 x3 x4 x5 xz y0 y1 y2 y3 y4 y5 yz;obtain ⟨q0,q1,qz⟩:=B0.c2;obtain ⟨x0,x1,x2,x3,x4,x5,xz⟩:=B1.c6;obtain ⟨y0,y1,y2,y3,y4,y5,yz⟩:=B2.c6;have K0:Hid (Blk w6 w.heap.size [.map (some be),.map (some bs)]):=B0;have K1:Hid (Blk w6 wr.heap.size [.int .i64 l[j].op,.string l[j].mod,.string l[j].name,.slice a1 l[j].args.length p1,.slice a2 l[j].body.length p2,.slice a3 l[j].other.length p3]):=B1;have K2:Hid (Blk w6 (wr.heap.size+1) [.bool s.named,.bool s.number,.int .i64 s.least,.int .i64 s.most,.bool s.body,.bool s.other]):=B2;clear B0 B1 B2;go_wp2_with fail;refine (HI.out l[j].other a3 p3 _ (HX.out.other.later hb6) ((HS.out.later hb).later hb6) ((HU.out.later hb).later hb6) (HM.out j hlt).2.2).mono ?_
                      cases h8:zaj k l[j].other with
                      | false=>
                        rintro e w7 ⟨rfl,c7⟩;have hb7:=thenB hb6 c7;clear c7;go_wp2_with fail;go_ret;exact ⟨zab (HF.out (by simp [h8])).symm,thenB hb hb7⟩
                      | true=>
                        rintro e w7 ⟨rfl,c7⟩;have K0':=K0.out.later c7;have hb7:=thenB hb6 c7;clear c7;have HT':Hid ((l.take (j+1)).all (fun s=>zca (stS s.op) s.mod s.name&&(zas (stS s.op) s.args.length&&(zbc 6 s.args&&(((stS s.op).body||decide (s.body.length=0))&&(((stS s.op).other||decide (s.other.length=0))&&(zaj k s.body&&zaj k s.other))))))=true):=HT.out (by rw [h1,h2,h3,HG.out,HO.out,h7,h8];rfl);go_wp2_with fail;go_roundw
                        case rel=>exact ⟨j+1,by omega,by go_num,HT'.out,thenB hb hb7,K0'⟩
                        case measure=>simp [intOf];omega
                | true=>
                  rw [hot] at y5
                  have HO:Hid ((s.other||decide (l[j].other.length=0))=true):=by show _=_;simp [hot]
                  go_wp2_with fail;refine (HI.out l[j].body a2 p2 _ (HX.out.body.later hb5) ((HS.out.later hb).later hb5) ((HU.out.later hb).later hb5) (HM.out j hlt).2.1).mono ?_
                  cases h7:zaj k l[j].body with
                  | false=>
                    rintro e w6 ⟨rfl,c6⟩;have hb6:=thenB hb5 c6;clear c6;go_wp2_with fail;go_ret;exact ⟨zab (HF.out (by simp [h7])).symm,thenB hb hb6⟩
                  | true=>
                    rintro e w6 ⟨rfl,c6⟩;have B0:=K0.out.later c6;have B1:=K1.out.later c6;have B2:=K2.out.later c6;have hb6:=thenB hb5 c6;clear c6 K0 K1 K2;clear q0 q1 qz x0 x1 x2 x3 x4 x5 xz y0 y1 y2 y3 y4 y5 yz;obtain ⟨q0,q1,qz⟩:=B0.c2;obtain ⟨x0,x1,x2,x3,x4,x5,xz⟩:=B1.c6;obtain ⟨y0,y1,y2,y3,y4,y5,yz⟩:=B2.c6;have K0:Hid (Blk w6 w.heap.size [.map (some be),.map (some bs)]):=B0;have K1:Hid (Blk w6 wr.heap.size [.int .i64 l[j].op,.string l[j].mod,.string l[j].name,.slice a1 l[j].args.length p1,.slice a2 l[j].body.length p2,.slice a3 l[j].other.length p3]):=B1;have K2:Hid (Blk w6 (wr.heap.size+1) [.bool s.named,.bool s.number,.int .i64 s.least,.int .i64 s.most,.bool s.body,.bool s.other]):=B2;clear B0 B1 B2;go_wp2_with fail;refine (HI.out l[j].other a3 p3 _ (HX.out.other.later hb6) ((HS.out.later hb).later hb6) ((HU.out.later hb).later hb6) (HM.out j hlt).2.2).mono ?_
                    cases h8:zaj k l[j].other with
                    | false=>
                      rintro e w7 ⟨rfl,c7⟩;have hb7:=thenB hb6 c7;clear c7;go_wp2_with fail;go_ret;exact ⟨zab (HF.out (by simp [h8])).symm,thenB hb hb7⟩
                    | true=>
                      rintro e w7 ⟨rfl,c7⟩;have K0':=K0.out.later c7;have hb7:=thenB hb6 c7;clear c7;have HT':Hid ((l.take (j+1)).all (fun s=>zca (stS s.op) s.mod s.name&&(zas (stS s.op) s.args.length&&(zbc 6 s.args&&(((stS s.op).body||decide (s.body.length=0))&&(((stS s.op).other||decide (s.other.length=0))&&(zaj k s.body&&zaj k s.other))))))=true):=HT.out (by rw [h1,h2,h3,HG.out,HO.out,h7,h8];rfl);go_wp2_with fail;go_roundw
                      case rel=>exact ⟨j+1,by omega,by go_num,HT'.out,thenB hb hb7,K0'⟩
                      case measure=>simp [intOf];omega
            | true=>
              rw [hbo] at y4
              have HG:Hid ((s.body||decide (l[j].body.length=0))=true):=by show _=_;simp [hbo]
              cases hot:s.other with
              | false =>
                rw [hot] at y5
                by_cases h5:0<l[j].other.length
                . go_wp2_with fail
                  go_ret;exact ⟨zab (HF.out (by simp [hot,show ¬ l[j].other.length=0 from by omega])).symm,thenB hb hb5⟩
                . have HO:Hid ((s.other||decide (l[j].other.length=0))=true):=by show _=_;simp [show l[j].other.length=0 from by omega]
                  go_wp2_with fail;refine (HI.out l[j].body a2 p2 _ (HX.out.body.later hb5) ((HS.out.later hb).later hb5) ((HU.out.later hb).later hb5) (HM.out j hlt).2.1).mono ?_
                  cases h7:zaj k l[j].body with
                  | false=>
                    rintro e w6 ⟨rfl,c6⟩;have hb6:=thenB hb5 c6;clear c6;go_wp2_with fail;go_ret;exact ⟨zab (HF.out (by simp [h7])).symm,thenB hb hb6⟩
                  | true=>
                    rintro e w6 ⟨rfl,c6⟩;have B0:=K0.out.later c6;have B1:=K1.out.later c6;have B2:=K2.out.later c6;have hb6:=thenB hb5 c6;clear c6 K0 K1 K2;clear q0 q1 qz x0 x1 x2 x3 x4 x5 xz y0 y1 y2 y3 y4 y5 yz;obtain ⟨q0,q1,qz⟩:=B0.c2;obtain ⟨x0,x1,x2,x3,x4,x5,xz⟩:=B1.c6;obtain ⟨y0,y1,y2,y3,y4,y5,yz⟩:=B2.c6;have K0:Hid (Blk w6 w.heap.size [.map (some be),.map (some bs)]):=B0;have K1:Hid (Blk w6 wr.heap.size [.int .i64 l[j].op,.string l[j].mod,.string l[j].name,.slice a1 l[j].args.length p1,.slice a2 l[j].body.length p2,.slice a3 l[j].other.length p3]):=B1;have K2:Hid (Blk w6 (wr.heap.size+1) [.bool s.named,.bool s.number,.int .i64 s.least,.int .i64 s.most,.bool s.body,.bool s.other]):=B2;clear B0 B1 B2;go_wp2_with fail;refine (HI.out l[j].other a3 p3 _ (HX.out.other.later hb6) ((HS.out.later hb).later hb6) ((HU.out.later hb).later hb6) (HM.out j hlt).2.2).mono ?_
                    cases h8:zaj k l[j].other with
                    | false=>
                      rintro e w7 ⟨rfl,c7⟩;have hb7:=thenB hb6 c7;clear c7;go_wp2_with fail;go_ret;exact ⟨zab (HF.out (by simp [h8])).symm,thenB hb hb7⟩
                    | true=>
                      rintro e w7 ⟨rfl,c7⟩;have K0':=K0.out.later c7;have hb7:=thenB hb6 c7;clear c7;have HT':Hid ((l.take (j+1)).all (fun s=>zca (stS s.op) s.mod s.name&&(zas (stS s.op) s.args.length&&(zbc 6 s.args&&(((stS s.op).body||decide (s.body.length=0))&&(((stS s.op).other||decide (s.other.length=0))&&(zaj k s.body&&zaj k s.other))))))=true):=HT.out (by rw [h1,h2,h3,HG.out,HO.out,h7,h8];rfl);go_wp2_with fail;go_roundw
                      case rel=>exact ⟨j+1,by omega,by go_num,HT'.out,thenB hb hb7,K0'⟩
                      case measure=>simp [intOf];omega
              | true=>
                rw [hot] at y5
                have HO:Hid ((s.other||decide (l[j].other.length=0))=true):=by show _=_;simp [hot]
                go_wp2_with fail;refine (HI.out l[j].body a2 p2 _ (HX.out.body.later hb5) ((HS.out.later hb).later hb5) ((HU.out.later hb).later hb5) (HM.out j hlt).2.1).mono ?_
                cases h7:zaj k l[j].body with
                | false=>
                  rintro e w6 ⟨rfl,c6⟩;have hb6:=thenB hb5 c6;clear c6;go_wp2_with fail;go_ret;exact ⟨zab (HF.out (by simp [h7])).symm,thenB hb hb6⟩
                | true=>
                  rintro e w6 ⟨rfl,c6⟩;have B0:=K0.out.later c6;have B1:=K1.out.later c6;have B2:=K2.out.later c6;have hb6:=thenB hb5 c6;clear c6 K0 K1 K2;clear q0 q1 qz x0 x1 x2 x3 x4 x5 xz y0 y1 y2 y3 y4 y5 yz;obtain ⟨q0,q1,qz⟩:=B0.c2;obtain ⟨x0,x1,x2,x3,x4,x5,xz⟩:=B1.c6;obtain ⟨y0,y1,y2,y3,y4,y5,yz⟩:=B2.c6;have K0:Hid (Blk w6 w.heap.size [.map (some be),.map (some bs)]):=B0;have K1:Hid (Blk w6 wr.heap.size [.int .i64 l[j].op,.string l[j].mod,.string l[j].name,.slice a1 l[j].args.length p1,.slice a2 l[j].body.length p2,.slice a3 l[j].other.length p3]):=B1;have K2:Hid (Blk w6 (wr.heap.size+1) [.bool s.named,.bool s.number,.int .i64 s.least,.int .i64 s.most,.bool s.body,.bool s.other]):=B2;clear B0 B1 B2;go_wp2_with fail;refine (HI.out l[j].other a3 p3 _ (HX.out.other.later hb6) ((HS.out.later hb).later hb6) ((HU.out.later hb).later hb6) (HM.out j hlt).2.2).mono ?_
                  cases h8:zaj k l[j].other with
                  | false=>
                    rintro e w7 ⟨rfl,c7⟩;have hb7:=thenB hb6 c7;clear c7;go_wp2_with fail;go_ret;exact ⟨zab (HF.out (by simp [h8])).symm,thenB hb hb7⟩
                  | true=>
                    rintro e w7 ⟨rfl,c7⟩;have K0':=K0.out.later c7;have hb7:=thenB hb6 c7;clear c7;have HT':Hid ((l.take (j+1)).all (fun s=>zca (stS s.op) s.mod s.name&&(zas (stS s.op) s.args.length&&(zbc 6 s.args&&(((stS s.op).body||decide (s.body.length=0))&&(((stS s.op).other||decide (s.other.length=0))&&(zaj k s.body&&zaj k s.other))))))=true):=HT.out (by rw [h1,h2,h3,HG.out,HO.out,h7,h8];rfl);go_wp2_with fail;go_roundw
                    case rel=>exact ⟨j+1,by omega,by go_num,HT'.out,thenB hb hb7,K0'⟩
                    case measure=>simp [intOf];omega
    . have HT:Hid (l.all (fun s=>zca (stS s.op) s.mod s.name&&(zas (stS s.op) s.args.length&&(zbc 6 s.args&&(((stS s.op).body||decide (s.body.length=0))&&(((stS s.op).other||decide (s.other.length=0))&&(zaj k s.body&&zaj k s.other))))))=true):=zej HA.out hlt
      go_wp2_with fail;go_ret;exact ⟨zab (by rw [HR.out,HT.out]),hb⟩
set_option maxHeartbeats 800000
abbrev Tt:Nat->Prop:=fun _=>True
theorem Tryz.infoBody:(Tryz.prog.info? 25).map (fun i=>(i.zero,i.size,i.bytes))=some (some (.slice none 0 0),1,24):=by kernel_rfl
def zr3 (w:World) (xs:List Value) (bs:List (List St)):Prop:=xs.length=bs.length/\∀ i (h:i<bs.length),∃ a c,xs[i]? = some (.slice a bs[i].length c)/\DAt w Tt a bs[i].length (za2 bs[i])
theorem zr3.later {w w':World} {xs:List Value} {bs:List (List St)} (h:zr3 w xs bs) (hb:Below w.heap.size w w'):zr3 w' xs bs:=
 ⟨h.1,fun i hi=>by obtain ⟨a,c,h1,h2⟩:=h.2 i hi;exact ⟨a,c,h1,h2.later hb⟩⟩
theorem zr3.nil (w:World):zr3 w [] []:=⟨rfl,fun i h=>by simp at h⟩
theorem zr3.snoc {w:World} {xs:List Value} {bs:List (List St)} (h:zr3 w xs bs) {l:List St} {a:OA} {c:Nat} (hd:DAt w Tt a l.length (za2 l)):zr3 w (xs++[.slice a l.length c]) (bs++[l]):=by
 refine ⟨by simp [h.1],fun i hi=>?_⟩
 rcases vbk i bs.length with hlt | hge
 . obtain ⟨a',c',h1,h2⟩:=h.2 i hlt
   refine ⟨a',c',?_,?_⟩
   . rw [vbf (by rw [h.1];exact hlt),vck hlt];exact h1
   . rw [vck hlt];exact h2
 . have:i=bs.length:=by simp at hi;omega
   subst this;refine ⟨a,c,?_,?_⟩
   . rw [vbb (by rw [h.1];exact vaa _),h.1];simp
   . simpa using hd
def znj (w:World) (a:OA) (bs:List (List St)):Prop:=∀ i (h:i<bs.length),∃ b off a' c',a=some ⟨b,off,none⟩/\b<w.heap.size/\w.cell? ⟨b,off+i,none⟩=some (.slice a' bs[i].length c')/\DAt w Tt a' bs[i].length (za2 bs[i])
theorem znj.later {w w':World} {a:OA} {bs:List (List St)} (h:znj w a bs) (hb:Below w.heap.size w w'):znj w' a bs:=fun i hi=>by
 obtain ⟨b,off,a',c',h1,h2,h3,h4⟩:=h i hi;exact ⟨b,off,a',c',h1,vai h2 hb.size,(hb.cell (p:=⟨b,off+i,none⟩) h2).trans h3,h4.later hb⟩
theorem zr3.at {w:World} {base g n cap:Nat} {xs:List Value} {bs:List (List St)} (h:zr3 w xs bs) (hown:w.ownsRow base 25 1 (.slice (some ⟨g,0,none⟩) n cap) n xs):znj w (some ⟨g,0,none⟩) bs:=by
 intro i hi;obtain ⟨a',c',h1,h2⟩:=h.2 i hi;have hc:=hown.cells (g:=g) rfl i _ h1;have hlt:=(hown.lt g rfl).2
 have e:(⟨g,0,none⟩:Addr).add i=⟨g,i,none⟩:=by unfold Addr.add;split<;>simp_all
 rw [e] at hc;exact ⟨g,0,a',c',rfl,hlt,by rw [vbc];exact hc,h2⟩
theorem Blk.grown {w w':World} {b:Nat} {cs:List Value} {row:Option Nat} (h:Blk w b cs) (hg:w.grownBy w' row) (hne:some b≠row):Blk w' b cs:=
 ⟨vai h.lt hg.size,fun j v hj=>(vee (w:=w) (hg.block b h.lt hne)).trans (h.cell j v hj)⟩
theorem ztv (w:World) (v:Value) (t:TypeId) (n:Nat) (hn:n=w.heap.size):∀ j u,[v][j]? = some u->(w.alloc (.cells #[v] t)).cell? ((⟨n,0,none⟩:Addr).add j)=some u:=by
 subst hn;intro j u hj
 have e:(⟨w.heap.size,0,none⟩:Addr).add j=⟨w.heap.size,j,none⟩:=by unfold Addr.add;split<;>simp_all
 rw [e];exact (Blk.new w #[v] t).cell j u hj
theorem zhy (m:Mo) (v:Value) (a1:OA) (c1:Nat) (a2:OA) (c2:Nat) (a3:OA) (c3:Nat) (a4:OA) (c4:Nat) (w:World) (hM:MoAt w Tt m v a1 c1 a2 c2 a3 c3 a4 c4) :
 Calls Tryz.prog 183 #[v] w fun e w'=>∃ a cap,e = .returned (.slice a m.bodies.length cap)/\znj w' a m.bodies/\Below w.heap.size w w':=by
 obtain ⟨rfl,hna,hU,hDe,hP,hMa⟩:=hM;obtain ⟨i0,hi,hz0,hz1,hz2⟩:=info_parts Tryz.infoBody
 have hbd:m.procs.length<=3518437208883:=by
  have h1:=hP.2.1
  have h2:(zhj m.procs).length=m.procs.length*5:=by
   unfold zhj;rw [List.length_flatMap]
   have:∀ l:List Pr,(l.map (fun x=>x.ds.length)).sum=l.length*5:=by
    intro l
    induction l with
    | nil=>rfl
    | cons x r ih=>rw [vbq,List.sum_cons,ih,vax];have:x.ds.length=5:=rfl;omega
   exact this _
  omega
 have HP:Hid (DAt w Tt a3 m.procs.length (zhj m.procs)):=hP;have HM:Hid (DAt w Tt a4 m.main.length (za2 m.main)):=hMa;clear hU hDe hP hMa;go_enter Tryz.func183,Tryz.ntmps183;go_wp2_with fail;have HB:=Blk.new w #[.string m.name,.slice a1 m.uses.length c1,.slice a2 m.decls.length c2,.slice a3 m.procs.length c3,.slice a4 m.main.length c4] 27
 go_loopw [9,3] (fun i v wr=>∃ (j:Nat) (xs:List Value),j<=m.procs.length/\i = .int .i64 j/\wr.ownsRow (w.heap.size+1) 25 1 v j xs/\zr3 w xs ((m.procs.take j).map Pr.body)/\Below w.heap.size w wr/\Blk wr w.heap.size [.string m.name,.slice a1 m.uses.length c1,.slice a2 m.decls.length c2,.slice a3 m.procs.length c3,.slice a4 m.main.length c4]) (fun i _ _=>m.procs.length - (intOf i).toNat)
 case atStart=>exact ⟨0,[],vad _,rfl,veg _ _ _ _,zr3.nil _,al1 _ _,HB⟩
 case round=>
  clear HB;obtain ⟨j,xs,hj,rfl,hown,hBo,hb,hB⟩:=hrel;have HO:Hid (wr.ownsRow (w.heap.size+1) 25 1 u3 j xs):=hown;have HQ:Hid (zr3 w xs ((m.procs.take j).map Pr.body)):=hBo;have HB:Hid (Blk wr w.heap.size [.string m.name,.slice a1 m.uses.length c1,.slice a2 m.decls.length c2,.slice a3 m.procs.length c3,.slice a4 m.main.length c4]):=hB;have HL:Hid (∀ k,u3.ownBlock=some k->w.heap.size+1<=k/\k<wr.heap.size):=hown.lt;obtain ⟨q0,q1,q2,q3,q4,qz⟩:=hB.c5;clear hown hBo hB
  by_cases hlt:j<m.procs.length
  . obtain ⟨b,off,b1,d1,b2,d2,b3,d3,rfl,hx⟩:=(HP.out.later hb).pr j hlt
    have hc0:=hx.c0;have hc1:=hx.c1;have hc2:=hx.c2;have hc3:=hx.c3;have hc4:=hx.c4;have hlb:=hx.lt
    have HX:Hid (DAt w Tt b3 m.procs[j].body.length (za2 m.procs[j].body)):=by
     obtain ⟨b',off',b1',d1',b2',d2',b3',d3',e,hx'⟩:=HP.out.pr j hlt
     injection e with e
     injection e with e1 e2
     subst e1;subst e2;have h4:=(hb.cell (p:=⟨b,off+j*5+4,none⟩) hx'.lt).trans hx'.c4;rw [hx.c4] at h4
     injection h4 with h4
     injection h4 with h4 _ _
     subst h4;exact hx'.body
    have HS:Hid ((m.procs.take (j+1)).map Pr.body=(m.procs.take j).map Pr.body++[m.procs[j].body]):=by
     show _=_
     rw [vag hlt,vbr];rfl
    clear hx
    go_wp2_with (at_builtin;refine wpList_append_lies _ rfl _ _ 271 rfl (w.heap.size+1) 25 i0 _ 1 24 Tryz.underlying271 hi hz0 hz1 hz2 rfl (by decide) _ j xs rfl ((HO.out.alloc _).alloc _) _ 1 1 [.slice b3 m.procs[j].body.length d3] rfl rfl (ztv _ _ _ _ (by simp)) (by simp [Value.oneCell']) (by omega) (by unfold maxLen;omega) (by omega) (by simp;omega) _ rfl ?_;intro g cp w2 hown2 hg2 hat2 hlt2)
    have hg:wr.grownBy w2 u3.ownBlock:=((vej wr _ _).trans (vej _ _ _)).trans hg2;have hb2:Below w.heap.size w w2:=hb.grown hg hb.size (fun k hk=>by have:=(HL.out k hk).1;omega);have K2:=HB.out.grown hg (fun e=>by have:=(HL.out _ e.symm).1;omega);clear hg2 hat2 hg;go_roundw
    case rel=>exact ⟨j+1,xs++[.slice b3 m.procs[j].body.length d3],by omega,by go_num,hown2,by rw [HS.out];exact HQ.out.snoc HX.out,hb2,K2⟩
    case measure=>simp [intOf];omega
  . have hje:j=m.procs.length:=by omega
    subst hje
    have HS:Hid (m.bodies=(m.procs.take m.procs.length).map Pr.body++[m.main]):=by show _=_;rw [vav];rfl
    have HN:Hid (m.bodies.length=m.procs.length+1):=by show _=_;simp [Mo.bodies]
    go_wp2_with (at_builtin;refine wpList_append_lies _ rfl _ _ 271 rfl (w.heap.size+1) 25 i0 _ 1 24 Tryz.underlying271 hi hz0 hz1 hz2 rfl (by decide) _ m.procs.length xs rfl (HO.out.alloc _) _ 1 1 [.slice a4 m.main.length c4] rfl rfl (ztv _ _ _ _ (by simp)) (by simp [Value.oneCell']) (by omega) (by unfold maxLen;omega) (by omega) (by simp;omega) _ rfl ?_;intro g cp w2 hown2 hg2 hat2 hlt2)
    have hg:wr.grownBy w2 u3.ownBlock:=(vej wr _ _).trans hg2;have hb2:Below w.heap.size w w2:=hb.grown hg hb.size (fun k hk=>by have:=(HL.out k hk).1;omega);clear hg2 hat2 hg;go_ret;refine ⟨some ⟨g,0,none⟩,cp,?_,?_,hb2⟩
    . rw [HN.out];rfl
    have:=(HQ.out.snoc (c:=c4) HM.out).later hb2;rw [HS.out];exact this.at hown2
theorem zo0 (s:ByteArray) (w:World) (hs:s.size<=maxLen) :
 Calls Tryz.prog 240 #[.string s] w fun e w'=>e = .returned (.bool (!nameOk s))/\Below w.heap.size w w':=by
 go_enter Tryz.func240,Tryz.ntmps240
 go_wp2_with (go_at_call 186;refine (zdw s _ hs).mono ?_;rintro e w' ⟨rfl,hb⟩)
 go_ret;exact ⟨rfl,hb⟩
theorem zkp (l:List ByteArray) (a:OA) (cap:Nat) (w:World) (hD:DAt w Tt a l.length (zan l)) :
 Calls Tryz.prog 279 #[.slice a l.length cap,.func (.func 240) #[] #[]] w fun e w'=>∃ n:Int,e = .returned (.int .i64 n)/\decide (0<=n) = !l.all nameOk/\Below w.heap.size w w':=by
 have hbd:=hD.bound;have HD:Hid (DAt w Tt a l.length (zan l)):=hD;clear hD;go_enter Tryz.func279,Tryz.ntmps279;go_wp2_with fail
 go_loopw [8] (fun i wr=>∃ j:Nat,j<=l.length/\i = .int .i64 j/\(l.take j).all nameOk=true/\Below w.heap.size w wr) (fun i _=>l.length - (intOf i).toNat)
 case atStart=>exact ⟨0,vad _,rfl,rfl,Below.refl _ _⟩
 case round=>
  obtain ⟨j,hj,rfl,hall,hb⟩:=hrel;have HA:Hid ((l.take j).all nameOk=true):=hall;clear hall
  by_cases hlt:j<l.length
  . obtain ⟨b,off,rfl,hlb,hc,hsz⟩:=(HD.out.later hb).str j hlt
    go_wp2_with fail;refine (zo0 l[j] _ hsz).mono ?_
    cases hn:nameOk l[j] with
    | false=>
      have HF:Hid (l.all nameOk=false):=all_not l _ j hlt hn;rintro e w3 ⟨rfl,hb3⟩;go_wp2_with fail;go_ret;exact ⟨j,rfl,by rw [HF.out];simp,thenB hb hb3⟩
    | true=>
      have HT:Hid ((l.take (j+1)).all nameOk=true):=by
       show _=_
       rw [all_snoc l _ j hlt,HA.out,hn];rfl
      rintro e w3 ⟨rfl,hb3⟩;go_wp2_with fail;go_roundw
      case rel=>exact ⟨j+1,by omega,by go_num,HT.out,thenB hb hb3⟩
      case measure=>simp [intOf];omega
  . have HT:Hid (l.all nameOk=true):=zej HA.out hlt
    go_wp2_with fail;go_ret;exact ⟨-1,rfl,by rw [HT.out];rfl,hb⟩
theorem zff (l:List ByteArray) (a:OA) (cap:Nat) (w:World) (hD:DAt w Tt a l.length (zan l)) :
 Calls Tryz.prog 187 #[.slice a l.length cap] w fun e w'=>e = .returned (.bool (l.all nameOk))/\Below w.heap.size w w':=by
 have HC:Hid (Calls Tryz.prog 239 #[.slice a l.length cap,.func (.func 240) #[] #[]] w fun e w'=>e = .returned (.bool (!l.all nameOk))/\Below w.heap.size w w'):=by
  have HI:Hid (Calls Tryz.prog 279 #[.slice a l.length cap,.func (.func 240) #[] #[]] w fun e w'=>∃ n:Int,e = .returned (.int .i64 n)/\decide (0<=n) = !l.all nameOk/\Below w.heap.size w w'):=zkp l a cap w hD;clear hD;show Calls _ _ _ _ _;go_enter Tryz.func239,Tryz.ntmps239
  go_wp2_with (go_at_call 279;refine HI.out.mono ?_;rintro e w' ⟨n,rfl,hn,hb⟩)
  go_ret;exact ⟨rfl,hb⟩
 clear hD;go_enter Tryz.func187,Tryz.ntmps187
 go_wp2_with (go_at_call 239;refine HC.out.mono ?_;rintro e w' ⟨rfl,hb⟩)
 go_ret;exact ⟨zab (by simp),hb⟩
end Go.Proofs.YtndkhgakfodldaaGreatDoor
