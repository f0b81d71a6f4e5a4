import Derived.Test.YtndkhgakfodldaaGreatDoorTd
namespace Go.Proofs.YtndkhgakfodldaaGreatDoor
set_option maxRecDepth 100000
set_option maxHeartbeats 1600000
open Go.RowKit Go.Maps
theorem z5v {w w1 w3:World} {o1:Obj} (hb:Below w.heap.size w w1) (h3:Below (w1.alloc o1).heap.size (w1.alloc o1) w3):Below w.heap.size w w3:=by
 have h1:=hb.alloc hb.size o1;exact h1.trans (h3.mono h1.size)
theorem z87 {w w1 w3:World} {o1 o2:Obj} (hb:Below w.heap.size w w1) (h3:Below ((w1.alloc o1).alloc o2).heap.size ((w1.alloc o1).alloc o2) w3):Below w.heap.size w w3:=
 z5v (hb.alloc hb.size o1) h3
theorem thenB {w w1 w3:World} (hb:Below w.heap.size w w1) (h3:Below w1.heap.size w1 w3):Below w.heap.size w w3:=hb.trans (h3.mono hb.size)
theorem al1 (w:World) (o:Obj):Below w.heap.size w (w.alloc o):=(Below.refl _ _).alloc (vaa _) _
theorem al2 (w:World) (o1 o2:Obj):Below w.heap.size w ((w.alloc o1).alloc o2):=(al1 w o1).alloc (by simp) _
structure Blk (w:World) (b:Nat) (cs:List Value):Prop where
 lt:b<w.heap.size
 cell:∀ j v,cs[j]? = some v->w.cell? ⟨b,j,none⟩=some v
theorem Blk.later {w w':World} {b:Nat} {cs:List Value} (h:Blk w b cs) (hb:Below w.heap.size w w'):Blk w' b cs:=
 ⟨vah h.lt hb.size,fun j v hj=>(hb.cell (p:=⟨b,j,none⟩) h.lt).trans (h.cell j v hj)⟩
theorem Blk.new (w:World) (cs:Array Value) (t:TypeId):Blk (w.alloc (.cells cs t)) w.heap.size cs.toList:=
 ⟨by simp,fun j v hj=>by rw [veq (zwj w _)];simpa using hj⟩
theorem Blk.new1 (w:World) (cs:Array Value) (t:TypeId) (o:Obj):Blk ((w.alloc (.cells cs t)).alloc o) w.heap.size cs.toList:=(Blk.new w cs t).later (al1 _ _)
theorem Blk.new2 (w:World) (cs:Array Value) (t:TypeId) (o:Obj):Blk ((w.alloc o).alloc (.cells cs t)) (w.heap.size+1) cs.toList:=by
 have:=Blk.new (w.alloc o) cs t;simpa using this
theorem Blk.c2 {w:World} {b:Nat} {a0 a1:Value} (h:Blk w b [a0,a1]):w.cell? ⟨b,0,none⟩=some a0/\w.cell? ⟨b,1,none⟩=some a1/\b<w.heap.size:=⟨h.cell 0 _ rfl,h.cell 1 _ rfl,h.lt⟩
theorem Blk.c5 {w:World} {b:Nat} {a0 a1 a2 a3 a4:Value} (h:Blk w b [a0,a1,a2,a3,a4]):w.cell? ⟨b,0,none⟩=some a0/\w.cell? ⟨b,1,none⟩=some a1/\w.cell? ⟨b,2,none⟩=some a2/\w.cell? ⟨b,3,none⟩=some a3/\w.cell? ⟨b,4,none⟩=some a4/\b<w.heap.size:=
 ⟨h.cell 0 _ rfl,h.cell 1 _ rfl,h.cell 2 _ rfl,h.cell 3 _ rfl,h.cell 4 _ rfl,h.lt⟩
theorem Blk.c6 {w:World} {b:Nat} {a0 a1 a2 a3 a4 a5:Value} (h:Blk w b [a0,a1,a2,a3,a4,a5]):w.cell? ⟨b,0,none⟩=some a0/\w.cell? ⟨b,1,none⟩=some a1/\w.cell? ⟨b,2,none⟩=some a2/\w.cell? ⟨b,3,none⟩=some a3/\w.cell? ⟨b,4,none⟩=some a4/\w.cell? ⟨b,5,none⟩=some a5/\b<w.heap.size:=
 ⟨h.cell 0 _ rfl,h.cell 1 _ rfl,h.cell 2 _ rfl,h.cell 3 _ rfl,h.cell 4 _ rfl,h.cell 5 _ rfl,h.lt⟩
theorem zlq (be bs:Nat) (A:Nat->Prop):∀ (k:Nat),k<=6->∀ (l:List Ex) (a:OA) (cap:Nat) (deep:Int) (w:World),deep=7 - (k:Int)->DAt w A a l.length (zbz l)->zdn w be 15 zkb->
 Calls Tryz.prog 235 #[.agg #[.map (some be),.map (some bs)],.slice a l.length cap,.int .i64 deep] w fun e w'=>e = .returned (.bool (zbh k l))/\Below w.heap.size w w'
 | 0,_,l,a,cap,deep,w,hd,_,_=>by
   subst hd
   have HR:Hid (zbh 0 l=true):=by show _=_;simp [zbh]
   go_enter Tryz.func235,Tryz.ntmps235;go_wp2_with fail;go_ret;exact ⟨zaa HR.out.symm,(Below.refl _ _).alloc (vaa _) _⟩
 | k + 1, hk,l,a,cap,deep,w,hd,hD,hS=>by
   have HR:Hid (zbh (k+1) l=l.all (fun x=>exB x.op&&zbh k x.args)):=by show _=_;simp [zbh]
   have hbd:=hD.bound
   have hd1:1<=deep:=by omega
   have hd6:deep<=6:=by omega
   have HI:Hid (∀ (l:List Ex) (a:OA) (cap:Nat) (w:World),DAt w A a l.length (zbz l)->zdn w be 15 zkb->
    Calls Tryz.prog 235 #[.agg #[.map (some be),.map (some bs)],.slice a l.length cap,.int .i64 (deep+1)] w fun e w'=>e = .returned (.bool (zbh k l))/\Below w.heap.size w w'):=
    fun l a cap w h1 h2=>zlq be bs A k (by omega) l a cap (deep+1) w (by omega) h1 h2
   have HD:Hid (DAt w A a l.length (zbz l)):=hD;have HS:Hid (zdn w be 15 zkb):=hS;clear hD hS hd;have HB:Hid (Blk (w.alloc (.cells #[.map (some be),.map (some bs)] 235)) w.heap.size [.map (some be),.map (some bs)]):=Blk.new w _ _;go_enter Tryz.func235,Tryz.ntmps235;go_wp2_with fail
   go_loopw [15] (fun i wr=>∃ j:Nat,j<=l.length/\i = .int .i64 j/\(l.take j).all (fun x=>exB x.op&&zbh k x.args)=true/\Below w.heap.size w wr/\Blk wr w.heap.size [.map (some be),.map (some bs)]) (fun i _=>l.length - (intOf i).toNat)
   case atStart=>exact ⟨0,vae _,rfl,rfl,al1 _ _,HB.out⟩
   case round=>
    clear HB;obtain ⟨j,hj,rfl,hall,hb,hB⟩:=hrel;have q0:=hB.cell 0 _ rfl;have q1:=hB.cell 1 _ rfl;have qz:=hB.lt;have HB:Hid (Blk wr w.heap.size [.map (some be),.map (some bs)]):=hB;have HA:Hid ((l.take j).all (fun x=>exB x.op&&zbh k x.args)=true):=hall;clear hall hB
    by_cases hlt:j<l.length
    . obtain ⟨b,off,aa,cp,rfl,hx⟩:=(HD.out.later hb).ex j hlt
      have hc0:=hx.c0;have hc1:=hx.c1;have hc2:=hx.c2;have hc3:=hx.c3;have hc4:=hx.c4;have hlb:=hx.lt;have HX:Hid (DAt wr A aa l[j].args.length (zbz l[j].args)):=hx.args;have hlk:=((HS.out.later hb).later (al1 _ (.cells #[.int .i64 l[j].op,.int .i64 l[j].n,.string l[j].mod,.string l[j].name,.slice aa l[j].args.length cp] 174))).look_ok hx.wop;simp only [Sh.val] at hlk;clear hx
      cases hop:(zkb l[j].op).isSome with
      | false=>
        rw [hop] at hlk;have HF:Hid (l.all (fun x=>exB x.op&&zbh k x.args)=false):=all_not l _ j hlt (by simp [exB,hop]);go_wp2_with fail;go_ret;exact ⟨zaa (by rw [HR.out,HF.out]),thenB hb (al2 _ _ _)⟩
      | true=>
        rw [hop] at hlk;go_wp2_with fail;refine (HI.out l[j].args aa cp _ (HX.out.later (al2 _ _ _)) ((HS.out.later hb).later (al2 _ _ _))).mono ?_
        cases hr:zbh k l[j].args with
        | false=>
          have HF:Hid (l.all (fun x=>exB x.op&&zbh k x.args)=false):=all_not l _ j hlt (by simp [hr]);rintro e w3 ⟨rfl,hb3⟩;go_wp2_with fail;go_ret;exact ⟨zaa (by rw [HR.out,HF.out]),z87 hb hb3⟩
        | true=>
          have HT:Hid ((l.take (j+1)).all (fun x=>exB x.op&&zbh k x.args)=true):=by
           show _=_
           rw [all_snoc l _ j hlt,HA.out];simp [exB,hop,hr]
          rintro e w3 ⟨rfl,hb3⟩;go_wp2_with fail;go_roundw
          case rel=>exact ⟨j+1,by omega,by go_num,HT.out,z87 hb hb3,HB.out.later (thenB (al2 _ _ _) hb3)⟩
          case measure=>simp [intOf];omega
    . have HT:Hid (l.all (fun x=>exB x.op&&zbh k x.args)=true):=zde HA.out hlt
      go_wp2_with fail;go_ret;exact ⟨zaa (by rw [HR.out,HT.out]),hb⟩
theorem zob (a:OA) (cap:Nat) (deep:Int) (w:World) :
 Calls Tryz.prog 236 #[.slice a 0 cap,.int .i64 deep] w fun e w'=>e = .returned (.bool false)/\Below w.heap.size w w':=by
 go_enter Tryz.func236,Tryz.ntmps236;go_wp2_with fail
 go_loopw [21] (fun i wr=>i = .int .i64 0/\wr=w) (fun _ _=>0)
 case atStart=>exact ⟨rfl,rfl⟩
 case round=>
  obtain ⟨rfl,rfl⟩:=hrel;go_wp2_with fail;go_ret;exact ⟨rfl,Below.refl _ _⟩
theorem zir (k:Nat) {l:List Ex} (h:l.length=0):zax k l=false:=by
 have:l=[]:=vao h;subst this
 cases k<;>simp [zax]
theorem zoc (A:Nat->Prop):∀ (k:Nat),k<=6->∀ (l:List Ex) (a:OA) (cap:Nat) (deep:Int) (w:World),deep=7 - (k:Int)->DAt w A a l.length (zbz l)->
 Calls Tryz.prog 236 #[.slice a l.length cap,.int .i64 deep] w fun e w'=>e = .returned (.bool (zax k l))/\Below w.heap.size w w'
 | 0,_,l,a,cap,deep,w,hd,hD=>by
   subst hd;have hbd:=hD.bound;clear hD
   by_cases h0:l.length=0
   . rw [zir 0 h0,h0]
     exact zob a cap _ w
   . have HR:Hid (zax 0 l=true):=by show _=_;simp [zax];omega
     by_cases h3:3<l.length
     . go_enter Tryz.func236,Tryz.ntmps236
       go_wp2_with fail;go_ret;exact ⟨zaa HR.out.symm,Below.refl _ _⟩
     . go_enter Tryz.func236,Tryz.ntmps236
       go_wp2_with fail;go_ret;exact ⟨zaa HR.out.symm,Below.refl _ _⟩
 | k + 1, hk,l,a,cap,deep,w,hd,hD=>by
   have HR:Hid (zax (k+1) l=(decide (3<l.length)||l.any (fun x=>zax k x.args))):=by show _=_;simp [zax]
   have hbd:=hD.bound
   have hd1:1<=deep:=by omega
   have hd6:deep<=6:=by omega
   have HI:Hid (∀ (l:List Ex) (a:OA) (cap:Nat) (w:World),DAt w A a l.length (zbz l)->
    Calls Tryz.prog 236 #[.slice a l.length cap,.int .i64 (deep+1)] w fun e w'=>e = .returned (.bool (zax k l))/\Below w.heap.size w w'):=
    fun l a cap w h1=>zoc A k (by omega) l a cap (deep+1) w (by omega) h1
   have HD:Hid (DAt w A a l.length (zbz l)):=hD;clear hD hd
   by_cases h0:l.length=0
   . rw [zir (k+1) h0,h0]
     exact zob a cap _ w
   have h0':0<l.length:=by omega
   clear h0
   by_cases h3:3<l.length
   . have HT:Hid (zax (k+1) l=true):=by show _=_;rw [HR.out];simp [h3]
     clear hd1;go_enter Tryz.func236,Tryz.ntmps236;go_wp2_with fail;go_ret;exact ⟨zaa HT.out.symm,Below.refl _ _⟩
   . have HN : Hid (zax (k+1) l=l.any (fun x=>zax k x.args)):=by show _=_;rw [HR.out];simp [h3]
     clear HR;go_enter Tryz.func236,Tryz.ntmps236;go_wp2_with fail
     . go_loopw [21] (fun i wr=>∃ j:Nat,j<=l.length/\i = .int .i64 j/\(l.take j).any (fun x=>zax k x.args)=false/\Below w.heap.size w wr) (fun i _=>l.length - (intOf i).toNat)
       case atStart=>exact ⟨0,vae _,rfl,rfl,Below.refl _ _⟩
       case round=>
        obtain ⟨j,hj,rfl,hall,hb⟩:=hrel;have HA:Hid ((l.take j).any (fun x=>zax k x.args)=false):=hall;clear hall
        by_cases hlt:j<l.length
        . obtain ⟨b,off,aa,cp,rfl,hx⟩:=(HD.out.later hb).ex j hlt
          have hc0:=hx.c0;have hc1:=hx.c1;have hc2:=hx.c2;have hc3:=hx.c3;have hc4:=hx.c4;have hlb:=hx.lt;have HX:Hid (DAt wr A aa l[j].args.length (zbz l[j].args)):=hx.args;clear hx;go_wp2_with fail;refine (HI.out l[j].args aa cp _ (HX.out.later (al1 _ _))).mono ?_
          cases hr:zax k l[j].args with
          | true=>
            have HF:Hid (l.any (fun x=>zax k x.args)=true):=zwi l _ j hlt hr;rintro e w3 ⟨rfl,hb3⟩;go_wp2_with fail;go_ret;exact ⟨zaa (by rw [HN.out,HF.out]),z5v hb hb3⟩
          | false=>
            have HT:Hid ((l.take (j+1)).any (fun x=>zax k x.args)=false):=by
             show _=_
             rw [zlg l _ j hlt,HA.out];simp [hr]
            rintro e w3 ⟨rfl,hb3⟩;go_wp2_with fail;go_roundw
            case rel=>exact ⟨j+1,by omega,by go_num,HT.out,z5v hb hb3⟩
            case measure=>simp [intOf];omega
        . have HT:Hid (l.any (fun x=>zax k x.args)=false):=zqw HA.out hlt
          go_wp2_with fail;go_ret;exact ⟨zaa (by rw [HN.out,HT.out]),hb⟩
theorem zth {k:Nat} {l:List Ex} (h:zax (k+1) l=false) (j:Nat) (hj:j<l.length):zax k l[j].args=false:=by
 simp only [zax,vay,vcj] at h;have:=h.2 l[j] (vap hj);simpa using this
theorem zw7 (be bs:Nat) (A:Nat->Prop):∀ (k:Nat) (l:List Ex) (a:OA) (cap:Nat) (w:World),DAt w A a l.length (zbz l)->zdn w be 15 zkb->zax k l=false->
 Calls Tryz.prog 244 #[.agg #[.map (some be),.map (some bs)],.slice a l.length cap] w fun e w'=>e = .returned (.bool (zbq k l))/\Below w.heap.size w w':=by
 intro k
 induction k with
 | zero=>
   intro l a cap w hD hS hM
   have h0:l.length=0:=by simp [zax] at hM;simp [hM]
   have HR:Hid (zbq 0 l=true):=by show _=_;simp [zbq]
   rw [h0];go_enter Tryz.func244,Tryz.ntmps244;go_wp2_with fail
   go_loopw [10] (fun i wr=>i = .int .i64 0/\Below w.heap.size w wr) (fun _ _=>0)
   case atStart=>exact ⟨rfl,al1 _ _⟩
   case round=>
    obtain ⟨rfl,hb⟩:=hrel;go_wp2_with fail;go_ret;exact ⟨zaa HR.out.symm,hb⟩
 | succ k ih=>
   intro l a cap w hD hS hM
   have HR:Hid (zbq (k+1) l=l.all (fun x=>zdl (exS x.op) x.mod x.name&&(nOk (exS x.op) x.n&&(zbg (exS x.op) x.args.length&&zbq k x.args)))):=by show _=_;simp [zbq]
   have hbd:=hD.bound
   have HI:Hid (∀ (l:List Ex) (a:OA) (cap:Nat) (w:World),DAt w A a l.length (zbz l)->zdn w be 15 zkb->zax k l=false->
    Calls Tryz.prog 244 #[.agg #[.map (some be),.map (some bs)],.slice a l.length cap] w fun e w'=>e = .returned (.bool (zbq k l))/\Below w.heap.size w w'):=ih
   have HD:Hid (DAt w A a l.length (zbz l)):=hD;have HS:Hid (zdn w be 15 zkb):=hS;have HM:Hid (∀ (j:Nat) (hj:j<l.length),zax k l[j].args=false):=zth hM;clear hD hS ih hM;have HB:Hid (Blk (w.alloc (.cells #[.map (some be),.map (some bs)] 235)) w.heap.size [.map (some be),.map (some bs)]):=Blk.new w _ _;go_enter Tryz.func244,Tryz.ntmps244;go_wp2_with fail
   go_loopw [10] (fun i wr=>∃ j:Nat,j<=l.length/\i = .int .i64 j/\(l.take j).all (fun x=>zdl (exS x.op) x.mod x.name&&(nOk (exS x.op) x.n&&(zbg (exS x.op) x.args.length&&zbq k x.args)))=true/\Below w.heap.size w wr/\Blk wr w.heap.size [.map (some be),.map (some bs)]) (fun i _=>l.length - (intOf i).toNat)
   case atStart=>exact ⟨0,vae _,rfl,rfl,al1 _ _,HB.out⟩
   case round =>
    clear HB;obtain ⟨j,hj,rfl,hall,hb,hB⟩:=hrel;have q0:=hB.cell 0 _ rfl;have q1:=hB.cell 1 _ rfl;have qz:=hB.lt;have HB:Hid (Blk wr w.heap.size [.map (some be),.map (some bs)]):=hB;have HA:Hid ((l.take j).all (fun x=>zdl (exS x.op) x.mod x.name&&(nOk (exS x.op) x.n&&(zbg (exS x.op) x.args.length&&zbq k x.args)))=true):=hall;clear hall hB
    by_cases hlt:j<l.length
    . obtain ⟨b,off,aa,cp,rfl,hx⟩:=(HD.out.later hb).ex j hlt
      have hc0:=hx.c0;have hc1:=hx.c1;have hc2:=hx.c2;have hc3:=hx.c3;have hc4:=hx.c4;have hlb:=hx.lt;have HX:Hid (ExAt wr A b (off+j*5) l[j] aa cp):=hx
      have HF:Hid (∀ c:Bool,(zdl (exS l[j].op) l[j].mod l[j].name&&(nOk (exS l[j].op) l[j].n&&(zbg (exS l[j].op) l[j].args.length&&zbq k l[j].args)))=false->zbq (k+1) l=false):=fun _ h=>by rw [HR.out];exact all_not l _ j hlt h
      have HT:Hid ((zdl (exS l[j].op) l[j].mod l[j].name&&(nOk (exS l[j].op) l[j].n&&(zbg (exS l[j].op) l[j].args.length&&zbq k l[j].args)))=true->(l.take (j+1)).all (fun x=>zdl (exS x.op) x.mod x.name&&(nOk (exS x.op) x.n&&(zbg (exS x.op) x.args.length&&zbq k x.args)))=true):=fun h=>by
       rw [all_snoc l _ j hlt,HA.out,h];rfl
      have hlk:=((HS.out.later hb).later (al1 _ (.cells #[.int .i64 l[j].op,.int .i64 l[j].n,.string l[j].mod,.string l[j].name,.slice aa l[j].args.length cp] 174))).look hx.wop;clear hx;have hlk':(Instr.lookup 232 (.map (some be)) (.int .i64 l[j].op) false).run Tryz.prog (wr.alloc (.cells #[.int .i64 l[j].op,.int .i64 l[j].n,.string l[j].mod,.string l[j].name,.slice aa l[j].args.length cp] 174)) = .ok (exS l[j].op).val (wr.alloc (.cells #[.int .i64 l[j].op,.int .i64 l[j].n,.string l[j].mod,.string l[j].name,.slice aa l[j].args.length cp] 174)):=hlk;clear hlk;generalize hs:exS l[j].op=s at hlk' HF HT;clear hs;simp only [Sh.val] at hlk';go_wp2_with fail;refine (zkq s l[j].mod l[j].name _ HX.out.wm HX.out.wna).mono ?_
      cases h1:zdl s l[j].mod l[j].name with
      | false=>
        rintro e w3 ⟨rfl,c3⟩;have hb3:Below wr.heap.size wr w3:=thenB (al2 _ _ _) c3;clear c3;go_wp2_with fail;go_ret;exact ⟨zaa (HF.out true (by simp [h1])).symm,thenB hb hb3⟩
      | true=>
        rintro e w3 ⟨rfl,c3⟩;have B0:=(HB.out.later (al2 _ _ _)).later c3;have B1:=(Blk.new1 wr #[.int .i64 l[j].op,.int .i64 l[j].n,.string l[j].mod,.string l[j].name,.slice aa l[j].args.length cp] 174 _).later c3;have B2:=(Blk.new2 wr #[.bool s.named,.bool s.number,.int .i64 s.least,.int .i64 s.most,.bool s.body,.bool s.other] 270 _).later c3;have hb3:Below wr.heap.size wr w3:=thenB (al2 _ _ _) c3;clear c3 q0 q1 qz;obtain ⟨q0,q1,qz⟩:=B0.c2;obtain ⟨x0,x1,x2,x3,x4,xz⟩:=B1.c5;obtain ⟨y0,y1,y2,y3,y4,y5,yz⟩:=B2.c6;have K0:Hid (Blk w3 w.heap.size [.map (some be),.map (some bs)]):=B0;have K1:Hid (Blk w3 wr.heap.size [.int .i64 l[j].op,.int .i64 l[j].n,.string l[j].mod,.string l[j].name,.slice aa l[j].args.length cp]):=B1;have K2:Hid (Blk w3 (wr.heap.size+1) [.bool s.named,.bool s.number,.int .i64 s.least,.int .i64 s.most,.bool s.body,.bool s.other]):=B2
        clear B0 B1 B2;go_wp2_with fail;refine (zms s l[j].n _).mono ?_
        cases h2:nOk s l[j].n with
        | false=>
          rintro e w4 ⟨rfl,c4⟩;have hb4:=thenB hb3 c4;clear c4;go_wp2_with fail;go_ret;exact ⟨zaa (HF.out true (by simp [h2])).symm,thenB hb hb4⟩
        | true=>
          rintro e w4 ⟨rfl,c4⟩;have B0:=K0.out.later c4;have B1:=K1.out.later c4;have B2:=K2.out.later c4;have hb4:=thenB hb3 c4;clear c4 K0 K1 K2;clear q0 q1 qz x0 x1 x2 x3 x4 xz y0 y1 y2 y3 y4 y5 yz;obtain ⟨q0,q1,qz⟩:=B0.c2;obtain ⟨x0,x1,x2,x3,x4,xz⟩:=B1.c5;obtain ⟨y0,y1,y2,y3,y4,y5,yz⟩:=B2.c6;have K0:Hid (Blk w4 w.heap.size [.map (some be),.map (some bs)]):=B0;have K1:Hid (Blk w4 wr.heap.size [.int .i64 l[j].op,.int .i64 l[j].n,.string l[j].mod,.string l[j].name,.slice aa l[j].args.length cp]):=B1;have K2:Hid (Blk w4 (wr.heap.size+1) [.bool s.named,.bool s.number,.int .i64 s.least,.int .i64 s.most,.bool s.body,.bool s.other]):=B2;clear B0 B1 B2;go_wp2_with fail;refine (zh6 s aa l[j].args.length cp _).mono ?_
          cases h3:zbg s l[j].args.length with
          | false=>
            rintro e w5 ⟨rfl,c5⟩;have hb5:=thenB hb4 c5;clear c5;go_wp2_with fail;go_ret;exact ⟨zaa (HF.out true (by simp [h3])).symm,thenB hb hb5⟩
          | true=>
            rintro e w5 ⟨rfl,c5⟩;have B0:=K0.out.later c5;have B1:=K1.out.later c5;have B2:=K2.out.later c5;have hb5:=thenB hb4 c5;clear c5 K0 K1 K2;clear q0 q1 qz x0 x1 x2 x3 x4 xz y0 y1 y2 y3 y4 y5 yz;obtain ⟨q0,q1,qz⟩:=B0.c2;obtain ⟨x0,x1,x2,x3,x4,xz⟩:=B1.c5;obtain ⟨y0,y1,y2,y3,y4,y5,yz⟩:=B2.c6;have K0:Hid (Blk w5 w.heap.size [.map (some be),.map (some bs)]):=B0;have K1:Hid (Blk w5 wr.heap.size [.int .i64 l[j].op,.int .i64 l[j].n,.string l[j].mod,.string l[j].name,.slice aa l[j].args.length cp]):=B1;have K2:Hid (Blk w5 (wr.heap.size+1) [.bool s.named,.bool s.number,.int .i64 s.least,.int .i64 s.most,.bool s.body,.bool s.other]):=B2;clear B0 B1 B2;go_wp2_with fail;refine (HI.out l[j].args aa cp _ (HX.out.args.later hb5) ((HS.out.later hb).later hb5) (HM.out j hlt)).mono ?_
            cases h4:zbq k l[j].args with
            | false=>
              rintro e w6 ⟨rfl,c6⟩;have hb6:=thenB hb5 c6;clear c6;go_wp2_with fail;go_ret;exact ⟨zaa (HF.out true (by simp [h4])).symm,thenB hb hb6⟩
            | true=>
              rintro e w6 ⟨rfl,c6⟩;have hb6:=thenB hb5 c6;have B0:=K0.out.later c6;clear c6;have HT':Hid ((l.take (j+1)).all (fun x=>zdl (exS x.op) x.mod x.name&&(nOk (exS x.op) x.n&&(zbg (exS x.op) x.args.length&&zbq k x.args)))=true):=HT.out (by simp [h1,h2,h3,h4]);go_wp2_with fail;go_roundw
              case rel=>exact ⟨j+1,by omega,by go_num,HT'.out,thenB hb hb6,B0⟩
              case measure=>simp [intOf];omega
    . have HT:Hid (l.all (fun x=>zdl (exS x.op) x.mod x.name&&(nOk (exS x.op) x.n&&(zbg (exS x.op) x.args.length&&zbq k x.args)))=true):=zde HA.out hlt
      go_wp2_with fail;go_ret;exact ⟨zaa (by rw [HR.out,HT.out]),hb⟩
set_option maxHeartbeats 3200000
theorem z2k (a0 a1:Bool) (a2 a3:Int) (a4 a5:Bool) (w:World):(Instr.field 270 (.agg #[.bool a0,.bool a1,.int .i64 a2,.int .i64 a3,.bool a4,.bool a5]) 4).run Tryz.prog w = .ok (.bool a4) w:=by kernel_rfl
theorem zlr (be bs:Nat) (A:Nat->Prop):∀ (k:Nat),k<=6->∀ (l:List St) (a:OA) (cap:Nat) (deep:Int) (w:World),deep=7 - (k:Int)->DAt w A a l.length (zb0 l)->zdn w be 15 zkb->zdn w bs 7 znh->
 Calls Tryz.prog 184 #[.agg #[.map (some be),.map (some bs)],.slice a l.length cap,.int .i64 deep] w fun e w'=>e = .returned (.bool (zay k l))/\Below w.heap.size w w'
 | 0,_,l,a,cap,deep,w,hd,_,_,_=>by
   subst hd
   have HR:Hid (zay 0 l=true):=by show _=_;simp [zay]
   go_enter Tryz.func184,Tryz.ntmps184;go_wp2_with fail;go_ret;exact ⟨zaa HR.out.symm,al1 _ _⟩
 | k + 1, hk, l,a,cap,deep,w,hd,hD,hS,hT=>by
   have HR:Hid (zay (k+1) l=l.all (fun s=>stB s.op&&(zbh 6 s.args&&(zay k s.body&&zay k s.other)))):=by show _=_;simp [zay]
   have hbd:=hD.bound
   have hd1:1<=deep:=by omega
   have hd6:deep<=6:=by omega
   have HI:Hid (∀ (l:List St) (a:OA) (cap:Nat) (w:World),DAt w A a l.length (zb0 l)->zdn w be 15 zkb->zdn w bs 7 znh->
    Calls Tryz.prog 184 #[.agg #[.map (some be),.map (some bs)],.slice a l.length cap,.int .i64 (deep+1)] w fun e w'=>e = .returned (.bool (zay k l))/\Below w.heap.size w w'):=
    fun l a cap w h1 h2 h3=>zlr be bs A k (by omega) l a cap (deep+1) w (by omega) h1 h2 h3
   have HD:Hid (DAt w A a l.length (zb0 l)):=hD;have HS:Hid (zdn w be 15 zkb):=hS;have HU:Hid (zdn w bs 7 znh):=hT;clear hD hS hT hd;have HB:Hid (Blk (w.alloc (.cells #[.map (some be),.map (some bs)] 235)) w.heap.size [.map (some be),.map (some bs)]):=Blk.new w _ _;go_enter Tryz.func184,Tryz.ntmps184;go_wp2_with fail
   go_loopw [15] (fun i wr=>∃ j:Nat,j<=l.length/\i = .int .i64 j/\(l.take j).all (fun s=>stB s.op&&(zbh 6 s.args&&(zay k s.body&&zay k s.other)))=true/\Below w.heap.size w wr/\Blk wr w.heap.size [.map (some be),.map (some bs)]) (fun i _=>l.length - (intOf i).toNat)
   case atStart=>exact ⟨0,vae _,rfl,rfl,al1 _ _,HB.out⟩
   case round =>
    clear HB;obtain ⟨j,hj,rfl,hall,hb,hB⟩:=hrel;have q0:=hB.cell 0 _ rfl;have q1:=hB.cell 1 _ rfl;have qz:=hB.lt;have HB:Hid (Blk wr w.heap.size [.map (some be),.map (some bs)]):=hB;have HA:Hid ((l.take j).all (fun s=>stB s.op&&(zbh 6 s.args&&(zay k s.body&&zay k s.other)))=true):=hall;clear hall hB
    by_cases hlt:j<l.length
    . obtain ⟨b,off,a1,p1,a2,p2,a3,p3,rfl,hx⟩:=(HD.out.later hb).st j hlt
      have hc0:=hx.c0;have hc1:=hx.c1;have hc2:=hx.c2;have hc3:=hx.c3;have hc4:=hx.c4;have hc5:=hx.c5;have hlb:=hx.lt;have hn1:=hx.args.bound;have hn2:=hx.body.bound;have hn3:=hx.other.bound;have HX:Hid (StAt wr A b (off+j*6) l[j] a1 p1 a2 p2 a3 p3):=hx
      have HF:Hid ((stB l[j].op&&(zbh 6 l[j].args&&(zay k l[j].body&&zay k l[j].other)))=false->zay (k+1) l=false):=fun h=>by rw [HR.out];exact all_not l _ j hlt h
      have HT:Hid ((stB l[j].op&&(zbh 6 l[j].args&&(zay k l[j].body&&zay k l[j].other)))=true->(l.take (j+1)).all (fun s=>stB s.op&&(zbh 6 s.args&&(zay k s.body&&zay k s.other)))=true):=fun h=>by rw [all_snoc l _ j hlt,HA.out,h];rfl
      have hlk:=((HU.out.later hb).later (al1 _ (.cells #[.int .i64 l[j].op,.string l[j].mod,.string l[j].name,.slice a1 l[j].args.length p1,.slice a2 l[j].body.length p2,.slice a3 l[j].other.length p3] 176))).look_ok hx.wop;clear hx
      cases hop:(znh l[j].op).isSome with
      | false=>
        rw [hop] at hlk;simp only [Sh.val] at hlk;go_wp2_with fail;go_ret;exact ⟨zaa (HF.out (by simp [stB,hop])).symm,thenB hb (al2 _ _ _)⟩
      | true=>
        rw [hop] at hlk;generalize hs:(znh l[j].op).getD sh0=s at hlk;simp only [Sh.val] at hlk;clear hs;go_wp2_with fail;refine (zlq be bs A 6 (by omega) l[j].args a1 p1 1 _ (by omega) (HX.out.args.later (al2 _ _ _)) ((HS.out.later hb).later (al2 _ _ _))).mono ?_
        cases h1:zbh 6 l[j].args with
        | false=>
          rintro e w3 ⟨rfl,c3⟩;go_wp2_with fail;go_ret;exact ⟨zaa (HF.out (by simp [h1])).symm,z87 hb c3⟩
        | true=>
          rintro e w3 ⟨rfl,c3⟩;have B0:=(HB.out.later (al2 _ _ _)).later c3;have B1:=(Blk.new1 wr #[.int .i64 l[j].op,.string l[j].mod,.string l[j].name,.slice a1 l[j].args.length p1,.slice a2 l[j].body.length p2,.slice a3 l[j].other.length p3] 176 _).later c3;have hb3:Below wr.heap.size wr w3:=thenB (al2 _ _ _) c3;clear c3 q0 q1 qz;obtain ⟨q0,q1,qz⟩:=B0.c2;obtain ⟨x0,x1,x2,x3,x4,x5,xz⟩:=B1.c6;have K0:Hid (Blk w3 w.heap.size [.map (some be),.map (some bs)]):=B0;have K1:Hid (Blk w3 wr.heap.size [.int .i64 l[j].op,.string l[j].mod,.string l[j].name,.slice a1 l[j].args.length p1,.slice a2 l[j].body.length p2,.slice a3 l[j].other.length p3]):=B1;clear B0 B1;go_wp2_with fail;refine (HI.out l[j].body a2 p2 _ (HX.out.body.later hb3) ((HS.out.later hb).later hb3) ((HU.out.later hb).later hb3)).mono ?_
          cases h2:zay k l[j].body with
          | false=>
            rintro e w4 ⟨rfl,c4⟩;have hb4:=thenB hb3 c4;clear c4;go_wp2_with fail;go_ret;exact ⟨zaa (HF.out (by simp [h2])).symm,thenB hb hb4⟩
          | true=>
            rintro e w4 ⟨rfl,c4⟩;have B0:=K0.out.later c4;have B1:=K1.out.later c4;have hb4:=thenB hb3 c4;clear c4 K0 K1;clear q0 q1 qz x0 x1 x2 x3 x4 x5 xz;obtain ⟨q0,q1,qz⟩:=B0.c2;obtain ⟨x0,x1,x2,x3,x4,x5,xz⟩:=B1.c6;have K0:Hid (Blk w4 w.heap.size [.map (some be),.map (some bs)]):=B0;have K1:Hid (Blk w4 wr.heap.size [.int .i64 l[j].op,.string l[j].mod,.string l[j].name,.slice a1 l[j].args.length p1,.slice a2 l[j].body.length p2,.slice a3 l[j].other.length p3]):=B1;clear B0 B1;go_wp2_with fail;refine (HI.out l[j].other a3 p3 _ (HX.out.other.later hb4) ((HS.out.later hb).later hb4) ((HU.out.later hb).later hb4)).mono ?_
            cases h3:zay k l[j].other with
            | false=>
              rintro e w5 ⟨rfl,c5⟩;have hb5:=thenB hb4 c5;clear c5;go_wp2_with fail;go_ret;exact ⟨zaa (HF.out (by simp [h3])).symm,thenB hb hb5⟩
            | true=>
              rintro e w5 ⟨rfl,c5⟩;have K0':=K0.out.later c5;have hb5:=thenB hb4 c5;clear c5;have HT':Hid ((l.take (j+1)).all (fun s=>stB s.op&&(zbh 6 s.args&&(zay k s.body&&zay k s.other)))=true):=HT.out (by simp [stB,hop,h1,h2,h3]);go_wp2_with fail;go_roundw
              case rel=>exact ⟨j+1,by omega,by go_num,HT'.out,thenB hb hb5,K0'⟩
              case measure=>simp [intOf];omega
    . have HT:Hid (l.all (fun s=>stB s.op&&(zbh 6 s.args&&(zay k s.body&&zay k s.other)))=true):=zde HA.out hlt
      go_wp2_with fail;go_ret;exact ⟨zaa (by rw [HR.out,HT.out]),hb⟩
theorem zod (be bs:Nat) (A:Nat->Prop):∀ (k:Nat),k<=6->∀ (l:List St) (a:OA) (cap:Nat) (deep:Int) (w:World),deep=7 - (k:Int)->DAt w A a l.length (zb0 l)->zdn w be 15 zkb->zdn w bs 7 znh->
 Calls Tryz.prog 185 #[.agg #[.map (some be),.map (some bs)],.slice a l.length cap,.int .i64 deep] w fun e w'=>e = .returned (.bool (zan k l))/\Below w.heap.size w w'
 | 0,_,l,a,cap,deep,w,hd,_,_,_=>by
   subst hd
   have HR:Hid (zan 0 l=true):=by show _=_;simp [zan]
   go_enter Tryz.func185,Tryz.ntmps185;go_wp2_with fail;go_ret;exact ⟨zaa HR.out.symm,al1 _ _⟩
 | k + 1, hk, l,a,cap,deep,w,hd,hD,hS,hT=>by
   have HR:Hid (zan (k+1) l=(decide (10<l.length)||l.any (fun s=>zax 6 s.args||(((stS s.op).body||decide (0<s.body.length))&&zan k s.body||(decide (0<s.other.length)&&zan k s.other))))):=by show _=_;simp [zan]
   have hbd:=hD.bound
   have hd1:1<=deep:=by omega
   have hd6:deep<=6:=by omega
   have HI:Hid (∀ (l:List St) (a:OA) (cap:Nat) (w:World),DAt w A a l.length (zb0 l)->zdn w be 15 zkb->zdn w bs 7 znh->
    Calls Tryz.prog 185 #[.agg #[.map (some be),.map (some bs)],.slice a l.length cap,.int .i64 (deep+1)] w fun e w'=>e = .returned (.bool (zan k l))/\Below w.heap.size w w'):=
    fun l a cap w h1 h2 h3=>zod be bs A k (by omega) l a cap (deep+1) w (by omega) h1 h2 h3
   have HD:Hid (DAt w A a l.length (zb0 l)):=hD;have HS:Hid (zdn w be 15 zkb):=hS;have HU:Hid (zdn w bs 7 znh):=hT;clear hD hS hT hd;have HB:Hid (Blk (w.alloc (.cells #[.map (some be),.map (some bs)] 235)) w.heap.size [.map (some be),.map (some bs)]):=Blk.new w _ _
   by_cases h10:10<l.length
   . have HN:Hid (zan (k+1) l=true):=by show _=_;rw [HR.out];simp [h10]
     go_enter Tryz.func185,Tryz.ntmps185;go_wp2_with fail;go_ret;exact ⟨zaa HN.out.symm,al1 _ _⟩
   have HN:Hid (zan (k+1) l=l.any (fun s=>zax 6 s.args||(((stS s.op).body||decide (0<s.body.length))&&zan k s.body||(decide (0<s.other.length)&&zan k s.other)))):=by show _=_;rw [HR.out];simp [h10]
   clear HR;go_enter Tryz.func185,Tryz.ntmps185;go_wp2_with fail
   go_loopw [18] (fun i wr=>∃ j:Nat,j<=l.length/\i = .int .i64 j/\(l.take j).any (fun s=>zax 6 s.args||(((stS s.op).body||decide (0<s.body.length))&&zan k s.body||(decide (0<s.other.length)&&zan k s.other)))=false/\Below w.heap.size w wr/\Blk wr w.heap.size [.map (some be),.map (some bs)]) (fun i _=>l.length - (intOf i).toNat)
   case atStart=>exact ⟨0,vae _,rfl,rfl,al1 _ _,HB.out⟩
   case round =>
    clear HB;obtain ⟨j,hj,rfl,hall,hb,hB⟩:=hrel;have q0:=hB.cell 0 _ rfl;have q1:=hB.cell 1 _ rfl;have qz:=hB.lt;have HB:Hid (Blk wr w.heap.size [.map (some be),.map (some bs)]):=hB;have HA:Hid ((l.take j).any (fun s=>zax 6 s.args||(((stS s.op).body||decide (0<s.body.length))&&zan k s.body||(decide (0<s.other.length)&&zan k s.other)))=false):=hall;clear hall hB
    by_cases hlt:j<l.length
    . obtain ⟨b,off,a1,p1,a2,p2,a3,p3,rfl,hx⟩:=(HD.out.later hb).st j hlt
      have hc0:=hx.c0;have hc1:=hx.c1;have hc2:=hx.c2;have hc3:=hx.c3;have hc4:=hx.c4;have hc5:=hx.c5;have hlb:=hx.lt;have hn1:=hx.args.bound;have hn2:=hx.body.bound;have hn3:=hx.other.bound;have HX:Hid (StAt wr A b (off+j*6) l[j] a1 p1 a2 p2 a3 p3):=hx
      have HF:Hid ((zax 6 l[j].args||(((stS l[j].op).body||decide (0<l[j].body.length))&&zan k l[j].body||(decide (0<l[j].other.length)&&zan k l[j].other)))=true->zan (k+1) l=true):=fun h=>by rw [HN.out];exact zwi l _ j hlt h
      have HT:Hid ((zax 6 l[j].args||(((stS l[j].op).body||decide (0<l[j].body.length))&&zan k l[j].body||(decide (0<l[j].other.length)&&zan k l[j].other)))=false->(l.take (j+1)).any (fun s=>zax 6 s.args||(((stS s.op).body||decide (0<s.body.length))&&zan k s.body||(decide (0<s.other.length)&&zan k s.other)))=false):=fun h=>by rw [zlg l _ j hlt,HA.out,h];rfl
      clear hx;go_wp2_with fail;refine (zoc A 6 (by omega) l[j].args a1 p1 1 _ (by omega) (HX.out.args.later (al1 _ _))).mono ?_
      cases h1:zax 6 l[j].args with
      | true=>
        rintro e w3 ⟨rfl,c3⟩;go_wp2_with fail;go_ret;exact ⟨zaa (HF.out (by simp [h1])).symm,z5v hb c3⟩
      | false =>
        rintro e w3 ⟨rfl,c3⟩;have B0:=(HB.out.later (al1 _ _)).later c3;have B1:=(Blk.new wr #[.int .i64 l[j].op,.string l[j].mod,.string l[j].name,.slice a1 l[j].args.length p1,.slice a2 l[j].body.length p2,.slice a3 l[j].other.length p3] 176).later c3;have hb3:Below wr.heap.size wr w3:=thenB (al1 _ _) c3;clear c3 q0 q1 qz;obtain ⟨q0,q1,qz⟩:=B0.c2;obtain ⟨x0,x1,x2,x3,x4,x5,xz⟩:=B1.c6;have K0:Hid (Blk w3 w.heap.size [.map (some be),.map (some bs)]):=B0;have K1:Hid (Blk w3 wr.heap.size [.int .i64 l[j].op,.string l[j].mod,.string l[j].name,.slice a1 l[j].args.length p1,.slice a2 l[j].body.length p2,.slice a3 l[j].other.length p3]):=B1;clear B0 B1;have hlk:(Instr.lookup 232 (.map (some bs)) (.int .i64 l[j].op) false).run Tryz.prog w3 = .ok (stS l[j].op).val w3:=((HU.out.later hb).later hb3).look HX.out.wop;simp only [Sh.val] at hlk;have hfd:=z2k
        cases hbo:(stS l[j].op).body with
        | true=>
          rw [hbo] at hlk
          have HG:Hid (((stS l[j].op).body||decide (0<l[j].body.length))=true):=by show _=_;simp [hbo]
          clear hbo;go_wp2_with fail;refine (HI.out l[j].body a2 p2 _ (HX.out.body.later hb3) ((HS.out.later hb).later hb3) ((HU.out.later hb).later hb3)).mono ?_
          cases h2:zan k l[j].body with
          | true=>
            rintro e w4 ⟨rfl,c4⟩;have hb4:=thenB hb3 c4;clear c4;go_wp2_with fail;go_ret;exact ⟨zaa (HF.out (by simp [HG.out,h2])).symm,thenB hb hb4⟩
          | false=>
            rintro e w4 ⟨rfl,c4⟩;have B0:=K0.out.later c4;have B1:=K1.out.later c4;have hb4:=thenB hb3 c4;clear c4 K0 K1;clear q0 q1 qz x0 x1 x2 x3 x4 x5 xz;obtain ⟨q0,q1,qz⟩:=B0.c2;obtain ⟨x0,x1,x2,x3,x4,x5,xz⟩:=B1.c6;have K0:Hid (Blk w4 w.heap.size [.map (some be),.map (some bs)]):=B0;have K1:Hid (Blk w4 wr.heap.size [.int .i64 l[j].op,.string l[j].mod,.string l[j].name,.slice a1 l[j].args.length p1,.slice a2 l[j].body.length p2,.slice a3 l[j].other.length p3]):=B1;clear B0 B1
            have HQ:Hid ((((stS l[j].op).body||decide (0<l[j].body.length))&&zan k l[j].body)=false):=by show _=_;simp [h2]
            by_cases h5:0<l[j].other.length
            . go_wp2_with fail
              refine (HI.out l[j].other a3 p3 _ (HX.out.other.later hb4) ((HS.out.later hb).later hb4) ((HU.out.later hb).later hb4)).mono ?_
              cases h6:zan k l[j].other with
              | true=>
                rintro e w9 ⟨rfl,c9⟩;have hb9:=thenB hb4 c9;clear c9;go_wp2_with fail;go_ret;exact ⟨zaa (HF.out (by simp [h5,h6])).symm,thenB hb hb9⟩
              | false=>
                rintro e w9 ⟨rfl,c9⟩;have K0':=K0.out.later c9;have hb9:=thenB hb4 c9;clear c9;have HT':Hid ((l.take (j+1)).any (fun s=>zax 6 s.args||(((stS s.op).body||decide (0<s.body.length))&&zan k s.body||(decide (0<s.other.length)&&zan k s.other)))=false):=HT.out (by simp [h1,h6,HQ.out]);go_wp2_with fail;go_roundw
                case rel=>exact ⟨j+1,by omega,by go_num,HT'.out,thenB hb hb9,K0'⟩
                case measure=>simp [intOf];omega
            . have HT':Hid ((l.take (j+1)).any (fun s=>zax 6 s.args||(((stS s.op).body||decide (0<s.body.length))&&zan k s.body||(decide (0<s.other.length)&&zan k s.other)))=false):=HT.out (by simp [h1,h5,HQ.out])
              have K0':=K0.out;go_wp2_with fail;go_roundw
              case rel=>exact ⟨j+1,by omega,by go_num,HT'.out,thenB hb hb4,K0'⟩
              case measure=>simp [intOf];omega
        | false =>
          rw [hbo] at hlk
          by_cases h4:0<l[j].body.length
          . have HG:Hid (((stS l[j].op).body||decide (0<l[j].body.length))=true):=by show _=_;simp [h4]
            clear hbo;go_wp2_with fail;refine (HI.out l[j].body a2 p2 _ (HX.out.body.later hb3) ((HS.out.later hb).later hb3) ((HU.out.later hb).later hb3)).mono ?_
            cases h2:zan k l[j].body with
            | true=>
              rintro e w4 ⟨rfl,c4⟩;have hb4:=thenB hb3 c4;clear c4;go_wp2_with fail;go_ret;exact ⟨zaa (HF.out (by simp [HG.out,h2])).symm,thenB hb hb4⟩
            | false=>
              rintro e w4 ⟨rfl,c4⟩;have B0:=K0.out.later c4;have B1:=K1.out.later c4;have hb4:=thenB hb3 c4;clear c4 K0 K1;clear q0 q1 qz x0 x1 x2 x3 x4 x5 xz;obtain ⟨q0,q1,qz⟩:=B0.c2;obtain ⟨x0,x1,x2,x3,x4,x5,xz⟩:=B1.c6;have K0:Hid (Blk w4 w.heap.size [.map (some be),.map (some bs)]):=B0;have K1:Hid (Blk w4 wr.heap.size [.int .i64 l[j].op,.string l[j].mod,.string l[j].name,.slice a1 l[j].args.length p1,.slice a2 l[j].body.length p2,.slice a3 l[j].other.length p3]):=B1;clear B0 B1
              have HQ:Hid ((((stS l[j].op).body||decide (0<l[j].body.length))&&zan k l[j].body)=false):=by show _=_;simp [h2]
              by_cases h5:0<l[j].other.length
              . go_wp2_with fail
                refine (HI.out l[j].other a3 p3 _ (HX.out.other.later hb4) ((HS.out.later hb).later hb4) ((HU.out.later hb).later hb4)).mono ?_
                cases h6:zan k l[j].other with
                | true=>
                  rintro e w9 ⟨rfl,c9⟩;have hb9:=thenB hb4 c9;clear c9;go_wp2_with fail;go_ret;exact ⟨zaa (HF.out (by simp [h5,h6])).symm,thenB hb hb9⟩
                | false=>
                  rintro e w9 ⟨rfl,c9⟩;have K0':=K0.out.later c9;have hb9:=thenB hb4 c9;clear c9;have HT':Hid ((l.take (j+1)).any (fun s=>zax 6 s.args||(((stS s.op).body||decide (0<s.body.length))&&zan k s.body||(decide (0<s.other.length)&&zan k s.other)))=false):=HT.out (by simp [h1,h6,HQ.out]);go_wp2_with fail;go_roundw
                  case rel=>exact ⟨j+1,by omega,by go_num,HT'.out,thenB hb hb9,K0'⟩
                  case measure=>simp [intOf];omega
              . have HT':Hid ((l.take (j+1)).any (fun s=>zax 6 s.args||(((stS s.op).body||decide (0<s.body.length))&&zan k s.body||(decide (0<s.other.length)&&zan k s.other)))=false):=HT.out (by simp [h1,h5,HQ.out])
                have K0':=K0.out;go_wp2_with fail;go_roundw
                case rel=>exact ⟨j+1,by omega,by go_num,HT'.out,thenB hb hb4,K0'⟩
                case measure=>simp [intOf];omega
          . have HQ:Hid ((((stS l[j].op).body||decide (0<l[j].body.length))&&zan k l[j].body)=false):=by show _=_;simp [hbo,h4]
            clear hbo
            by_cases h5:0<l[j].other.length
            . go_wp2_with fail
              refine (HI.out l[j].other a3 p3 _ (HX.out.other.later hb3) ((HS.out.later hb).later hb3) ((HU.out.later hb).later hb3)).mono ?_
              cases h6:zan k l[j].other with
              | true=>
                rintro e w9 ⟨rfl,c9⟩;have hb9:=thenB hb3 c9;clear c9;go_wp2_with fail;go_ret;exact ⟨zaa (HF.out (by simp [h5,h6])).symm,thenB hb hb9⟩
              | false=>
                rintro e w9 ⟨rfl,c9⟩;have K0':=K0.out.later c9;have hb9:=thenB hb3 c9;clear c9;have HT':Hid ((l.take (j+1)).any (fun s=>zax 6 s.args||(((stS s.op).body||decide (0<s.body.length))&&zan k s.body||(decide (0<s.other.length)&&zan k s.other)))=false):=HT.out (by simp [h1,h6,HQ.out]);go_wp2_with fail;go_roundw
                case rel=>exact ⟨j+1,by omega,by go_num,HT'.out,thenB hb hb9,K0'⟩
                case measure=>simp [intOf];omega
            . have HT':Hid ((l.take (j+1)).any (fun s=>zax 6 s.args||(((stS s.op).body||decide (0<s.body.length))&&zan k s.body||(decide (0<s.other.length)&&zan k s.other)))=false):=HT.out (by simp [h1,h5,HQ.out])
              have K0':=K0.out;go_wp2_with fail;go_roundw
              case rel=>exact ⟨j+1,by omega,by go_num,HT'.out,thenB hb hb3,K0'⟩
              case measure=>simp [intOf];omega
    . have HT:Hid (l.any (fun s=>zax 6 s.args||(((stS s.op).body||decide (0<s.body.length))&&zan k s.body||(decide (0<s.other.length)&&zan k s.other)))=false):=zqw HA.out hlt
      go_wp2_with fail;go_ret;exact ⟨zaa (by rw [HN.out,HT.out]),hb⟩
theorem zyt {k:Nat} {l:List St} (h:l.length=0\/zan (k+1) l=false) (j:Nat) (hj:j<l.length):zax 6 l[j].args=false/\(l[j].body.length=0\/zan k l[j].body=false)/\(l[j].other.length=0\/zan k l[j].other=false):=by
 rcases h with h | h
 . omega
 . simp only [zan,vay,vcj] at h
   have:=h.2 l[j] (vap hj);simp only [vdc,vay,vcp,decide_eq_false_iff_not] at this;refine ⟨this.1,?_,?_⟩
   . rcases this.2.1 with h1 | h1
     . left;omega
     . exact Or.inr h1
   . rcases this.2.2 with h1 | h1
     . left;omega
     . exact Or.inr h1
theorem zw8 (be bs:Nat) (A:Nat->Prop):∀ (k:Nat) (l:List St) (a:OA) (cap:Nat) (w:World),DAt w A a l.length (zb0 l)->zdn w be 15 zkb->zdn w bs 7 znh->(l.length=0\/zan k l=false)->
 Calls Tryz.prog 189 #[.agg #[.map (some be),.map (some bs)],.slice a l.length cap] w fun e w'=>e = .returned (.bool (zaz k l))/\Below w.heap.size w w':=by
 intro k
 induction k with
 | zero=>
   intro l a cap w hD hS hT hM
   have h0 : l.length = 0 := by rcases hM with h | h
                                . exact h
                                . simp [zan] at h
   have HR:Hid (zaz 0 l=true):=by show _=_;simp [zaz]
   rw [h0];go_enter Tryz.func189,Tryz.ntmps189;go_wp2_with fail
   go_loopw [10] (fun i wr=>i = .int .i64 0/\Below w.heap.size w wr) (fun _ _=>0)
   case atStart=>exact ⟨rfl,al1 _ _⟩
   case round=>
    obtain ⟨rfl,hb⟩:=hrel;go_wp2_with fail;go_ret;exact ⟨zaa HR.out.symm,hb⟩
 | succ k ih=>
   intro l a cap w hD hS hT hM
   have HR:Hid (zaz (k+1) l=l.all (fun s=>zdl (stS s.op) s.mod s.name&&(zbg (stS s.op) s.args.length&&(zbq 6 s.args&&(((stS s.op).body||decide (s.body.length=0))&&(((stS s.op).other||decide (s.other.length=0))&&(zaz k s.body&&zaz k s.other))))))):=by show _=_;simp [zaz]
   have hbd:=hD.bound
   have HI:Hid (∀ (l:List St) (a:OA) (cap:Nat) (w:World),DAt w A a l.length (zb0 l)->zdn w be 15 zkb->zdn w bs 7 znh->(l.length=0\/zan k l=false)->
    Calls Tryz.prog 189 #[.agg #[.map (some be),.map (some bs)],.slice a l.length cap] w fun e w'=>e = .returned (.bool (zaz k l))/\Below w.heap.size w w'):=ih
   have HD:Hid (DAt w A a l.length (zb0 l)):=hD;have HS:Hid (zdn w be 15 zkb):=hS;have HU:Hid (zdn w bs 7 znh):=hT;have HM:Hid (∀ (j:Nat) (hj:j<l.length),zax 6 l[j].args=false/\(l[j].body.length=0\/zan k l[j].body=false)/\(l[j].other.length=0\/zan k l[j].other=false)):=zyt hM;clear hD hS hT hM ih;have HB:Hid (Blk (w.alloc (.cells #[.map (some be),.map (some bs)] 235)) w.heap.size [.map (some be),.map (some bs)]):=Blk.new w _ _;go_enter Tryz.func189,Tryz.ntmps189;go_wp2_with fail
   go_loopw [10] (fun i wr=>∃ j:Nat,j<=l.length/\i = .int .i64 j/\(l.take j).all (fun s=>zdl (stS s.op) s.mod s.name&&(zbg (stS s.op) s.args.length&&(zbq 6 s.args&&(((stS s.op).body||decide (s.body.length=0))&&(((stS s.op).other||decide (s.other.length=0))&&(zaz k s.body&&zaz k s.other))))))=true/\Below w.heap.size w wr/\Blk wr w.heap.size [.map (some be),.map (some bs)]) (fun i _=>l.length - (intOf i).toNat)
   case atStart=>exact ⟨0,vae _,rfl,rfl,al1 _ _,HB.out⟩
   case round =>
    clear HB;obtain ⟨j,hj,rfl,hall,hb,hB⟩:=hrel;have q0:=hB.cell 0 _ rfl;have q1:=hB.cell 1 _ rfl;have qz:=hB.lt;have HB:Hid (Blk wr w.heap.size [.map (some be),.map (some bs)]):=hB;have HA:Hid ((l.take j).all (fun s=>zdl (stS s.op) s.mod s.name&&(zbg (stS s.op) s.args.length&&(zbq 6 s.args&&(((stS s.op).body||decide (s.body.length=0))&&(((stS s.op).other||decide (s.other.length=0))&&(zaz k s.body&&zaz k s.other))))))=true):=hall;clear hall hB
    by_cases hlt:j<l.length
    . obtain ⟨b, off, a1,p1,a2,p2,a3,p3,rfl,hx⟩:=(HD.out.later hb).st j hlt
      have hc0:=hx.c0;have hc1:=hx.c1;have hc2:=hx.c2;have hc3:=hx.c3;have hc4:=hx.c4;have hc5:=hx.c5;have hlb:=hx.lt;have hn1:=hx.args.bound;have hn2:=hx.body.bound;have hn3:=hx.other.bound;have HX:Hid (StAt wr A b (off+j*6) l[j] a1 p1 a2 p2 a3 p3):=hx
      have HF:Hid ((zdl (stS l[j].op) l[j].mod l[j].name&&(zbg (stS l[j].op) l[j].args.length&&(zbq 6 l[j].args&&(((stS l[j].op).body||decide (l[j].body.length=0))&&(((stS l[j].op).other||decide (l[j].other.length=0))&&(zaz k l[j].body&&zaz k l[j].other))))))=false->zaz (k+1) l=false):=fun h=>by rw [HR.out];exact all_not l _ j hlt h
      have HT:Hid ((zdl (stS l[j].op) l[j].mod l[j].name&&(zbg (stS l[j].op) l[j].args.length&&(zbq 6 l[j].args&&(((stS l[j].op).body||decide (l[j].body.length=0))&&(((stS l[j].op).other||decide (l[j].other.length=0))&&(zaz k l[j].body&&zaz k l[j].other))))))=true->(l.take (j+1)).all (fun s=>zdl (stS s.op) s.mod s.name&&(zbg (stS s.op) s.args.length&&(zbq 6 s.args&&(((stS s.op).body||decide (s.body.length=0))&&(((stS s.op).other||decide (s.other.length=0))&&(zaz k s.body&&zaz k s.other))))))=true):=fun h=>by rw [all_snoc l _ j hlt,HA.out,h];rfl
      have hlk:(Instr.lookup 232 (.map (some bs)) (.int .i64 l[j].op) false).run Tryz.prog (wr.alloc (.cells #[.int .i64 l[j].op,.string l[j].mod,.string l[j].name,.slice a1 l[j].args.length p1,.slice a2 l[j].body.length p2,.slice a3 l[j].other.length p3] 176)) = .ok (stS l[j].op).val (wr.alloc (.cells #[.int .i64 l[j].op,.string l[j].mod,.string l[j].name,.slice a1 l[j].args.length p1,.slice a2 l[j].body.length p2,.slice a3 l[j].other.length p3] 176)):=((HU.out.later hb).later (al1 _ (.cells #[.int .i64 l[j].op,.string l[j].mod,.string l[j].name,.slice a1 l[j].args.length p1,.slice a2 l[j].body.length p2,.slice a3 l[j].other.length p3] 176))).look hx.wop;clear hx;generalize hs:stS l[j].op=s at hlk HF HT;clear hs;simp only [Sh.val] at hlk;go_wp2_with fail;refine (zkq s l[j].mod l[j].name _ HX.out.wm HX.out.wna).mono ?_
      cases h1:zdl s l[j].mod l[j].name with
      | false=>
        rintro e w3 ⟨rfl,c3⟩;go_wp2_with fail;go_ret;exact ⟨zaa (HF.out (by simp [h1])).symm,z87 hb c3⟩
      | true=>
        rintro e w3 ⟨rfl,c3⟩;have B0:=(HB.out.later (al2 _ _ _)).later c3;have B1:=(Blk.new1 wr #[.int .i64 l[j].op,.string l[j].mod,.string l[j].name,.slice a1 l[j].args.length p1,.slice a2 l[j].body.length p2,.slice a3 l[j].other.length p3] 176 _).later c3;have B2:=(Blk.new2 wr #[.bool s.named,.bool s.number,.int .i64 s.least,.int .i64 s.most,.bool s.body,.bool s.other] 270 _).later c3;have hb3:Below wr.heap.size wr w3:=thenB (al2 _ _ _) c3;clear c3 q0 q1 qz;obtain ⟨q0,q1,qz⟩:=B0.c2;obtain ⟨x0,x1,x2,x3,x4,x5,xz⟩:=B1.c6;obtain ⟨y0,y1,y2,y3,y4,y5,yz⟩:=B2.c6;have K0:Hid (Blk w3 w.heap.size [.map (some be),.map (some bs)]):=B0;have K1:Hid (Blk w3 wr.heap.size [.int .i64 l[j].op,.string l[j].mod,.string l[j].name,.slice a1 l[j].args.length p1,.slice a2 l[j].body.length p2,.slice a3 l[j].other.length p3]):=B1;have K2:Hid (Blk w3 (wr.heap.size+1) [.bool s.named,.bool s.number,.int .i64 s.least,.int .i64 s.most,.bool s.body,.bool s.other]):=B2
        clear B0 B1 B2;go_wp2_with fail;refine (zh6 s a1 l[j].args.length p1 _).mono ?_
        cases h2:zbg s l[j].args.length with
        | false=>
          rintro e w4 ⟨rfl,c4⟩;have hb4:=thenB hb3 c4;clear c4;go_wp2_with fail;go_ret;exact ⟨zaa (HF.out (by simp [h2])).symm,thenB hb hb4⟩
        | true=>
          rintro e w4 ⟨rfl,c4⟩;have B0:=K0.out.later c4;have B1:=K1.out.later c4;have B2:=K2.out.later c4;have hb4:=thenB hb3 c4;clear c4 K0 K1 K2;clear q0 q1 qz x0 x1 x2 x3 x4 x5 xz y0 y1 y2 y3 y4 y5 yz;obtain ⟨q0,q1,qz⟩:=B0.c2;obtain ⟨x0,x1,x2,x3,x4,x5,xz⟩:=B1.c6;obtain ⟨y0,y1,y2,y3,y4,y5,yz⟩:=B2.c6;have K0:Hid (Blk w4 w.heap.size [.map (some be),.map (some bs)]):=B0;have K1:Hid (Blk w4 wr.heap.size [.int .i64 l[j].op,.string l[j].mod,.string l[j].name,.slice a1 l[j].args.length p1,.slice a2 l[j].body.length p2,.slice a3 l[j].other.length p3]):=B1;have K2:Hid (Blk w4 (wr.heap.size+1) [.bool s.named,.bool s.number,.int .i64 s.least,.int .i64 s.most,.bool s.body,.bool s.other]):=B2;clear B0 B1 B2;go_wp2_with fail;refine (zw7 be bs A 6 l[j].args a1 p1 _ (HX.out.args.later hb4) ((HS.out.later hb).later hb4) (HM.out j hlt).1).mono ?_
          cases h3:zbq 6 l[j].args with
          | false=>
            rintro e w5 ⟨rfl,c5⟩;have hb5:=thenB hb4 c5;clear c5;go_wp2_with fail;go_ret;exact ⟨zaa (HF.out (by simp [h3])).symm,thenB hb hb5⟩
          | true=>
            rintro e w5 ⟨rfl,c5⟩;have B0:=K0.out.later c5;have B1:=K1.out.later c5;have B2:=K2.out.later c5;have hb5:=thenB hb4 c5;clear c5 K0 K1 K2;clear q0 q1 qz x0 x1 x2 x3 x4 x5 xz y0 y1 y2 y3 y4 y5 yz;obtain ⟨q0,q1,qz⟩:=B0.c2;obtain ⟨x0,x1,x2,x3,x4,x5,xz⟩:=B1.c6;obtain ⟨y0,y1,y2,y3,y4,y5,yz⟩:=B2.c6;have K0:Hid (Blk w5 w.heap.size [.map (some be),.map (some bs)]):=B0;have K1:Hid (Blk w5 wr.heap.size [.int .i64 l[j].op,.string l[j].mod,.string l[j].name,.slice a1 l[j].args.length p1,.slice a2 l[j].body.length p2,.slice a3 l[j].other.length p3]):=B1;have K2:Hid (Blk w5 (wr.heap.size+1) [.bool s.named,.bool s.number,.int .i64 s.least,.int .i64 s.most,.bool s.body,.bool s.other]):=B2;clear B0 B1 B2
            cases hbo:s.body with
            | false =>
              rw [hbo] at y4
              by_cases h4:0<l[j].body.length
              . go_wp2_with fail
                go_ret;exact ⟨zaa (HF.out (by simp [hbo,show ¬ l[j].body.length=0 from by omega])).symm,thenB hb hb5⟩
              . have HG : Hid ((s.body||decide (l[j].body.length=0))=true):=by show _=_;simp [show l[j].body.length=0 from by omega]
                cases hot:s.other with
                | false =>
                  rw [hot] at y5
                  by_cases h5:0<l[j].other.length
                  . go_wp2_with fail
                    go_ret;exact ⟨zaa (HF.out (by simp [hot,show ¬ l[j].other.length=0 from by omega])).symm,thenB hb hb5⟩
                  . have HO:Hid ((s.other||decide (l[j].other.length=0))=true):=by show _=_;simp [show l[j].other.length=0 from by omega]
                    go_wp2_with fail;refine (HI.out l[j].body a2 p2 _ (HX.out.body.later hb5) ((HS.out.later hb).later hb5) ((HU.out.later hb).later hb5) (HM.out j hlt).2.1).mono ?_
                    cases h7:zaz k l[j].body with
                    | false=>
                      rintro e w6 ⟨rfl,c6⟩;have hb6:=thenB hb5 c6;clear c6;go_wp2_with fail;go_ret;exact ⟨zaa (HF.out (by simp [h7])).symm,thenB hb hb6⟩
                    | true=>
                      rintro e w6 ⟨rfl,c6⟩;have B0:=K0.out.later c6;have B1:=K1.out.later c6;have B2:=K2.out.later c6;have hb6:=thenB hb5 c6;clear c6 K0 K1 K2;clear q0 q1 qz x0 x1 x2 x3 x4 x5 xz y0 y1 y2 y3 y4 y5 yz;obtain ⟨q0,q1,qz⟩:=B0.c2;obtain ⟨x0,x1,x2,x3,x4,x5,xz⟩:=B1.c6;obtain ⟨y0,y1,y2,y3,y4,y5,yz⟩:=B2.c6;have K0:Hid (Blk w6 w.heap.size [.map (some be),.map (some bs)]):=B0;have K1:Hid (Blk w6 wr.heap.size [.int .i64 l[j].op,.string l[j].mod,.string l[j].name,.slice a1 l[j].args.length p1,.slice a2 l[j].body.length p2,.slice a3 l[j].other.length p3]):=B1;have K2:Hid (Blk w6 (wr.heap.size+1) [.bool s.named,.bool s.number,.int .i64 s.least,.int .i64 s.most,.bool s.body,.bool s.other]):=B2;clear B0 B1 B2;go_wp2_with fail;refine (HI.out l[j].other a3 p3 _ (HX.out.other.later hb6) ((HS.out.later hb).later hb6) ((HU.out.later hb).later hb6) (HM.out j hlt).2.2).mono ?_
                      cases h8:zaz k l[j].other with
                      | false=>
                        rintro e w7 ⟨rfl,c7⟩;have hb7:=thenB hb6 c7;clear c7;go_wp2_with fail;go_ret;exact ⟨zaa (HF.out (by simp [h8])).symm,thenB hb hb7⟩
                      | true=>
                        rintro e w7 ⟨rfl,c7⟩;have K0':=K0.out.later c7;have hb7:=thenB hb6 c7;clear c7;have HT':Hid ((l.take (j+1)).all (fun s=>zdl (stS s.op) s.mod s.name&&(zbg (stS s.op) s.args.length&&(zbq 6 s.args&&(((stS s.op).body||decide (s.body.length=0))&&(((stS s.op).other||decide (s.other.length=0))&&(zaz k s.body&&zaz k s.other))))))=true):=HT.out (by rw [h1,h2,h3,HG.out,HO.out,h7,h8];rfl);go_wp2_with fail;go_roundw
                        case rel=>exact ⟨j+1,by omega,by go_num,HT'.out,thenB hb hb7,K0'⟩
                        case measure=>simp [intOf];omega
                | true=>
                  rw [hot] at y5
                  have HO:Hid ((s.other||decide (l[j].other.length=0))=true):=by show _=_;simp [hot]
                  go_wp2_with fail;refine (HI.out l[j].body a2 p2 _ (HX.out.body.later hb5) ((HS.out.later hb).later hb5) ((HU.out.later hb).later hb5) (HM.out j hlt).2.1).mono ?_
                  cases h7:zaz k l[j].body with
                  | false=>
                    rintro e w6 ⟨rfl,c6⟩;have hb6:=thenB hb5 c6;clear c6;go_wp2_with fail;go_ret;exact ⟨zaa (HF.out (by simp [h7])).symm,thenB hb hb6⟩
                  | true=>
                    rintro e w6 ⟨rfl,c6⟩;have B0:=K0.out.later c6;have B1:=K1.out.later c6;have B2:=K2.out.later c6;have hb6:=thenB hb5 c6;clear c6 K0 K1 K2;clear q0 q1 qz x0 x1 x2 x3 x4 x5 xz y0 y1 y2 y3 y4 y5 yz;obtain ⟨q0,q1,qz⟩:=B0.c2;obtain ⟨x0,x1,x2,x3,x4,x5,xz⟩:=B1.c6;obtain ⟨y0,y1,y2,y3,y4,y5,yz⟩:=B2.c6;have K0:Hid (Blk w6 w.heap.size [.map (some be),.map (some bs)]):=B0;have K1:Hid (Blk w6 wr.heap.size [.int .i64 l[j].op,.string l[j].mod,.string l[j].name,.slice a1 l[j].args.length p1,.slice a2 l[j].body.length p2,.slice a3 l[j].other.length p3]):=B1;have K2:Hid (Blk w6 (wr.heap.size+1) [.bool s.named,.bool s.number,.int .i64 s.least,.int .i64 s.most,.bool s.body,.bool s.other]):=B2;clear B0 B1 B2;go_wp2_with fail;refine (HI.out l[j].other a3 p3 _ (HX.out.other.later hb6) ((HS.out.later hb).later hb6) ((HU.out.later hb).later hb6) (HM.out j hlt).2.2).mono ?_
                    cases h8:zaz k l[j].other with
                    | false=>
                      rintro e w7 ⟨rfl,c7⟩;have hb7:=thenB hb6 c7;clear c7;go_wp2_with fail;go_ret;exact ⟨zaa (HF.out (by simp [h8])).symm,thenB hb hb7⟩
                    | true=>
                      rintro e w7 ⟨rfl,c7⟩;have K0':=K0.out.later c7;have hb7:=thenB hb6 c7;clear c7;have HT':Hid ((l.take (j+1)).all (fun s=>zdl (stS s.op) s.mod s.name&&(zbg (stS s.op) s.args.length&&(zbq 6 s.args&&(((stS s.op).body||decide (s.body.length=0))&&(((stS s.op).other||decide (s.other.length=0))&&(zaz k s.body&&zaz k s.other))))))=true):=HT.out (by rw [h1,h2,h3,HG.out,HO.out,h7,h8];rfl);go_wp2_with fail;go_roundw
                      case rel=>exact ⟨j+1,by omega,by go_num,HT'.out,thenB hb hb7,K0'⟩
                      case measure=>simp [intOf];omega
            | true=>
              rw [hbo] at y4
              have HG:Hid ((s.body||decide (l[j].body.length=0))=true):=by show _=_;simp [hbo]
              cases hot:s.other with
              | false =>
                rw [hot] at y5
                by_cases h5:0<l[j].other.length
                . go_wp2_with fail
                  go_ret;exact ⟨zaa (HF.out (by simp [hot,show ¬ l[j].other.length=0 from by omega])).symm,thenB hb hb5⟩
                . have HO:Hid ((s.other||decide (l[j].other.length=0))=true):=by show _=_;simp [show l[j].other.length=0 from by omega]
                  go_wp2_with fail;refine (HI.out l[j].body a2 p2 _ (HX.out.body.later hb5) ((HS.out.later hb).later hb5) ((HU.out.later hb).later hb5) (HM.out j hlt).2.1).mono ?_
                  cases h7:zaz k l[j].body with
                  | false=>
                    rintro e w6 ⟨rfl,c6⟩;have hb6:=thenB hb5 c6;clear c6;go_wp2_with fail;go_ret;exact ⟨zaa (HF.out (by simp [h7])).symm,thenB hb hb6⟩
                  | true=>
                    rintro e w6 ⟨rfl,c6⟩;have B0:=K0.out.later c6;have B1:=K1.out.later c6;have B2:=K2.out.later c6;have hb6:=thenB hb5 c6;clear c6 K0 K1 K2;clear q0 q1 qz x0 x1 x2 x3 x4 x5 xz y0 y1 y2 y3 y4 y5 yz;obtain ⟨q0,q1,qz⟩:=B0.c2;obtain ⟨x0,x1,x2,x3,x4,x5,xz⟩:=B1.c6;obtain ⟨y0,y1,y2,y3,y4,y5,yz⟩:=B2.c6;have K0:Hid (Blk w6 w.heap.size [.map (some be),.map (some bs)]):=B0;have K1:Hid (Blk w6 wr.heap.size [.int .i64 l[j].op,.string l[j].mod,.string l[j].name,.slice a1 l[j].args.length p1,.slice a2 l[j].body.length p2,.slice a3 l[j].other.length p3]):=B1;have K2:Hid (Blk w6 (wr.heap.size+1) [.bool s.named,.bool s.number,.int .i64 s.least,.int .i64 s.most,.bool s.body,.bool s.other]):=B2;clear B0 B1 B2;go_wp2_with fail;refine (HI.out l[j].other a3 p3 _ (HX.out.other.later hb6) ((HS.out.later hb).later hb6) ((HU.out.later hb).later hb6) (HM.out j hlt).2.2).mono ?_
                    cases h8:zaz k l[j].other with
                    | false=>
                      rintro e w7 ⟨rfl,c7⟩;have hb7:=thenB hb6 c7;clear c7;go_wp2_with fail;go_ret;exact ⟨zaa (HF.out (by simp [h8])).symm,thenB hb hb7⟩
                    | true=>
                      rintro e w7 ⟨rfl,c7⟩;have K0':=K0.out.later c7;have hb7:=thenB hb6 c7;clear c7;have HT':Hid ((l.take (j+1)).all (fun s=>zdl (stS s.op) s.mod s.name&&(zbg (stS s.op) s.args.length&&(zbq 6 s.args&&(((stS s.op).body||decide (s.body.length=0))&&(((stS s.op).other||decide (s.other.length=0))&&(zaz k s.body&&zaz k s.other))))))=true):=HT.out (by rw [h1,h2,h3,HG.out,HO.out,h7,h8];rfl);go_wp2_with fail;go_roundw
                      case rel=>exact ⟨j+1,by omega,by go_num,HT'.out,thenB hb hb7,K0'⟩
                      case measure=>simp [intOf];omega
              | true=>
                rw [hot] at y5
                have HO:Hid ((s.other||decide (l[j].other.length=0))=true):=by show _=_;simp [hot]
                go_wp2_with fail;refine (HI.out l[j].body a2 p2 _ (HX.out.body.later hb5) ((HS.out.later hb).later hb5) ((HU.out.later hb).later hb5) (HM.out j hlt).2.1).mono ?_
                cases h7:zaz k l[j].body with
                | false=>
                  rintro e w6 ⟨rfl,c6⟩;have hb6:=thenB hb5 c6;clear c6;go_wp2_with fail;go_ret;exact ⟨zaa (HF.out (by simp [h7])).symm,thenB hb hb6⟩
                | true=>
                  rintro e w6 ⟨rfl,c6⟩;have B0:=K0.out.later c6;have B1:=K1.out.later c6;have B2:=K2.out.later c6;have hb6:=thenB hb5 c6;clear c6 K0 K1 K2;clear q0 q1 qz x0 x1 x2 x3 x4 x5 xz y0 y1 y2 y3 y4 y5 yz;obtain ⟨q0,q1,qz⟩:=B0.c2;obtain ⟨x0,x1,x2,x3,x4,x5,xz⟩:=B1.c6;obtain ⟨y0,y1,y2,y3,y4,y5,yz⟩:=B2.c6;have K0:Hid (Blk w6 w.heap.size [.map (some be),.map (some bs)]):=B0;have K1:Hid (Blk w6 wr.heap.size [.int .i64 l[j].op,.string l[j].mod,.string l[j].name,.slice a1 l[j].args.length p1,.slice a2 l[j].body.length p2,.slice a3 l[j].other.length p3]):=B1;have K2:Hid (Blk w6 (wr.heap.size+1) [.bool s.named,.bool s.number,.int .i64 s.least,.int .i64 s.most,.bool s.body,.bool s.other]):=B2;clear B0 B1 B2;go_wp2_with fail;refine (HI.out l[j].other a3 p3 _ (HX.out.other.later hb6) ((HS.out.later hb).later hb6) ((HU.out.later hb).later hb6) (HM.out j hlt).2.2).mono ?_
                  cases h8:zaz k l[j].other with
                  | false=>
                    rintro e w7 ⟨rfl,c7⟩;have hb7:=thenB hb6 c7;clear c7;go_wp2_with fail;go_ret;exact ⟨zaa (HF.out (by simp [h8])).symm,thenB hb hb7⟩
                  | true=>
                    rintro e w7 ⟨rfl,c7⟩;have K0':=K0.out.later c7;have hb7:=thenB hb6 c7;clear c7;have HT':Hid ((l.take (j+1)).all (fun s=>zdl (stS s.op) s.mod s.name&&(zbg (stS s.op) s.args.length&&(zbq 6 s.args&&(((stS s.op).body||decide (s.body.length=0))&&(((stS s.op).other||decide (s.other.length=0))&&(zaz k s.body&&zaz k s.other))))))=true):=HT.out (by rw [h1,h2,h3,HG.out,HO.out,h7,h8];rfl);go_wp2_with fail;go_roundw
                    case rel=>exact ⟨j+1,by omega,by go_num,HT'.out,thenB hb hb7,K0'⟩
                    case measure=>simp [intOf];omega
    . have HT:Hid (l.all (fun s=>zdl (stS s.op) s.mod s.name&&(zbg (stS s.op) s.args.length&&(zbq 6 s.args&&(((stS s.op).body||decide (s.body.length=0))&&(((stS s.op).other||decide (s.other.length=0))&&(zaz k s.body&&zaz k s.other))))))=true):=zde HA.out hlt
      go_wp2_with fail;go_ret;exact ⟨zaa (by rw [HR.out,HT.out]),hb⟩
end Go.Proofs.YtndkhgakfodldaaGreatDoor
