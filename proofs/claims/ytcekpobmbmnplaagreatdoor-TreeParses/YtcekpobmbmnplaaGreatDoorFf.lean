/-
  The document's text of statements: an element that is set.
-/
import Derived.Test.YtcekpobmbmnplaaGreatDoorFc
namespace Go.Proofs.YtcekpobmbmnplaaGreatDoor
set_option maxRecDepth 100000
set_option maxHeartbeats 1600000
open Go.RowKit
theorem zxh (A:Nat->Prop) (m nm:ByteArray) (hm:m.size<=100) (hn:nm.size<=100) (hr:0<(refT m nm).length) (hrs:(strOf (showL (refT m nm))).size<=1000) (y:Ex) (hTy:Tx A y) (hs:(strOf (showL (tE y))).size<=1000000) (hp:0<(tE y).length) (z:Ex) (hTz:Tx A z) (hsz:(strOf (showL (tE z))).size<=1000000) (hpz:0<(tE z).length) (b off cap:Nat) (a2:Option Addr) (cp:Nat) (a3:Option Addr) (cq:Nat) (ab:Option Addr) (cb:Nat) (ao:Option Addr) (co:Nat) (w:World) (hx:ExAt w A b off y a2 cp) (hz:ExAt w A b (off+5) z a3 cq) :
 Calls Tryz.prog 123 #[.agg #[.int .i64 2,.string m,.string nm,.slice (some ⟨b,off,none⟩) 2 cap,.slice ab 0 cb,.slice ao 0 co]] w fun e w'=>e = .returned (.string (strOf (showL ((refT m nm++kTk tLs :: (tE y++kTk tRs :: kTk tEq :: tE z))++[kTk tSem]))))/\Below w.heap.size w w':=by
 have HF:Hid (strOf (showL (refT m nm))++⟨#[32,91,32]⟩++strOf (showL (tE y))++⟨#[32,93,32,61,32]⟩++strOf (showL (tE z))++⟨#[32,59]⟩=strOf (showL ((refT m nm++kTk tLs :: (tE y++kTk tRs :: kTk tEq :: tE z))++[kTk tSem]))):=by
  show strOf (showL (refT m nm))++⟨#[32,91,32]⟩++strOf (showL (tE y))++⟨#[32,93,32,61,32]⟩++strOf (showL (tE z))++⟨#[32,59]⟩=_
  have e:showL ((refT m nm++kTk tLs :: (tE y++kTk tRs :: kTk tEq :: tE z))++[kTk tSem])=showL (refT m nm)++[32,91,32]++showL (tE y)++[32,93,32,61,32]++showL (tE z)++[32,59]:=by
   apply zdu
   simp [zcn,zbo,zdl,zd2,zbc hp,zbc hr,zbc hpz]
  rw [e,← zad,← zad,← zad,← zad,← zad];rfl
 have HTy:=hid (fun (W:World) (h:ExAt W A b off y a2 cp)=>hTy a2 cp W h.args);have HX:=hid hx;clear hTy hx;have HTz:=hid (fun (W:World) (h:ExAt W A b (off+5) z a3 cq)=>hTz a3 cq W h.args);have HZ:=hid hz;clear hTz hz;have HR:=hid (fun W:World=>zgx m nm W hm hn);clear hm hn hp hr hpz
 obtain ⟨W0,hW0⟩:∃ W0,W0=w.alloc (.cells #[.int .i64 2,.string m,.string nm,.slice (some ⟨b,off,none⟩) 2 cap,.slice ab 0 cb,.slice ao 0 co] 47):=⟨_,rfl⟩
 have hB0:Below w.heap.size w W0:=by rw [hW0];exact al1 _ _
 have hK0:W0.heap[w.heap.size]? = some (.cells #[.int .i64 2,.string m,.string nm,.slice (some ⟨b,off,none⟩) 2 cap,.slice ab 0 cb,.slice ao 0 co] 47 (0,0)):=by rw [hW0];exact heap_newP _ _
 generalize strOf (showL (refT m nm))=S1 at *;generalize strOf (showL (tE y))=S2 at *;generalize strOf (showL (tE z))=S3 at *;go_enter Tryz.func123,Tryz.ntmps123;go_upto_region 5 with fail;rw [← hW0];have HB1:=hid (hB0.drew);have HK1:Hid (W0.drew.heap[w.heap.size]? = some (.cells #[.int .i64 2,.string m,.string nm,.slice (some ⟨b,off,none⟩) 2 cap,.slice ab 0 cb,.slice ao 0 co] 47 (0,0))):=hK0;have FF:=hid (zuf HX.out HZ.out HB1.out HK1.out);clear hW0 hB0 hK0
 go_region_held (fun W=>W.cell? ⟨w.heap.size,1,none⟩=some (.string m)/\W.cell? ⟨w.heap.size,2,none⟩=some (.string nm)/\W.cell? ⟨w.heap.size,3,none⟩=some (.slice (some ⟨b,off,none⟩) 2 cap)/\W.cell? ⟨w.heap.size,4,none⟩=some (.slice ab 0 cb)/\W.cell? ⟨b,off,none⟩=some (.int .i64 y.op)/\W.cell? ⟨b,off+1,none⟩=some (.int .i64 y.n)/\W.cell? ⟨b,off+2,none⟩=some (.string y.mod)/\W.cell? ⟨b,off+3,none⟩=some (.string y.name)/\W.cell? ⟨b,off+4,none⟩=some (.slice a2 y.args.length cp)/\W.cell? ⟨b,off+5,none⟩=some (.int .i64 z.op)/\W.cell? ⟨b,off+6,none⟩=some (.int .i64 z.n)/\W.cell? ⟨b,off+7,none⟩=some (.string z.mod)/\W.cell? ⟨b,off+8,none⟩=some (.string z.name)/\W.cell? ⟨b,off+9,none⟩=some (.slice a3 z.args.length cq)) (exact FF.out)
  (first
  | (go_at_call 135;refine (HR.out _).mono ?_;rintro e w9 ⟨rfl,rfl⟩)
  | (go_at_call_of 136 (Ex.op y);refine (HTy.out _ (HX.out.later HB1.out)).mono ?_;rintro e w2 ⟨rfl,hb⟩;have HB2:=hid (zab HB1.out hb);have HK2:=hid ((hb.block _ (zac HK1.out)).trans HK1.out);have FF:=hid (zuf HX.out HZ.out HB2.out HK2.out);clear hb)
  | (go_at_call_of 136 (Ex.op z);refine (HTz.out _ (HZ.out.later HB2.out)).mono ?_;rintro e w3 ⟨rfl,hb⟩;have HB3:=hid (zab HB2.out hb);have HK3:=hid ((hb.block _ (zac HK2.out)).trans HK2.out);have FF:=hid (zuf HX.out HZ.out HB3.out HK3.out);clear hb))
 all_goals
  go_wp2_with fail;go_ret;exact ⟨zbu HF.out,HB3.out⟩
end Go.Proofs.YtcekpobmbmnplaaGreatDoor

namespace Go.Proofs.YtcekpobmbmnplaaGreatDoor
set_option maxRecDepth 100000
set_option maxHeartbeats 1600000
open Go.RowKit
theorem zlt (x:List Tk):0<(brT x).length:=by simp [brT]
theorem zsm (A:Nat->Prop) (y:Ex) (hTy:Tx A y) (hs:(strOf (showL (tE y))).size<=1000000) (hp:0<(tE y).length) (bd:List St) (hBd:Bx A bd) (hsb:(strOf (showL (brT (tSs bd)))).size<=10000000000000) (b off cap:Nat) (a2:Option Addr) (cp:Nat) (ab:Option Addr) (cb:Nat) (ao:Option Addr) (co:Nat) (w:World) (hx:ExAt w A b off y a2 cp) (hd:DAt w A ab bd.length (za0 bd)) :
 Calls Tryz.prog 123 #[.agg #[.int .i64 5,.string ⟨#[]⟩,.string ⟨#[]⟩,.slice (some ⟨b,off,none⟩) 1 cap,.slice ab bd.length cb,.slice ao 0 co]] w fun e w'=>e = .returned (.string (strOf (showL (kTk tWhile :: (tE y++brT (tSs bd))))))/\Below w.heap.size w w':=by
 have HF:Hid ((⟨#[119,104,105,108,101,32]⟩:ByteArray)++strOf (showL (tE y))++⟨#[32]⟩++strOf (showL (brT (tSs bd)))=strOf (showL (kTk tWhile :: (tE y++brT (tSs bd))))):=by
  show (⟨#[119,104,105,108,101,32]⟩:ByteArray)++strOf (showL (tE y))++⟨#[32]⟩++strOf (showL (brT (tSs bd)))=_
  have e:showL (kTk tWhile :: (tE y++brT (tSs bd)))=([119,104,105,108,101,32]:List UInt8)++showL (tE y)++[32]++showL (brT (tSs bd)):=by
   apply zdu
   simp [zcn,zbo,zd2,zbc hp,zbc (zlt (tSs bd))]
  rw [e,← zad,← zad,← zad];rfl
 have HTy:=hid (fun (W:World) (h:ExAt W A b off y a2 cp)=>hTy a2 cp W h.args);have HX:=hid hx;clear hTy hx;have HBd:=hid hBd;have HDb:=hid hd;clear hBd hd hp
 obtain ⟨W0,hW0⟩:∃ W0,W0=w.alloc (.cells #[.int .i64 5,.string ⟨#[]⟩,.string ⟨#[]⟩,.slice (some ⟨b,off,none⟩) 1 cap,.slice ab bd.length cb,.slice ao 0 co] 47):=⟨_,rfl⟩
 have hB0:Below w.heap.size w W0:=by rw [hW0];exact al1 _ _
 have hK0:W0.heap[w.heap.size]? = some (.cells #[.int .i64 5,.string ⟨#[]⟩,.string ⟨#[]⟩,.slice (some ⟨b,off,none⟩) 1 cap,.slice ab bd.length cb,.slice ao 0 co] 47 (0,0)):=by rw [hW0];exact heap_newP _ _
 have HBd:Hid (∀ (a:Option Addr) (cap:Nat) (w:World),DAt w A a bd.length (za0 bd)->Calls Tryz.prog 96 #[.slice a bd.length cap] w fun e w'=>e = .returned (.string (strOf (showL (brT (tSs bd)))))/\Below w.heap.size w w'):=HBd;generalize strOf (showL (brT (tSs bd)))=S2 at *;generalize strOf (showL (tE y))=S1 at *;go_enter Tryz.func123,Tryz.ntmps123;go_upto_region 14 with fail;rw [← hW0];have HB1:=hid (hB0.drew);have HK1:Hid (W0.drew.heap[w.heap.size]? = some (.cells #[.int .i64 5,.string ⟨#[]⟩,.string ⟨#[]⟩,.slice (some ⟨b,off,none⟩) 1 cap,.slice ab bd.length cb,.slice ao 0 co] 47 (0,0))):=hK0;have FF:=hid (zgf HX.out HB1.out HK1.out);clear hW0 hB0 hK0
 go_region_held (fun W=>W.cell? ⟨w.heap.size,1,none⟩=some (.string ⟨#[]⟩)/\W.cell? ⟨w.heap.size,2,none⟩=some (.string ⟨#[]⟩)/\W.cell? ⟨w.heap.size,3,none⟩=some (.slice (some ⟨b,off,none⟩) 1 cap)/\W.cell? ⟨w.heap.size,4,none⟩=some (.slice ab bd.length cb)/\W.cell? ⟨b,off,none⟩=some (.int .i64 y.op)/\W.cell? ⟨b,off+1,none⟩=some (.int .i64 y.n)/\W.cell? ⟨b,off+2,none⟩=some (.string y.mod)/\W.cell? ⟨b,off+3,none⟩=some (.string y.name)/\W.cell? ⟨b,off+4,none⟩=some (.slice a2 y.args.length cp)) (exact FF.out)
  (first
  | (go_at_call_of 136 (Ex.op y);refine (HTy.out _ (HX.out.later HB1.out)).mono ?_;rintro e w2 ⟨rfl,hb⟩;have HB2:=hid (zab HB1.out hb);have HK2:=hid ((hb.block _ (zac HK1.out)).trans HK1.out);have FF:=hid (zgf HX.out HB2.out HK2.out);clear hb)
  | (go_at_call 96;refine (HBd.out ab cb _ (HDb.out.later HB2.out)).mono ?_;rintro e w3 ⟨rfl,hb⟩;have HB3:=hid (zab HB2.out hb);have HK3:=hid ((hb.block _ (zac HK2.out)).trans HK2.out);have FF:=hid (zgf HX.out HB3.out HK3.out);clear hb))
 all_goals
  go_wp2_with fail;go_ret;exact ⟨zbu HF.out,HB3.out⟩
theorem zze (A:Nat->Prop) (y:Ex) (hTy:Tx A y) (hs:(strOf (showL (tE y))).size<=1000000) (hp:0<(tE y).length) (bd:List St) (hBd:Bx A bd) (hsb:(strOf (showL (brT (tSs bd)))).size<=10000000000000) (b off cap:Nat) (a2:Option Addr) (cp:Nat) (ab:Option Addr) (cb:Nat) (ao:Option Addr) (co:Nat) (w:World) (hx:ExAt w A b off y a2 cp) (hd:DAt w A ab bd.length (za0 bd)) :
 Calls Tryz.prog 123 #[.agg #[.int .i64 4,.string ⟨#[]⟩,.string ⟨#[]⟩,.slice (some ⟨b,off,none⟩) 1 cap,.slice ab bd.length cb,.slice ao 0 co]] w fun e w'=>e = .returned (.string (strOf (showL (kTk tIf :: (tE y++(brT (tSs bd)++[]))))))/\Below w.heap.size w w':=by
 have HF:Hid ((⟨#[105,102,32]⟩:ByteArray)++strOf (showL (tE y))++⟨#[32]⟩++strOf (showL (brT (tSs bd)))=strOf (showL (kTk tIf :: (tE y++(brT (tSs bd)++[]))))):=by
  show (⟨#[105,102,32]⟩:ByteArray)++strOf (showL (tE y))++⟨#[32]⟩++strOf (showL (brT (tSs bd)))=_
  have e:showL (kTk tIf :: (tE y++(brT (tSs bd)++[])))=([105,102,32]:List UInt8)++showL (tE y)++[32]++showL (brT (tSs bd)):=by
   apply zdu
   simp [zcn,zbo,zd2,zbc hp,zbc (zlt (tSs bd))]
  rw [e,← zad,← zad,← zad];rfl
 have HTy:=hid (fun (W:World) (h:ExAt W A b off y a2 cp)=>hTy a2 cp W h.args);have HX:=hid hx;clear hTy hx;have HDb:=hid hd;have HBd:Hid (∀ (a:Option Addr) (cap:Nat) (w:World),DAt w A a bd.length (za0 bd)->Calls Tryz.prog 96 #[.slice a bd.length cap] w fun e w'=>e = .returned (.string (strOf (showL (brT (tSs bd)))))/\Below w.heap.size w w'):=hBd;clear hBd hd hp
 obtain ⟨W0,hW0⟩:∃ W0,W0=w.alloc (.cells #[.int .i64 4,.string ⟨#[]⟩,.string ⟨#[]⟩,.slice (some ⟨b,off,none⟩) 1 cap,.slice ab bd.length cb,.slice ao 0 co] 47):=⟨_,rfl⟩
 have hB0:Below w.heap.size w W0:=by rw [hW0];exact al1 _ _
 have hK0:W0.heap[w.heap.size]? = some (.cells #[.int .i64 4,.string ⟨#[]⟩,.string ⟨#[]⟩,.slice (some ⟨b,off,none⟩) 1 cap,.slice ab bd.length cb,.slice ao 0 co] 47 (0,0)):=by rw [hW0];exact heap_newP _ _
 generalize strOf (showL (brT (tSs bd)))=S2 at *;generalize strOf (showL (tE y))=S1 at *;go_enter Tryz.func123,Tryz.ntmps123;go_upto_region 9 with fail;rw [← hW0];have HB1:=hid (hB0.drew);have HK1:Hid (W0.drew.heap[w.heap.size]? = some (.cells #[.int .i64 4,.string ⟨#[]⟩,.string ⟨#[]⟩,.slice (some ⟨b,off,none⟩) 1 cap,.slice ab bd.length cb,.slice ao 0 co] 47 (0,0))):=hK0;have FF:=hid (zgf HX.out HB1.out HK1.out);clear hW0 hB0 hK0
 go_region_held (fun W=>W.cell? ⟨w.heap.size,1,none⟩=some (.string ⟨#[]⟩)/\W.cell? ⟨w.heap.size,2,none⟩=some (.string ⟨#[]⟩)/\W.cell? ⟨w.heap.size,3,none⟩=some (.slice (some ⟨b,off,none⟩) 1 cap)/\W.cell? ⟨w.heap.size,4,none⟩=some (.slice ab bd.length cb)/\W.cell? ⟨b,off,none⟩=some (.int .i64 y.op)/\W.cell? ⟨b,off+1,none⟩=some (.int .i64 y.n)/\W.cell? ⟨b,off+2,none⟩=some (.string y.mod)/\W.cell? ⟨b,off+3,none⟩=some (.string y.name)/\W.cell? ⟨b,off+4,none⟩=some (.slice a2 y.args.length cp)) (exact FF.out)
  (first
  | (go_at_call_of 136 (Ex.op y);refine (HTy.out _ (HX.out.later HB1.out)).mono ?_;rintro e w2 ⟨rfl,hb⟩;have HB2:=hid (zab HB1.out hb);have HK2:=hid ((hb.block _ (zac HK1.out)).trans HK1.out);have FF:=hid (zgf HX.out HB2.out HK2.out);clear hb)
  | (go_at_call 96;refine (HBd.out ab cb _ (HDb.out.later HB2.out)).mono ?_;rintro e w3 ⟨rfl,hb⟩;have HB3:=hid (zab HB2.out hb);have HK3:=hid ((hb.block _ (zac HK2.out)).trans HK2.out);have FF:=hid (zgf HX.out HB3.out HK3.out);clear hb))
 all_goals
  obtain ⟨h0,h1,h2,h3,h4,h5,h6⟩:=zal HK3.out;go_wp2_with fail;go_ret;exact ⟨zbu HF.out,HB3.out⟩
theorem zug (A:Nat->Prop) (y:Ex) (hTy:Tx A y) (hs:(strOf (showL (tE y))).size<=1000000) (hp:0<(tE y).length) (bd:List St) (hBd:Bx A bd) (hsb:(strOf (showL (brT (tSs bd)))).size<=10000000000000) (ot:List St) (hOt:Bx A ot) (hso:(strOf (showL (brT (tSs ot)))).size<=10000000000000) (hlo:0<ot.length) (b off cap:Nat) (a2:Option Addr) (cp:Nat) (ab:Option Addr) (cb:Nat) (ao:Option Addr) (co:Nat) (w:World) (hx:ExAt w A b off y a2 cp) (hd:DAt w A ab bd.length (za0 bd)) (hdo:DAt w A ao ot.length (za0 ot)) :
 Calls Tryz.prog 123 #[.agg #[.int .i64 4,.string ⟨#[]⟩,.string ⟨#[]⟩,.slice (some ⟨b,off,none⟩) 1 cap,.slice ab bd.length cb,.slice ao ot.length co]] w fun e w'=>e = .returned (.string (strOf (showL (kTk tIf :: (tE y++(brT (tSs bd)++kTk tElse :: brT (tSs ot)))))))/\Below w.heap.size w w':=by
 have HF:Hid ((⟨#[105,102,32]⟩:ByteArray)++strOf (showL (tE y))++⟨#[32]⟩++strOf (showL (brT (tSs bd)))++⟨#[32,101,108,115,101,32]⟩++strOf (showL (brT (tSs ot)))=strOf (showL (kTk tIf :: (tE y++(brT (tSs bd)++kTk tElse :: brT (tSs ot)))))):=by
  show (⟨#[105,102,32]⟩:ByteArray)++strOf (showL (tE y))++⟨#[32]⟩++strOf (showL (brT (tSs bd)))++⟨#[32,101,108,115,101,32]⟩++strOf (showL (brT (tSs ot)))=_
  have e:showL (kTk tIf :: (tE y++(brT (tSs bd)++kTk tElse :: brT (tSs ot))))=([105,102,32]:List UInt8)++showL (tE y)++[32]++showL (brT (tSs bd))++[32,101,108,115,101,32]++showL (brT (tSs ot)):=by
   apply zdu
   simp [zcn,zbo,zd2,zbc hp,zbc (zlt (tSs bd)),zbc (zlt (tSs ot))]
  rw [e,← zad,← zad,← zad,← zad,← zad];rfl
 have HTy:=hid (fun (W:World) (h:ExAt W A b off y a2 cp)=>hTy a2 cp W h.args);have HX:=hid hx;clear hTy hx;have HDb:=hid hd;have HBd:Hid (∀ (a:Option Addr) (cap:Nat) (w:World),DAt w A a bd.length (za0 bd)->Calls Tryz.prog 96 #[.slice a bd.length cap] w fun e w'=>e = .returned (.string (strOf (showL (brT (tSs bd)))))/\Below w.heap.size w w'):=hBd;have HDo:=hid hdo;have HOt:Hid (∀ (a:Option Addr) (cap:Nat) (w:World),DAt w A a ot.length (za0 ot)->Calls Tryz.prog 96 #[.slice a ot.length cap] w fun e w'=>e = .returned (.string (strOf (showL (brT (tSs ot)))))/\Below w.heap.size w w'):=hOt;clear hdo hOt;clear hBd hd hp
 obtain ⟨W0,hW0⟩:∃ W0,W0=w.alloc (.cells #[.int .i64 4,.string ⟨#[]⟩,.string ⟨#[]⟩,.slice (some ⟨b,off,none⟩) 1 cap,.slice ab bd.length cb,.slice ao ot.length co] 47):=⟨_,rfl⟩
 have hB0:Below w.heap.size w W0:=by rw [hW0];exact al1 _ _
 have hK0:W0.heap[w.heap.size]? = some (.cells #[.int .i64 4,.string ⟨#[]⟩,.string ⟨#[]⟩,.slice (some ⟨b,off,none⟩) 1 cap,.slice ab bd.length cb,.slice ao ot.length co] 47 (0,0)):=by rw [hW0];exact heap_newP _ _
 generalize strOf (showL (brT (tSs bd)))=S2 at *;generalize strOf (showL (brT (tSs ot)))=S3 at *;generalize strOf (showL (tE y))=S1 at *;go_enter Tryz.func123,Tryz.ntmps123;go_upto_region 9 with fail;rw [← hW0];have HB1:=hid (hB0.drew);have HK1:Hid (W0.drew.heap[w.heap.size]? = some (.cells #[.int .i64 4,.string ⟨#[]⟩,.string ⟨#[]⟩,.slice (some ⟨b,off,none⟩) 1 cap,.slice ab bd.length cb,.slice ao ot.length co] 47 (0,0))):=hK0;have FF:=hid (zgf HX.out HB1.out HK1.out);clear hW0 hB0 hK0
 go_region_held (fun W=>W.cell? ⟨w.heap.size,1,none⟩=some (.string ⟨#[]⟩)/\W.cell? ⟨w.heap.size,2,none⟩=some (.string ⟨#[]⟩)/\W.cell? ⟨w.heap.size,3,none⟩=some (.slice (some ⟨b,off,none⟩) 1 cap)/\W.cell? ⟨w.heap.size,4,none⟩=some (.slice ab bd.length cb)/\W.cell? ⟨b,off,none⟩=some (.int .i64 y.op)/\W.cell? ⟨b,off+1,none⟩=some (.int .i64 y.n)/\W.cell? ⟨b,off+2,none⟩=some (.string y.mod)/\W.cell? ⟨b,off+3,none⟩=some (.string y.name)/\W.cell? ⟨b,off+4,none⟩=some (.slice a2 y.args.length cp)) (exact FF.out)
  (first
  | (go_at_call_of 136 (Ex.op y);refine (HTy.out _ (HX.out.later HB1.out)).mono ?_;rintro e w2 ⟨rfl,hb⟩;have HB2:=hid (zab HB1.out hb);have HK2:=hid ((hb.block _ (zac HK1.out)).trans HK1.out);have FF:=hid (zgf HX.out HB2.out HK2.out);clear hb)
  | (go_at_call 96;refine (HBd.out ab cb _ (HDb.out.later HB2.out)).mono ?_;rintro e w3 ⟨rfl,hb⟩;have HB3:=hid (zab HB2.out hb);have HK3:=hid ((hb.block _ (zac HK2.out)).trans HK2.out);have FF:=hid (zgf HX.out HB3.out HK3.out);clear hb))
 all_goals
  obtain ⟨h0,h1,h2,h3,h4,h5,h6⟩:=zal HK3.out;go_wp2_with fail;refine (HOt.out ao co _ (HDo.out.later HB3.out)).mono ?_;rintro e w4 ⟨rfl,hb4⟩;go_wp2_with fail;go_ret;exact ⟨zbu HF.out,zab HB3.out hb4⟩
end Go.Proofs.YtcekpobmbmnplaaGreatDoor

namespace Go.Proofs.YtcekpobmbmnplaaGreatDoor
set_option maxRecDepth 100000
set_option maxHeartbeats 800000
open Go.RowKit
theorem StAt.later {w w':World} {A:Nat->Prop} {b o:Nat} {x:St} {a1 a2 a3:Option Addr} {c1 c2 c3:Nat} (h:StAt w A b o x a1 c1 a2 c2 a3 c3) (hb:Below w.heap.size w w'):StAt w' A b o x a1 c1 a2 c2 a3 c3:=
 ⟨Nat.lt_of_lt_of_le h.lt hb.size,(hb.cell (p:=⟨b,_,none⟩) h.lt).trans h.c0,(hb.cell (p:=⟨b,_,none⟩) h.lt).trans h.c1,(hb.cell (p:=⟨b,_,none⟩) h.lt).trans h.c2,(hb.cell (p:=⟨b,_,none⟩) h.lt).trans h.c3,(hb.cell (p:=⟨b,_,none⟩) h.lt).trans h.c4,(hb.cell (p:=⟨b,_,none⟩) h.lt).trans h.c5,h.args.later hb,h.body.later hb,h.other.later hb,h.wop,h.wm,h.wna⟩
def blT (l:List Tk):List UInt8:=123 :: (spc l++[32])
theorem zzf (l:List St) (k:Nat) (h:k<l.length) (hp:0<(tS l[k]).length):strOf (blT (tSs (l.take k)))++strOf (showL (tS l[k]))++⟨#[32]⟩=strOf (blT (tSs (l.take (k+1)))):=by
 rw [List.take_succ_eq_append_getElem h,zew,zp4,show (⟨#[32]⟩:ByteArray)=strOf [32] from rfl,zad,zad]
 congr 1
 simp [blT,zcn,zbc hp]
theorem z02 (l:List Tk):strOf (blT l)++⟨#[125]⟩=strOf (showL (brT l)):=by
 have e:showL (brT l)=blT l++[125]:=by
  apply zdu
  simp [blT,brT,zcn,zbo,zdl,zd2]
 rw [e,← zad];rfl
theorem zsn (A:Nat->Prop) (l:List St) (hl:l.length<=10) (hS:∀ s ∈ l,Sx A s) (hz:∀ s ∈ l,(strOf (showL (tS s))).size<=10000000000000/\0<(tS s).length) (hq:∀ k,k<=l.length->(strOf (blT (tSs (l.take k)))).size<=100000000000000):Bx A l:=by
 intro a cap w hD;have HD:=hid hD;have HS:=hid hS;have HZ:=hid hz;have HQ:=hid hq;clear hD hS hz hq;go_enter Tryz.func96,Tryz.ntmps96;go_wp2_with fail
 go_loopw [4,3] (fun i s wr=>∃ k:Nat,k<=l.length/\i = .int .i64 k/\s = .string (strOf (blT (tSs (l.take k))))/\Below w.heap.size w wr) (fun i _ _=>l.length - (intOf i).toNat)
 case atStart=>exact ⟨0,Nat.zero_le _,rfl,rfl,Below.refl _ _⟩
 case round=>
  obtain ⟨k,hk,rfl,rfl,hb⟩:=hrel;have hq1:=HQ.out k hk
  by_cases hlt:k<l.length
  . obtain ⟨b,off,a1,c1,a2,c2,a3,c3,rfl,hx⟩:=(HD.out.later hb).st k hlt
    have hc0:=hx.c0;have hc1:=hx.c1;have hc2:=hx.c2;have hc3:=hx.c3;have hc4:=hx.c4;have hc5:=hx.c5;have hlb:=hx.lt;have HX:=hid hx;have hz:=HZ.out l[k] (List.getElem_mem _);have hz1:=hz.1;have HF:=hid (zzf l k hlt hz.2);clear hx hz;generalize strOf (blT (tSs (l.take k)))=S at *;go_wp2_with fail;refine (HS.out l[k] (List.getElem_mem _) a1 c1 a2 c2 a3 c3 _ HX.out.args HX.out.body HX.out.other).mono ?_;generalize strOf (showL (tS l[k]))=S2 at *;rintro e w' ⟨rfl,hb2⟩;go_wp2_with fail;go_roundw
    case rel=>exact ⟨k+1,by omega,by go_num,by rw [HF.out],hb.trans (hb2.mono hb.size)⟩
    case measure=>simp [intOf];omega
  . have HF:Hid (strOf (blT (tSs (l.take k)))++⟨#[125]⟩=strOf (showL (brT (tSs l)))):=by
     show _=_
     rw [List.take_of_length_le (by omega)];exact z02 _
    generalize strOf (blT (tSs (l.take k)))=S at *;go_wp2_with fail;go_ret;exact ⟨zbu HF.out,hb⟩
end Go.Proofs.YtcekpobmbmnplaaGreatDoor

namespace Go.Proofs.YtcekpobmbmnplaaGreatDoor
open Go.RowKit
theorem z03:∀ k,k<7->BB k<=258357890700:=by decide
theorem zmr {k:Nat} (hk:k<7) {l:List St} (hm:zak k l=false) (ho:∀ s ∈ l,stOk s):(strOf (showL (brT (tSs l)))).size<=10000000000000:=by
 have h1:=zoo k l hm;have h2:=z03 k hk;have h3:=zh1 (zxw (zjb ho))
 have h4:(brT (tSs l)).length=(tSs l).length+2:=by simp [brT]
 rw [zbr];omega
theorem zuh:∀ {l:List St} {s:St},s ∈ l->(tS s).length<=(tSs l).length
 | x :: r,s,h=>by
   simp only [tSs,List.length_append]
   rcases List.mem_cons.1 h with rfl | h
   . omega
   . have:=zuh h;omega
theorem zzg (l:List St) (k:Nat):(tSs (l.take k)).length<=(tSs l).length:=by
 conv=>rhs;rw [← List.take_append_drop k l,zew,List.length_append]
 omega
theorem zla (A:Nat->Prop) (k:Nat) (hk:k<7) (l:List St) (hm:zak k l=false) (ho:∀ s ∈ l,stOk s) (hS:∀ s ∈ l,Sx A s):Bx A l:=by
 have h1:=zoo k l hm;have h2:=z03 k hk
 have h10:l.length<=10:=by
  cases k with
  | zero=>simp [zak] at hm
  | succ k=>
    simp only [zak,Bool.or_eq_false_iff] at hm
    have:=of_decide_eq_false hm.1;omega
 refine zsn A l h10 hS (fun s hs=>?_) (fun j hj=>?_)
 . have h3:=zh1 (z1s (ho s hs))
   have h4:=zuh hs;rw [zbr];exact ⟨by omega,zrr (ho s hs)⟩
 . have hr:zam (tSs (l.take j)):=zjb (fun s hs=>ho s (List.mem_of_mem_take hs))
   have h3:=zmp hr;have h4:=zzg l j;rw [zbr];unfold blT;simp only [List.length_cons,List.length_append,List.length_nil];omega
theorem zms (A:Nat->Prop) (op:Int) (m nm:ByteArray) (args:List Ex) (body other:List St) (h1:stB op=true) (h2:zca (stS op) m nm=true) (h3:zas (stS op) args.length=true) (h4:∀ a ∈ args,exOk a)
 (h5:(stS op).body=true\/body=[]) (h6:(stS op).other=true\/other=[]) (hm:zao 6 args=false) (hb:(stS op).body=true->Bx A body/\(strOf (showL (brT (tSs body)))).size<=10000000000000) (hoth:0<other.length->Bx A other/\(strOf (showL (brT (tSs other)))).size<=10000000000000):Sx A (.mk op m nm args body other):=by
 have hS:=zud (k:=6) (by omega) hm h4;have hT:=zi6 A 6 (by omega) args hm h4;intro a1 c1 a2 c2 a3 c3 w hD1 hD2 hD3;simp only [St.op,St.mod,St.name,St.args,St.body,St.other] at hD1 hD2 hD3 ⊢;simp only [tS]
 rcases zl9 h1 with rfl | rfl | rfl | rfl | rfl | rfl | rfl
 . obtain ⟨a,b⟩:=zbs rfl h2
   obtain ⟨y,rfl⟩:=zld (zay (h:=stS 1) (n:=1) h3 rfl rfl);obtain rfl:=h5.resolve_left (by decide);obtain rfl:=h6.resolve_left (by decide);obtain ⟨bb,off,aa,cp,rfl,hx⟩:=DAt.ex0 hD1;have hy:=hS y (by simp);have:=zxf A m nm (zgy b) (by have:=zb3 a;omega) (zh2 m nm) (zh3 a b) y (hT y (by simp)) hy.1 hy.2 bb off c1 aa cp a2 c2 a3 c3 w hx;simpa [zbv,zb0,tEs] using this
 . obtain ⟨a,b⟩:=zbs rfl h2
   obtain ⟨y,z,rfl⟩:=z0r (zay (h:=stS 2) (n:=2) h3 rfl rfl);obtain rfl:=h5.resolve_left (by decide);obtain rfl:=h6.resolve_left (by decide);obtain ⟨bb,off,aa,cp,ab,cq,rfl,hx,hz⟩:=DAt.ex1 hD1;have hy:=hS y (by simp);have hy2:=hS z (by simp);have:=zxh A m nm (zgy b) (by have:=zb3 a;omega) (zh2 m nm) (zh3 a b) y (hT y (by simp)) hy.1 hy.2 z (hT z (by simp)) hy2.1 hy2.2 bb off c1 aa cp ab cq a2 c2 a3 c3 w hx hz;simpa [zbv,zb0,tEs] using this
 . obtain ⟨a,b⟩:=zbs rfl h2
   obtain rfl:=h5.resolve_left (by decide);obtain rfl:=h6.resolve_left (by decide);have hc:=zj4 (k:=6) (by omega) hm h4;have h3':=(zik 6 args hm).2;have:=zzd A m nm (zgy b) (by have:=zb3 a;omega) (zh2 m nm) (zh3 a b) args a1 c1 (by have:=hc args.length (Nat.le_refl _);rwa [List.take_length] at this) (fun W hW=>zn9 A args a1 c1 W hW h3' hT hS hc) a2 c2 a3 c3 w hD1;simpa [zbv,zb0] using this
 . obtain ⟨rfl,rfl⟩:=zbh (sh:=stS 4) rfl h2
   obtain ⟨y,rfl⟩:=zld (zay (h:=stS 4) (n:=1) h3 rfl rfl);obtain ⟨bb,off,aa,cp,rfl,hx⟩:=DAt.ex0 hD1;have hy:=hS y (by simp);obtain ⟨hB,hBs⟩:=hb rfl
   by_cases ho:0<other.length
   . obtain ⟨hO,hOs⟩:=hoth ho
     have:=zug A y (hT y (by simp)) hy.1 hy.2 body hB hBs other hO hOs ho bb off c1 aa cp a2 c2 a3 c3 w hx hD2 hD3
     have e:zbv 4 ⟨#[]⟩ ⟨#[]⟩ (tEs [y]) (tSs body) (tSs other) other.length=kTk tIf :: (tE y++(brT (tSs body)++kTk tElse :: brT (tSs other))):=by
      unfold zbv;rw [if_pos rfl,if_neg (by omega)];simp [tEs]
     rw [e];exact this
   . obtain rfl:=List.eq_nil_of_length_eq_zero (by omega:other.length=0)
     have:=zze A y (hT y (by simp)) hy.1 hy.2 body hB hBs bb off c1 aa cp a2 c2 a3 c3 w hx hD2
     have e:zbv 4 ⟨#[]⟩ ⟨#[]⟩ (tEs [y]) (tSs body) (tSs []) 0=kTk tIf :: (tE y++(brT (tSs body)++[])):=by
      unfold zbv;rw [if_pos rfl,if_pos rfl];simp [tEs]
     show Calls _ _ _ _ (fun e w'=>e = .returned (.string (strOf (showL (zbv 4 ⟨#[]⟩ ⟨#[]⟩ (tEs [y]) (tSs body) (tSs []) 0))))/\_)
     rw [e];exact this
 . obtain ⟨rfl,rfl⟩:=zbh (sh:=stS 5) rfl h2
   obtain ⟨y,rfl⟩:=zld (zay (h:=stS 5) (n:=1) h3 rfl rfl);obtain rfl:=h6.resolve_left (by decide);obtain ⟨bb,off,aa,cp,rfl,hx⟩:=DAt.ex0 hD1;have hy:=hS y (by simp);obtain ⟨hB,hBs⟩:=hb rfl;have:=zsm A y (hT y (by simp)) hy.1 hy.2 body hB hBs bb off c1 aa cp a2 c2 a3 c3 w hx hD2;simpa [zbv,tEs] using this
 . obtain ⟨rfl,rfl⟩:=zbh (sh:=stS 6) rfl h2
   obtain ⟨y,rfl⟩:=zld (zay (h:=stS 6) (n:=1) h3 rfl rfl);obtain rfl:=h5.resolve_left (by decide);obtain rfl:=h6.resolve_left (by decide);obtain ⟨bb,off,aa,cp,rfl,hx⟩:=DAt.ex0 hD1;have hy:=hS y (by simp);have:=zpk A y (hT y (by simp)) hy.1 hy.2 bb off c1 aa cp a2 c2 a3 c3 w hx;simpa [zbv,zb0,tEs] using this
 . obtain ⟨rfl,rfl⟩:=zbh (sh:=stS 7) rfl h2
   obtain ⟨y,rfl⟩:=zld (zay (h:=stS 7) (n:=1) h3 rfl rfl);obtain rfl:=h5.resolve_left (by decide);obtain rfl:=h6.resolve_left (by decide);obtain ⟨bb,off,aa,cp,rfl,hx⟩:=DAt.ex0 hD1;have hy:=hS y (by simp);have:=zxg A y (hT y (by simp)) hy.1 hy.2 bb off c1 aa cp a2 c2 a3 c3 w hx;simpa [zbv,zb0,tEs] using this
theorem zer (A:Nat->Prop):∀ (k:Nat) (_:k<7) (l:List St),zak k l=false->(∀ s ∈ l,stOk s)->Bx A l
 | 0,_,l,h,_=>by simp [zak] at h
 | k + 1,hk,l,h,ho=>by
   refine zla A (k+1) hk l h ho (fun s hs=>?_);simp only [zak,Bool.or_eq_false_iff] at h;have a2:=h.2;rw [List.any_eq_false] at a2;have a2:=a2 s hs;simp only [Bool.not_eq_true,Bool.or_eq_false_iff,Bool.and_eq_false_iff] at a2;have hos:=ho s hs
   cases hos with
   | @mk op m nm args body other h1 h2 h3 h4 h5 h6 h7 h8=>
     simp only [St.op,St.args,St.body,St.other] at a2;refine zms A op m nm args body other h1 h2 h3 h4 h5 h6 a2.1 (fun hb=>?_) (fun hb=>?_)
     . have hm:zak k body=false:=by
        rcases a2.2.1 with h | h
        . rw [hb] at h;exact absurd h.1 (by decide)
        . exact h
       exact ⟨zer A k (by omega) body hm h7,zmr (by omega) hm h7⟩
     . have hm:zak k other=false:=by
        rcases a2.2.2 with h | h
        . exact absurd (of_decide_eq_false h) (by omega)
        . exact h
       exact ⟨zer A k (by omega) other hm h8,zmr (by omega) hm h8⟩
end Go.Proofs.YtcekpobmbmnplaaGreatDoor
