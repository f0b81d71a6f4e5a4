/-
  The contracts of the library calls that the program makes, laid at this program.
-/
import Derived.Shelf.Strings.Builder1
import Derived.Shelf.Small.Strs
import Derived.Shelf.Strings.BuilderF
import Derived.Shelf.Strings.BuilderK
import Derived.Shelf.Utf8.RuneCount
import Derived.Shelf.Strconv.Itoa0
import Derived.Shelf.Strconv.Itoa1
import Derived.Shelf.LaysM
import Derived.Shelf.Strconv.Itoa2
import Derived.Shelf.Strconv.Itoa3
import Derived.Shelf.Strconv.Clone
import Derived.Shelf.Strings.Search1
import Derived.Shelf.Strings.Search2
import Derived.Shelf.Strings.Search3
import Derived.Shelf.Strings.Count
import Derived.Shelf.Strings.Shaped
import Derived.Shelf.Strings.Split
import Derived.Shelf.Strings.SplitShaped
import Derived.Shelf.Unicode.Decode
import Derived.Shelf.Strings.RuneCount
import Derived.Shelf.Strings.Explode
import Derived.Shelf.Unicode.DecodeSlow
import Derived.Shelf.Unicode.DecodeAny
import Derived.Test.YtcekpobmbmnplaaGreatDoorProg
import Derived.Test.YtcekpobmbmnplaaGreatDoorPure
import Derived.Lib.ItoaMem
import Derived.Lib.Bytealg
import Derived.Lib.IndexLaws
namespace Go.Proofs
open Go.Shelf
def Tryz.lays169_ren:Go.Shelf.Ren:=⟨fun | 169=>35 | n=>n,fun | 70=>63 | 9=>9 | 0=>0 | 72=>66 | 37=>64 | 127=>111 | 3=>3 | 5=>5 | n=>n,fun | n=>n⟩
theorem Tryz.lays169:Go.Proofs.Lays.n169 Tryz.prog Tryz.lays169_ren:={
 mixed:=by kernel_rfl
 f169:=Tryz.func35.trans (congrArg some (by kernel_rfl))
 t0:=Tryz.underlying0
 a0:=Tryz.isAgg0
 z0:=Tryz.sizeOf0
 v0:=Tryz.zeroValue0
 t3:=Tryz.underlying3
 a3:=Tryz.isAgg3
 z3:=Tryz.sizeOf3
 v3:=Tryz.zeroValue3
 t9:=Tryz.underlying9
 a9:=Tryz.isAgg9
 z9:=Tryz.sizeOf9
 v9:=Tryz.zeroValue9
 t37:=Tryz.underlying64
 a37:=Tryz.isAgg64
 z37:=Tryz.sizeOf64
 v37:=Tryz.zeroValue64
 t70:=Tryz.underlying63
 a70:=Tryz.isAgg63
 z70:=Tryz.sizeOf63
 v70:=Tryz.zeroValue63
 t72:=Tryz.underlying66
 a72:=Tryz.isAgg66
 z72:=Tryz.sizeOf66
 v72:=Tryz.zeroValue66
 t127:=Tryz.underlying111
 a127:=Tryz.isAgg111
 z127:=Tryz.sizeOf111
 v127:=Tryz.zeroValue111 }
theorem Tryz.Builder_Extra_169:Builder.Extra Tryz.prog Tryz.lays169_ren:={
 sizeBuilder:=by kernel_rfl
 liesBuilder:=by kernel_rfl
 t5:=Tryz.underlying5
 a5:=Tryz.isAgg5
 z5:=Tryz.sizeOf5
 v5:=Tryz.zeroValue5
 infoByte:=by kernel_rfl
 cellsByte:=by kernel_rfl
 sizeByte:=by kernel_rfl
 neB5:=by decide }
open Go.RowKit in
open Go.RowKit in
open Go.RowKit in
def Tryz.lays137_ren:Go.Shelf.Ren:=⟨fun | 137=>126 | 217=>141 | 266=>149 | n=>n,fun | 9=>9 | 5=>5 | 3=>3 | n=>n,fun | n=>n⟩
theorem Tryz.lays137:Go.Proofs.Lays.n137 Tryz.prog Tryz.lays137_ren:={
 mixed:=by kernel_rfl
 f137:=Tryz.func126.trans (congrArg some (by kernel_rfl))
 f217:=Tryz.func141.trans (congrArg some (by kernel_rfl))
 f266:=Tryz.func149.trans (congrArg some (by kernel_rfl))
 t3:=Tryz.underlying3
 a3:=Tryz.isAgg3
 z3:=Tryz.sizeOf3
 v3:=Tryz.zeroValue3
 t5:=Tryz.underlying5
 a5:=Tryz.isAgg5
 z5:=Tryz.sizeOf5
 v5:=Tryz.zeroValue5
 t9:=Tryz.underlying9
 a9:=Tryz.isAgg9
 z9:=Tryz.sizeOf9
 v9:=Tryz.zeroValue9 }
open Go.RowKit in
theorem Tryz.strings_IndexByte (s:ByteArray) (c:Int) (w:World) :
 Calls Tryz.prog 126 #[.string s,.int .u8 c] w fun e w'=>e = .returned (.int .i64 (Lib.indexByte s.data.toList c.toNat.toUInt8))/\w'=w:=Any.strings_IndexByte Tryz.lays137 s c w
open Go.RowKit in
open Go.RowKit in
open Go.RowKit in
open Go.RowKit in
open Go.RowKit in
open Go.RowKit in
theorem Tryz.Builder_String_any_k (B b:Nat) (l:List UInt8) (w:World) (h:Lib.IsBuilderF 66 5 B b (Lib.byteCells l) w) (hBw:B<=w.heap.size) :
 Calls Tryz.prog 35 #[.pointer (some ⟨b,0,none⟩)] w fun e w'=>e = .returned (.string ⟨l.toArray⟩)/\(Lib.IsBuilderF 66 5 B b (Lib.byteCells l) w'/\Below B w w'/\Lib.OthersKept 5 (some b) w w'):=Any.Builder_String_any_k Tryz.lays169 Tryz.Builder_Extra_169 B b l w h hBw
open Go.RowKit in
open Go.Lib in
open Go.Lib in
open Go.Lib in
open Go.Lib in
open Go.RowKit Go.Sort Go.Lib in
open Go.RowKit Go.Sort Go.Lib in
open Go.RowKit Go.Sort Go.Lib in
open Go.RowKit Go.Sort Go.Lib in
open Go.RowKit Go.Sort Go.Lib in
def Tryz.laysM171_ren:Go.Shelf.Ren:=⟨fun | 171=>69 | 243=>109 | 246=>127 | 283=>142 | 284=>143 | 285=>144 | 286=>145 | 129=>151 | 317=>150 | 318=>152 | 319=>153 | 320=>154 | 337=>157 | 338=>158 | n=>n,fun | 3=>3 | 9=>9 | 2=>2 | 4=>4 | 171=>156 | 0=>0 | 53=>157 | 37=>64 | 5=>5 | 173=>160 | 212=>164 | 51=>165 | 20=>20 | 213=>166 | 46=>167 | 232=>173 | 233=>174 | n=>n,fun | 17=>0 | 18=>2 | 19=>3 | n=>n⟩
theorem Tryz.laysM171:Go.Proofs.LaysM.n171 Tryz.prog Tryz.laysM171_ren:={
 mixed:=by kernel_rfl
 f129:=Tryz.func151.trans (congrArg some (by kernel_rfl))
 f171:=Tryz.func69.trans (congrArg some (by kernel_rfl))
 f243:=Tryz.func109.trans (congrArg some (by kernel_rfl))
 f246:=Tryz.func127.trans (congrArg some (by kernel_rfl))
 f283:=Tryz.func142.trans (congrArg some (by kernel_rfl))
 f284:=Tryz.func143.trans (congrArg some (by kernel_rfl))
 f285:=Tryz.func144.trans (congrArg some (by kernel_rfl))
 f286:=Tryz.func145.trans (congrArg some (by kernel_rfl))
 f317:=Tryz.func150.trans (congrArg some (by kernel_rfl))
 f318:=Tryz.func152.trans (congrArg some (by kernel_rfl))
 f319:=Tryz.func153.trans (congrArg some (by kernel_rfl))
 f320:=Tryz.func154.trans (congrArg some (by kernel_rfl))
 f337:=Tryz.func157.trans (congrArg some (by kernel_rfl))
 f338:=Tryz.func158.trans (congrArg some (by kernel_rfl))
 t0:=Tryz.underlying0
 a0:=Tryz.isAgg0
 z0:=Tryz.sizeOf0
 v0:=Tryz.zeroValue0
 t2:=Tryz.underlying2
 a2:=Tryz.isAgg2
 z2:=Tryz.sizeOf2
 v2:=Tryz.zeroValue2
 t3:=Tryz.underlying3
 a3:=Tryz.isAgg3
 z3:=Tryz.sizeOf3
 v3:=Tryz.zeroValue3
 t4:=Tryz.underlying4
 a4:=Tryz.isAgg4
 z4:=Tryz.sizeOf4
 v4:=Tryz.zeroValue4
 t5:=Tryz.underlying5
 a5:=Tryz.isAgg5
 z5:=Tryz.sizeOf5
 v5:=Tryz.zeroValue5
 t9:=Tryz.underlying9
 a9:=Tryz.isAgg9
 z9:=Tryz.sizeOf9
 v9:=Tryz.zeroValue9
 t20:=Tryz.underlying20
 a20:=Tryz.isAgg20
 z20:=Tryz.sizeOf20
 v20:=Tryz.zeroValue20
 t37:=Tryz.underlying64
 a37:=Tryz.isAgg64
 z37:=Tryz.sizeOf64
 v37:=Tryz.zeroValue64
 t46:=Tryz.underlying167
 a46:=Tryz.isAgg167
 z46:=Tryz.sizeOf167
 v46:=Tryz.zeroValue167
 t51:=Tryz.underlying165
 a51:=Tryz.isAgg165
 z51:=Tryz.sizeOf165
 v51:=Tryz.zeroValue165
 t53:=Tryz.underlying157
 a53:=Tryz.isAgg157
 z53:=Tryz.sizeOf157
 v53:=Tryz.zeroValue157
 t171:=Tryz.underlying156
 a171:=Tryz.isAgg156
 z171:=Tryz.sizeOf156
 v171:=Tryz.zeroValue156
 t173:=Tryz.underlying160
 a173:=Tryz.isAgg160
 z173:=Tryz.sizeOf160
 v173:=Tryz.zeroValue160
 t212:=Tryz.underlying164
 a212:=Tryz.isAgg164
 z212:=Tryz.sizeOf164
 v212:=Tryz.zeroValue164
 t213:=Tryz.underlying166
 a213:=Tryz.isAgg166
 z213:=Tryz.sizeOf166
 t232:=Tryz.underlying173
 a232:=Tryz.isAgg173
 z232:=Tryz.sizeOf173
 v232:=Tryz.zeroValue173
 t233:=Tryz.underlying174
 a233:=Tryz.isAgg174
 z233:=Tryz.sizeOf174
 v233:=Tryz.zeroValue174
 g17:=by kernel_rfl
 g18:=by kernel_rfl
 g19:=by kernel_rfl
 i0:=by kernel_rfl
 i2:=by kernel_rfl
 i3:=by kernel_rfl
 i4:=by kernel_rfl
 i5:=by kernel_rfl
 i9:=by kernel_rfl
 i20:=by kernel_rfl
 i37:=by kernel_rfl
 i46:=by kernel_rfl
 i51:=by kernel_rfl
 i53:=by kernel_rfl
 i171:=by kernel_rfl
 i173:=by kernel_rfl
 i212:=by kernel_rfl
 i232:=by kernel_rfl
 i233:=by kernel_rfl
 m17:=by kernel_rfl
 m18:=by kernel_rfl
 m19:=by kernel_rfl }
open Go.RowKit Go.Sort Go.Lib in
theorem Tryz.strconv_Itoa (n:Int) (h0 : -9223372036854775808<=n) (h1:n<=9223372036854775807) (w:World) (htab:Lib.TabIs Tryz.prog w "internal/strconv.uint64pow10" .u64 Lib.pow10Tab) :
 Calls Tryz.prog 69 #[.int .i64 n] w fun e w'=>e = .returned (.string ⟨(Lib.itoa n).toArray⟩)/\∃ k os,w'=grow (w.drewN k) os:=Any.strconv_Itoa Tryz.laysM171 n h0 h1 w htab
open Go.RowKit Go.Sort Go.Lib in
def Tryz.laysM316_ren:Go.Shelf.Ren:=⟨fun | 316=>107 | n=>n,fun | 9=>9 | 3=>3 | 4=>4 | 37=>64 | 0=>0 | 127=>111 | 5=>5 | n=>n,fun | n=>n⟩
theorem Tryz.laysM316:Go.Proofs.LaysM.n316 Tryz.prog Tryz.laysM316_ren:={
 mixed:=by kernel_rfl
 f316:=Tryz.func107.trans (congrArg some (by kernel_rfl))
 t0:=Tryz.underlying0
 a0:=Tryz.isAgg0
 z0:=Tryz.sizeOf0
 v0:=Tryz.zeroValue0
 t3:=Tryz.underlying3
 a3:=Tryz.isAgg3
 z3:=Tryz.sizeOf3
 v3:=Tryz.zeroValue3
 t4:=Tryz.underlying4
 a4:=Tryz.isAgg4
 z4:=Tryz.sizeOf4
 v4:=Tryz.zeroValue4
 t9:=Tryz.underlying9
 a9:=Tryz.isAgg9
 z9:=Tryz.sizeOf9
 v9:=Tryz.zeroValue9
 t37:=Tryz.underlying64
 a37:=Tryz.isAgg64
 z37:=Tryz.sizeOf64
 v37:=Tryz.zeroValue64
 t127:=Tryz.underlying111
 a127:=Tryz.isAgg111
 z127:=Tryz.sizeOf111
 v127:=Tryz.zeroValue111
 t5:=Tryz.underlying5
 a5:=Tryz.isAgg5
 z5:=Tryz.sizeOf5
 v5:=Tryz.zeroValue5
 i0:=by kernel_rfl
 i3:=by kernel_rfl
 i4:=by kernel_rfl
 i5:=by kernel_rfl
 i9:=by kernel_rfl
 i37:=by kernel_rfl
 i127:=by kernel_rfl }
open Go.RowKit in
theorem Tryz.stringslite_Clone (s:ByteArray) (w:World) (hlim:s.size<=281474976710656) :
 Calls Tryz.prog 107 #[.string s] w fun e w'=>e = .returned (.string s)/\Below w.heap.size w w':=Any.stringslite_Clone Tryz.laysM316 s w hlim
open Go.RowKit Go.Lib in
open Go.RowKit Go.Lib in
open Go.RowKit Go.Lib in
open Go.RowKit Go.Lib in
open Go.RowKit Go.Lib in
open Go.RowKit Go.Lib in
def Tryz.lays143_ren:Go.Shelf.Ren:=⟨fun | 143=>156 | 219=>160 | 217=>141 | 225=>163 | 224=>164 | 267=>165 | 266=>149 | 314=>169 | n=>n,fun | 9=>9 | 3=>3 | 4=>4 | 5=>5 | 46=>167 | 146=>178 | 51=>165 | n=>n,fun | 1=>1 | n=>n⟩
theorem Tryz.lays143:Go.Proofs.Lays.n143 Tryz.prog Tryz.lays143_ren:={
 mixed:=by kernel_rfl
 f143:=Tryz.func156.trans (congrArg some (by kernel_rfl))
 f217:=Tryz.func141.trans (congrArg some (by kernel_rfl))
 f219:=Tryz.func160.trans (congrArg some (by kernel_rfl))
 f224:=Tryz.func164.trans (congrArg some (by kernel_rfl))
 f225:=Tryz.func163.trans (congrArg some (by kernel_rfl))
 f266:=Tryz.func149.trans (congrArg some (by kernel_rfl))
 f267:=Tryz.func165.trans (congrArg some (by kernel_rfl))
 f314:=Tryz.func169.trans (congrArg some (by kernel_rfl))
 t3:=Tryz.underlying3
 a3:=Tryz.isAgg3
 z3:=Tryz.sizeOf3
 v3:=Tryz.zeroValue3
 t4:=Tryz.underlying4
 a4:=Tryz.isAgg4
 z4:=Tryz.sizeOf4
 v4:=Tryz.zeroValue4
 t5:=Tryz.underlying5
 a5:=Tryz.isAgg5
 z5:=Tryz.sizeOf5
 v5:=Tryz.zeroValue5
 t9:=Tryz.underlying9
 a9:=Tryz.isAgg9
 z9:=Tryz.sizeOf9
 v9:=Tryz.zeroValue9
 t46:=Tryz.underlying167
 a46:=Tryz.isAgg167
 z46:=Tryz.sizeOf167
 v46:=Tryz.zeroValue167
 t51:=Tryz.underlying165
 a51:=Tryz.isAgg165
 z51:=Tryz.sizeOf165
 v51:=Tryz.zeroValue165
 t146:=Tryz.underlying178
 a146:=Tryz.isAgg178
 z146:=Tryz.sizeOf178
 v146:=Tryz.zeroValue178
 g1:=by kernel_rfl }
open Go.RowKit Go.Lib in
theorem Tryz.strings_Index_one (s:ByteArray) (c:UInt8) (w:World) :
 Calls Tryz.prog 156 #[.string s,.string ⟨#[c]⟩] w fun e w'=>e = .returned (.int .i64 (Lib.indexByte s.data.toList c))/\w'=w:=Any.strings_Index_one Tryz.lays143 s c w
open Go.RowKit Go.Lib in
open Go.RowKit Go.Lib in
open Go.RowKit Go.Lib in
open Go.RowKit Go.Lib in
open Go.RowKit Go.Lib in
open Go.RowKit Go.Lib in
open Go.RowKit Go.Lib in
open Go.RowKit Go.Lib in
def Tryz.lays146_ren:Go.Shelf.Ren:=⟨fun | 146=>155 | 221=>159 | 268=>161 | 138=>162 | 143=>156 | 195=>166 | 197=>167 | 218=>168 | 219=>160 | 260=>170 | 217=>141 | 225=>163 | 224=>164 | 267=>165 | 266=>149 | 314=>169 | n=>n,fun | 9=>9 | 31=>22 | 3=>3 | 4=>4 | 0=>0 | 105=>176 | 21=>21 | 5=>5 | 46=>167 | 119=>180 | 139=>183 | 138=>182 | 146=>178 | 51=>165 | n=>n,fun | 1=>1 | 3=>4 | 4=>5 | n=>n⟩
theorem Tryz.lays146:Go.Proofs.Lays.n146 Tryz.prog Tryz.lays146_ren:={
 mixed:=by kernel_rfl
 f138:=Tryz.func162.trans (congrArg some (by kernel_rfl))
 f143:=Tryz.func156.trans (congrArg some (by kernel_rfl))
 f146:=Tryz.func155.trans (congrArg some (by kernel_rfl))
 f195:=Tryz.func166.trans (congrArg some (by kernel_rfl))
 f197:=Tryz.func167.trans (congrArg some (by kernel_rfl))
 f217:=Tryz.func141.trans (congrArg some (by kernel_rfl))
 f218:=Tryz.func168.trans (congrArg some (by kernel_rfl))
 f219:=Tryz.func160.trans (congrArg some (by kernel_rfl))
 f221:=Tryz.func159.trans (congrArg some (by kernel_rfl))
 f224:=Tryz.func164.trans (congrArg some (by kernel_rfl))
 f225:=Tryz.func163.trans (congrArg some (by kernel_rfl))
 f260:=Tryz.func170.trans (congrArg some (by kernel_rfl))
 f266:=Tryz.func149.trans (congrArg some (by kernel_rfl))
 f267:=Tryz.func165.trans (congrArg some (by kernel_rfl))
 f268:=Tryz.func161.trans (congrArg some (by kernel_rfl))
 f314:=Tryz.func169.trans (congrArg some (by kernel_rfl))
 t0:=Tryz.underlying0
 a0:=Tryz.isAgg0
 z0:=Tryz.sizeOf0
 v0:=Tryz.zeroValue0
 t3:=Tryz.underlying3
 a3:=Tryz.isAgg3
 z3:=Tryz.sizeOf3
 v3:=Tryz.zeroValue3
 t4:=Tryz.underlying4
 a4:=Tryz.isAgg4
 z4:=Tryz.sizeOf4
 v4:=Tryz.zeroValue4
 t5:=Tryz.underlying5
 a5:=Tryz.isAgg5
 z5:=Tryz.sizeOf5
 v5:=Tryz.zeroValue5
 t9:=Tryz.underlying9
 a9:=Tryz.isAgg9
 z9:=Tryz.sizeOf9
 v9:=Tryz.zeroValue9
 t21:=Tryz.underlying21
 a21:=Tryz.isAgg21
 z21:=Tryz.sizeOf21
 v21:=Tryz.zeroValue21
 t31:=Tryz.underlying22
 a31:=Tryz.isAgg22
 z31:=Tryz.sizeOf22
 v31:=Tryz.zeroValue22
 t46:=Tryz.underlying167
 a46:=Tryz.isAgg167
 z46:=Tryz.sizeOf167
 v46:=Tryz.zeroValue167
 t51:=Tryz.underlying165
 a51:=Tryz.isAgg165
 z51:=Tryz.sizeOf165
 v51:=Tryz.zeroValue165
 t105:=Tryz.underlying176
 a105:=Tryz.isAgg176
 z105:=Tryz.sizeOf176
 v105:=Tryz.zeroValue176
 t119:=Tryz.underlying180
 a119:=Tryz.isAgg180
 z119:=Tryz.sizeOf180
 t138:=Tryz.underlying182
 a138:=Tryz.isAgg182
 z138:=Tryz.sizeOf182
 v138:=Tryz.zeroValue182
 t139:=Tryz.underlying183
 a139:=Tryz.isAgg183
 z139:=Tryz.sizeOf183
 v139:=Tryz.zeroValue183
 t146:=Tryz.underlying178
 a146:=Tryz.isAgg178
 z146:=Tryz.sizeOf178
 v146:=Tryz.zeroValue178
 g1:=by kernel_rfl
 g3:=by kernel_rfl
 g4:=by kernel_rfl }
open Go.RowKit Go.Lib in
open Go.RowKit Go.Lib in
open Go.RowKit Go.Lib in
open Go.RowKit Go.Lib in
open Go.RowKit Go.Lib in
open Go.RowKit Go.Lib in
open Go.RowKit Go.Lib in
theorem Tryz.strings_Split_chars (s sep:ByteArray) (w:World) (h0:sep.size=0) (hs:s.size<4294967281) (hascii:∀ (j:Nat) b,s.data.toList[j]? = some b->b.toNat<128) :
 Calls Tryz.prog 155 #[.string s,.string sep] w fun e w'=>
  e = .returned (.slice (some ⟨(w.iter s s.size).heap.size,0,none⟩) s.size s.size)/\w'=(w.iter s s.size).alloc (.cells ((Lib.charsB s).map Value.string).toArray 9):=Any.strings_Split_chars Tryz.lays146 (by kernel_rfl) s sep w h0 hs hascii
open Go.RowKit Go.Lib in
open Go.RowKit Go.Lib in
def Tryz.lays167_ren:Go.Shelf.Ren:=⟨fun | 240=>68 | 276=>108 | 167=>32 | 166=>33 | 169=>35 | n=>n,fun | 0=>0 | 3=>3 | 4=>4 | 5=>5 | 9=>9 | 20=>20 | 37=>64 | 70=>63 | 72=>66 | 75=>70 | 80=>44 | 164=>133 | 127=>111 | n=>n,fun | n=>n⟩
theorem Tryz.lays167:Go.Proofs.Lays.n167 Tryz.prog Tryz.lays167_ren:={
 mixed:=by kernel_rfl
 f167:=Tryz.func32.trans (congrArg some (by kernel_rfl))
 f240:=Tryz.func68.trans (congrArg some (by kernel_rfl))
 f276:=Tryz.func108.trans (congrArg some (by kernel_rfl))
 t0:=Tryz.underlying0
 a0:=Tryz.isAgg0
 z0:=Tryz.sizeOf0
 v0:=Tryz.zeroValue0
 t4:=Tryz.underlying4
 a4:=Tryz.isAgg4
 z4:=Tryz.sizeOf4
 v4:=Tryz.zeroValue4
 t5:=Tryz.underlying5
 a5:=Tryz.isAgg5
 z5:=Tryz.sizeOf5
 v5:=Tryz.zeroValue5
 t9:=Tryz.underlying9
 a9:=Tryz.isAgg9
 z9:=Tryz.sizeOf9
 v9:=Tryz.zeroValue9
 t20:=Tryz.underlying20
 a20:=Tryz.isAgg20
 z20:=Tryz.sizeOf20
 v20:=Tryz.zeroValue20
 t37:=Tryz.underlying64
 a37:=Tryz.isAgg64
 z37:=Tryz.sizeOf64
 v37:=Tryz.zeroValue64
 t70:=Tryz.underlying63
 a70:=Tryz.isAgg63
 z70:=Tryz.sizeOf63
 v70:=Tryz.zeroValue63
 t72:=Tryz.underlying66
 a72:=Tryz.isAgg66
 z72:=Tryz.sizeOf66
 v72:=Tryz.zeroValue66
 t75:=Tryz.underlying70
 a75:=Tryz.isAgg70
 z75:=Tryz.sizeOf70
 v75:=Tryz.zeroValue70
 t164:=Tryz.underlying133
 a164:=Tryz.isAgg133
 z164:=Tryz.sizeOf133
 v164:=Tryz.zeroValue133 }
theorem Tryz.Builder_Extra_167:Builder.Extra Tryz.prog Tryz.lays167_ren:={
 sizeBuilder:=by kernel_rfl
 liesBuilder:=by kernel_rfl
 t5:=Tryz.underlying5
 a5:=Tryz.isAgg5
 z5:=Tryz.sizeOf5
 v5:=Tryz.zeroValue5
 infoByte:=by kernel_rfl
 cellsByte:=by kernel_rfl
 sizeByte:=by kernel_rfl
 neB5:=by decide }
def Tryz.lays166_ren:Go.Shelf.Ren:=⟨fun | 240=>68 | 276=>108 | 167=>32 | 166=>33 | 169=>35 | n=>n,fun | 0=>0 | 3=>3 | 4=>4 | 5=>5 | 9=>9 | 20=>20 | 37=>64 | 70=>63 | 72=>66 | 75=>70 | 80=>44 | 164=>133 | 127=>111 | n=>n,fun | n=>n⟩
theorem Tryz.lays166:Go.Proofs.Lays.n166 Tryz.prog Tryz.lays166_ren:={
 mixed:=by kernel_rfl
 f166:=Tryz.func33.trans (congrArg some (by kernel_rfl))
 f240:=Tryz.func68.trans (congrArg some (by kernel_rfl))
 f276:=Tryz.func108.trans (congrArg some (by kernel_rfl))
 t0:=Tryz.underlying0
 a0:=Tryz.isAgg0
 z0:=Tryz.sizeOf0
 v0:=Tryz.zeroValue0
 t3:=Tryz.underlying3
 a3:=Tryz.isAgg3
 z3:=Tryz.sizeOf3
 v3:=Tryz.zeroValue3
 t4:=Tryz.underlying4
 a4:=Tryz.isAgg4
 z4:=Tryz.sizeOf4
 v4:=Tryz.zeroValue4
 t9:=Tryz.underlying9
 a9:=Tryz.isAgg9
 z9:=Tryz.sizeOf9
 v9:=Tryz.zeroValue9
 t20:=Tryz.underlying20
 a20:=Tryz.isAgg20
 z20:=Tryz.sizeOf20
 v20:=Tryz.zeroValue20
 t37:=Tryz.underlying64
 a37:=Tryz.isAgg64
 z37:=Tryz.sizeOf64
 v37:=Tryz.zeroValue64
 t70:=Tryz.underlying63
 a70:=Tryz.isAgg63
 z70:=Tryz.sizeOf63
 v70:=Tryz.zeroValue63
 t72:=Tryz.underlying66
 a72:=Tryz.isAgg66
 z72:=Tryz.sizeOf66
 v72:=Tryz.zeroValue66
 t75:=Tryz.underlying70
 a75:=Tryz.isAgg70
 z75:=Tryz.sizeOf70
 v75:=Tryz.zeroValue70
 t164:=Tryz.underlying133
 a164:=Tryz.isAgg133
 z164:=Tryz.sizeOf133
 v164:=Tryz.zeroValue133 }
theorem Tryz.Builder_Extra_166:Builder.Extra Tryz.prog Tryz.lays166_ren:={
 sizeBuilder:=by kernel_rfl
 liesBuilder:=by kernel_rfl
 t5:=Tryz.underlying5
 a5:=Tryz.isAgg5
 z5:=Tryz.sizeOf5
 v5:=Tryz.zeroValue5
 infoByte:=by kernel_rfl
 cellsByte:=by kernel_rfl
 sizeByte:=by kernel_rfl
 neB5:=by decide }
open Go.RowKit in
theorem Tryz.Builder_WriteByte_k (B b:Nat) (bs:List Value) (c:Int) (w:World) (h:Lib.IsBuilderF 66 5 B b bs w) (hlen:bs.length+1<=140737488355328) (hBw:B<=w.heap.size) :
 Calls Tryz.prog 32 #[.pointer (some ⟨b,0,none⟩),.int .u8 c] w fun e w'=>e = .returned .nilIface/\(Lib.BuilderAtF 66 5 B b (.pointer (some ⟨b,0,none⟩)) (bs++[.int .u8 c]) w'/\Below B w w'/\Lib.OthersKept 5 (some b) w w'):=Any.Builder_WriteByte_k Tryz.lays167 Tryz.Builder_Extra_167 B b bs c w h hlen hBw
open Go.RowKit in
theorem Tryz.Builder_WriteString_k (B b:Nat) (bs:List Value) (s:ByteArray) (w:World) (h:Lib.IsBuilderF 66 5 B b bs w) (hlen:bs.length+s.size<=140737488355328) (hBw:B<=w.heap.size) :
 Calls Tryz.prog 33 #[.pointer (some ⟨b,0,none⟩),.string s] w fun e w'=>e = .returned (.tuple #[.int .i64 s.size,.nilIface])/\(Lib.BuilderAtF 66 5 B b (.pointer (some ⟨b,0,none⟩)) (bs++Lib.strCells s) w'/\Below B w w'/\Lib.OthersKept 5 (some b) w w'):=Any.Builder_WriteString_k Tryz.lays166 Tryz.Builder_Extra_166 B b bs s w h hlen hBw
end Go.Proofs

namespace Go.Proofs.YtcekpobmbmnplaaGreatDoor
namespace Lx
def dv (c:UInt8):Nat:=c.toNat - 48
def valL (l:List UInt8):Nat:=l.foldl (fun n c=>10*n+dv c) 0
def leadOk:List UInt8->Bool
 | []=>true
 | [_]=>true
 | c :: _=>c != 48
def numOk (l:List UInt8):Bool:=l.all digB&&leadOk l&&decide (valL l<=1099511627775)
def signL:List UInt8->Bool
 | [c]=>signB c
 | _=>false
theorem valL_snoc (l:List UInt8) (c:UInt8):valL (l++[c])=10*valL l+dv c:=by simp [valL,List.foldl_append]
theorem zxo (l:List UInt8):∀ n:Nat,n<=l.foldl (fun n c=>10*n+dv c) n:=by
 induction l with
 | nil=>intro n;exact Nat.le_refl _
 | cons c l ih=>intro n;simp only [List.foldl_cons];have:=ih (10*n+dv c);omega
theorem zlc (a b:List UInt8):valL a<=valL (a++b):=by
 unfold valL;rw [List.foldl_append];exact zxo b _
theorem dig_range (c:UInt8) (h:digB c=true):48<=c.toNat/\c.toNat<=57:=by
 simp [digB] at h;omega
theorem zq6 (c:UInt8) (h:digB c=true):UInt8.ofNat (48+dv c)=c:=by
 have:=dig_range c h
 apply UInt8.toNat_inj.1
 rw [UInt8.toNat_ofNat'];unfold dv;omega
theorem zzs:∀ (n:Nat) (l:List UInt8),l.length=n->l≠[]->l.all digB=true->leadOk l=true->Lib.decDigits (valL l)=l/\(2<=l.length->0<valL l):=by
 intro n
 induction n with
 | zero=>intro l hl hne;exact absurd (List.eq_nil_of_length_eq_zero hl) hne
 | succ n ih=>
   intro l hl _ hd hlead
   obtain ⟨i,c,rfl⟩:∃ i c,l=i++[c]:=⟨l.dropLast,l.getLast (by intro h;simp [h] at hl),(List.dropLast_concat_getLast _).symm⟩
   simp only [List.all_append,List.all_cons,List.all_nil,Bool.and_true,Bool.and_eq_true] at hd;have hc:=dig_range c hd.2;rw [valL_snoc]
   cases i with
   | nil=>
     refine ⟨?_,by simp⟩
     have e:10*valL []+dv c=dv c:=by simp [valL]
     rw [e,List.nil_append,Lib.decDigits,dif_pos (by unfold dv;omega),zq6 c hd.2]
   | cons x r=>
     have hlead':leadOk (x :: r)=true:=by
      cases r with
      | nil=>rfl
      | cons y r=>exact hlead
     have hx:(x != 48)=true:=by
      cases r with
      | nil=>simpa [leadOk] using hlead
      | cons y r=>simpa [leadOk] using hlead
     obtain ⟨h1,h2⟩:=ih (x :: r) (by simp at hl;simp;omega) (by simp) hd.1 hlead'
     have hpos:0<valL (x :: r):=by
      cases r with
      | nil=>
        have hxr:=dig_range x (by simp at hd;exact hd.1)
        have:x.toNat≠48:=fun e=>by
         rw [bne_iff_ne] at hx;exact hx (UInt8.toNat_inj.1 (by rw [e];rfl))
        simp [valL,dv];omega
      | cons y r=>exact h2 (by simp)
     have hdv:dv c<10:=by unfold dv;omega
     refine ⟨?_,fun _=>by omega⟩;rw [Lib.decDigits,dif_neg (by omega),show (10*valL (x :: r)+dv c) / 10=valL (x :: r) from by omega,show (10*valL (x :: r)+dv c) % 10=dv c from by omega,h1,zq6 c hd.2]
theorem zoe (u:Nat):∀ c r,Lib.decDigits u=c :: r->10<=u->c≠48:=by
 induction u using Nat.strongRecOn with
 | _ u ih=>
   intro c r h hu;rw [Lib.decDigits,dif_neg (by omega)] at h
   by_cases h10:u / 10<10
   . rw [Lib.decDigits,dif_pos h10] at h
     rw [List.singleton_append,List.cons.injEq] at h;rw [← h.1];intro e;have:=congrArg UInt8.toNat e;rw [UInt8.toNat_ofNat'] at this;have e48:(48:UInt8).toNat=48:=rfl;omega
   . cases hd:Lib.decDigits (u / 10) with
     | nil=>rw [Lib.decDigits,dif_neg h10] at hd;simp at hd
     | cons x y=>
       rw [hd] at h;simp at h;rw [← h.1];exact ih (u / 10) (by omega) x y hd (by omega)
theorem dec_small (u:Nat) (h:u<10):Lib.decDigits u=[UInt8.ofNat (48+u)]:=by rw [Lib.decDigits,dif_pos h]
theorem zpt (l:List UInt8) (h:Lib.decDigits (valL l)=l):leadOk l=true:=by
 cases l with
 | nil=>rfl
 | cons c r=>
   cases r with
   | nil=>rfl
   | cons y r=>
     by_cases h10:valL (c :: y :: r)<10
     . rw [dec_small _ h10] at h;simp at h
     . have:=zoe _ c (y :: r) h (by omega)
       simp [leadOk,this]
theorem zl1:∀ (r:List UInt8) (n:Nat),0<n->10 ^ r.length*n<=r.foldl (fun n c=>10*n+dv c) n
 | [],n,_=>by simp
 | c :: r,n,h=>by
   have:=zl1 r (10*n+dv c) (by omega);simp only [List.foldl_cons,List.length_cons,Nat.pow_succ];refine Nat.le_trans ?_ this;rw [Nat.mul_assoc];exact Nat.mul_le_mul_left _ (by omega)
theorem numOk_long (l:List UInt8) (h:15<l.length):numOk l=false:=by
 unfold numOk
 cases hd:l.all digB with
 | false=>rfl
 | true=>
   cases hl:leadOk l with
   | false=>rfl
   | true =>
     simp only [Bool.true_and,decide_eq_false_iff_not]
     cases l with
     | nil=>simp at h
     | cons c r=>
       cases r with
       | nil=>simp at h
       | cons y r=>
         have hc:c≠48:=by simpa [leadOk] using hl
         have hcd:=dig_range c (by simp at hd;exact hd.1)
         have hc1:0<10*0+dv c:=by
          have:c.toNat≠48:=fun e=>hc (UInt8.toNat_inj.1 (by rw [e];rfl))
          unfold dv;omega
         have:=zl1 (y :: r) (10*0+dv c) hc1
         have hlen:15<=(y :: r).length:=by simp at h ⊢;omega
         have hp:10 ^ 15<=10 ^ (y :: r).length:=Nat.pow_le_pow_right (by omega) hlen;have hm:10 ^ (y :: r).length*1<=10 ^ (y :: r).length*(10*0+dv c):=Nat.mul_le_mul_left _ hc1;have e:valL (c :: y :: r)=(y :: r).foldl (fun n c=>10*n+dv c) (10*0+dv c):=rfl;rw [e];have h15:(10:Nat) ^ 15=1000000000000000:=rfl;omega
theorem numOk_digits (l:List UInt8) (hne:l≠[]) (hd:l.all digB=true):numOk l=(decide (valL l<=1099511627775)&&decide (Lib.decDigits (valL l)=l)):=by
 unfold numOk;rw [hd,Bool.true_and]
 cases hl:leadOk l with
 | true=>rw [(zzs _ l rfl hne hd hl).1];simp
 | false=>
   have:¬ Lib.decDigits (valL l)=l:=fun e=>by rw [zpt l e] at hl;cases hl
   simp [this]
theorem numOk_nondigit (l:List UInt8) (hd:l.all digB=false):numOk l=false:=by unfold numOk;rw [hd];rfl
theorem valL_bound:∀ (l:List UInt8),l.all digB=true->valL l<10 ^ l.length:=by
 have key:∀ (l:List UInt8) (n:Nat),l.all digB=true->l.foldl (fun n c=>10*n+dv c) n<10 ^ l.length*(n+1):=by
  intro l
  induction l with
  | nil=>intro n _;simp
  | cons c l ih=>
    intro n h;simp only [List.all_cons,Bool.and_eq_true] at h;have hc:=dig_range c h.1;have:=ih (10*n+dv c) h.2;simp only [List.foldl_cons,List.length_cons,Nat.pow_succ];refine Nat.lt_of_lt_of_le this ?_;rw [Nat.mul_assoc];exact Nat.mul_le_mul_left _ (by unfold dv;omega)
 intro l h;have:=key l 0 h;simpa [valL] using this
theorem indexByte_sign (c:UInt8):decide (0<=Lib.indexByte signs c)=signB c:=by
 cases h:signB c with
 | true=>
   unfold signB at h;rw [List.contains_iff_mem] at h;obtain ⟨k,hk,e⟩:=List.getElem_of_mem h;have hge:=Lib.indexByte_ge signs c;rw [decide_eq_true_iff]
   by_cases hm:Lib.indexByte signs c = -1
   . exact absurd (by rw [List.getElem?_eq_getElem hk,e]) (Lib.indexByte_none hm k)
   . omega
 | false=>
   rw [decide_eq_false_iff_not];intro hge;obtain ⟨o,ho⟩:=Int.eq_ofNat_of_zero_le hge;have:=(Lib.indexByte_some ho).1;have hm:c ∈ signs:=List.mem_of_getElem? this;unfold signB at h;rw [← List.contains_iff_mem] at hm;rw [hm] at h;cases h
theorem zpu (s:ByteArray) (h:0<s.size):∃ r,s.data.toList=s[0] :: r/\r.length=s.size - 1:=by
 have:=zid s 0 h;have hl:=len_toList s
 cases hl':s.data.toList with
 | nil=>rw [hl'] at hl;simp at hl;omega
 | cons c r=>rw [hl'] at this hl;simp at this hl;exact ⟨r,by rw [this],by omega⟩
theorem lead_bad (s:ByteArray) (h:1<s.size) (h0:s[0]=48):leadOk s.data.toList=false:=by
 obtain ⟨r,e,hr⟩:=zpu s (by omega);rw [e,h0]
 cases r with
 | nil=>simp at hr;omega
 | cons y r=>rfl
theorem lead_good (s:ByteArray) (h:∀ h1:1<s.size,s[0]≠48):leadOk s.data.toList=true:=by
 by_cases h0:s.size=0
 . have:s.data.toList=[]:=List.eq_nil_of_length_eq_zero (by rw [len_toList];exact h0)
   rw [this];rfl
 obtain ⟨r,e,hr⟩:=zpu s (by omega);rw [e]
 cases r with
 | nil=>rfl
 | cons y r=>simp at hr;simpa [leadOk] using h (by omega)
theorem val_take_snoc (s:ByteArray) (k:Nat) (h:k<s.size):valL (s.data.toList.take (k+1))=10*valL (s.data.toList.take k)+dv s[k]:=by
 rw [zid s k h,valL_snoc]
theorem zpv (s:ByteArray) (k:Nat):valL (s.data.toList.take k)<=valL s.data.toList:=by
 have:=zlc (s.data.toList.take k) (s.data.toList.drop k);rwa [List.take_append_drop] at this
theorem numOk_big (s:ByteArray) (k:Nat) (h:1099511627775<valL (s.data.toList.take k)):numOk s.data.toList=false:=by
 have:=zpv s k;unfold numOk
 rw [show decide (valL s.data.toList<=1099511627775)=false from by simp;omega];simp
theorem numOk_lead (l:List UInt8) (h:leadOk l=false):numOk l=false:=by unfold numOk;rw [h];simp
theorem signL_one (s:ByteArray) (h:s.size=1):signL s.data.toList=signB s[0]:=by
 obtain ⟨r,e,hr⟩:=zpu s (by omega);have:r=[]:=List.eq_nil_of_length_eq_zero (by omega)
 rw [e,this];rfl
theorem signL_other (s:ByteArray) (h:s.size≠1):signL s.data.toList=false:=by
 have hl:=len_toList s
 cases e:s.data.toList with
 | nil=>rfl
 | cons c r=>
   cases r with
   | nil=>rw [e] at hl;simp at hl;omega
   | cons y r=>rfl
theorem dec_len_le (n:Nat):(Lib.decDigits n).length<=n+1:=by
 induction n using Nat.strongRecOn with
 | _ n ih=>
   by_cases h:n<10
   . rw [dec_small n h];simp
   . rw [Lib.decDigits,dif_neg h,List.length_append]
     have:=ih (n / 10) (by omega);simp only [List.length_cons,List.length_nil];omega
theorem dec_len_tok:∀ (k n:Nat),n<10 ^ (k+1)->(Lib.decDigits n).length<=k+1
 | 0,n,h=>by rw [dec_small n (by simpa using h)];simp
 | k + 1,n,h=>by
   by_cases h1:n<10
   . rw [dec_small n h1];simp
   . rw [Lib.decDigits,dif_neg h1,List.length_append]
     have:=dec_len_tok k (n / 10) (by rw [Nat.pow_succ] at h;omega);simp only [List.length_cons,List.length_nil];omega
end Lx
end Go.Proofs.YtcekpobmbmnplaaGreatDoor

namespace Go.Proofs.YtcekpobmbmnplaaGreatDoor
set_option maxRecDepth 100000
set_option maxHeartbeats 400000
open Go.RowKit
theorem zfn (s:ByteArray) (w:World) :
 Calls Tryz.prog 104 #[.string s] w fun e w'=>e = .returned (.bool (Lx.signL s.data.toList))/\w'=w:=by
 by_cases h1:s.size=1
 . have h0:0<s.size:=by omega
   have HN:Hid (Lx.signL s.data.toList=decide (0<=Lib.indexByte zgg.data.toList s[0])):=by
    have:=Lx.indexByte_sign s[0];exact (Lx.signL_one s h1).trans this.symm
   have hlen:((s.size:Int) == 1)=true:=by rw [beq_iff_eq];omega
   clear h1;go_enter Tryz.func104,Tryz.ntmps104
   go_wp2_with (go_at_call 126;refine (Tryz.strings_IndexByte zgg _ _).mono ?_;rintro e w' ⟨rfl,rfl⟩)
   all_goals go_ret
   all_goals exact ⟨zaa (by rw [HN.out];simp),rfl⟩
 . have HN:Hid (Lx.signL s.data.toList=false):=Lx.signL_other s h1
   have hlen:((s.size:Int) == 1)=false:=by rw [beq_eq_false_iff_ne];omega
   clear h1;go_enter Tryz.func104,Tryz.ntmps104;go_wp2_with fail;go_ret;exact ⟨zaa HN.out.symm,rfl⟩
def zau:List PanicEntry:=[{ v:=.iface 29 (.int .i64 1),recovered:=false }]
def zi7 (l:List UInt8):Ending:=if Lx.numOk l then .returned (.int .i64 (Lx.valL l)) else .panicked zau
theorem zlx {l:List UInt8} (h:Lx.numOk l=true):zi7 l = .returned (.int .i64 (Lx.valL l)):=by unfold zi7;rw [h];rfl
theorem zh4 {l:List UInt8} (h:Lx.numOk l=false):zi7 l = .panicked zau:=by unfold zi7;rw [h];rfl
theorem zly (s:ByteArray) (w:World) (hs:s.size<=maxLen) :
 Calls Tryz.prog 106 #[.string s] w fun e w'=>e=zi7 s.data.toList/\w'=w:=by
 unfold maxLen at hs
 by_cases hlead:∃ h:1<s.size,s[0]=48
 . obtain ⟨h1,h0⟩:=hlead
   have HN:Hid (zi7 s.data.toList = .panicked zau):=zh4 (Lx.numOk_lead _ (Lx.lead_bad s h1 h0))
   have hb:(((s[0].toNat:Nat):Int) == 48)=true:=by rw [h0];rfl
   clear h0;go_enter Tryz.func106,Tryz.ntmps106;go_wp2_with fail;exact ⟨rfl,HN.out.symm,rfl⟩
 . have HL : Hid (Lx.leadOk s.data.toList=true):=Lx.lead_good s (fun h1 h0=>hlead ⟨h1,h0⟩)
   have hpart:(¬ 1<s.size)\/∃ h:1<s.size,(((s[0].toNat:Nat):Int) == 48)=false:=by
    by_cases h1:1<s.size
    . refine Or.inr ⟨h1,?_⟩
      rw [beq_eq_false_iff_ne];intro e;exact hlead ⟨h1,UInt8.toNat_inj.1 (by show s[0].toNat=48;omega)⟩
    . exact Or.inl h1
   clear hlead
   rcases hpart with h1 | ⟨h1,hb⟩
   all_goals
    go_enter Tryz.func106,Tryz.ntmps106;go_wp2_with fail
    go_loop [16,3,4] (fun i n _=>∃ k:Nat,k<=s.size/\i = .int .i64 k/\n = .int .i64 (Lx.valL (s.data.toList.take k))/\(s.data.toList.take k).all Lx.digB=true/\Lx.valL (s.data.toList.take k)<=1099511627775) (fun i _ _=>s.size - (intOf i).toNat)
    case atStart=>exact ⟨0,Nat.zero_le _,rfl,rfl,rfl,by simp [Lx.valL]⟩
    case round=>
     obtain ⟨k,hk,rfl,rfl,hall,hv⟩:=hrel;have HA:Hid ((s.data.toList.take k).all Lx.digB=true):=hall;clear hall
     by_cases hlt:k<s.size
     . by_cases hd:Lx.digB s[k]=true
       . have HS:Hid ((s.data.toList.take (k+1)).all Lx.digB=((s.data.toList.take k).all Lx.digB&&Lx.digB s[k])):=Lx.all_take_snoc s k hlt Lx.digB
         have HV:Hid (Lx.valL (s.data.toList.take (k+1))=10*Lx.valL (s.data.toList.take k)+Lx.dv s[k]):=Lx.val_take_snoc s k hlt;have hr:=Lx.dig_range _ hd
         have HB:Hid (Lx.valL (s.data.toList.take (k+1))<=1099511627775\/Lx.numOk s.data.toList=false):=by
          by_cases hm:Lx.valL (s.data.toList.take (k+1))<=1099511627775
          . exact Or.inl hm
          . exact Or.inr (Lx.numOk_big s (k+1) (by omega))
         generalize hV:Lx.valL (s.data.toList.take k)=V at *;have HVV:Hid (Lx.valL (s.data.toList.take k)=V):=hV;clear hV;obtain ⟨hr0,hr1⟩:=hr
         go_wp2_with (go_at_call 103;refine (zct _ _).mono ?_;rintro e w' ⟨rfl,rfl⟩)
         . have hN:Lx.numOk s.data.toList=false:=by
            rcases HB.out with h | h
            . rw [HV.out] at h;unfold Lx.dv at h;omega
            . exact h
           exact ⟨rfl,(zh4 hN).symm,rfl⟩
         . go_round
           case rel=>exact ⟨k+1,by omega,by go_num,by rw [HV.out];unfold Lx.dv;go_num,by rw [HS.out,HA.out];simp [hd],by rw [HV.out];unfold Lx.dv;omega⟩
           case measure=>simp [intOf];omega
       . have hd':Lx.digB s[k]=false:=by simpa using hd
         clear hd;have HN:Hid (zi7 s.data.toList = .panicked zau):=zh4 (Lx.numOk_nondigit _ (Lx.not_all s k hlt _ hd'))
         go_wp2_with (go_at_call 103;refine (zct _ _).mono ?_;rintro e w' ⟨rfl,rfl⟩)
         exact ⟨rfl,HN.out.symm,rfl⟩
     . obtain rfl:k=s.size:=by omega
       have HN:Hid (zi7 s.data.toList = .returned (.int .i64 (Lx.valL (s.data.toList.take s.size)))):=by
        have hT:s.data.toList.take s.size=s.data.toList:=List.take_of_length_le (by rw [Lx.len_toList];exact Nat.le_refl _);rw [hT] at HA hv ⊢;exact zlx (by unfold Lx.numOk;rw [HA.out,HL.out];simp;exact hv)
       go_wp2_with fail;go_ret;exact ⟨HN.out.symm,rfl⟩
def strOf (l:List UInt8):ByteArray:=⟨l.toArray⟩
theorem zbu {a b:ByteArray} (h:a=b):Ending.returned (.string a) = .returned (.string b):=by rw [h]
theorem zdh (l:List UInt8):(strOf l).data.toList=l:=by simp [strOf]
theorem za8 (s:ByteArray):strOf s.data.toList=s:=by simp [strOf]
theorem zbr (l:List UInt8):(strOf l).size=l.length:=by simp [strOf,ByteArray.size]
theorem zad (a b:List UInt8):strOf a++strOf b=strOf (a++b):=by
 apply ByteArray.ext
 simp [strOf]
def z0p (n:Nat):List UInt8:=[UInt8.ofNat (48+n % 10)]
theorem zfo (n:Nat):∀ (w:World),n<9223372036854775807->
 Calls Tryz.prog 91 #[.int .i64 n] w fun e w'=>e = .returned (.string (strOf (Lib.decDigits n)))/\Below w.heap.size w w':=by
 induction n using Nat.strongRecOn with
 | _ n ih=>
   intro w hn;have IH:Hid (n / 10<n->∀ (w:World),n / 10<9223372036854775807->Calls Tryz.prog 91 #[.int .i64 ((n / 10:Nat):Int)] w fun e w'=>e = .returned (.string (strOf (Lib.decDigits (n / 10))))/\Below w.heap.size w w'):=ih (n / 10);clear ih
   have HD:Hid (Lib.decDigits n=if n<10 then z0p n else Lib.decDigits (n / 10)++z0p n):=by
    show Lib.decDigits n=_;rw [Lib.decDigits];split
    . unfold z0p;rw [Nat.mod_eq_of_lt (by omega)]
    . rfl
   have hcv:(convert 64 9 (.slice (some ⟨w.heap.size,0,none⟩) 1 1)).run Tryz.prog (w.alloc (.cells #[.int .u8 (48+(n:Int) % 10)] 5)) = .ok (.string (strOf (z0p n))) (w.alloc (.cells #[.int .u8 (48+(n:Int) % 10)] 5)):=by
    refine run_convert_bytes_back (P:=Tryz.prog) _ 64 9 5 ⟨w.heap.size,0,none⟩ 1 [UInt8.ofNat (48+n % 10)] Tryz.underlying64 Tryz.underlying5 Tryz.underlying9 ?_;intro j hj;simp only [List.length_cons,List.length_nil,Nat.zero_add,Nat.lt_one_iff] at hj;subst hj
    have e:((UInt8.ofNat (48+n % 10)).toNat:Int)=48+(n:Int) % 10:=by rw [UInt8.toNat_ofNat'];omega
    simp only [List.getElem_cons_zero,e];simp [go_sem]
   by_cases h10:n<10
   . go_enter Tryz.func91,Tryz.ntmps91
     go_wp2_with fail;go_ret;exact ⟨zbu (by rw [HD.out,if_pos h10]),(Below.refl _ _).alloc (Nat.le_refl _) _⟩
   . go_enter Tryz.func91,Tryz.ntmps91
     go_wp2_with fail
     have e10:((n:Int) / 10)=((n / 10:Nat):Int):=by omega
     rw [e10];clear e10;refine (IH.out (by omega) _ (by omega)).mono ?_;rintro e w' ⟨rfl,hb⟩
     have hsz:(strOf (Lib.decDigits (n / 10))).size+(strOf (z0p n)).size<=9223372036854775807:=by
      have:=Lx.dec_len_le (n / 10);rw [zbr,zbr];simp only [z0p,List.length_cons,List.length_nil];omega
     go_wp2_with fail;go_ret;refine ⟨zbu (by rw [HD.out,if_neg h10,← zad]),?_⟩;exact ((Below.refl _ _).alloc (Nat.le_refl _) _).trans (hb.mono (by simp))
end Go.Proofs.YtcekpobmbmnplaaGreatDoor
