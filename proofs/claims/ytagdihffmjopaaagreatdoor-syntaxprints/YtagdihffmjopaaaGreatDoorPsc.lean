/- The project's writer: small functions; a kid. -/
import Derived.Shelf.Strings.Builder1
import Derived.Shelf.Strings.Builder2
import Derived.Shelf.Strings.OnBuilder
import Derived.Shelf.Utf8.RuneCount
import Derived.Shelf.Strconv.Itoa0
import Derived.Shelf.Strconv.Itoa1
import Derived.Shelf.LaysM
import Derived.Shelf.Strconv.Itoa2
import Derived.Shelf.Strconv.Itoa3
import Derived.Shelf.Strings.Search1
import Derived.Shelf.Strings.Search2
import Derived.Shelf.Strings.Search3
import Derived.Shelf.Strings.Count
import Derived.Shelf.Strings.Shaped
import Derived.Shelf.Strings.Prefix
import Derived.Shelf.Strings.Split
import Derived.Shelf.Strings.Replace
import Derived.Shelf.Strings.SplitShaped
import Derived.Shelf.Unicode.Decode
import Derived.Shelf.Strings.RuneCount
import Derived.Shelf.Unicode.DecodeSlow
import Derived.Shelf.Unicode.DecodeAny
import Derived.Test.YtagdihffmjopaaaGreatDoorProg
import Derived.Test.YtagdihffmjopaaaGreatDoorPrq
import Derived.Lib.AppendIntMem
import Derived.Test.YtagdihffmjopaaaGreatDoorPsb
namespace Go.Proofs
set_option linter.all false
open Go.Shelf
def Tryz.lays156_ren:Go.Shelf.Ren:=⟨fun|156=>15|165=>28|166=>29|169=>30|240=>70|241=>71|276=>93|277=>94|n=>n,fun|31=>48|9=>9|3=>3|4=>4|0=>0|20=>20|72=>67|76=>71|70=>65|37=>54|75=>70|127=>87|164=>91|5=>5|80=>63|n=>n,fun|n=>n⟩
theorem Tryz.lays156:Go.Proofs.Lays.n156 Tryz.prog Tryz.lays156_ren:={
 mixed:=by kernel_rfl
 f156:=Tryz.func15.trans (congrArg some (by kernel_rfl))
 f165:=Tryz.func28.trans (congrArg some (by kernel_rfl))
 f166:=Tryz.func29.trans (congrArg some (by kernel_rfl))
 f169:=Tryz.func30.trans (congrArg some (by kernel_rfl))
 f240:=Tryz.func70.trans (congrArg some (by kernel_rfl))
 f241:=Tryz.func71.trans (congrArg some (by kernel_rfl))
 f276:=Tryz.func93.trans (congrArg some (by kernel_rfl))
 f277:=Tryz.func94.trans (congrArg some (by kernel_rfl))
 t0:=Tryz.underlying0
 a0:=Tryz.isAgg0
 z0:=Tryz.sizeOf0
 v0:=Tryz.zeroValue0
 t3:=Tryz.underlying3
 a3:=Tryz.isAgg3
 z3:=Tryz.sizeOf3
 v3:=Tryz.zeroValue3
 t4:=Tryz.underlying4
 a4:=Tryz.isAgg4
 z4:=Tryz.sizeOf4
 v4:=Tryz.zeroValue4
 t9:=Tryz.underlying9
 a9:=Tryz.isAgg9
 z9:=Tryz.sizeOf9
 v9:=Tryz.zeroValue9
 t20:=Tryz.underlying20
 a20:=Tryz.isAgg20
 z20:=Tryz.sizeOf20
 v20:=Tryz.zeroValue20
 t31:=Tryz.underlying48
 a31:=Tryz.isAgg48
 z31:=Tryz.sizeOf48
 v31:=Tryz.zeroValue48
 t37:=Tryz.underlying54
 a37:=Tryz.isAgg54
 z37:=Tryz.sizeOf54
 v37:=Tryz.zeroValue54
 t70:=Tryz.underlying65
 a70:=Tryz.isAgg65
 z70:=Tryz.sizeOf65
 v70:=Tryz.zeroValue65
 t72:=Tryz.underlying67
 a72:=Tryz.isAgg67
 z72:=Tryz.sizeOf67
 v72:=Tryz.zeroValue67
 t75:=Tryz.underlying70
 a75:=Tryz.isAgg70
 z75:=Tryz.sizeOf70
 v75:=Tryz.zeroValue70
 t76:=Tryz.underlying71
 a76:=Tryz.isAgg71
 z76:=Tryz.sizeOf71
 v76:=Tryz.zeroValue71
 t127:=Tryz.underlying87
 a127:=Tryz.isAgg87
 z127:=Tryz.sizeOf87
 v127:=Tryz.zeroValue87
 t164:=Tryz.underlying91
 a164:=Tryz.isAgg91
 z164:=Tryz.sizeOf91
 v164:=Tryz.zeroValue91}
theorem Tryz.Builder_Extra_156:Builder.Extra Tryz.prog Tryz.lays156_ren:={
 sizeBuilder:=by kernel_rfl
 liesBuilder:=by kernel_rfl
 t5:=Tryz.underlying5
 a5:=Tryz.isAgg5
 z5:=Tryz.sizeOf5
 v5:=Tryz.zeroValue5
 infoByte:=by kernel_rfl
 cellsByte:=by kernel_rfl
 sizeByte:=by kernel_rfl
 neB5:=by decide}
open Go.RowKit in
theorem Tryz.strings_Join_none (a:Option Addr) (c:Nat) (sep:ByteArray) (w:World):
 Calls Tryz.prog 15 #[.slice a 0 c,.string sep] w fun e w'=>e=.returned (.string ⟨#[]⟩)∧w'=w:=Any.strings_Join_none Tryz.lays156 Tryz.Builder_Extra_156 a c sep w
open Go.RowKit in
theorem Tryz.strings_Join (bk o c:Nat) (xs:List ByteArray) (sep:ByteArray) (w:World) (hcells:∀(j:Nat) x,xs[j]? =some x→w.cell? ⟨bk,o+j,none⟩=some (.string x)) (hbk:bk<w.heap.size) (hN:xs.length≤140737488355328) (hcap:xs.length≤c) (hlen:(Lib.join (xs.map (·.data.toList)) sep.data.toList).length≤140737488355328):
 Calls Tryz.prog 15 #[.slice (some ⟨bk,o,none⟩) xs.length c,.string sep] w fun e w'=>e=.returned (.string ⟨(Lib.join (xs.map (·.data.toList)) sep.data.toList).toArray⟩)∧Below w.heap.size w w':=Any.strings_Join Tryz.lays156 Tryz.Builder_Extra_156 bk o c xs sep w hcells hbk hN hcap hlen
def Tryz.laysM246_ren:Go.Shelf.Ren:=⟨fun|246=>111|283=>127|284=>128|285=>129|286=>130|129=>141|317=>140|318=>142|319=>143|320=>144|337=>153|338=>154|n=>n,fun|2=>2|3=>3|9=>9|4=>4|171=>103|0=>0|53=>104|37=>54|5=>5|173=>107|212=>113|51=>114|20=>20|213=>115|46=>117|232=>127|233=>128|n=>n,fun|17=>1|18=>4|19=>5|n=>n⟩
def Tryz.laysM243_ren:Go.Shelf.Ren:=⟨fun|243=>89|246=>111|283=>127|284=>128|285=>129|286=>130|129=>141|317=>140|318=>142|319=>143|320=>144|337=>153|338=>154|n=>n,fun|3=>3|9=>9|2=>2|4=>4|171=>103|0=>0|53=>104|37=>54|5=>5|173=>107|212=>113|51=>114|20=>20|213=>115|46=>117|232=>127|233=>128|n=>n,fun|17=>1|18=>4|19=>5|n=>n⟩
def Tryz.laysM171_ren:Go.Shelf.Ren:=⟨fun|171=>60|243=>89|246=>111|283=>127|284=>128|285=>129|286=>130|129=>141|317=>140|318=>142|319=>143|320=>144|337=>153|338=>154|n=>n,fun|3=>3|9=>9|2=>2|4=>4|171=>103|0=>0|53=>104|37=>54|5=>5|173=>107|212=>113|51=>114|20=>20|213=>115|46=>117|232=>127|233=>128|n=>n,fun|17=>1|18=>4|19=>5|n=>n⟩
theorem Tryz.laysM171:Go.Proofs.LaysM.n171 Tryz.prog Tryz.laysM171_ren:={
 mixed:=by kernel_rfl
 f129:=Tryz.func141.trans (congrArg some (by kernel_rfl))
 f171:=Tryz.func60.trans (congrArg some (by kernel_rfl))
 f243:=Tryz.func89.trans (congrArg some (by kernel_rfl))
 f246:=Tryz.func111.trans (congrArg some (by kernel_rfl))
 f283:=Tryz.func127.trans (congrArg some (by kernel_rfl))
 f284:=Tryz.func128.trans (congrArg some (by kernel_rfl))
 f285:=Tryz.func129.trans (congrArg some (by kernel_rfl))
 f286:=Tryz.func130.trans (congrArg some (by kernel_rfl))
 f317:=Tryz.func140.trans (congrArg some (by kernel_rfl))
 f318:=Tryz.func142.trans (congrArg some (by kernel_rfl))
 f319:=Tryz.func143.trans (congrArg some (by kernel_rfl))
 f320:=Tryz.func144.trans (congrArg some (by kernel_rfl))
 f337:=Tryz.func153.trans (congrArg some (by kernel_rfl))
 f338:=Tryz.func154.trans (congrArg some (by kernel_rfl))
 t0:=Tryz.underlying0
 a0:=Tryz.isAgg0
 z0:=Tryz.sizeOf0
 v0:=Tryz.zeroValue0
 t2:=Tryz.underlying2
 a2:=Tryz.isAgg2
 z2:=Tryz.sizeOf2
 v2:=Tryz.zeroValue2
 t3:=Tryz.underlying3
 a3:=Tryz.isAgg3
 z3:=Tryz.sizeOf3
 v3:=Tryz.zeroValue3
 t4:=Tryz.underlying4
 a4:=Tryz.isAgg4
 z4:=Tryz.sizeOf4
 v4:=Tryz.zeroValue4
 t5:=Tryz.underlying5
 a5:=Tryz.isAgg5
 z5:=Tryz.sizeOf5
 v5:=Tryz.zeroValue5
 t9:=Tryz.underlying9
 a9:=Tryz.isAgg9
 z9:=Tryz.sizeOf9
 v9:=Tryz.zeroValue9
 t20:=Tryz.underlying20
 a20:=Tryz.isAgg20
 z20:=Tryz.sizeOf20
 v20:=Tryz.zeroValue20
 t37:=Tryz.underlying54
 a37:=Tryz.isAgg54
 z37:=Tryz.sizeOf54
 v37:=Tryz.zeroValue54
 t46:=Tryz.underlying117
 a46:=Tryz.isAgg117
 z46:=Tryz.sizeOf117
 v46:=Tryz.zeroValue117
 t51:=Tryz.underlying114
 a51:=Tryz.isAgg114
 z51:=Tryz.sizeOf114
 v51:=Tryz.zeroValue114
 t53:=Tryz.underlying104
 a53:=Tryz.isAgg104
 z53:=Tryz.sizeOf104
 v53:=Tryz.zeroValue104
 t171:=Tryz.underlying103
 a171:=Tryz.isAgg103
 z171:=Tryz.sizeOf103
 v171:=Tryz.zeroValue103
 t173:=Tryz.underlying107
 a173:=Tryz.isAgg107
 z173:=Tryz.sizeOf107
 v173:=Tryz.zeroValue107
 t212:=Tryz.underlying113
 a212:=Tryz.isAgg113
 z212:=Tryz.sizeOf113
 v212:=Tryz.zeroValue113
 t213:=Tryz.underlying115
 a213:=Tryz.isAgg115
 z213:=Tryz.sizeOf115
 t232:=Tryz.underlying127
 a232:=Tryz.isAgg127
 z232:=Tryz.sizeOf127
 v232:=Tryz.zeroValue127
 t233:=Tryz.underlying128
 a233:=Tryz.isAgg128
 z233:=Tryz.sizeOf128
 v233:=Tryz.zeroValue128
 g17:=by kernel_rfl
 g18:=by kernel_rfl
 g19:=by kernel_rfl
 i0:=by kernel_rfl
 i2:=by kernel_rfl
 i3:=by kernel_rfl
 i4:=by kernel_rfl
 i5:=by kernel_rfl
 i9:=by kernel_rfl
 i20:=by kernel_rfl
 i37:=by kernel_rfl
 i46:=by kernel_rfl
 i51:=by kernel_rfl
 i53:=by kernel_rfl
 i171:=by kernel_rfl
 i173:=by kernel_rfl
 i212:=by kernel_rfl
 i232:=by kernel_rfl
 i233:=by kernel_rfl
 m17:=by kernel_rfl
 m18:=by kernel_rfl
 m19:=by kernel_rfl}
open Go.RowKit Go.Sort Go.Lib in
theorem Tryz.strconv_Itoa (n : Int) (h0 : -9223372036854775808 ≤ n) (h1 : n ≤ 9223372036854775807) (w : World) (htab : Lib.TabIs Tryz.prog w "internal/strconv.uint64pow10" .u64 Lib.pow10Tab) :
 Calls Tryz.prog 60 #[.int .i64 n] w fun e w'=>e=.returned (.string ⟨(Lib.itoa n).toArray⟩)∧∃k os,w'=grow (w.drewN k) os:=Any.strconv_Itoa Tryz.laysM171 n h0 h1 w htab
def Tryz.lays206_ren:Go.Shelf.Ren:=⟨fun|206=>112|n=>n,fun|9=>9|4=>4|3=>3|n=>n,fun|n=>n⟩
def Tryz.lays101_ren:Go.Shelf.Ren:=⟨fun|101=>69|208=>92|206=>112|n=>n,fun|9=>9|4=>4|3=>3|n=>n,fun|n=>n⟩
theorem Tryz.lays101:Go.Proofs.Lays.n101 Tryz.prog Tryz.lays101_ren:={
 mixed:=by kernel_rfl
 f101:=Tryz.func69.trans (congrArg some (by kernel_rfl))
 f206:=Tryz.func112.trans (congrArg some (by kernel_rfl))
 f208:=Tryz.func92.trans (congrArg some (by kernel_rfl))
 t3:=Tryz.underlying3
 a3:=Tryz.isAgg3
 z3:=Tryz.sizeOf3
 v3:=Tryz.zeroValue3
 t4:=Tryz.underlying4
 a4:=Tryz.isAgg4
 z4:=Tryz.sizeOf4
 v4:=Tryz.zeroValue4
 t9:=Tryz.underlying9
 a9:=Tryz.isAgg9
 z9:=Tryz.sizeOf9
 v9:=Tryz.zeroValue9}
open Go.RowKit Go.Lib in
theorem Tryz.strings_TrimPrefix (s p:ByteArray) (w:World):
 Calls Tryz.prog 69 #[.string s,.string p] w fun e w'=>e=.returned (.string ⟨(Lib.trimPrefix s.data.toList p.data.toList).toArray⟩)∧w'=w:=Any.strings_TrimPrefix Tryz.lays101 s p w
def Tryz.lays154_ren:Go.Shelf.Ren:=⟨fun|154=>110|138=>124|165=>28|143=>125|166=>29|197=>126|169=>30|195=>136|218=>137|240=>70|241=>71|219=>138|260=>139|276=>93|277=>94|217=>149|225=>150|224=>151|267=>152|266=>156|314=>157|n=>n,fun|9=>9|3=>3|4=>4|72=>67|0=>0|76=>71|105=>101|21=>21|5=>5|70=>65|20=>20|37=>54|75=>70|127=>87|164=>91|46=>117|119=>120|139=>123|138=>122|146=>125|51=>114|80=>63|n=>n,fun|1=>0|3=>2|4=>3|n=>n⟩
def Tryz.lays155_ren:Go.Shelf.Ren:=⟨fun|155=>87|154=>110|138=>124|165=>28|143=>125|166=>29|197=>126|169=>30|195=>136|218=>137|240=>70|241=>71|219=>138|260=>139|276=>93|277=>94|217=>149|225=>150|224=>151|267=>152|266=>156|314=>157|n=>n,fun|9=>9|3=>3|4=>4|72=>67|0=>0|76=>71|105=>101|21=>21|5=>5|70=>65|20=>20|37=>54|75=>70|127=>87|164=>91|46=>117|119=>120|139=>123|138=>122|146=>125|51=>114|80=>63|n=>n,fun|1=>0|3=>2|4=>3|n=>n⟩
theorem Tryz.lays155:Go.Proofs.Lays.n155 Tryz.prog Tryz.lays155_ren:={
 mixed:=by kernel_rfl
 f138:=Tryz.func124.trans (congrArg some (by kernel_rfl))
 f143:=Tryz.func125.trans (congrArg some (by kernel_rfl))
 f154:=Tryz.func110.trans (congrArg some (by kernel_rfl))
 f155:=Tryz.func87.trans (congrArg some (by kernel_rfl))
 f165:=Tryz.func28.trans (congrArg some (by kernel_rfl))
 f166:=Tryz.func29.trans (congrArg some (by kernel_rfl))
 f169:=Tryz.func30.trans (congrArg some (by kernel_rfl))
 f195:=Tryz.func136.trans (congrArg some (by kernel_rfl))
 f197:=Tryz.func126.trans (congrArg some (by kernel_rfl))
 f217:=Tryz.func149.trans (congrArg some (by kernel_rfl))
 f218:=Tryz.func137.trans (congrArg some (by kernel_rfl))
 f219:=Tryz.func138.trans (congrArg some (by kernel_rfl))
 f224:=Tryz.func151.trans (congrArg some (by kernel_rfl))
 f225:=Tryz.func150.trans (congrArg some (by kernel_rfl))
 f240:=Tryz.func70.trans (congrArg some (by kernel_rfl))
 f241:=Tryz.func71.trans (congrArg some (by kernel_rfl))
 f260:=Tryz.func139.trans (congrArg some (by kernel_rfl))
 f266:=Tryz.func156.trans (congrArg some (by kernel_rfl))
 f267:=Tryz.func152.trans (congrArg some (by kernel_rfl))
 f276:=Tryz.func93.trans (congrArg some (by kernel_rfl))
 f277:=Tryz.func94.trans (congrArg some (by kernel_rfl))
 f314:=Tryz.func157.trans (congrArg some (by kernel_rfl))
 t0:=Tryz.underlying0
 a0:=Tryz.isAgg0
 z0:=Tryz.sizeOf0
 v0:=Tryz.zeroValue0
 t3:=Tryz.underlying3
 a3:=Tryz.isAgg3
 z3:=Tryz.sizeOf3
 v3:=Tryz.zeroValue3
 t4:=Tryz.underlying4
 a4:=Tryz.isAgg4
 z4:=Tryz.sizeOf4
 v4:=Tryz.zeroValue4
 t5:=Tryz.underlying5
 a5:=Tryz.isAgg5
 z5:=Tryz.sizeOf5
 v5:=Tryz.zeroValue5
 t9:=Tryz.underlying9
 a9:=Tryz.isAgg9
 z9:=Tryz.sizeOf9
 v9:=Tryz.zeroValue9
 t20:=Tryz.underlying20
 a20:=Tryz.isAgg20
 z20:=Tryz.sizeOf20
 v20:=Tryz.zeroValue20
 t21:=Tryz.underlying21
 a21:=Tryz.isAgg21
 z21:=Tryz.sizeOf21
 v21:=Tryz.zeroValue21
 t37:=Tryz.underlying54
 a37:=Tryz.isAgg54
 z37:=Tryz.sizeOf54
 v37:=Tryz.zeroValue54
 t46:=Tryz.underlying117
 a46:=Tryz.isAgg117
 z46:=Tryz.sizeOf117
 v46:=Tryz.zeroValue117
 t51:=Tryz.underlying114
 a51:=Tryz.isAgg114
 z51:=Tryz.sizeOf114
 v51:=Tryz.zeroValue114
 t70:=Tryz.underlying65
 a70:=Tryz.isAgg65
 z70:=Tryz.sizeOf65
 v70:=Tryz.zeroValue65
 t72:=Tryz.underlying67
 a72:=Tryz.isAgg67
 z72:=Tryz.sizeOf67
 v72:=Tryz.zeroValue67
 t75:=Tryz.underlying70
 a75:=Tryz.isAgg70
 z75:=Tryz.sizeOf70
 v75:=Tryz.zeroValue70
 t76:=Tryz.underlying71
 a76:=Tryz.isAgg71
 z76:=Tryz.sizeOf71
 v76:=Tryz.zeroValue71
 t105:=Tryz.underlying101
 a105:=Tryz.isAgg101
 z105:=Tryz.sizeOf101
 v105:=Tryz.zeroValue101
 t119:=Tryz.underlying120
 a119:=Tryz.isAgg120
 z119:=Tryz.sizeOf120
 t127:=Tryz.underlying87
 a127:=Tryz.isAgg87
 z127:=Tryz.sizeOf87
 v127:=Tryz.zeroValue87
 t138:=Tryz.underlying122
 a138:=Tryz.isAgg122
 z138:=Tryz.sizeOf122
 v138:=Tryz.zeroValue122
 t139:=Tryz.underlying123
 a139:=Tryz.isAgg123
 z139:=Tryz.sizeOf123
 v139:=Tryz.zeroValue123
 t146:=Tryz.underlying125
 a146:=Tryz.isAgg125
 z146:=Tryz.sizeOf125
 v146:=Tryz.zeroValue125
 t164:=Tryz.underlying91
 a164:=Tryz.isAgg91
 z164:=Tryz.sizeOf91
 v164:=Tryz.zeroValue91
 g1:=by kernel_rfl
 g3:=by kernel_rfl
 g4:=by kernel_rfl}
theorem Tryz.Builder_Extra_155:Builder.Extra Tryz.prog Tryz.lays155_ren:={
 sizeBuilder:=by kernel_rfl
 liesBuilder:=by kernel_rfl
 t5:=Tryz.underlying5
 a5:=Tryz.isAgg5
 z5:=Tryz.sizeOf5
 v5:=Tryz.zeroValue5
 infoByte:=by kernel_rfl
 cellsByte:=by kernel_rfl
 sizeByte:=by kernel_rfl
 neB5:=by decide}
open Go.RowKit Go.Lib in
theorem Tryz.strings_ReplaceAll (s old new:ByteArray) (m:Int) (w:World) (hs:s.size<4294967281) (hm:w.cell? ⟨0,0,none⟩=some (.int .i64 m)) (h1:1≤old.size) (hlen:s.size+Lib.countB s old*new.size≤140737488355328):
 Calls Tryz.prog 87 #[.string s,.string old,.string new] w fun e w'=>
  e=.returned (.string ⟨(Lib.replaceAll s.data.toList old.data.toList new.data.toList).toArray⟩)∧Below w.heap.size w w':=Any.strings_ReplaceAll Tryz.lays155 Tryz.Builder_Extra_155 s old new m w hs hm h1 hlen
end Go.Proofs
namespace Go.Proofs.YtagdihffmjopaaaGreatDoor
set_option linter.all false
open Go.RowKit
def Tab (B : Nat) (w0 : World) : Prop := ∀ W, Below B w0 W → Lib.TabIs Tryz.prog W "internal/strconv.uint64pow10" .u64 Lib.pow10Tab
section
variable{B:Nat} {w0 w:World} {wb f:Nat} {bs:List UInt8}
theorem itoa60 (ht:Tab B w0) {n:Int} (h0: -9223372036854775808≤n) (h1:n≤9223372036854775807) {W:World} (hb:Below B w0 W):Calls Tryz.prog 60 #[.int .i64 n] W (fun e w'=>e=.returned (.string ⟨(Lib.itoa n).toArray⟩)∧Below W.heap.size W w'):=
 (Tryz.strconv_Itoa n h0 h1 W (ht W hb)).mono fun e w' p=>by
  obtain⟨rfl,k,os,rfl⟩:=p
  exact⟨rfl,Lib.below_grow _ _ (Nat.le_refl _) _ _⟩
set_option maxRecDepth 100000 in
set_option maxHeartbeats 1000000 in
theorem number99_pos (ht:Tab B w0) {n:Int} (h0:0≤n) (h1:n≤9223372036854775807) (h:Wr B w0 w wb bs) (hne:bs≠[]) (hf:(bs++glue [Lib.itoa n]).length≤1099511627776):Calls Tryz.prog 99 #[.pointer (some ⟨wb,0,none⟩),.int .i64 n] w (WP B w0 w wb bs [Lib.itoa n]):=by
 have q:=Sw.start h hne hf
 have hn:¬n<0:=by omega
 clear h hne hf
 go_enter Tryz.func99,Tryz.ntmps99
 go_wp2_with (first
  |(go_at_call 33;refine q.put ?_ (by simp);clear q;intro w2 q)
  |(go_at_call 60;refine(itoa60 ht (by omega) h1 q.wr.bel).mono ?_;rintro e w1 ⟨rfl,hb1⟩;replace q:=q.below hb1;clear hb1))
 go_end0
 exact q.done rfl
set_option maxRecDepth 100000 in
set_option maxHeartbeats 1000000 in
theorem number99_neg (ht:Tab B w0) {n:Int} (h0:n<0) (h1: -9223372036854775808≤n) (h:Wr B w0 w wb bs) (hne:bs≠[]) (hf:(bs++glue [[45],(Lib.itoa n).drop 1]).length≤1099511627776):Calls Tryz.prog 99 #[.pointer (some ⟨wb,0,none⟩),.int .i64 n] w (WP B w0 w wb bs [[45],(Lib.itoa n).drop 1]):=by
 have q:=Sw.start h hne hf
 obtain⟨S,hS⟩:∃S:ByteArray,S=⟨(Lib.itoa n).toArray⟩:=⟨_,rfl⟩
 have hL:1≤S.size:=by
  rw[hS]
  show 1≤(Lib.itoa n).toArray.size
  unfold Lib.itoa
  rw[if_pos h0]
  simp
 have hE:(S.extract 1 S.size).data.toList=(Lib.itoa n).drop 1:=by
  rw[extract_list,hS]
  show((Lib.itoa n).drop 1).take _=_
  rw[List.take_of_length_le]
  rw[List.length_drop]
  show _≤(Lib.itoa n).toArray.size - 1
  simp
 have hLI:(1:Int)≤(S.size:Int):=by omega
 have I60:Hid (∀{W:World},Below B w0 W→Calls Tryz.prog 60 #[.int .i64 n] W (fun e w'=>e=.returned (.string S)∧Below W.heap.size W w')):=fun hb=>by rw[hS];exact itoa60 ht h1 (by omega) hb
 obtain⟨E,hEx⟩:∃E,S.extract 1 S.size=E:=⟨_,rfl⟩
 rw[hEx] at hE
 obtain⟨D,hD⟩:∃D,D=(Lib.itoa n).drop 1:=⟨_,rfl⟩
 rw[←hD] at hE q⊢
 have HE:Hid (E.data.toList=D):=hE
 clear h hne hf hS hL hE hD
 go_enter Tryz.func99,Tryz.ntmps99
 go_upto_region 3 with(first
  |(go_at_call 33;refine q.put ?_;clear q;intro w2 q)
  |(go_at_call 60;refine(I60.out q.wr.bel).mono ?_;rintro e w1 ⟨rfl,hb1⟩;replace q:=q.below hb1;clear hb1))
 go_wp2_with (go_at_call 33;refine q.put (s:=E) ?_ HE.out;clear q;intro w3 q)
 go_end0
 exact q.done rfl
end
end Go.Proofs.YtagdihffmjopaaaGreatDoor
namespace Go.Proofs.YtagdihffmjopaaaGreatDoor
set_option linter.all false
open Go.RowKit
def Mx (B:Nat) (w0:World):Prop:=∃m:Int,∀W,Below B w0 W→W.cell? ⟨0,0,none⟩=some (.int .i64 m)
def Wq (B:Nat) (w0:World) (wb f:Nat) (c:Array Value) (X:List (List UInt8)):Prop:=∀{w1:World} {cs:List (List UInt8)},Pw B w0 w1 wb cs→(cs++X).length≤1099511627776→Calls Tryz.prog f #[.pointer (some ⟨wb,0,none⟩),.agg c] w1 (PP B w0 w1 wb cs X)
section
variable{B:Nat} {w0 w:World} {wb f:Nat} {ts0:List (List UInt8)} {kind pos n m:Int} {name:ByteArray} {ko:Option Addr} {kl kc:Nat}
set_option maxRecDepth 100000 in
set_option maxHeartbeats 1000000 in
theorem path48 (hm:Mx B w0) (hs:name.size≤20000) (h:Pw B w0 w wb ts0) (hf:(ts0++[pth (tl name)]).length≤1099511627776):Calls Tryz.prog 48 #[.pointer (some ⟨wb,0,none⟩),.string name] w (PP B w0 w wb ts0 [pth (tl name)]):=by
 have q:=Sp.start h hf
 obtain⟨mm,hm⟩:=hm
 obtain⟨S,hS⟩:∃S:ByteArray,S=⟨(pth (tl name)).toArray⟩:=⟨_,rfl⟩
 have R:Hid (∀{W:World},Below B w0 W→Calls Tryz.prog 87 #[.string name,.string ⟨#[58,58]⟩,.string ⟨#[32,58,58,32]⟩] W (fun e w'=>e=.returned (.string S)∧Below W.heap.size W w')):=fun{W} hb=>by
  rw[hS]
  refine Tryz.strings_ReplaceAll name _ _ mm W (by omega) (hm W hb) (by decide) ?_
  have h1:Lib.countB name ⟨#[58,58]⟩≤name.data.toList.length+1:=Lib.count_le _ _
  rw[size_list] at h1
  have h2:(⟨#[32,58,58,32]⟩:ByteArray).size=4:=rfl
  rw[h2]
  omega
 have HE:Hid (tl S=pth (tl name)):=by show _=_;rw[hS];simp[tl]
 clear h hf hm hS hs
 go_enter Tryz.func48,Tryz.ntmps48
 go_wp2_with (first
  |(go_at_call 47;refine q.put (s:=S) ?_ (by first|rfl|simp) rfl HE.out;clear q;intro w2 q)
  |(go_at_call 87;refine(R.out q.wr.bel).mono ?_;rintro e w1 ⟨rfl,hb1⟩;replace q:=q.below hb1;clear hb1))
 go_end0
 exact q.done rfl
set_option maxRecDepth 100000 in
set_option maxHeartbeats 1000000 in
theorem fnKind59 (n:Int) (h:Pw B w0 w wb ts0) (hf:(ts0++pFn n).length≤1099511627776):Calls Tryz.prog 59 #[.pointer (some ⟨wb,0,none⟩),.int .i64 n] w (PP B w0 w wb ts0 (pFn n)):=by
 have q:=(Sp.start h hf).as (rest':=pWhen (n==1) [[109,117,116]]++(pWhen (n==2) [[111,110,99,101]]++[])) (by simp[pFn])
 clear h hf
 go_enter Tryz.func59,Tryz.ntmps59
 go_wp2_with (first
  |(go_at_call 56;refine q.when (ss:=[⟨#[111,110,99,101]⟩]) ?_;clear q;intro w2 q)
  |(go_at_call 56;refine q.when (ss:=[⟨#[109,117,116]⟩]) ?_;clear q;intro w1 q))
 go_end0
 exact q.done (by simp[pFn])
set_option maxRecDepth 100000 in
set_option maxHeartbeats 1000000 in
theorem boolean61 (n:Int) (hn:n=0∨n=1) (h:Pw B w0 w wb ts0) (hf:(ts0++pBool n).length≤1099511627776):Calls Tryz.prog 61 #[.pointer (some ⟨wb,0,none⟩),.int .i64 n] w (PP B w0 w wb ts0 (pBool n)):=by
 have q:=(Sp.start h hf).as (rest':=pWhen (n==1) [[116,114,117,101]]++(pWhen (n==0) [[102,97,108,115,101]]++[])) (by rcases hn with rfl|rfl<;>rfl)
 clear h hf
 go_enter Tryz.func61,Tryz.ntmps61
 go_wp2_with (first
  |(go_at_call 56;refine q.when (ss:=[⟨#[102,97,108,115,101]⟩]) ?_;clear q;intro w2 q)
  |(go_at_call 56;refine q.when (ss:=[⟨#[116,114,117,101]⟩]) ?_;clear q;intro w1 q))
 go_end0
 exact q.done (by rcases hn with rfl|rfl<;>rfl)
set_option maxRecDepth 100000 in
set_option maxHeartbeats 1000000 in
theorem typesBehind62 (hR:RP B w0 wb f) {a:Option Addr} {c l:Nat} {ks:List (List Value)} (r:NK B w0 f a ks) (hl:ks.length=l) (h:Pw B w0 w wb ts0) (hf:(ts0++pTys (ks.map (kdAt f w0))).length≤1099511627776):Calls Tryz.prog 62 #[.pointer (some ⟨wb,0,none⟩),.slice a l c] w (PP B w0 w wb ts0 (pTys (ks.map (kdAt f w0)))):=by
 have e:pTys (ks.map (kdAt f w0))=pWhen (decide (0<l)) [[58,58]]++(pAng (ks.map (kdAt f w0))++[]):=by
  unfold pTys
  rw[List.length_map,hl,List.append_nil]
  congr 2
  cases l with
  |zero=>rfl
  |succ l=>simp
 rw[e] at hf⊢
 have q:=Sp.start h hf
 have H:Hid (NK B w0 f a ks∧ks.length=l):=⟨r,hl⟩
 clear r h hf hl e
 go_enter Tryz.func62,Tryz.ntmps62
 go_wp2_with (first
  |(go_at_call 55;refine q.go (fun a1 a2=>angles55 hR H.out.1 H.out.2 a1 a2) ?_;clear q;intro w2 q)
  |(go_at_call 56;refine q.when (ss:=[⟨#[58,58]⟩]) ?_;clear q;intro w1 q))
 go_end0
 exact q.done (by simp)
set_option maxRecDepth 100000 in
set_option maxHeartbeats 1000000 in
theorem between57_1 (s:ByteArray) {g c:Nat} {T:List (List UInt8)} (hW:Wq B w0 wb 14 (nodeC kind pos n m name (.slice ko kl kc)) T) (hg:w.heap[g]? =some (.cells (nodeC kind pos n m name (.slice ko kl kc)) 28 (0,0))) (hgb:g≠wb) (h:Pw B w0 w wb ts0) (hf:(ts0++T).length≤1099511627776):Calls Tryz.prog 57 #[.pointer (some ⟨wb,0,none⟩),.string s,.slice (some ⟨g,0,none⟩) 1 c] w (PP B w0 w wb ts0 T):=by
 have H:Hid (Wq B w0 wb 14 (nodeC kind pos n m name (.slice ko kl kc)) T∧w.heap[g]? =some (.cells (nodeC kind pos n m name (.slice ko kl kc)) 28 (0,0))∧g≠wb):=⟨hW,hg,hgb⟩
 have Q0:Hid (Sp B w0 w wb ts0 [] (T++[]) w []):=(Sp.start h hf).as (by simp)
 clear hW h hf hg hgb
 go_enter Tryz.func57,Tryz.ntmps57
 go_wp2_with fail
 go_loopg [10] 1 (fun gg u wr=>∃(idx:Nat),gg=1 - idx∧u=.int .i64 idx∧idx≤1∧Hid (Sp B w0 w wb ts0 (if idx=0 then [] else T) ((if idx=0 then T else [])++[]) wr []))
 case atStart=>exact⟨0,rfl,rfl,Nat.zero_le _,Q0.out⟩
 case round=>
  obtain⟨idx,hgk,rfl,hidx,Q⟩:=hrel
  have HG:Hid (gk=1 - idx):=hgk
  clear hgk
  rcases Nat.eq_zero_or_pos idx with h0|h0
  ·subst h0
   have hB:=Q.out.fr.cells H.out.2.1 (by decide) H.out.2.2
   have lg:g<wr.heap.size:=(Array.getElem?_eq_some_iff.1 hB).1
   have G0:∀o,wr.cell? ⟨g,o,none⟩=(nodeC kind pos n m name (.slice ko kl kc))[o]? :=fun o=>cell_of_row wr g o _ 28 (0,0) hB
   clear hB
   have q:=(Q.out.as (rest':=pWhen false [tl s]++(T++[])) (by simp[pWhen])).box (nodeC kind pos n m name (.slice ko kl kc))
   have F:=q.f1
   go_wp2_with (first|(go_at_call 14;refine q.go (fun a1 a2=>H.out.1 a1 a2) ?_;clear q F;intro w2 q;have F:=q.f1)|(go_at_call 56;refine q.when (ss:=[s]) ?_;clear q F;intro w1 q;have F:=q.f1))
   go_roundg (1 - (0+1))
   case measure=>rw[HG.out];omega
   case rel=>exact⟨0+1,rfl,by go_num,Nat.le_refl _,(by show Sp _ _ _ _ _ _ _ _ _;simpa[pWhen] using q.pop)⟩
  ·obtain rfl:idx=1:=by omega
   go_wp2_with fail
   go_end0
   exact Q.out.done (by simp)
set_option maxRecDepth 100000 in
set_option maxHeartbeats 1000000 in
theorem row58_1 {T:List (List UInt8)} (hW:Wq B w0 wb 14 (nodeC kind pos n m name (.slice ko kl kc)) T) (s z:ByteArray) {g c:Nat} (hg:w.heap[g]? =some (.cells (nodeC kind pos n m name (.slice ko kl kc)) 28 (0,0))) (hgb:g≠wb) (h:Pw B w0 w wb ts0) (hf:(ts0++(tl s::(T++[tl z]))).length≤1099511627776):Calls Tryz.prog 58 #[.pointer (some ⟨wb,0,none⟩),.string s,.string z,.slice (some ⟨g,0,none⟩) 1 c] w (PP B w0 w wb ts0 (tl s::(T++[tl z]))):=by
 have q:Sp B w0 w wb ts0 [] (tl s::(T++[tl z])) w [(g,(nodeC kind pos n m name (.slice ko kl kc)))]:=by
  have:=Sp.start h hf
  exact⟨this.wr,this.fr,this.few,fun p hp=>by obtain rfl:=List.mem_singleton.1 hp;exact⟨hg,hgb⟩⟩
 have H:Hid (Wq B w0 wb 14 (nodeC kind pos n m name (.slice ko kl kc)) T∧g≠wb):=⟨hW,hgb⟩
 clear hW h hf hg hgb
 go_enter Tryz.func58,Tryz.ntmps58
 go_wp2_with (first
  |(go_at_call 47;refine q.put (s:=z) ?_;clear q;intro w3 q)
  |(go_at_call 57;refine q.go (fun a1 a2=>between57_1 ⟨#[44]⟩ (fun b1 b2=>H.out.1 b1 b2) (q.own _ (List.mem_cons_self ..)).1 H.out.2 a1 a2) ?_;clear q;intro w2 q)
  |(go_at_call 47;refine q.put (s:=s) ?_;clear q;intro w1 q))
 go_end0
 exact q.done (by simp)
theorem Sp.row1 {wi:World} {ts rest T:List (List UInt8)} {L:List (Nat × Array Value)} {Q:Ending→World→Prop} {s z:ByteArray} (q:Sp B w0 w wb ts0 ts ((tl s::(T++[tl z]))++rest) wi L) (hW:Wq B w0 wb 14 (nodeC kind pos n m name (.slice ko kl kc)) T) {g c:Nat} {o:Array Value} (K:∀w',Sp B w0 w wb ts0 (ts++(tl s::(T++[tl z]))) rest w' L→Q (.returned (.tuple #[])) w') (ho:o=(nodeC kind pos n m name (.slice ko kl kc)):=by rfl) (hg:g=wi.heap.size:=by first|rfl|simp):Calls Tryz.prog 58 #[.pointer (some ⟨wb,0,none⟩),.string s,.string z,.slice (some ⟨g,0,none⟩) 1 c] (wi.alloc (.cells o 28)) Q:=by
 subst hg ho
 have q2:=q.box (nodeC kind pos n m name (.slice ko kl kc))
 exact q2.go (fun a1 a2=>row58_1 (fun b1 b2=>hW b1 b2) s z (q2.own _ (List.mem_cons_self ..)).1 (q2.own _ (List.mem_cons_self ..)).2 a1 a2) (fun w' q3=>K w' q3.pop)
set_option maxRecDepth 100000 in
set_option maxHeartbeats 2000000 in
theorem operand63 (hR:RP B w0 wb f) (hx:Nw B w0 f (nodeC kind pos n m name (.slice ko kl kc)).toList) (hk:okL (labOf (nodeC kind pos n m name (.slice ko kl kc)).toList)) (h:Pw B w0 w wb ts0) (hf:(ts0++pOp (kdAt f w0 (nodeC kind pos n m name (.slice ko kl kc)).toList)).length≤1099511627776):Calls Tryz.prog 63 #[.pointer (some ⟨wb,0,none⟩),.agg (nodeC kind pos n m name (.slice ko kl kc))] w (PP B w0 w wb ts0 (pOp (kdAt f w0 (nodeC kind pos n m name (.slice ko kl kc)).toList))):=by
 have HX:Hid (Wq B w0 wb 14 (nodeC kind pos n m name (.slice ko kl kc)) (tok f w0 (nodeC kind pos n m name (.slice ko kl kc)).toList)):=fun a1 a2=>hR hx hk a1 a2
 have q0:=(Sp.start h hf).box (nodeC kind pos n m name (.slice ko kl kc))
 have F:=q0.f1
 obtain⟨T,hT⟩:∃T,T=tok f w0 (nodeC kind pos n m name (.slice ko kl kc)).toList:=⟨_,rfl⟩
 have e:pOp (kdAt f w0 (nodeC kind pos n m name (.slice ko kl kc)).toList)=if simpleK kind then T else [40]::(T++[[41]]):=by rw[hT];rfl
 rw[e] at q0⊢
 rw[←hT] at HX
 clear h hf hx hk e hT
 cases hs:simpleK kind
 ·rw[hs] at q0
  have q:=q0.as (rest':=([40]::(T++[[41]]))++[]) (by simp)
  clear q0
  have hs':=hs
  simp only[simpleK,Bool.or_eq_false_iff] at hs'
  obtain⟨⟨⟨⟨⟨⟨n1,n2⟩,n3⟩,n4⟩,n5⟩,n6⟩,n7⟩:=hs'
  clear hs
  go_enter Tryz.func63,Tryz.ntmps63
  go_wp2_with (go_at_call 58;refine q.row1 (s:=⟨#[40]⟩) (z:=⟨#[41]⟩) (fun b1 b2=>HX.out b1 b2) ?_;clear q F;intro w2 q;have F:=q.f1)
  go_end0
  exact q.done (by simp;exact⟨rfl,rfl⟩)
 ·rw[hs] at q0
  have q:=q0.as (rest':=T++[]) (by simp)
  clear q0
  simp only[simpleK,Bool.or_eq_true,beq_iff_eq] at hs
  rcases hs with(((((rfl|rfl)|rfl)|rfl)|rfl)|rfl)|rfl<;>
  ·go_enter Tryz.func63,Tryz.ntmps63
   go_wp2_with (go_at_call 14;refine q.go (fun a1 a2=>HX.out a1 a2) ?_;clear q F;intro w2 q;have F:=q.f1)
   go_end0
   exact q.done (by simp)
set_option maxRecDepth 100000 in
set_option maxHeartbeats 2000000 in
theorem result88 (hR:RP B w0 wb f) (hx:Nw B w0 f (nodeC kind pos n m name (.slice ko kl kc)).toList) (hk:okL (labOf (nodeC kind pos n m name (.slice ko kl kc)).toList)) (h:Pw B w0 w wb ts0) (hf:(ts0++pRes (kdAt f w0 (nodeC kind pos n m name (.slice ko kl kc)).toList)).length≤1099511627776):Calls Tryz.prog 88 #[.pointer (some ⟨wb,0,none⟩),.agg (nodeC kind pos n m name (.slice ko kl kc))] w (PP B w0 w wb ts0 (pRes (kdAt f w0 (nodeC kind pos n m name (.slice ko kl kc)).toList))):=by
 have HX:Hid (Wq B w0 wb 14 (nodeC kind pos n m name (.slice ko kl kc)) (tok f w0 (nodeC kind pos n m name (.slice ko kl kc)).toList)):=fun a1 a2=>hR hx hk a1 a2
 have q0:=(Sp.start h hf).box (nodeC kind pos n m name (.slice ko kl kc))
 have F:=q0.f1
 obtain⟨T,hT⟩:∃T,T=tok f w0 (nodeC kind pos n m name (.slice ko kl kc)).toList:=⟨_,rfl⟩
 have e:pRes (kdAt f w0 (nodeC kind pos n m name (.slice ko kl kc)).toList)=if kind=15∧kl=0 then [] else [45,62]::T:=by rw[hT];rfl
 rw[e] at q0⊢
 rw[←hT] at HX
 clear h hf hx hk e hT
 by_cases h1:kind=15
 ·subst h1
  rcases Nat.eq_zero_or_pos kl with h0|h0
  ·subst h0
   have q:=q0.as (rest':=[]) (by simp)
   clear q0
   go_enter Tryz.func88,Tryz.ntmps88
   go_wp2_with fail
   go_end0
   exact q.done (by simp)
  ·have h2:((kl:Int)==0)=false:=by simp;omega
   have h3:kl≠0:=by omega
   have q:=q0.as (rest':=[45,62]::(T++[])) (by simp[h3])
   clear q0
   go_enter Tryz.func88,Tryz.ntmps88
   go_wp2_with (first
    |(go_at_call 47;refine q.put ?_;clear q F;intro w1 q;have F:=q.f1)
    |(go_at_call 14;refine q.go (fun a1 a2=>HX.out a1 a2) ?_;clear q F;intro w2 q;have F:=q.f1))
   go_end0
   exact q.done (by simp[h3])
 ·have h1':(kind==15)=false:=by simpa using h1
  have q:=q0.as (rest':=[45,62]::(T++[])) (by simp[h1])
  clear q0
  go_enter Tryz.func88,Tryz.ntmps88
  go_wp2_with (first
   |(go_at_call 47;refine q.put ?_;clear q F;intro w1 q;have F:=q.f1)
   |(go_at_call 14;refine q.go (fun a1 a2=>HX.out a1 a2) ?_;clear q F;intro w2 q;have F:=q.f1))
  go_end0
  exact q.done (by simp[h1])
theorem kid_p (hR:RP B w0 wb f) {vs:List (List Value)} (hr:NK B w0 f ko vs) (hc:∀i x,vs[i]? =some x→∃g,ko=some ⟨g,0,none⟩∧g<B∧∀j,j<11→w0.cell? ⟨g,i*11+j,none⟩=x[j]?) {i:Nat} (hi:i<vs.length):∃(k p a b:Int) (s:ByteArray) (o:Option Addr) (l c g:Nat) (X Y Z:List (List UInt8)),kd (vs.map (kdAt f w0)) i=⟨k,l,X⟩∧Y=pOp ⟨k,l,X⟩∧Z=pRes ⟨k,l,X⟩∧ko=some ⟨g,0,none⟩∧Wq B w0 wb 14 (nodeC k p a b s (.slice o l c)) X∧Wq B w0 wb 63 (nodeC k p a b s (.slice o l c)) Y∧Wq B w0 wb 88 (nodeC k p a b s (.slice o l c)) Z∧∀W,Below B w0 W→B≤W.heap.size→g<W.heap.size∧∀j,j<11→W.cell? ⟨g,i*11+j,none⟩=(nodeC k p a b s (.slice o l c)).toList[j]? :=by
 obtain⟨k,p,a,b,s,o,l,c,g,h1,h2,h3,h4⟩:=kid_open hr.row hc hi
 have h5:=hr.ok _ (List.mem_of_getElem? h1)
 exact⟨k,p,a,b,s,o,l,c,g,tok f w0 (nodeC k p a b s (.slice o l c)).toList,_,_,by unfold kd;rw[List.getElem?_map,h1];rfl,rfl,rfl,h3,fun a1 a2=>hR h2 h5 a1 a2,fun a1 a2=>operand63 hR h2 h5 a1 a2,fun a1 a2=>result88 hR h2 h5 a1 a2,h4⟩
end
end Go.Proofs.YtagdihffmjopaaaGreatDoor
