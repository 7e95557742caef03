/- What the walks of the printer want: rows of nodes that are read, what calls leave. -/
import Derived.Shelf.Strings.Builder1
import Derived.Shelf.Strings.Builder2
import Derived.Shelf.Strings.OnBuilder
import Derived.Shelf.Utf8.RuneCount
import Derived.Shelf.Strconv.Itoa0
import Derived.Shelf.Strconv.Itoa1
import Derived.Shelf.LaysM
import Derived.Shelf.Strconv.Itoa2
import Derived.Shelf.Strconv.Itoa3
import Derived.Shelf.Strings.Search1
import Derived.Shelf.Strings.Search2
import Derived.Shelf.Strings.Search3
import Derived.Shelf.Strings.Count
import Derived.Shelf.Strings.Shaped
import Derived.Shelf.Strings.Prefix
import Derived.Shelf.Strings.Split
import Derived.Shelf.Strings.Replace
import Derived.Shelf.Strings.SplitShaped
import Derived.Shelf.Unicode.Decode
import Derived.Shelf.Strings.RuneCount
import Derived.Shelf.Unicode.DecodeSlow
import Derived.Shelf.Unicode.DecodeAny
import Derived.Test.YtdplogkmkgekdaaGreatDoorProg
import Derived.Test.YtdplogkmkgekdaaGreatDoorFPath
import Derived.Lib.AppendStr
import Derived.Lib.AppendIntMem
set_option linter.all false
set_option maxRecDepth 100000
set_option maxHeartbeats 4000000
namespace Go.Proofs
open Go.Shelf
def Tryz.lays156_ren:Go.Shelf.Ren:=⟨fun|156=>26|165=>52|166=>53|169=>54|240=>129|241=>130|276=>183|277=>184|n=>n,fun|31=>59|9=>9|3=>3|4=>4|0=>0|20=>20|72=>85|76=>89|70=>82|37=>83|75=>88|127=>110|164=>125|5=>5|80=>79|n=>n,fun|n=>n⟩
theorem Tryz.lays156:Go.Proofs.Lays.n156 Tryz.prog Tryz.lays156_ren:={
 mixed:=by kernel_rfl
 f156:=Tryz.func26.trans (congrArg some (by kernel_rfl))
 f165:=Tryz.func52.trans (congrArg some (by kernel_rfl))
 f166:=Tryz.func53.trans (congrArg some (by kernel_rfl))
 f169:=Tryz.func54.trans (congrArg some (by kernel_rfl))
 f240:=Tryz.func129.trans (congrArg some (by kernel_rfl))
 f241:=Tryz.func130.trans (congrArg some (by kernel_rfl))
 f276:=Tryz.func183.trans (congrArg some (by kernel_rfl))
 f277:=Tryz.func184.trans (congrArg some (by kernel_rfl))
 t0:=Tryz.underlying0
 a0:=Tryz.isAgg0
 z0:=Tryz.sizeOf0
 v0:=Tryz.zeroValue0
 t3:=Tryz.underlying3
 a3:=Tryz.isAgg3
 z3:=Tryz.sizeOf3
 v3:=Tryz.zeroValue3
 t4:=Tryz.underlying4
 a4:=Tryz.isAgg4
 z4:=Tryz.sizeOf4
 v4:=Tryz.zeroValue4
 t9:=Tryz.underlying9
 a9:=Tryz.isAgg9
 z9:=Tryz.sizeOf9
 v9:=Tryz.zeroValue9
 t20:=Tryz.underlying20
 a20:=Tryz.isAgg20
 z20:=Tryz.sizeOf20
 v20:=Tryz.zeroValue20
 t31:=Tryz.underlying59
 a31:=Tryz.isAgg59
 z31:=Tryz.sizeOf59
 v31:=Tryz.zeroValue59
 t37:=Tryz.underlying83
 a37:=Tryz.isAgg83
 z37:=Tryz.sizeOf83
 v37:=Tryz.zeroValue83
 t70:=Tryz.underlying82
 a70:=Tryz.isAgg82
 z70:=Tryz.sizeOf82
 v70:=Tryz.zeroValue82
 t72:=Tryz.underlying85
 a72:=Tryz.isAgg85
 z72:=Tryz.sizeOf85
 v72:=Tryz.zeroValue85
 t75:=Tryz.underlying88
 a75:=Tryz.isAgg88
 z75:=Tryz.sizeOf88
 v75:=Tryz.zeroValue88
 t76:=Tryz.underlying89
 a76:=Tryz.isAgg89
 z76:=Tryz.sizeOf89
 v76:=Tryz.zeroValue89
 t127:=Tryz.underlying110
 a127:=Tryz.isAgg110
 z127:=Tryz.sizeOf110
 v127:=Tryz.zeroValue110
 t164:=Tryz.underlying125
 a164:=Tryz.isAgg125
 z164:=Tryz.sizeOf125
 v164:=Tryz.zeroValue125}
theorem Tryz.Builder_Extra_156:Builder.Extra Tryz.prog Tryz.lays156_ren:={
 sizeBuilder:=by kernel_rfl
 liesBuilder:=by kernel_rfl
 t5:=Tryz.underlying5
 a5:=Tryz.isAgg5
 z5:=Tryz.sizeOf5
 v5:=Tryz.zeroValue5
 infoByte:=by kernel_rfl
 cellsByte:=by kernel_rfl
 sizeByte:=by kernel_rfl
 neB5:=by decide}
open Go.RowKit in
theorem Tryz.strings_Join_none (a:Option Addr) (c:Nat) (sep:ByteArray) (w:World):
 Calls Tryz.prog 26 #[.slice a 0 c,.string sep] w fun e w'=>e=.returned (.string ⟨#[]⟩)∧w'=w:=Any.strings_Join_none Tryz.lays156 Tryz.Builder_Extra_156 a c sep w
open Go.RowKit in
theorem Tryz.strings_Join (bk o c:Nat) (xs:List ByteArray) (sep:ByteArray) (w:World) (hcells:∀(j:Nat) x,xs[j]? =some x→w.cell? ⟨bk,o+j,none⟩=some (.string x)) (hbk:bk<w.heap.size) (hN:xs.length≤140737488355328) (hcap:xs.length≤c) (hlen:(Lib.join (xs.map (·.data.toList)) sep.data.toList).length≤140737488355328):
 Calls Tryz.prog 26 #[.slice (some ⟨bk,o,none⟩) xs.length c,.string sep] w fun e w'=>e=.returned (.string ⟨(Lib.join (xs.map (·.data.toList)) sep.data.toList).toArray⟩)∧Below w.heap.size w w':=Any.strings_Join Tryz.lays156 Tryz.Builder_Extra_156 bk o c xs sep w hcells hbk hN hcap hlen
def Tryz.laysM246_ren:Go.Shelf.Ren:=⟨fun|246=>213|283=>232|284=>233|285=>234|286=>235|129=>248|317=>247|318=>249|319=>250|320=>251|337=>262|338=>263|n=>n,fun|2=>2|3=>3|9=>9|4=>4|171=>154|0=>0|53=>155|37=>83|5=>5|173=>158|212=>172|51=>173|20=>20|213=>174|46=>162|232=>189|233=>190|n=>n,fun|17=>6|18=>9|19=>10|n=>n⟩
def Tryz.laysM243_ren:Go.Shelf.Ren:=⟨fun|243=>179|246=>213|283=>232|284=>233|285=>234|286=>235|129=>248|317=>247|318=>249|319=>250|320=>251|337=>262|338=>263|n=>n,fun|3=>3|9=>9|2=>2|4=>4|171=>154|0=>0|53=>155|37=>83|5=>5|173=>158|212=>172|51=>173|20=>20|213=>174|46=>162|232=>189|233=>190|n=>n,fun|17=>6|18=>9|19=>10|n=>n⟩
def Tryz.laysM171_ren:Go.Shelf.Ren:=⟨fun|171=>119|243=>179|246=>213|283=>232|284=>233|285=>234|286=>235|129=>248|317=>247|318=>249|319=>250|320=>251|337=>262|338=>263|n=>n,fun|3=>3|9=>9|2=>2|4=>4|171=>154|0=>0|53=>155|37=>83|5=>5|173=>158|212=>172|51=>173|20=>20|213=>174|46=>162|232=>189|233=>190|n=>n,fun|17=>6|18=>9|19=>10|n=>n⟩
theorem Tryz.laysM171:Go.Proofs.LaysM.n171 Tryz.prog Tryz.laysM171_ren:={
 mixed:=by kernel_rfl
 f129:=Tryz.func248.trans (congrArg some (by kernel_rfl))
 f171:=Tryz.func119.trans (congrArg some (by kernel_rfl))
 f243:=Tryz.func179.trans (congrArg some (by kernel_rfl))
 f246:=Tryz.func213.trans (congrArg some (by kernel_rfl))
 f283:=Tryz.func232.trans (congrArg some (by kernel_rfl))
 f284:=Tryz.func233.trans (congrArg some (by kernel_rfl))
 f285:=Tryz.func234.trans (congrArg some (by kernel_rfl))
 f286:=Tryz.func235.trans (congrArg some (by kernel_rfl))
 f317:=Tryz.func247.trans (congrArg some (by kernel_rfl))
 f318:=Tryz.func249.trans (congrArg some (by kernel_rfl))
 f319:=Tryz.func250.trans (congrArg some (by kernel_rfl))
 f320:=Tryz.func251.trans (congrArg some (by kernel_rfl))
 f337:=Tryz.func262.trans (congrArg some (by kernel_rfl))
 f338:=Tryz.func263.trans (congrArg some (by kernel_rfl))
 t0:=Tryz.underlying0
 a0:=Tryz.isAgg0
 z0:=Tryz.sizeOf0
 v0:=Tryz.zeroValue0
 t2:=Tryz.underlying2
 a2:=Tryz.isAgg2
 z2:=Tryz.sizeOf2
 v2:=Tryz.zeroValue2
 t3:=Tryz.underlying3
 a3:=Tryz.isAgg3
 z3:=Tryz.sizeOf3
 v3:=Tryz.zeroValue3
 t4:=Tryz.underlying4
 a4:=Tryz.isAgg4
 z4:=Tryz.sizeOf4
 v4:=Tryz.zeroValue4
 t5:=Tryz.underlying5
 a5:=Tryz.isAgg5
 z5:=Tryz.sizeOf5
 v5:=Tryz.zeroValue5
 t9:=Tryz.underlying9
 a9:=Tryz.isAgg9
 z9:=Tryz.sizeOf9
 v9:=Tryz.zeroValue9
 t20:=Tryz.underlying20
 a20:=Tryz.isAgg20
 z20:=Tryz.sizeOf20
 v20:=Tryz.zeroValue20
 t37:=Tryz.underlying83
 a37:=Tryz.isAgg83
 z37:=Tryz.sizeOf83
 v37:=Tryz.zeroValue83
 t46:=Tryz.underlying162
 a46:=Tryz.isAgg162
 z46:=Tryz.sizeOf162
 v46:=Tryz.zeroValue162
 t51:=Tryz.underlying173
 a51:=Tryz.isAgg173
 z51:=Tryz.sizeOf173
 v51:=Tryz.zeroValue173
 t53:=Tryz.underlying155
 a53:=Tryz.isAgg155
 z53:=Tryz.sizeOf155
 v53:=Tryz.zeroValue155
 t171:=Tryz.underlying154
 a171:=Tryz.isAgg154
 z171:=Tryz.sizeOf154
 v171:=Tryz.zeroValue154
 t173:=Tryz.underlying158
 a173:=Tryz.isAgg158
 z173:=Tryz.sizeOf158
 v173:=Tryz.zeroValue158
 t212:=Tryz.underlying172
 a212:=Tryz.isAgg172
 z212:=Tryz.sizeOf172
 v212:=Tryz.zeroValue172
 t213:=Tryz.underlying174
 a213:=Tryz.isAgg174
 z213:=Tryz.sizeOf174
 t232:=Tryz.underlying189
 a232:=Tryz.isAgg189
 z232:=Tryz.sizeOf189
 v232:=Tryz.zeroValue189
 t233:=Tryz.underlying190
 a233:=Tryz.isAgg190
 z233:=Tryz.sizeOf190
 v233:=Tryz.zeroValue190
 g17:=by kernel_rfl
 g18:=by kernel_rfl
 g19:=by kernel_rfl
 i0:=by kernel_rfl
 i2:=by kernel_rfl
 i3:=by kernel_rfl
 i4:=by kernel_rfl
 i5:=by kernel_rfl
 i9:=by kernel_rfl
 i20:=by kernel_rfl
 i37:=by kernel_rfl
 i46:=by kernel_rfl
 i51:=by kernel_rfl
 i53:=by kernel_rfl
 i171:=by kernel_rfl
 i173:=by kernel_rfl
 i212:=by kernel_rfl
 i232:=by kernel_rfl
 i233:=by kernel_rfl
 m17:=by kernel_rfl
 m18:=by kernel_rfl
 m19:=by kernel_rfl}
open Go.RowKit Go.Sort Go.Lib in
theorem Tryz.strconv_Itoa (n : Int) (h0 : -9223372036854775808 ≤ n) (h1 : n ≤ 9223372036854775807) (w : World) (htab : Lib.TabIs Tryz.prog w "internal/strconv.uint64pow10" .u64 Lib.pow10Tab) :
 Calls Tryz.prog 119 #[.int .i64 n] w fun e w'=>e=.returned (.string ⟨(Lib.itoa n).toArray⟩)∧∃k os,w'=grow (w.drewN k) os:=Any.strconv_Itoa Tryz.laysM171 n h0 h1 w htab
def Tryz.lays206_ren:Go.Shelf.Ren:=⟨fun|206=>60|n=>n,fun|9=>9|4=>4|3=>3|n=>n,fun|n=>n⟩
def Tryz.lays101_ren:Go.Shelf.Ren:=⟨fun|101=>128|208=>182|206=>60|n=>n,fun|9=>9|4=>4|3=>3|n=>n,fun|n=>n⟩
theorem Tryz.lays101:Go.Proofs.Lays.n101 Tryz.prog Tryz.lays101_ren:={
 mixed:=by kernel_rfl
 f101:=Tryz.func128.trans (congrArg some (by kernel_rfl))
 f206:=Tryz.func60.trans (congrArg some (by kernel_rfl))
 f208:=Tryz.func182.trans (congrArg some (by kernel_rfl))
 t3:=Tryz.underlying3
 a3:=Tryz.isAgg3
 z3:=Tryz.sizeOf3
 v3:=Tryz.zeroValue3
 t4:=Tryz.underlying4
 a4:=Tryz.isAgg4
 z4:=Tryz.sizeOf4
 v4:=Tryz.zeroValue4
 t9:=Tryz.underlying9
 a9:=Tryz.isAgg9
 z9:=Tryz.sizeOf9
 v9:=Tryz.zeroValue9}
open Go.RowKit Go.Lib in
theorem Tryz.strings_TrimPrefix (s p:ByteArray) (w:World):
 Calls Tryz.prog 128 #[.string s,.string p] w fun e w'=>e=.returned (.string ⟨(Lib.trimPrefix s.data.toList p.data.toList).toArray⟩)∧w'=w:=Any.strings_TrimPrefix Tryz.lays101 s p w
def Tryz.lays154_ren:Go.Shelf.Ren:=⟨fun|154=>212|138=>230|165=>52|143=>223|166=>53|197=>231|169=>54|195=>244|218=>245|240=>129|241=>130|219=>241|260=>246|276=>183|277=>184|217=>254|225=>255|224=>256|267=>257|266=>264|314=>265|n=>n,fun|9=>9|3=>3|4=>4|72=>85|0=>0|76=>89|105=>152|21=>21|5=>5|70=>82|20=>20|37=>83|75=>88|127=>110|164=>125|46=>162|119=>182|139=>185|138=>184|146=>187|51=>173|80=>79|n=>n,fun|1=>2|3=>7|4=>8|n=>n⟩
def Tryz.lays155_ren:Go.Shelf.Ren:=⟨fun|155=>177|154=>212|138=>230|165=>52|143=>223|166=>53|197=>231|169=>54|195=>244|218=>245|240=>129|241=>130|219=>241|260=>246|276=>183|277=>184|217=>254|225=>255|224=>256|267=>257|266=>264|314=>265|n=>n,fun|9=>9|3=>3|4=>4|72=>85|0=>0|76=>89|105=>152|21=>21|5=>5|70=>82|20=>20|37=>83|75=>88|127=>110|164=>125|46=>162|119=>182|139=>185|138=>184|146=>187|51=>173|80=>79|n=>n,fun|1=>2|3=>7|4=>8|n=>n⟩
theorem Tryz.lays155:Go.Proofs.Lays.n155 Tryz.prog Tryz.lays155_ren:={
 mixed:=by kernel_rfl
 f138:=Tryz.func230.trans (congrArg some (by kernel_rfl))
 f143:=Tryz.func223.trans (congrArg some (by kernel_rfl))
 f154:=Tryz.func212.trans (congrArg some (by kernel_rfl))
 f155:=Tryz.func177.trans (congrArg some (by kernel_rfl))
 f165:=Tryz.func52.trans (congrArg some (by kernel_rfl))
 f166:=Tryz.func53.trans (congrArg some (by kernel_rfl))
 f169:=Tryz.func54.trans (congrArg some (by kernel_rfl))
 f195:=Tryz.func244.trans (congrArg some (by kernel_rfl))
 f197:=Tryz.func231.trans (congrArg some (by kernel_rfl))
 f217:=Tryz.func254.trans (congrArg some (by kernel_rfl))
 f218:=Tryz.func245.trans (congrArg some (by kernel_rfl))
 f219:=Tryz.func241.trans (congrArg some (by kernel_rfl))
 f224:=Tryz.func256.trans (congrArg some (by kernel_rfl))
 f225:=Tryz.func255.trans (congrArg some (by kernel_rfl))
 f240:=Tryz.func129.trans (congrArg some (by kernel_rfl))
 f241:=Tryz.func130.trans (congrArg some (by kernel_rfl))
 f260:=Tryz.func246.trans (congrArg some (by kernel_rfl))
 f266:=Tryz.func264.trans (congrArg some (by kernel_rfl))
 f267:=Tryz.func257.trans (congrArg some (by kernel_rfl))
 f276:=Tryz.func183.trans (congrArg some (by kernel_rfl))
 f277:=Tryz.func184.trans (congrArg some (by kernel_rfl))
 f314:=Tryz.func265.trans (congrArg some (by kernel_rfl))
 t0:=Tryz.underlying0
 a0:=Tryz.isAgg0
 z0:=Tryz.sizeOf0
 v0:=Tryz.zeroValue0
 t3:=Tryz.underlying3
 a3:=Tryz.isAgg3
 z3:=Tryz.sizeOf3
 v3:=Tryz.zeroValue3
 t4:=Tryz.underlying4
 a4:=Tryz.isAgg4
 z4:=Tryz.sizeOf4
 v4:=Tryz.zeroValue4
 t5:=Tryz.underlying5
 a5:=Tryz.isAgg5
 z5:=Tryz.sizeOf5
 v5:=Tryz.zeroValue5
 t9:=Tryz.underlying9
 a9:=Tryz.isAgg9
 z9:=Tryz.sizeOf9
 v9:=Tryz.zeroValue9
 t20:=Tryz.underlying20
 a20:=Tryz.isAgg20
 z20:=Tryz.sizeOf20
 v20:=Tryz.zeroValue20
 t21:=Tryz.underlying21
 a21:=Tryz.isAgg21
 z21:=Tryz.sizeOf21
 v21:=Tryz.zeroValue21
 t37:=Tryz.underlying83
 a37:=Tryz.isAgg83
 z37:=Tryz.sizeOf83
 v37:=Tryz.zeroValue83
 t46:=Tryz.underlying162
 a46:=Tryz.isAgg162
 z46:=Tryz.sizeOf162
 v46:=Tryz.zeroValue162
 t51:=Tryz.underlying173
 a51:=Tryz.isAgg173
 z51:=Tryz.sizeOf173
 v51:=Tryz.zeroValue173
 t70:=Tryz.underlying82
 a70:=Tryz.isAgg82
 z70:=Tryz.sizeOf82
 v70:=Tryz.zeroValue82
 t72:=Tryz.underlying85
 a72:=Tryz.isAgg85
 z72:=Tryz.sizeOf85
 v72:=Tryz.zeroValue85
 t75:=Tryz.underlying88
 a75:=Tryz.isAgg88
 z75:=Tryz.sizeOf88
 v75:=Tryz.zeroValue88
 t76:=Tryz.underlying89
 a76:=Tryz.isAgg89
 z76:=Tryz.sizeOf89
 v76:=Tryz.zeroValue89
 t105:=Tryz.underlying152
 a105:=Tryz.isAgg152
 z105:=Tryz.sizeOf152
 v105:=Tryz.zeroValue152
 t119:=Tryz.underlying182
 a119:=Tryz.isAgg182
 z119:=Tryz.sizeOf182
 t127:=Tryz.underlying110
 a127:=Tryz.isAgg110
 z127:=Tryz.sizeOf110
 v127:=Tryz.zeroValue110
 t138:=Tryz.underlying184
 a138:=Tryz.isAgg184
 z138:=Tryz.sizeOf184
 v138:=Tryz.zeroValue184
 t139:=Tryz.underlying185
 a139:=Tryz.isAgg185
 z139:=Tryz.sizeOf185
 v139:=Tryz.zeroValue185
 t146:=Tryz.underlying187
 a146:=Tryz.isAgg187
 z146:=Tryz.sizeOf187
 v146:=Tryz.zeroValue187
 t164:=Tryz.underlying125
 a164:=Tryz.isAgg125
 z164:=Tryz.sizeOf125
 v164:=Tryz.zeroValue125
 g1:=by kernel_rfl
 g3:=by kernel_rfl
 g4:=by kernel_rfl}
theorem Tryz.Builder_Extra_155:Builder.Extra Tryz.prog Tryz.lays155_ren:={
 sizeBuilder:=by kernel_rfl
 liesBuilder:=by kernel_rfl
 t5:=Tryz.underlying5
 a5:=Tryz.isAgg5
 z5:=Tryz.sizeOf5
 v5:=Tryz.zeroValue5
 infoByte:=by kernel_rfl
 cellsByte:=by kernel_rfl
 sizeByte:=by kernel_rfl
 neB5:=by decide}
open Go.RowKit Go.Lib in
theorem Tryz.strings_ReplaceAll (s old new:ByteArray) (m:Int) (w:World) (hs:s.size<4294967281) (hm:w.cell? ⟨2,0,none⟩=some (.int .i64 m)) (h1:1≤old.size) (hlen:s.size+Lib.countB s old*new.size≤140737488355328):
 Calls Tryz.prog 177 #[.string s,.string old,.string new] w fun e w'=>
  e=.returned (.string ⟨(Lib.replaceAll s.data.toList old.data.toList new.data.toList).toArray⟩)∧Below w.heap.size w w':=Any.strings_ReplaceAll Tryz.lays155 Tryz.Builder_Extra_155 s old new m w hs hm h1 hlen
end Go.Proofs
namespace Go.Proofs.YtdplogkmkgekdaaGreatDoor
open Go.RowKit
structure App (W:World) (base el size:Nat) (v:Value) (n:Nat) (xs ys:List Value) (k:Nat) (v':Value) (w':World):Prop where
 shape:∃ao cp,v'=.slice ao (n+k) cp
 row:w'.ownsRow base el size v' (n+k) (xs++ys)
 grown:W.grownBy w' v.ownBlock
 own:v'.ownBlock=v.ownBlock∨v'.ownBlock=some W.heap.size
section
variable {W w w':World} {base el size n k:Nat} {v v':Value} {xs ys:List Value}
end
section
variable {sl el size bytes:Nat} {z:Value}
theorem aeJ (hu:Tryz.prog.underlying sl=some (.slice el)) (hi:(Tryz.prog.info? el).map (fun i=>(i.zero,i.size,i.bytes))=some (some z,size,bytes)) (hz:z.cells.size=size) (hs:0<size) {W:World} {base:Nat} {v:Value} {n:Nat} {xs:List Value} (h:W.ownsRow base el size v n xs) (hb:base≤W.heap.size) {base':Nat} {x:Value} {m:Nat} {ys:List Value} (hx:W.ownsRow base' el size x m ys) (one:∀u∈ys,u.oneCell'=true) (hm:n+m≤maxLen) (hn:(n+m)*bytes≤140737488355328) (ty:TypeId):
 ∃v' w',(Builtin.append_ #[sl,sl] ty #[v,x]).run Tryz.prog W=.ok v' w'∧App W base el size v n xs ys m v' w':=by
 obtain⟨i0,hi0,hz0,hz1,hz2⟩:=info_parts hi
 rcases hx.2 with⟨h1,h2⟩|⟨g,cap,cur,h1,hbb,hg,hnc,hcm,hcs,htake⟩
 ·subst h1 h2
  have hy:ys=[]:=by have:=hx.1;rw[Nat.zero_mul] at this;exact List.eq_nil_of_length_eq_zero this
  subst hy
  refine⟨v,W,run_append_owned_none (P:=Tryz.prog) (w:=W) base sl ty el i0 size hu hi0 v n xs h,⟨?_,by simpa using h,⟨rfl,rfl,rfl,Nat.le_refl _,fun _ _ _=>rfl⟩,.inl rfl⟩⟩
  rcases h.2 with⟨x1,x2⟩|⟨x,y,zz,x1,_⟩
  ·exact⟨none,0,by rw[x1,x2]⟩
  ·exact⟨_,_,x1⟩
 ·subst h1
  obtain⟨v',w',hr,h2,h3,_,h5⟩:=run_append_own_at (P:=Tryz.prog) W base sl ty el i0 z size bytes hu hi0 hz0 hz1 hz2 hz hs v n xs h ⟨g,0,none⟩ m cap ys hx.1 (hx.cells rfl) one hm hn hb
  refine⟨v',w',hr,⟨?_,h2,h3,h5⟩⟩
  rcases h2.2 with⟨x1,x2⟩|⟨x,y,zz,x1,_⟩
  ·exact⟨none,0,by rw[x1,x2]⟩
  ·exact⟨_,_,x1⟩
theorem WG {W:World} {ops:Array Oper} {rest:List Oper} {o:Oper} {a:Act} {Q:Exit→Act→World→Prop} (sl:Nat) (hgd:o.guard=none) {s x:Operand} (ho:o.op=.call {callee:=.builtin .append,args:=#[s,x],argTypes:=#[sl,sl]}) {v xv:Value} (hs:a.eval s=v) (hx:a.eval x=xv) {R:Value→World→Prop}
 (hr:∃v' w',(Builtin.append_ #[sl,sl] o.type #[v,xv]).run Tryz.prog W=.ok v' w'∧R v' w') (h:∀v' w',R v' w'→wpList Tryz.prog ops Q rest (a.put o.dst v') w'):wpList Tryz.prog ops Q (o::rest) a W:=by
 refine wpList_plain hgd fun K hK=>?_
 obtain⟨v',w',hr,h2⟩:=hr
 unfold Oper.wp execOp
 simp only[ho,resolve,invoke,builtin,Sem.run_bind,Sem.run_pure,Result.andThen_ok,List.map_toArray,List.map_cons,List.map_nil,hs,hx,hr]
 exact hK _ _ (h v' w' h2)
end
theorem aeK:(Tryz.prog.info? 9).map (fun i=>(i.zero,i.size,i.bytes))=some (some (.string ⟨#[]⟩),1,16):=by kernel_rfl
section
theorem LM (w:World) (a:Obj):Below w.heap.size w (w.alloc a)∧(w.alloc a).heap[w.heap.size]? =some a:=⟨(Below.refl _ _).alloc (Nat.le_refl _) _,heap_alloc_new _ _⟩
structure Fr (T:Nat) (w:World) (wb:Nat) (w':World):Prop where
 size:w.heap.size≤w'.heap.size
 block:∀b c t z,w.heap[b]? =some (.cells c t z)→t≠T→b≠wb→w'.heap[b]? =w.heap[b]?
variable {B T:Nat} {w0 w w' w'' W:World} {wb:Nat} {ov yc:Value} {bs:List UInt8}
theorem Fr.refl (w:World) (wb:Nat):Fr T w wb w:=⟨Nat.le_refl _,fun _ _ _ _ _ _ _=>rfl⟩
theorem Fr.trans (h:Fr T w wb w') (h':Fr T w' wb w''):Fr T w wb w'':=
 ⟨Nat.le_trans h.size h'.size,fun b c t z e h1 h2=>(h'.block b c t z ((h.block b c t z e h1 h2).trans e) h1 h2).trans (h.block b c t z e h1 h2)⟩
theorem Fr.below (hb:Below w.heap.size w W):Fr T w wb W:=⟨hb.size,fun b _ _ _ e _ _=>hb.block b (Array.getElem?_eq_some_iff.1 e).1⟩
theorem Fr.cells (h:Fr T w wb w') {b t:Nat} {c:Array Value} {z:Nat × Nat} (e:w.heap[b]? =some (.cells c t z)) (ht:t≠T) (hb:b≠wb):w'.heap[b]? =some (.cells c t z):=(h.block b c t z e ht hb).trans e
theorem EX {base el size n:Nat} {v:Value} {xs:List Value} (h:w.ownsRow base el size v n xs) {b:Nat} (e:v.ownBlock=some b):∃c,w.heap[b]? =some (.cells c el (0,0)):=by
 rcases h.2 with⟨h1,-⟩|⟨g,cap,cur,h1,-,hg,-⟩
 ·rw[h1] at e;cases e
 ·rw[h1] at e
  obtain rfl:g=b:=by simpa[Value.ownBlock] using e
  exact⟨_,hg⟩
theorem xg {base el size n:Nat} {v:Value} {xs:List Value} (h:w.ownsRow base el size v n xs):∃ao cp,v=.slice ao n cp:=by
 rcases h.2 with⟨h1,h2⟩|⟨g,cap,cur,h1,-⟩
 ·exact⟨none,0,by rw[h1,h2]⟩
 ·exact⟨_,_,h1⟩
end
section
abbrev Nw (B:Nat) (w0:World) (f:Nat) (cs:List Value):Prop:=isNode (fun b=>b<B) True f w0 cs
structure NR (B:Nat) (w0:World) (f:Nat) (a:Option Addr) (ks:List (List Value)):Prop where
 cell:∀i x,ks[i]? =some x→∃g o,a=some ⟨g,o,none⟩∧g<B∧∀j,j<11→w0.cell? ⟨g,o+i*11+j,none⟩=x[j]?
 all:∀x∈ks,Nw B w0 f x
 few:ks.length≤20000
theorem Nw.fields {B:Nat} {w0:World} {f:Nat} {x:List Value} (h:Nw B w0 f x):∃(kind pos n m:Int) (name:ByteArray) (ko:Option Addr) (kl kc:Nat),x=(ah kind pos n m name (.slice ko kl kc)).toList∧name.size≤20000∧kl≤20000:=by
 cases f with
 |zero=>exact absurd h (fun x=>x)
 |succ f=>
  obtain⟨kind,pos,n,m,name,kv,vs,h1,h2,h3,h3',h4,h5,h6,h7⟩:=h
  obtain⟨ao,cp,rfl⟩:=xg h4
  exact⟨kind,pos,n,m,name,ao,vs.length,cp,h1,h2,h3'⟩
def oM (s:List UInt8) (ks:List Kd) (i:Nat):List (List UInt8):=if i=0 then pSep s ks else oK s (ks.drop i)
theorem DV {s:List UInt8} {k:Kd} {ks:List Kd} (h:ks[0]? =some k):oM s ks 0=k.t++oM s ks 1:=by
 cases ks with
 |nil=>simp at h
 |cons a r=>
  obtain rfl:a=k:=by simpa using h
  rfl
theorem DW {s:List UInt8} {k:Kd} {ks:List Kd} {i:Nat} (hi:0<i) (h:ks[i]? =some k):oM s ks i=s::(k.t++oM s ks (i+1)):=by
 unfold oM
 rw[if_neg (by omega),if_neg (by omega)]
 have e:ks.drop i=k::ks.drop (i+1):=by
  rw[List.drop_eq_getElem_cons (List.getElem?_eq_some_iff.1 h).1,(List.getElem?_eq_some_iff.1 h).2]
 rw[e]
 rfl
theorem OP {s:List UInt8} {ks:List Kd}:oM s ks ks.length=[]:=by
 unfold oM
 split
 ·rename_i h
  rw[List.eq_nil_of_length_eq_zero h]
  rfl
 ·simp[oK]
variable {B:Nat} {w0 w:World} {wb f:Nat} {bs:List UInt8}
end
section
theorem OQ {size:Nat} {us:List (List Value)} (h4:∀x∈us,x.length=size):∀{idx:Nat} {x:List Value},us[idx]? =some x→∀o,o<size→us.flatten[idx*size+o]? =x[o]? :=by
 induction us with
 |nil=>intro idx x h;simp at h
 |cons y r ih=>
  intro idx x h o ho
  have hy:=h4 y (List.mem_cons_self ..)
  rw[List.flatten_cons]
  cases idx with
  |zero=>
   obtain rfl:y=x:=by simpa using h
   rw[List.getElem?_append_left (by omega)]
   congr 1
   omega
  |succ idx=>
   have e:(idx+1)*size=idx*size+size:=by rw[Nat.add_mul,Nat.one_mul]
   rw[List.getElem?_append_right (by omega),hy]
   have:=ih (fun z hz=>h4 z (List.mem_cons_of_mem _ hz)) (idx:=idx) (x:=x) (by simpa using h) o ho
   rw[←this]
   congr 1
   omega
theorem K6 {w:World} {base e size:Nat} {v:Value} {n:Nat} {vs:List (List Value)} (h:w.ownsRow base e size v n vs.flatten) (hn:vs.length=n) (hl:∀x∈vs,x.length=size) {i:Nat} {x:List Value} (hx:vs[i]? =some x):∃g c,v=.slice (some ⟨g,0,none⟩) n c∧g<w.heap.size∧base≤g∧∀o,o<size→w.cell? ⟨g,i*size+o,none⟩=x[o]? :=by
 subst hn
 have hi:i<vs.length:=(List.getElem?_eq_some_iff.1 hx).1
 rcases h.2 with⟨h1,h2⟩|⟨g,cap,cur,h1,hb,hg,hnc,hcm,hcs,htake⟩
 ·omega
 ·refine⟨g,cap,h1,(Array.getElem?_eq_some_iff.1 hg).1,hb,fun o ho=>?_⟩
  have hlt:i*size+o<vs.length*size:=by
   have:(i+1)*size≤vs.length*size:=Nat.mul_le_mul_right _ hi
   rw[Nat.add_mul] at this
   omega
  have e2:(cur.toList.take (vs.length*size))[i*size+o]? =cur[i*size+o]? :=by rw[List.getElem?_take,if_pos hlt];simp
  rw[cell_of_row w g (i*size+o) cur e (0,0) hg,←e2,htake,OQ hl hx o ho]
theorem aeL {W:World} {g:Nat} {k p n m:Int} {s:ByteArray} {v:Value} (h:∀j,j<11→W.cell? ⟨g,0*11+j,none⟩=(ah k p n m s v).toList[j]?):W.cell? ⟨g,0,none⟩=some (.int .i64 k)∧W.cell? ⟨g,1,none⟩=some (.int .i64 p)∧W.cell? ⟨g,2,none⟩=some (.int .i64 n)∧W.cell? ⟨g,3,none⟩=some (.int .i64 m)∧W.cell? ⟨g,4,none⟩=some (.string s)∧W.cell? ⟨g,5,none⟩=some (v)∧W.cell? ⟨g,6,none⟩=some (.int .i64 0)∧W.cell? ⟨g,7,none⟩=some (.int .i64 0)∧W.cell? ⟨g,8,none⟩=some (.slice none 0 0)∧W.cell? ⟨g,9,none⟩=some (.slice none 0 0)∧W.cell? ⟨g,10,none⟩=some (.slice none 0 0):=⟨h 0 (by decide),h 1 (by decide),h 2 (by decide),h 3 (by decide),h 4 (by decide),h 5 (by decide),h 6 (by decide),h 7 (by decide),h 8 (by decide),h 9 (by decide),h 10 (by decide)⟩
theorem fH {W:World} {g:Nat} {k p n m:Int} {s:ByteArray} {v:Value} (h:∀j,j<11→W.cell? ⟨g,1*11+j,none⟩=(ah k p n m s v).toList[j]?):W.cell? ⟨g,11,none⟩=some (.int .i64 k)∧W.cell? ⟨g,12,none⟩=some (.int .i64 p)∧W.cell? ⟨g,13,none⟩=some (.int .i64 n)∧W.cell? ⟨g,14,none⟩=some (.int .i64 m)∧W.cell? ⟨g,15,none⟩=some (.string s)∧W.cell? ⟨g,16,none⟩=some (v)∧W.cell? ⟨g,17,none⟩=some (.int .i64 0)∧W.cell? ⟨g,18,none⟩=some (.int .i64 0)∧W.cell? ⟨g,19,none⟩=some (.slice none 0 0)∧W.cell? ⟨g,20,none⟩=some (.slice none 0 0)∧W.cell? ⟨g,21,none⟩=some (.slice none 0 0):=⟨h 0 (by decide),h 1 (by decide),h 2 (by decide),h 3 (by decide),h 4 (by decide),h 5 (by decide),h 6 (by decide),h 7 (by decide),h 8 (by decide),h 9 (by decide),h 10 (by decide)⟩
variable {B:Nat} {w0 w W:World} {wb f:Nat} {bs:List UInt8} {kind pos n m:Int} {name:ByteArray} {ko:Option Addr} {kl kc:Nat}
theorem Nw.opened (h:Nw B w0 (f+1) (ah kind pos n m name (.slice ko kl kc)).toList):∃vs:List (List Value),vs.length=kl∧NR B w0 f ko vs∧Gr kind n m name (vs.map nM)∧tok (f+1) w0 (ah kind pos n m name (.slice ko kl kc)).toList=asm kind n m name.data.toList (vs.map (aB f w0))∧name.size≤20000∧∀i x,vs[i]? =some x→∃g,ko=some ⟨g,0,none⟩∧g<B∧∀j,j<11→w0.cell? ⟨g,i*11+j,none⟩=x[j]? :=by
 obtain⟨kind',pos',n',m',name',kv,vs,h1,h2,h3,h3',h4,h5,h6,h7⟩:=h
 have e:kind=kind'∧pos=pos'∧n=n'∧m=m'∧name=name'∧Value.slice ko kl kc=kv:=by simpa[ah] using h1
 obtain⟨rfl,rfl,rfl,rfl,rfl,rfl⟩:=e
 obtain⟨ao,cp,e⟩:=xg h4
 obtain⟨rfl,rfl,rfl⟩:ko=ao∧kl=vs.length∧kc=cp:=by simpa using e
 have h11:∀x∈vs,x.length=11:=fun x hx=>by
  obtain⟨k,p,a,b,s,o,l,c,rfl,-,-⟩:=Nw.fields (h6 x hx)
  rfl
 have cells:∀i x,vs[i]? =some x→∃g,ko=some ⟨g,0,none⟩∧g<B∧∀j,j<11→w0.cell? ⟨g,i*11+j,none⟩=x[j]? :=fun i x hx=>by
  obtain⟨g,c,e,hl,-,hc⟩:=K6 h4 rfl h11 hx
  obtain⟨rfl,rfl⟩:ko=some ⟨g,0,none⟩∧kc=c:=by simpa using e
  exact⟨g,rfl,h5 g rfl,hc⟩
 refine⟨vs,rfl,⟨fun i x hx=>?_,h6,h3'⟩,h7 trivial,DK h4 h6,h2,cells⟩
 obtain⟨g,e,hg,hc⟩:=cells i x hx
 exact⟨g,0,e,hg,fun j hj=>by rw[Nat.zero_add];exact hc j hj⟩
theorem RA {vs:List (List Value)} (hr:NR B w0 f ko vs) (hc:∀i x,vs[i]? =some x→∃g,ko=some ⟨g,0,none⟩∧g<B∧∀j,j<11→w0.cell? ⟨g,i*11+j,none⟩=x[j]?) {i:Nat} (hi:i<vs.length):∃(k p a b:Int) (s:ByteArray) (o:Option Addr) (l c g:Nat),vs[i]? =some (ah k p a b s (.slice o l c)).toList∧Nw B w0 f (ah k p a b s (.slice o l c)).toList∧ko=some ⟨g,0,none⟩∧∀W,Below B w0 W→B≤W.heap.size→g<W.heap.size∧∀j,j<11→W.cell? ⟨g,i*11+j,none⟩=(ah k p a b s (.slice o l c)).toList[j]? :=by
 obtain⟨x,hx⟩:∃x,vs[i]? =some x:=⟨_,List.getElem?_eq_getElem hi⟩
 have hn:=hr.all x (List.mem_of_getElem? hx)
 obtain⟨k,p,a,b,s,o,l,c,rfl,-,-⟩:=hn.fields
 obtain⟨g,e,hg,h1⟩:=hc i _ hx
 exact⟨k,p,a,b,s,o,l,c,g,hx,hn,e,fun W hW hB=>⟨Nat.lt_of_lt_of_le hg hB,fun j hj=>(hW.cell (p:=⟨g,i*11+j,none⟩) hg).trans (h1 j hj)⟩⟩
end
section
theorem OT {n:Int} {k:Kd} {ks:List Kd} {i:Nat} (h:ks[i]? =some k):nO n (ks.drop i)=k.t++(aC (n==0||(decide (i+1<ks.length))) [[59]]++nO n (ks.drop (i+1))):=by
 have e:ks.drop i=k::ks.drop (i+1):=by
  rw[List.drop_eq_getElem_cons (List.getElem?_eq_some_iff.1 h).1,(List.getElem?_eq_some_iff.1 h).2]
 rw[e]
 show k.t++(aC (n==0||(ks.drop (i+1)).length !=0) [[59]]++_)=_
 have e2:((ks.drop (i+1)).length !=0)=decide (i+1<ks.length):=by
  rw[List.length_drop]
  by_cases hh:i+1<ks.length
  ·rw[decide_eq_true hh]
   simp
   omega
  ·rw[decide_eq_false hh]
   simp
   omega
 rw[e2]
variable {B:Nat} {w0 w:World} {wb f:Nat} {bs:List UInt8} {kind pos n m:Int} {name:ByteArray} {ko:Option Addr} {kl kc:Nat}
end
section
variable {B:Nat} {w0 w:World} {wb f:Nat} {bs:List UInt8} {kind pos n m:Int} {name:ByteArray} {ko:Option Addr} {kl kc:Nat}
theorem FY (s:ByteArray):s.data.toList.length=s.size:=by rw[Array.length_toList];rfl
end
section
variable {B:Nat} {w0 w:World} {wb f:Nat} {bs:List UInt8} {kind pos n m:Int} {name:ByteArray} {ko:Option Addr} {kl kc:Nat}
theorem NR.take {a:Option Addr} {ks:List (List Value)} (r:NR B w0 f a ks) (i:Nat):NR B w0 f a (ks.take i):=⟨fun j x hx=>r.cell j x (by rw[List.getElem?_take] at hx;split at hx;exact hx;cases hx),fun x hx=>r.all x (List.mem_of_mem_take hx),by have:=r.few;rw[List.length_take];omega⟩
theorem NR.drop {g o:Nat} {ks:List (List Value)} (r:NR B w0 f (some ⟨g,o,none⟩) ks) (i:Nat):NR B w0 f (some ⟨g,o+i*11,none⟩) (ks.drop i):=⟨fun j x hx=>by
 rw[List.getElem?_drop] at hx
 obtain⟨g',o',e,hg,hc⟩:=r.cell _ x hx
 obtain⟨rfl,rfl⟩:g=g'∧o=o':=by simpa using e
 exact⟨g,_,rfl,hg,fun k hk=>by have:=hc k hk;rw[Nat.add_mul,←Nat.add_assoc] at this;exact this⟩,fun x hx=>r.all x (List.mem_of_mem_drop hx),by have:=r.few;rw[List.length_drop];omega⟩
theorem Nw.cap (h:Nw B w0 (f+1) (ah kind pos n m name (.slice ko kl kc)).toList):kl≤kc:=by
 obtain⟨kind',pos',n',m',name',kv,vs,h1,h2,h3,h3',h4,h5,h6,h7⟩:=h
 have e:kind=kind'∧pos=pos'∧n=n'∧m=m'∧name=name'∧Value.slice ko kl kc=kv:=by simpa[ah] using h1
 obtain⟨rfl,rfl,rfl,rfl,rfl,rfl⟩:=e
 rcases h4.2 with⟨x1,x2⟩|⟨g,cap,cur,x1,hb,hg,hnc,-⟩
 ·obtain⟨-,rfl,rfl⟩:ko=none∧kl=0∧kc=0:=by simpa using x1
  exact Nat.le_refl _
 ·obtain⟨-,rfl,rfl⟩:ko=some ⟨g,0,none⟩∧kl=vs.length∧kc=cap:=by simpa using x1
  exact hnc
end
section
def Tab (B : Nat) (w0 : World) : Prop := ∀ W, Below B w0 W → Lib.TabIs Tryz.prog W "internal/strconv.uint64pow10" .u64 Lib.pow10Tab
variable {B:Nat} {w0 w:World} {wb f:Nat} {bs:List UInt8}
theorem IC (ht:Tab B w0) {n:Int} (h0: -9223372036854775808≤n) (h1:n≤9223372036854775807) {W:World} (hb:Below B w0 W):Calls Tryz.prog 119 #[.int .i64 n] W (fun e w'=>e=.returned (.string ⟨(Lib.itoa n).toArray⟩)∧Below W.heap.size W w'):=
 (Tryz.strconv_Itoa n h0 h1 W (ht W hb)).mono fun e w' p=>by
  obtain⟨rfl,k,os,rfl⟩:=p
  exact⟨rfl,Lib.below_grow _ _ (Nat.le_refl _) _ _⟩
end
end Go.Proofs.YtdplogkmkgekdaaGreatDoor
