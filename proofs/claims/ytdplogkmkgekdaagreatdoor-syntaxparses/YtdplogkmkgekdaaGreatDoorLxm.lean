/- More of the lexer's plain mathematics: a text's rest read from its own beginning; digits and strconv's numerals; the table of signs. -/
import Derived.Shelf.Strings.Search3
import Derived.Test.YtdplogkmkgekdaaGreatDoorProg
import Derived.Test.YtdplogkmkgekdaaGreatDoorRef
import Derived.Shelf.LaysM
import Derived.Shelf.LaysC
import Derived.Shelf.Strconv.AtoiAll
import Derived.Shelf.Strings.Prefix
import Derived.Test.YtdplogkmkgekdaaGreatDoorRefTok
import Derived.Lib.Strings
import Derived.Lib.AtoiAll
set_option linter.all false
set_option maxRecDepth 100000
set_option maxHeartbeats 4000000
namespace Go.Proofs
open Go.Shelf
def Tryz.lays144_ren:Go.Shelf.Ren:=⟨fun|144=>203|143=>223|219=>241|217=>254|225=>255|224=>256|267=>257|266=>264|314=>265|n=>n,fun|9=>9|4=>4|3=>3|5=>5|46=>162|146=>187|51=>173|n=>n,fun|1=>2|n=>n⟩
theorem Tryz.lays144:Go.Proofs.Lays.n144 Tryz.prog Tryz.lays144_ren:={
 mixed:=by kernel_rfl
 f143:=Tryz.func223.trans (congrArg some (by kernel_rfl))
 f144:=Tryz.func203.trans (congrArg some (by kernel_rfl))
 f217:=Tryz.func254.trans (congrArg some (by kernel_rfl))
 f219:=Tryz.func241.trans (congrArg some (by kernel_rfl))
 f224:=Tryz.func256.trans (congrArg some (by kernel_rfl))
 f225:=Tryz.func255.trans (congrArg some (by kernel_rfl))
 f266:=Tryz.func264.trans (congrArg some (by kernel_rfl))
 f267:=Tryz.func257.trans (congrArg some (by kernel_rfl))
 f314:=Tryz.func265.trans (congrArg some (by kernel_rfl))
 t3:=Tryz.underlying3
 a3:=Tryz.isAgg3
 z3:=Tryz.sizeOf3
 v3:=Tryz.zeroValue3
 t4:=Tryz.underlying4
 a4:=Tryz.isAgg4
 z4:=Tryz.sizeOf4
 v4:=Tryz.zeroValue4
 t5:=Tryz.underlying5
 a5:=Tryz.isAgg5
 z5:=Tryz.sizeOf5
 v5:=Tryz.zeroValue5
 t9:=Tryz.underlying9
 a9:=Tryz.isAgg9
 z9:=Tryz.sizeOf9
 v9:=Tryz.zeroValue9
 t46:=Tryz.underlying162
 a46:=Tryz.isAgg162
 z46:=Tryz.sizeOf162
 v46:=Tryz.zeroValue162
 t51:=Tryz.underlying173
 a51:=Tryz.isAgg173
 z51:=Tryz.sizeOf173
 v51:=Tryz.zeroValue173
 t146:=Tryz.underlying187
 a146:=Tryz.isAgg187
 z146:=Tryz.sizeOf187
 v146:=Tryz.zeroValue187
 g1:=by kernel_rfl}
open Go.RowKit Go.Lib in
theorem Tryz.strings_Contains (s sub:ByteArray) (m:Int) (w:World) (hs:s.size<4294967281) (hm:w.cell? ⟨2,0,none⟩=some (.int .i64 m)):
 Calls Tryz.prog 203 #[.string s,.string sub] w fun e w'=>e=.returned (.bool (Lib.contains s.data.toList sub.data.toList))∧w'=w:=Any.strings_Contains Tryz.lays144 s sub m w hs hm
end Go.Proofs
namespace Go.Proofs.YtdplogkmkgekdaaGreatDoor
open Go.RowKit
def wordsC:Array Value:=(wordsB.map Value.string).toArray
def wordAt (k:Nat):ByteArray:=wordsB.getD k ByteArray.empty
theorem index_words (w:World):(k:Nat)→k<29→(Instr.index 129 (.agg wordsC) (.int .i64 k)).run Tryz.prog w=.ok (.string (wordAt k)) w
 |0,_=>by kernel_rfl
 |1,_=>by kernel_rfl
 |2,_=>by kernel_rfl
 |3,_=>by kernel_rfl
 |4,_=>by kernel_rfl
 |5,_=>by kernel_rfl
 |6,_=>by kernel_rfl
 |7,_=>by kernel_rfl
 |8,_=>by kernel_rfl
 |9,_=>by kernel_rfl
 |10,_=>by kernel_rfl
 |11,_=>by kernel_rfl
 |12,_=>by kernel_rfl
 |13,_=>by kernel_rfl
 |14,_=>by kernel_rfl
 |15,_=>by kernel_rfl
 |16,_=>by kernel_rfl
 |17,_=>by kernel_rfl
 |18,_=>by kernel_rfl
 |19,_=>by kernel_rfl
 |20,_=>by kernel_rfl
 |21,_=>by kernel_rfl
 |22,_=>by kernel_rfl
 |23,_=>by kernel_rfl
 |24,_=>by kernel_rfl
 |25,_=>by kernel_rfl
 |26,_=>by kernel_rfl
 |27,_=>by kernel_rfl
 |28,_=>by kernel_rfl
 |k+29,h=>absurd h (by omega)
theorem isWord_of_none (l:List UInt8) (h:∀j,j<29→(l==(wordAt j).toList)=false):isWord l=false:=by
 rw[isWord,List.any_eq_false]
 intro b hb
 obtain⟨j,hj,rfl⟩:=List.getElem_of_mem hb
 have:=h j hj
 simpa[wordAt,List.getD,hj] using this
theorem isWord_of_some (l:List UInt8) (j:Nat) (hj:j<29) (h:(l==(wordAt j).toList)=true):isWord l=true:=by
 rw[isWord,List.any_eq_true]
 refine⟨wordsB[j]'hj,List.getElem_mem _,?_⟩
 have hl:j<wordsB.length:=hj
 have e:wordAt j=wordsB[j]'hl:=by simp[wordAt,List.getD,hl]
 rw[e] at h
 exact h
theorem word9 (s:ByteArray) (w:World) (tt:TypeId) (fr:Nat × Nat) (hg:w.heap[1]? =some (.cells wordsC tt fr)):
 Calls Tryz.prog 134 #[.string s] w fun e w'=>e=.returned (.bool (isWord s.toList))∧w'=w:=by
 go_enter Tryz.func134,Tryz.ntmps134
 go_wp2_with (refine wpList_load_row rfl 129 _ rfl 1 rfl tt _ fr _ hg Tryz.underlying129 rfl (by kernel_rfl) ?_)
 go_loop [6] (fun i=>∃k:Nat,k≤29∧i=.int .i64 k∧∀j,j<k→(s.toList==(wordAt j).toList)=false) (fun i=>29 - (intOf i).toNat)
 case atStart=>exact⟨0,by omega,rfl,fun j hj=>absurd hj (by omega)⟩
 case round=>
  obtain⟨k,hk,rfl,hno⟩:=hrel
  have HN:Hid (∀j,j<k→(s.toList==(wordAt j).toList)=false):=hno
  clear hno
  by_cases hlt:k<29
  ·have hi:∀w,(Instr.index 129 (.agg wordsC) (.int .i64 k)).run Tryz.prog w=.ok (.string (wordAt k)) w:=fun w=>index_words w k hlt
   cases he:(s.toList==(wordAt k).toList)
   ·go_wp2
    go_round
    case rel=>
     refine⟨k+1,by omega,by go_num,fun j hj=>?_⟩
     by_cases hjk:j=k
     ·subst hjk;exact he
     ·exact HN.out j (by omega)
    case measure=>simp[intOf];omega
   ·go_wp2
    go_ret
    exact⟨by rw[isWord_of_some _ k hlt he];rfl,rfl⟩
  ·go_wp2
   go_ret
   exact⟨by rw[isWord_of_none _ (fun j hj=>HN.out j (by omega))];rfl,rfl⟩
end Go.Proofs.YtdplogkmkgekdaaGreatDoor
namespace Go.Proofs.YtdplogkmkgekdaaGreatDoor
theorem bat_get (s:ByteArray) (i:Nat) (h:i<s.size):(s.get! i).toNat=bat s i:=by
 have:=get_at s i h
 rw[bat_eq h,←this];rfl
theorem runGo_stop (p:Nat→Bool) (s:ByteArray):∀(f i:Nat),runGo p s f i<i+f→p (bat s (runGo p s f i))=false
 |0,i,h=>by rw[runGo] at h;omega
 |f+1,i,h=>by
  rw[runGo] at h⊢
  split
  ·rename_i hp
   rw[if_pos hp] at h
   exact runGo_stop p s f (i+1) (by omega)
  ·rename_i hp
   simpa using hp
theorem runEnd_stop (p:Nat→Bool) (s:ByteArray) (i:Nat) (hl:runEnd p s i<s.size):p (bat s (runEnd p s i))=false:=by
 have hge:=runEnd_ge p s i
 exact runGo_stop p s _ i (by unfold runEnd at hl hge;omega)
theorem runEnd_eq {p:Nat→Bool} {s:ByteArray} {i e:Nat} (hie:i≤e) (hes:e≤s.size) (hall:∀j,i≤j→j<e→p (bat s j)=true) (hst:e<s.size→p (bat s e)=false):runEnd p s i=e:=by
 have h1:=runEnd_le p s i (by omega)
 have h2:=runEnd_ge p s i
 rcases Nat.lt_trichotomy (runEnd p s i) e with h|h|h
 ·have a:=runEnd_stop p s i (by omega)
  rw[hall _ h2 h] at a
  cases a
 ·exact h
 ·have a:=runEnd_all p s i e hie h
  rw[hst (by omega)] at a
  cases a
theorem dec_low {s:ByteArray} {p:Nat} (hp:p<s.size) (h:bat s p<128):Utf8.decode s p=(bat s p,1):=by
 rw[bat_eq hp] at h⊢;exact decode_ascii s p hp h
theorem dec_high {s:ByteArray} {p:Nat} (hp:p<s.size) (h:128≤bat s p):128≤(Utf8.decode s p).1:=by
 rw[bat_eq hp] at h;exact(decode_high s p hp h).1
theorem dec_width (s:ByteArray) (p:Nat) (hp:p<s.size):1≤(Utf8.decode s p).2∧p+(Utf8.decode s p).2≤s.size∧∀k,1≤k→k<(Utf8.decode s p).2→128≤bat s (p+k):=by
 have key:∀k,(decide (p+k<s.size)&&(s.get! (p+k)).toNat/64==2)=true→p+k<s.size∧128≤bat s (p+k):=by
  intro k hk
  simp only[Bool.and_eq_true,decide_eq_true_eq,beq_iff_eq] at hk
  rw[bat_get s _ hk.1] at hk
  exact⟨hk.1,by omega⟩
 have one':∀c:Nat,1≤((c,1):Nat × Nat).2∧p+((c,1):Nat × Nat).2≤s.size∧∀k,1≤k→k<((c,1):Nat × Nat).2→128≤bat s (p+k):=
  fun c=>⟨Nat.le_refl _,hp,fun k h1 h2=>absurd h2 (by simp;omega)⟩
 unfold Utf8.decode
 simp only
 split
 ·exact one' _
 ·split
  ·rename_i h1
   simp only[Bool.and_eq_true] at h1
   have k1:=key 1 (by simpa using h1.2)
   split
   ·exact⟨by simp,by simp;omega,fun k a b=>by have:k=1:=(by simp at b;omega);subst this;exact k1.2⟩
   ·exact one' _
  ·split
   ·rename_i h1
    simp only[Bool.and_eq_true] at h1
    have k1:=key 1 (by simpa using h1.1.2)
    have k2:=key 2 (by simpa using h1.2)
    split
    ·exact⟨by simp,by simp;omega,fun k a b=>by
      have:k=1∨k=2:=by simp at b;omega
      rcases this with rfl|rfl
      ·exact k1.2
      ·exact k2.2⟩
    ·exact one' _
   ·split
    ·rename_i h1
     simp only[Bool.and_eq_true] at h1
     have k1:=key 1 (by simpa using h1.1.1.2)
     have k2:=key 2 (by simpa using h1.1.2)
     have k3:=key 3 (by simpa using h1.2)
     split
     ·exact⟨by simp,by simp;omega,fun k a b=>by
       have:k=1∨k=2∨k=3:=by simp at b;omega
       rcases this with rfl|rfl|rfl
       ·exact k1.2
       ·exact k2.2
       ·exact k3.2⟩
     ·exact one' _
    ·exact one' _
theorem dec_before {s:ByteArray} {p q:Nat} (hpq:p<q) (hq:q<s.size) (hb:bat s q<128):p+(Utf8.decode s p).2≤q:=by
 obtain⟨_,_,h⟩:=dec_width s p (by omega)
 rcases Nat.lt_or_ge q (p+(Utf8.decode s p).2) with hl|hl
 ·have:=h (q - p) (by omega) (by omega)
  rw[show p+(q - p)=q by omega] at this
  omega
 ·exact hl
end Go.Proofs.YtdplogkmkgekdaaGreatDoor
namespace Go.Proofs.YtdplogkmkgekdaaGreatDoor
open Go.Shelf
def Tryz.laysC172_ren:Go.Shelf.Ren:=⟨fun|172=>131|244=>185|245=>186|247=>214|279=>215|280=>216|281=>217|282=>218|287=>236|316=>237|171=>119|205=>238|321=>252|322=>253|243=>179|246=>213|283=>232|284=>233|285=>234|286=>235|129=>248|317=>247|318=>249|319=>250|320=>251|337=>262|338=>263|n=>n,fun|9=>9|3=>3|75=>88|76=>89|4=>4|5=>5|167=>141|37=>83|0=>0|85=>142|2=>2|168=>144|53=>155|175=>160|46=>162|210=>165|127=>110|145=>180|143=>178|21=>21|171=>154|173=>158|212=>172|51=>173|20=>20|213=>174|232=>189|233=>190|80=>79|n=>n,fun|15=>4|16=>5|17=>6|18=>9|19=>10|n=>n⟩
theorem Tryz.laysC172:Go.Proofs.LaysC.n172 Tryz.prog Tryz.laysC172_ren:={
 mixed:=by kernel_rfl
 f129:=Tryz.func248.trans (congrArg some (by kernel_rfl))
 f171:=Tryz.func119.trans (congrArg some (by kernel_rfl))
 f172:=Tryz.func131.trans (congrArg some (by kernel_rfl))
 f205:=Tryz.func238.trans (congrArg some (by kernel_rfl))
 f243:=Tryz.func179.trans (congrArg some (by kernel_rfl))
 f244:=Tryz.func185.trans (congrArg some (by kernel_rfl))
 f245:=Tryz.func186.trans (congrArg some (by kernel_rfl))
 f246:=Tryz.func213.trans (congrArg some (by kernel_rfl))
 f247:=Tryz.func214.trans (congrArg some (by kernel_rfl))
 f279:=Tryz.func215.trans (congrArg some (by kernel_rfl))
 f280:=Tryz.func216.trans (congrArg some (by kernel_rfl))
 f281:=Tryz.func217.trans (congrArg some (by kernel_rfl))
 f282:=Tryz.func218.trans (congrArg some (by kernel_rfl))
 f283:=Tryz.func232.trans (congrArg some (by kernel_rfl))
 f284:=Tryz.func233.trans (congrArg some (by kernel_rfl))
 f285:=Tryz.func234.trans (congrArg some (by kernel_rfl))
 f286:=Tryz.func235.trans (congrArg some (by kernel_rfl))
 f287:=Tryz.func236.trans (congrArg some (by kernel_rfl))
 f316:=Tryz.func237.trans (congrArg some (by kernel_rfl))
 f317:=Tryz.func247.trans (congrArg some (by kernel_rfl))
 f318:=Tryz.func249.trans (congrArg some (by kernel_rfl))
 f319:=Tryz.func250.trans (congrArg some (by kernel_rfl))
 f320:=Tryz.func251.trans (congrArg some (by kernel_rfl))
 f321:=Tryz.func252.trans (congrArg some (by kernel_rfl))
 f322:=Tryz.func253.trans (congrArg some (by kernel_rfl))
 f337:=Tryz.func262.trans (congrArg some (by kernel_rfl))
 f338:=Tryz.func263.trans (congrArg some (by kernel_rfl))
 t0:=Tryz.underlying0
 a0:=Tryz.isAgg0
 z0:=Tryz.sizeOf0
 v0:=Tryz.zeroValue0
 t2:=Tryz.underlying2
 a2:=Tryz.isAgg2
 z2:=Tryz.sizeOf2
 v2:=Tryz.zeroValue2
 t3:=Tryz.underlying3
 a3:=Tryz.isAgg3
 z3:=Tryz.sizeOf3
 v3:=Tryz.zeroValue3
 t4:=Tryz.underlying4
 a4:=Tryz.isAgg4
 z4:=Tryz.sizeOf4
 v4:=Tryz.zeroValue4
 t5:=Tryz.underlying5
 a5:=Tryz.isAgg5
 z5:=Tryz.sizeOf5
 v5:=Tryz.zeroValue5
 t9:=Tryz.underlying9
 a9:=Tryz.isAgg9
 z9:=Tryz.sizeOf9
 v9:=Tryz.zeroValue9
 t20:=Tryz.underlying20
 a20:=Tryz.isAgg20
 z20:=Tryz.sizeOf20
 v20:=Tryz.zeroValue20
 t21:=Tryz.underlying21
 a21:=Tryz.isAgg21
 z21:=Tryz.sizeOf21
 v21:=Tryz.zeroValue21
 t37:=Tryz.underlying83
 a37:=Tryz.isAgg83
 z37:=Tryz.sizeOf83
 v37:=Tryz.zeroValue83
 t46:=Tryz.underlying162
 a46:=Tryz.isAgg162
 z46:=Tryz.sizeOf162
 v46:=Tryz.zeroValue162
 t51:=Tryz.underlying173
 a51:=Tryz.isAgg173
 z51:=Tryz.sizeOf173
 v51:=Tryz.zeroValue173
 t53:=Tryz.underlying155
 a53:=Tryz.isAgg155
 z53:=Tryz.sizeOf155
 v53:=Tryz.zeroValue155
 t75:=Tryz.underlying88
 a75:=Tryz.isAgg88
 z75:=Tryz.sizeOf88
 v75:=Tryz.zeroValue88
 t76:=Tryz.underlying89
 a76:=Tryz.isAgg89
 z76:=Tryz.sizeOf89
 v76:=Tryz.zeroValue89
 t85:=Tryz.underlying142
 a85:=Tryz.isAgg142
 z85:=Tryz.sizeOf142
 v85:=Tryz.zeroValue142
 t127:=Tryz.underlying110
 a127:=Tryz.isAgg110
 z127:=Tryz.sizeOf110
 v127:=Tryz.zeroValue110
 t143:=Tryz.underlying178
 a143:=Tryz.isAgg178
 z143:=Tryz.sizeOf178
 v143:=Tryz.zeroValue178
 t145:=Tryz.underlying180
 a145:=Tryz.isAgg180
 z145:=Tryz.sizeOf180
 v145:=Tryz.zeroValue180
 t167:=Tryz.underlying141
 a167:=Tryz.isAgg141
 z167:=Tryz.sizeOf141
 v167:=Tryz.zeroValue141
 t168:=Tryz.underlying144
 a168:=Tryz.isAgg144
 z168:=Tryz.sizeOf144
 v168:=Tryz.zeroValue144
 t171:=Tryz.underlying154
 a171:=Tryz.isAgg154
 z171:=Tryz.sizeOf154
 v171:=Tryz.zeroValue154
 t173:=Tryz.underlying158
 a173:=Tryz.isAgg158
 z173:=Tryz.sizeOf158
 v173:=Tryz.zeroValue158
 t175:=Tryz.underlying160
 a175:=Tryz.isAgg160
 z175:=Tryz.sizeOf160
 v175:=Tryz.zeroValue160
 t210:=Tryz.underlying165
 a210:=Tryz.isAgg165
 z210:=Tryz.sizeOf165
 v210:=Tryz.zeroValue165
 t212:=Tryz.underlying172
 a212:=Tryz.isAgg172
 z212:=Tryz.sizeOf172
 v212:=Tryz.zeroValue172
 t213:=Tryz.underlying174
 a213:=Tryz.isAgg174
 z213:=Tryz.sizeOf174
 t232:=Tryz.underlying189
 a232:=Tryz.isAgg189
 z232:=Tryz.sizeOf189
 v232:=Tryz.zeroValue189
 t233:=Tryz.underlying190
 a233:=Tryz.isAgg190
 z233:=Tryz.sizeOf190
 v233:=Tryz.zeroValue190
 g15:=by kernel_rfl
 g16:=by kernel_rfl
 g17:=by kernel_rfl
 g18:=by kernel_rfl
 g19:=by kernel_rfl
 t80:=Tryz.underlying79
 a80:=Tryz.isAgg79
 z80:=Tryz.sizeOf79
 v80:=Tryz.zeroValue79
 i0:=by kernel_rfl
 i2:=by kernel_rfl
 i3:=by kernel_rfl
 i4:=by kernel_rfl
 i5:=by kernel_rfl
 i9:=by kernel_rfl
 i20:=by kernel_rfl
 i21:=by kernel_rfl
 i37:=by kernel_rfl
 i46:=by kernel_rfl
 i51:=by kernel_rfl
 i53:=by kernel_rfl
 i75:=by kernel_rfl
 i76:=by kernel_rfl
 i80:=by kernel_rfl
 i85:=by kernel_rfl
 i127:=by kernel_rfl
 i143:=by kernel_rfl
 i145:=by kernel_rfl
 i167:=by kernel_rfl
 i168:=by kernel_rfl
 i171:=by kernel_rfl
 i173:=by kernel_rfl
 i175:=by kernel_rfl
 i210:=by kernel_rfl
 i212:=by kernel_rfl
 i232:=by kernel_rfl
 i233:=by kernel_rfl
 m15:=by kernel_rfl
 m16:=by kernel_rfl
 m17:=by kernel_rfl
 m18:=by kernel_rfl
 m19:=by kernel_rfl
 c0:=by kernel_rfl
 c2:=by kernel_rfl
 c3:=by kernel_rfl
 c4:=by kernel_rfl
 c5:=by kernel_rfl
 c9:=by kernel_rfl
 c20:=by kernel_rfl
 c21:=by kernel_rfl
 c37:=by kernel_rfl
 c46:=by kernel_rfl
 c51:=by kernel_rfl
 c53:=by kernel_rfl
 c75:=by kernel_rfl
 c76:=by kernel_rfl
 c80:=by kernel_rfl
 c85:=by kernel_rfl
 c127:=by kernel_rfl
 c143:=by kernel_rfl
 c145:=by kernel_rfl
 c167:=by kernel_rfl
 c168:=by kernel_rfl
 c171:=by kernel_rfl
 c173:=by kernel_rfl
 c175:=by kernel_rfl
 c210:=by kernel_rfl
 c212:=by kernel_rfl
 c213:=by kernel_rfl
 c232:=by kernel_rfl
 c233:=by kernel_rfl}
open Go.RowKit in
theorem Tryz.strconv_Atoi_ok (s:ByteArray) (hmax:s.size≤9223372036854775806) (v:Int) (h:Lib.atoiAll s.data.toList=.ok v) (w:World):
 Calls Tryz.prog 131 #[.string s] w fun e w'=>e=.returned (.tuple #[.int .i64 v,.nilIface])∧(w'=w∨∃t,w'=Lib.bytesWorld w 5 t):=Any.strconv_Atoi_ok Tryz.laysC172 s hmax v h w
open Go.RowKit in
theorem Tryz.strconv_Atoi_range (s:ByteArray) (hlim:s.size≤281474976710656) (h:Lib.atoiAll s.data.toList=.range) (ev:Value) (w:World) (hv:w.cell? ⟨5,0,none⟩=some ev) (hev:ev=.nilIface∨∃te pe,ev=.iface te pe):
 Calls Tryz.prog 131 #[.string s] w fun e w'=>∃N,e=.returned (.tuple #[.int .i64 (Lib.atoiSat s.data.toList),.iface 144 (.pointer (some ⟨N,0,none⟩))])∧w.heap.size≤N∧w'.heap[N]? =some (.cells #[.string ⟨#[65,116,111,105]⟩,.string s,ev] 165 (0,0))∧Below w.heap.size w w':=Any.strconv_Atoi_range Tryz.laysC172 s hlim h ev w hv hev
def Tryz.lays99_ren:Go.Shelf.Ren:=⟨fun|99=>31|206=>60|n=>n,fun|9=>9|4=>4|3=>3|n=>n,fun|n=>n⟩
theorem Tryz.lays99:Go.Proofs.Lays.n99 Tryz.prog Tryz.lays99_ren:={
 mixed:=by kernel_rfl
 f99:=Tryz.func31.trans (congrArg some (by kernel_rfl))
 f206:=Tryz.func60.trans (congrArg some (by kernel_rfl))
 t3:=Tryz.underlying3
 a3:=Tryz.isAgg3
 z3:=Tryz.sizeOf3
 v3:=Tryz.zeroValue3
 t4:=Tryz.underlying4
 a4:=Tryz.isAgg4
 z4:=Tryz.sizeOf4
 v4:=Tryz.zeroValue4
 t9:=Tryz.underlying9
 a9:=Tryz.isAgg9
 z9:=Tryz.sizeOf9
 v9:=Tryz.zeroValue9}
open Go.RowKit Go.Lib in
theorem Tryz.strings_HasPrefix (s p:ByteArray) (w:World):
 Calls Tryz.prog 31 #[.string s,.string p] w fun e w'=>e=.returned (.bool (Lib.hasPrefix s.data.toList p.data.toList))∧w'=w:=Any.strings_HasPrefix Tryz.lays99 s p w
end Go.Proofs.YtdplogkmkgekdaaGreatDoor
namespace Go.Proofs.YtdplogkmkgekdaaGreatDoor
theorem ext_size (s:ByteArray) (i j:Nat) (h:j≤s.size):(s.extract i j).size=j - i:=by
 rw[ByteArray.size_extract];omega
theorem ext_bat (s:ByteArray) (i j k:Nat) (h:j≤s.size) (hk:k<j - i):bat (s.extract i j) k=bat s (i+k):=by
 have h1:k<(s.extract i j).size:=by rw[ext_size s i j h];exact hk
 rw[bat_eq h1,bat_eq (show i+k<s.size by omega)]
 rw[ByteArray.getElem_extract]
theorem ext_bat_end (s:ByteArray) (i k:Nat):bat (s.extract i s.size) k=bat s (i+k):=by
 by_cases h:k<s.size - i
 ·exact ext_bat s i s.size k (Nat.le_refl _) h
 ·rw[bat_out (by rw[ext_size s i s.size (Nat.le_refl _)];exact h),bat_out (by omega)]
theorem ext_ext (s:ByteArray) (i k:Nat) (h:i+k≤s.size):(s.extract i s.size).extract 0 k=s.extract i (i+k):=by
 rw[Lib.extract_eq,Lib.extract_data,Lib.extract_eq s i (i+k)]
 congr 2
 have hl:s.data.toList.length=s.size:=by simp
 rw[List.drop_zero,List.take_take]
 congr 1
 omega
theorem ext_runEnd (p:Nat→Bool) (s:ByteArray) (i k:Nat) (h:i+k≤s.size):i+runEnd p (s.extract i s.size) k=runEnd p s (i+k):=by
 have hsz:=ext_size s i s.size (Nat.le_refl _)
 have hle:=runEnd_le p (s.extract i s.size) k (by omega)
 have hge:=runEnd_ge p (s.extract i s.size) k
 symm
 refine runEnd_eq (by omega) (by omega) (fun j hj hl=>?_) (fun hl=>?_)
 ·have:=runEnd_all p (s.extract i s.size) k (j - i) (by omega) (by omega)
  rw[ext_bat_end,show i+(j - i)=j by omega] at this
  exact this
 ·have:=runEnd_stop p (s.extract i s.size) k (by omega)
  rw[ext_bat_end] at this
  exact this
theorem ext_numVal (s:ByteArray) (i j:Nat) (h:j≤s.size):∀m,m≤j - i→numVal (s.extract i j) 0 m=numVal s i m
 |0,_=>rfl
 |m+1,hm=>by
  show numVal (s.extract i j) 0 m*10+(bat (s.extract i j) (0+m) - 48)=numVal s i m*10+(bat s (i+m) - 48)
  rw[ext_numVal s i j h m (by omega),Nat.zero_add,ext_bat s i j m h (by omega)]
theorem numVal_base (s:ByteArray) (i:Nat):∀m,numVal (s.extract i s.size) 0 m=numVal s i m
 |0=>rfl
 |m+1=>by
  show numVal (s.extract i s.size) 0 m*10+(bat (s.extract i s.size) (0+m) - 48)=numVal s i m*10+(bat s (i+m) - 48)
  rw[numVal_base s i m,Nat.zero_add,ext_bat_end]
def isPlain (t:ByteArray):Bool:=digN (bat t 0)||letN (bat t 0)||(bat t 0==39&&letN (bat t 1))
def plain (t:ByteArray):One:=if isPlain t then one t 0 else⟨0,0,0,0⟩
def plainText (t:ByteArray):ByteArray:=if(plain t).kind≤1 then⟨#[]⟩ else t.extract 0 (plain t).stop
theorem one_rest (s:ByteArray) (i:Nat) (hi:i<s.size) (hp:isPlain (s.extract i s.size)=true):
 (one (s.extract i s.size) 0).err=(one s i).err∧(one (s.extract i s.size) 0).kind=(one s i).kind∧(one (s.extract i s.size) 0).n=(one s i).n∧
  ((one s i).err=0→i+(one (s.extract i s.size) 0).stop=(one s i).stop)∧((one s i).err≠0→one (s.extract i s.size) 0=⟨3,0,0,0⟩)∧((one s i).err=0→1≤(one s i).kind∧(one s i).kind≤4):=by
 have b0:bat (s.extract i s.size) 0=bat s i:=ext_bat_end s i 0
 have b1:bat (s.extract i s.size) 1=bat s (i+1):=ext_bat_end s i 1
 cases hd:digN (bat s i)
 ·cases hl:letN (bat s i)
  ·have h39:bat s i=39∧letN (bat s (i+1))=true:=by
    simp[isPlain,b0,b1,hd,hl] at hp;exact hp
   have hi1:i+1<s.size:=by
    rcases Nat.lt_or_ge (i+1) s.size with h|h
    ·exact h
    ·have:=h39.2;rw[bat_out (by omega)] at this;simp[letN] at this
   have hr:=ext_runEnd namN s i 1 (by omega)
   have hge:=runEnd_ge namN s (i+1)
   rw[one_life (s:=s.extract i s.size) (by rw[b0];exact h39.1) (by rw[Nat.zero_add,b1];exact h39.2),one_life h39.1 h39.2,Nat.zero_add]
   by_cases h21:21<runEnd namN s (i+1) - i
   ·rw[if_pos h21,if_pos (by omega)];simp
   ·rw[if_neg h21,if_neg (by omega)];simp;exact hr
  ·have hr:=ext_runEnd namN s i 0 (by omega)
   rw[Nat.add_zero] at hr
   have hle:=runEnd_le namN s i (by omega)
   rw[one_letter (s:=s.extract i s.size) (by rw[b0];exact hl),one_letter hl,ext_ext s i _ (by omega),hr]
   cases hw:isWord (s.extract i (runEnd namN s i)).toList
   ·by_cases h20:20<runEnd namN s i - i
    ·rw[if_neg (by simp),if_pos (by omega),if_neg (by simp),if_pos h20];simp
    ·rw[if_neg (by simp),if_neg (by omega),if_neg (by simp),if_neg h20];simp;exact hr
   ·rw[if_pos rfl,if_pos rfl];simp;exact hr
 ·have hr:=ext_runEnd digN s i 0 (by omega)
  rw[Nat.add_zero] at hr
  rw[one_digit (s:=s.extract i s.size) (by rw[b0];exact hd),one_digit hd,Nat.sub_zero,numVal_base,show runEnd digN (s.extract i s.size) 0=runEnd digN s i - i by omega]
  by_cases hm:numVal s i (runEnd digN s i - i)≤9223372036854775807
  ·rw[if_pos hm,if_pos hm];simp;omega
  ·rw[if_neg hm,if_neg hm];simp
def decList (acc:Nat):List UInt8→Nat
 |[]=>acc
 |c::r=>decList (acc*10+(c.toNat - 48)) r
theorem decList_ge:∀(l:List UInt8) (acc:Nat),acc≤decList acc l
 |[],acc=>Nat.le_refl _
 |c::r,acc=>by have:=decList_ge r (acc*10+(c.toNat - 48));show acc≤decList _ r;omega
theorem parse_dec:∀(l:List UInt8) (acc:Nat),acc<18446744073709551616→(∀c∈l,48≤c.toNat∧c.toNat≤57)→Lib.parseUint10 acc l=if decList acc l<18446744073709551616 then .ok (decList acc l) else .range
 |[],acc,h,_=>by rw[show decList acc []=acc from rfl,if_pos h,Lib.parseUint10]
 |c::r,acc,h,hd=>by
  have hc:=hd c (List.mem_cons_self ..)
  have hg:=decList_ge r (acc*10+(c.toNat - 48))
  rw[Lib.parseUint10,if_pos hc]
  rw[show decList acc (c::r)=decList (acc*10+(c.toNat - 48)) r from rfl]
  by_cases h1:1844674407370955162≤acc
  ·rw[if_pos h1,if_neg (by omega)]
  ·rw[if_neg h1]
   by_cases h2:18446744073709551616≤acc*10+(c.toNat - 48)
   ·rw[if_pos h2,if_neg (by omega)]
   ·rw[if_neg h2,parse_dec r _ (by omega) (fun x hx=>hd x (List.mem_cons_of_mem _ hx))]
theorem decList_snoc:∀(l:List UInt8) (acc:Nat) (c:UInt8),decList acc (l++[c])=decList acc l*10+(c.toNat - 48)
 |[],_,_=>rfl
 |_::r,_,c=>decList_snoc r _ c
theorem decList_num (d:ByteArray):∀m,m≤d.size→decList 0 (d.data.toList.take m)=numVal d 0 m
 |0,_=>rfl
 |m+1,h=>by
  have hm:m<d.size:=h
  rw[List.take_succ_eq_append_getElem (by simpa using hm),decList_snoc,decList_num d m (by omega)]
  show _=numVal d 0 m*10+(bat d (0+m) - 48)
  rw[Nat.zero_add,bat_eq hm]
  rfl
theorem atoi_digits (d:ByteArray) (h0:0<d.size) (hd:∀j,j<d.size→digN (bat d j)=true):
 Lib.atoiAll d.data.toList=if numVal d 0 d.size≤9223372036854775807 then .ok (numVal d 0 d.size:Nat) else .range:=by
 have hall:∀c∈d.data.toList,48≤c.toNat∧c.toNat≤57:=by
  intro c hc
  obtain⟨j,hj,rfl⟩:=List.getElem_of_mem hc
  have hj':j<d.size:=by simpa using hj
  have:=hd j hj'
  rw[bat_eq hj'] at this
  have h2:48≤(d[j]'hj').toNat∧(d[j]'hj').toNat≤57:=by simpa[digN] using this
  exact h2
 have hn:decList 0 d.data.toList=numVal d 0 d.size:=by
  have:=decList_num d d.size (Nat.le_refl _)
  rwa [List.take_of_length_le (by simp)] at this
 match hl:d.data.toList with
 |[]=>
  have:d.data.toList.length=d.size:=by simp
  rw[hl] at this;simp at this;omega
 |c::r=>
  rw[hl] at hall hn
  have hc:=hall c (List.mem_cons_self ..)
  rw[Lib.atoiAll]
  rw[if_neg (by omega),Lib.parseMag,if_neg (by simp),parse_dec _ 0 (by omega) hall,hn]
  by_cases h1:numVal d 0 d.size≤9223372036854775807
  ·rw[if_pos h1,if_pos (by omega)]
   simp only
   rw[if_neg (by omega),if_neg (by omega),if_neg (by omega)]
  ·rw[if_neg h1]
   by_cases h2:numVal d 0 d.size<18446744073709551616
   ·rw[if_pos h2]
    simp only
    rw[if_pos (by omega)]
   ·rw[if_neg h2]
end Go.Proofs.YtdplogkmkgekdaaGreatDoor
