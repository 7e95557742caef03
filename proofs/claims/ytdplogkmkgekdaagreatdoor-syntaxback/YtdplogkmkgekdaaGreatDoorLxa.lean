/- The project's lexer: the small functions on runes. -/
import Derived.Test.YtdplogkmkgekdaaGreatDoorTypes
import Derived.Shelf.LaysM
import Derived.Shelf.LaysC
import Derived.Shelf.Strconv.AtoiAll
import Derived.Shelf.Strings.Prefix
import Derived.Test.YtdplogkmkgekdaaGreatDoorProg
import Derived.Lib.Strings
import Derived.Lib.AtoiAll
set_option linter.all false
set_option maxRecDepth 100000
set_option maxHeartbeats 4000000
namespace Go.Proofs.YtdplogkmkgekdaaGreatDoor
open Go.RowKit
def Bf:Array Value:=(sZ.map Value.string).toArray
def uf (k:Nat):ByteArray:=sZ.getD k ByteArray.empty
theorem Lm (w:World):(k:Nat)→k<29→(Instr.index 129 (.agg Bf) (.int .i64 k)).run Tryz.prog w=.ok (.string (uf k)) w
 |0,_=>by kernel_rfl
 |1,_=>by kernel_rfl
 |2,_=>by kernel_rfl
 |3,_=>by kernel_rfl
 |4,_=>by kernel_rfl
 |5,_=>by kernel_rfl
 |6,_=>by kernel_rfl
 |7,_=>by kernel_rfl
 |8,_=>by kernel_rfl
 |9,_=>by kernel_rfl
 |10,_=>by kernel_rfl
 |11,_=>by kernel_rfl
 |12,_=>by kernel_rfl
 |13,_=>by kernel_rfl
 |14,_=>by kernel_rfl
 |15,_=>by kernel_rfl
 |16,_=>by kernel_rfl
 |17,_=>by kernel_rfl
 |18,_=>by kernel_rfl
 |19,_=>by kernel_rfl
 |20,_=>by kernel_rfl
 |21,_=>by kernel_rfl
 |22,_=>by kernel_rfl
 |23,_=>by kernel_rfl
 |24,_=>by kernel_rfl
 |25,_=>by kernel_rfl
 |26,_=>by kernel_rfl
 |27,_=>by kernel_rfl
 |28,_=>by kernel_rfl
 |k+29,h=>absurd h (by omega)
theorem FJ (l:List UInt8) (h:∀j,j<29→(l==(uf j).toList)=false):isWord l=false:=by
 rw[isWord,List.any_eq_false]
 intro b hb
 obtain⟨j,hj,rfl⟩:=List.getElem_of_mem hb
 have:=h j hj
 simpa[uf,List.getD,hj] using this
theorem FK (l:List UInt8) (j:Nat) (hj:j<29) (h:(l==(uf j).toList)=true):isWord l=true:=by
 rw[isWord,List.any_eq_true]
 refine⟨sZ[j]'hj,List.getElem_mem _,?_⟩
 have hl:j<sZ.length:=hj
 have e:uf j=sZ[j]'hl:=by simp[uf,List.getD,hl]
 rw[e] at h
 exact h
theorem Om (s:ByteArray) (w:World) (tt:TypeId) (fr:Nat × Nat) (hg:w.heap[1]? =some (.cells Bf tt fr)):
 Calls Tryz.prog 134 #[.string s] w fun e w'=>e=.returned (.bool (isWord s.toList))∧w'=w:=by
 go_enter Tryz.func134,Tryz.ntmps134
 go_wp2_with (refine wpList_load_row rfl 129 _ rfl 1 rfl tt _ fr _ hg Tryz.underlying129 rfl (by kernel_rfl) ?_)
 go_loop [6] (fun i=>∃k:Nat,k≤29∧i=.int .i64 k∧∀j,j<k→(s.toList==(uf j).toList)=false) (fun i=>29 - (intOf i).toNat)
 case atStart=>exact⟨0,by omega,rfl,fun j hj=>absurd hj (by omega)⟩
 case round=>
  obtain⟨k,hk,rfl,hno⟩:=hrel
  have HN:=@aG _ @hno
  clear hno
  by_cases hlt:k<29
  ·have hi:∀w,(Instr.index 129 (.agg Bf) (.int .i64 k)).run Tryz.prog w=.ok (.string (uf k)) w:=fun w=>Lm w k hlt
   cases he:(s.toList==(uf k).toList)
   ·go_wp2
    go_round
    case rel=>
     refine⟨k+1,by omega,by go_num,fun j hj=>?_⟩
     by_cases hjk:j=k
     ·subst hjk;exact he
     ·exact HN.out j (by omega)
    case measure=>simp[intOf];omega
   ·go_wp2
    go_ret
    exact⟨by rw[FK _ k hlt he];rfl,rfl⟩
  ·go_wp2
   go_ret
   exact⟨by rw[FJ _ (fun j hj=>HN.out j (by omega))];rfl,rfl⟩
open Go.Shelf
def Tryz.laysC172_ren:Go.Shelf.Ren:=⟨fun|172=>131|244=>185|245=>186|247=>214|279=>215|280=>216|281=>217|282=>218|287=>236|316=>237|171=>119|205=>238|321=>252|322=>253|243=>179|246=>213|283=>232|284=>233|285=>234|286=>235|129=>248|317=>247|318=>249|319=>250|320=>251|337=>262|338=>263|n=>n,fun|9=>9|3=>3|75=>88|76=>89|4=>4|5=>5|167=>141|37=>83|0=>0|85=>142|2=>2|168=>144|53=>155|175=>160|46=>162|210=>165|127=>110|145=>180|143=>178|21=>21|171=>154|173=>158|212=>172|51=>173|20=>20|213=>174|232=>189|233=>190|80=>79|n=>n,fun|15=>4|16=>5|17=>6|18=>9|19=>10|n=>n⟩
theorem Tryz.laysC172:Go.Proofs.LaysC.n172 Tryz.prog Tryz.laysC172_ren:={
 mixed:=by kernel_rfl
 f129:=Tryz.func248.trans (congrArg some (by kernel_rfl))
 f171:=Tryz.func119.trans (congrArg some (by kernel_rfl))
 f172:=Tryz.func131.trans (congrArg some (by kernel_rfl))
 f205:=Tryz.func238.trans (congrArg some (by kernel_rfl))
 f243:=Tryz.func179.trans (congrArg some (by kernel_rfl))
 f244:=Tryz.func185.trans (congrArg some (by kernel_rfl))
 f245:=Tryz.func186.trans (congrArg some (by kernel_rfl))
 f246:=Tryz.func213.trans (congrArg some (by kernel_rfl))
 f247:=Tryz.func214.trans (congrArg some (by kernel_rfl))
 f279:=Tryz.func215.trans (congrArg some (by kernel_rfl))
 f280:=Tryz.func216.trans (congrArg some (by kernel_rfl))
 f281:=Tryz.func217.trans (congrArg some (by kernel_rfl))
 f282:=Tryz.func218.trans (congrArg some (by kernel_rfl))
 f283:=Tryz.func232.trans (congrArg some (by kernel_rfl))
 f284:=Tryz.func233.trans (congrArg some (by kernel_rfl))
 f285:=Tryz.func234.trans (congrArg some (by kernel_rfl))
 f286:=Tryz.func235.trans (congrArg some (by kernel_rfl))
 f287:=Tryz.func236.trans (congrArg some (by kernel_rfl))
 f316:=Tryz.func237.trans (congrArg some (by kernel_rfl))
 f317:=Tryz.func247.trans (congrArg some (by kernel_rfl))
 f318:=Tryz.func249.trans (congrArg some (by kernel_rfl))
 f319:=Tryz.func250.trans (congrArg some (by kernel_rfl))
 f320:=Tryz.func251.trans (congrArg some (by kernel_rfl))
 f321:=Tryz.func252.trans (congrArg some (by kernel_rfl))
 f322:=Tryz.func253.trans (congrArg some (by kernel_rfl))
 f337:=Tryz.func262.trans (congrArg some (by kernel_rfl))
 f338:=Tryz.func263.trans (congrArg some (by kernel_rfl))
 t0:=Tryz.underlying0
 a0:=Tryz.isAgg0
 z0:=Tryz.sizeOf0
 v0:=Tryz.zeroValue0
 t2:=Tryz.underlying2
 a2:=Tryz.isAgg2
 z2:=Tryz.sizeOf2
 v2:=Tryz.zeroValue2
 t3:=Tryz.underlying3
 a3:=Tryz.isAgg3
 z3:=Tryz.sizeOf3
 v3:=Tryz.zeroValue3
 t4:=Tryz.underlying4
 a4:=Tryz.isAgg4
 z4:=Tryz.sizeOf4
 v4:=Tryz.zeroValue4
 t5:=Tryz.underlying5
 a5:=Tryz.isAgg5
 z5:=Tryz.sizeOf5
 v5:=Tryz.zeroValue5
 t9:=Tryz.underlying9
 a9:=Tryz.isAgg9
 z9:=Tryz.sizeOf9
 v9:=Tryz.zeroValue9
 t20:=Tryz.underlying20
 a20:=Tryz.isAgg20
 z20:=Tryz.sizeOf20
 v20:=Tryz.zeroValue20
 t21:=Tryz.underlying21
 a21:=Tryz.isAgg21
 z21:=Tryz.sizeOf21
 v21:=Tryz.zeroValue21
 t37:=Tryz.underlying83
 a37:=Tryz.isAgg83
 z37:=Tryz.sizeOf83
 v37:=Tryz.zeroValue83
 t46:=Tryz.underlying162
 a46:=Tryz.isAgg162
 z46:=Tryz.sizeOf162
 v46:=Tryz.zeroValue162
 t51:=Tryz.underlying173
 a51:=Tryz.isAgg173
 z51:=Tryz.sizeOf173
 v51:=Tryz.zeroValue173
 t53:=Tryz.underlying155
 a53:=Tryz.isAgg155
 z53:=Tryz.sizeOf155
 v53:=Tryz.zeroValue155
 t75:=Tryz.underlying88
 a75:=Tryz.isAgg88
 z75:=Tryz.sizeOf88
 v75:=Tryz.zeroValue88
 t76:=Tryz.underlying89
 a76:=Tryz.isAgg89
 z76:=Tryz.sizeOf89
 v76:=Tryz.zeroValue89
 t85:=Tryz.underlying142
 a85:=Tryz.isAgg142
 z85:=Tryz.sizeOf142
 v85:=Tryz.zeroValue142
 t127:=Tryz.underlying110
 a127:=Tryz.isAgg110
 z127:=Tryz.sizeOf110
 v127:=Tryz.zeroValue110
 t143:=Tryz.underlying178
 a143:=Tryz.isAgg178
 z143:=Tryz.sizeOf178
 v143:=Tryz.zeroValue178
 t145:=Tryz.underlying180
 a145:=Tryz.isAgg180
 z145:=Tryz.sizeOf180
 v145:=Tryz.zeroValue180
 t167:=Tryz.underlying141
 a167:=Tryz.isAgg141
 z167:=Tryz.sizeOf141
 v167:=Tryz.zeroValue141
 t168:=Tryz.underlying144
 a168:=Tryz.isAgg144
 z168:=Tryz.sizeOf144
 v168:=Tryz.zeroValue144
 t171:=Tryz.underlying154
 a171:=Tryz.isAgg154
 z171:=Tryz.sizeOf154
 v171:=Tryz.zeroValue154
 t173:=Tryz.underlying158
 a173:=Tryz.isAgg158
 z173:=Tryz.sizeOf158
 v173:=Tryz.zeroValue158
 t175:=Tryz.underlying160
 a175:=Tryz.isAgg160
 z175:=Tryz.sizeOf160
 v175:=Tryz.zeroValue160
 t210:=Tryz.underlying165
 a210:=Tryz.isAgg165
 z210:=Tryz.sizeOf165
 v210:=Tryz.zeroValue165
 t212:=Tryz.underlying172
 a212:=Tryz.isAgg172
 z212:=Tryz.sizeOf172
 v212:=Tryz.zeroValue172
 t213:=Tryz.underlying174
 a213:=Tryz.isAgg174
 z213:=Tryz.sizeOf174
 t232:=Tryz.underlying189
 a232:=Tryz.isAgg189
 z232:=Tryz.sizeOf189
 v232:=Tryz.zeroValue189
 t233:=Tryz.underlying190
 a233:=Tryz.isAgg190
 z233:=Tryz.sizeOf190
 v233:=Tryz.zeroValue190
 g15:=by kernel_rfl
 g16:=by kernel_rfl
 g17:=by kernel_rfl
 g18:=by kernel_rfl
 g19:=by kernel_rfl
 t80:=Tryz.underlying79
 a80:=Tryz.isAgg79
 z80:=Tryz.sizeOf79
 v80:=Tryz.zeroValue79
 i0:=by kernel_rfl
 i2:=by kernel_rfl
 i3:=by kernel_rfl
 i4:=by kernel_rfl
 i5:=by kernel_rfl
 i9:=by kernel_rfl
 i20:=by kernel_rfl
 i21:=by kernel_rfl
 i37:=by kernel_rfl
 i46:=by kernel_rfl
 i51:=by kernel_rfl
 i53:=by kernel_rfl
 i75:=by kernel_rfl
 i76:=by kernel_rfl
 i80:=by kernel_rfl
 i85:=by kernel_rfl
 i127:=by kernel_rfl
 i143:=by kernel_rfl
 i145:=by kernel_rfl
 i167:=by kernel_rfl
 i168:=by kernel_rfl
 i171:=by kernel_rfl
 i173:=by kernel_rfl
 i175:=by kernel_rfl
 i210:=by kernel_rfl
 i212:=by kernel_rfl
 i232:=by kernel_rfl
 i233:=by kernel_rfl
 m15:=by kernel_rfl
 m16:=by kernel_rfl
 m17:=by kernel_rfl
 m18:=by kernel_rfl
 m19:=by kernel_rfl
 c0:=by kernel_rfl
 c2:=by kernel_rfl
 c3:=by kernel_rfl
 c4:=by kernel_rfl
 c5:=by kernel_rfl
 c9:=by kernel_rfl
 c20:=by kernel_rfl
 c21:=by kernel_rfl
 c37:=by kernel_rfl
 c46:=by kernel_rfl
 c51:=by kernel_rfl
 c53:=by kernel_rfl
 c75:=by kernel_rfl
 c76:=by kernel_rfl
 c80:=by kernel_rfl
 c85:=by kernel_rfl
 c127:=by kernel_rfl
 c143:=by kernel_rfl
 c145:=by kernel_rfl
 c167:=by kernel_rfl
 c168:=by kernel_rfl
 c171:=by kernel_rfl
 c173:=by kernel_rfl
 c175:=by kernel_rfl
 c210:=by kernel_rfl
 c212:=by kernel_rfl
 c213:=by kernel_rfl
 c232:=by kernel_rfl
 c233:=by kernel_rfl}
open Go.RowKit in
theorem Tryz.strconv_Atoi_ok (s:ByteArray) (hmax:s.size≤9223372036854775806) (v:Int) (h:Lib.atoiAll s.data.toList=.ok v) (w:World):
 Calls Tryz.prog 131 #[.string s] w fun e w'=>e=.returned (.tuple #[.int .i64 v,.nilIface])∧(w'=w∨∃t,w'=Lib.bytesWorld w 5 t):=Any.strconv_Atoi_ok Tryz.laysC172 s hmax v h w
open Go.RowKit in
theorem Tryz.strconv_Atoi_range (s:ByteArray) (hlim:s.size≤281474976710656) (h:Lib.atoiAll s.data.toList=.range) (ev:Value) (w:World) (hv:w.cell? ⟨5,0,none⟩=some ev) (hev:ev=.nilIface∨∃te pe,ev=.iface te pe):
 Calls Tryz.prog 131 #[.string s] w fun e w'=>∃N,e=.returned (.tuple #[.int .i64 (Lib.atoiSat s.data.toList),.iface 144 (.pointer (some ⟨N,0,none⟩))])∧w.heap.size≤N∧w'.heap[N]? =some (.cells #[.string ⟨#[65,116,111,105]⟩,.string s,ev] 165 (0,0))∧Below w.heap.size w w':=Any.strconv_Atoi_range Tryz.laysC172 s hlim h ev w hv hev
def Tryz.lays99_ren:Go.Shelf.Ren:=⟨fun|99=>31|206=>60|n=>n,fun|9=>9|4=>4|3=>3|n=>n,fun|n=>n⟩
theorem Tryz.lays99:Go.Proofs.Lays.n99 Tryz.prog Tryz.lays99_ren:={
 mixed:=by kernel_rfl
 f99:=Tryz.func31.trans (congrArg some (by kernel_rfl))
 f206:=Tryz.func60.trans (congrArg some (by kernel_rfl))
 t3:=Tryz.underlying3
 a3:=Tryz.isAgg3
 z3:=Tryz.sizeOf3
 v3:=Tryz.zeroValue3
 t4:=Tryz.underlying4
 a4:=Tryz.isAgg4
 z4:=Tryz.sizeOf4
 v4:=Tryz.zeroValue4
 t9:=Tryz.underlying9
 a9:=Tryz.isAgg9
 z9:=Tryz.sizeOf9
 v9:=Tryz.zeroValue9}
open Go.RowKit Go.Lib in
theorem Tryz.strings_HasPrefix (s p:ByteArray) (w:World):
 Calls Tryz.prog 31 #[.string s,.string p] w fun e w'=>e=.returned (.bool (Lib.hasPrefix s.data.toList p.data.toList))∧w'=w:=Any.strings_HasPrefix Tryz.lays99 s p w
theorem YH (s:ByteArray) (i:Nat) (h:i<s.size):(s.get! i).toNat=aK s i:=by
 have:=get_at s i h
 rw[mO h,←this];rfl
theorem EN (p:Nat→Bool) (s:ByteArray):∀(f i:Nat),pF p s f i<i+f→p (aK s (pF p s f i))=false
 |0,i,h=>by rw[pF] at h;omega
 |f+1,i,h=>by
  rw[pF] at h⊢
  split
  ·rename_i hp
   rw[if_pos hp] at h
   exact EN p s f (i+1) (by omega)
  ·rename_i hp
   simpa using hp
theorem xS (p:Nat→Bool) (s:ByteArray) (i:Nat) (hl:aH p s i<s.size):p (aK s (aH p s i))=false:=by
 have hge:=qE p s i
 exact EN p s _ i (by unfold aH at hl hge;omega)
theorem ou {p:Nat→Bool} {s:ByteArray} {i e:Nat} (hie:i≤e) (hes:e≤s.size) (hall:∀j,i≤j→j<e→p (aK s j)=true) (hst:e<s.size→p (aK s e)=false):aH p s i=e:=by
 have h1:=iI p s i (by omega)
 have h2:=qE p s i
 rcases Nat.lt_trichotomy (aH p s i) e with h|h|h
 ·have a:=xS p s i (by omega)
  rw[hall _ h2 h] at a
  cases a
 ·exact h
 ·have a:=lV p s i e hie h
  rw[hst (by omega)] at a
  cases a
theorem uP {s:ByteArray} {p:Nat} (hp:p<s.size) (h:aK s p<128):Utf8.decode s p=(aK s p,1):=by
 rw[mO hp] at h⊢;exact decode_ascii s p hp h
theorem TH {s:ByteArray} {p:Nat} (hp:p<s.size) (h:128≤aK s p):128≤(Utf8.decode s p).1:=by
 rw[mO hp] at h;exact(decode_high s p hp h).1
theorem ow (s:ByteArray) (p:Nat) (hp:p<s.size):1≤(Utf8.decode s p).2∧p+(Utf8.decode s p).2≤s.size∧∀k,1≤k→k<(Utf8.decode s p).2→128≤aK s (p+k):=by
 have key:∀k,(decide (p+k<s.size)&&(s.get! (p+k)).toNat/64==2)=true→p+k<s.size∧128≤aK s (p+k):=by
  intro k hk
  simp only[Bool.and_eq_true,decide_eq_true_eq,beq_iff_eq] at hk
  rw[YH s _ hk.1] at hk
  exact⟨hk.1,by omega⟩
 have one':∀c:Nat,1≤((c,1):Nat × Nat).2∧p+((c,1):Nat × Nat).2≤s.size∧∀k,1≤k→k<((c,1):Nat × Nat).2→128≤aK s (p+k):=
  fun c=>⟨Nat.le_refl _,hp,fun k h1 h2=>absurd h2 (by simp;omega)⟩
 unfold Utf8.decode
 simp only
 split
 ·exact one' _
 ·split
  ·rename_i h1
   simp only[Bool.and_eq_true] at h1
   have k1:=key 1 (by simpa using h1.2)
   split
   ·exact⟨by simp,by simp;omega,fun k a b=>by have:k=1:=(by simp at b;omega);subst this;exact k1.2⟩
   ·exact one' _
  ·split
   ·rename_i h1
    simp only[Bool.and_eq_true] at h1
    have k1:=key 1 (by simpa using h1.1.2)
    have k2:=key 2 (by simpa using h1.2)
    split
    ·exact⟨by simp,by simp;omega,fun k a b=>by
      have:k=1∨k=2:=by simp at b;omega
      rcases this with rfl|rfl
      ·exact k1.2
      ·exact k2.2⟩
    ·exact one' _
   ·split
    ·rename_i h1
     simp only[Bool.and_eq_true] at h1
     have k1:=key 1 (by simpa using h1.1.1.2)
     have k2:=key 2 (by simpa using h1.1.2)
     have k3:=key 3 (by simpa using h1.2)
     split
     ·exact⟨by simp,by simp;omega,fun k a b=>by
       have:k=1∨k=2∨k=3:=by simp at b;omega
       rcases this with rfl|rfl|rfl
       ·exact k1.2
       ·exact k2.2
       ·exact k3.2⟩
     ·exact one' _
    ·exact one' _
theorem Oo {s:ByteArray} {p q:Nat} (hpq:p<q) (hq:q<s.size) (hb:aK s q<128):p+(Utf8.decode s p).2≤q:=by
 obtain⟨_,_,h⟩:=ow s p (by omega)
 rcases Nat.lt_or_ge q (p+(Utf8.decode s p).2) with hl|hl
 ·have:=h (q - p) (by omega) (by omega)
  rw[show p+(q - p)=q by omega] at this
  omega
 ·exact hl
theorem ext_size (s:ByteArray) (i j:Nat) (h:j≤s.size):(s.extract i j).size=j - i:=by
 rw[ByteArray.size_extract];omega
theorem yH (s:ByteArray) (i j k:Nat) (h:j≤s.size) (hk:k<j - i):aK (s.extract i j) k=aK s (i+k):=by
 have h1:k<(s.extract i j).size:=by rw[ext_size s i j h];exact hk
 rw[mO h1,mO (show i+k<s.size by omega)]
 rw[ByteArray.getElem_extract]
theorem kY (s:ByteArray) (i k:Nat):aK (s.extract i s.size) k=aK s (i+k):=by
 by_cases h:k<s.size - i
 ·exact yH s i s.size k (Nat.le_refl _) h
 ·rw[qO (by rw[ext_size s i s.size (Nat.le_refl _)];exact h),qO (by omega)]
theorem M0 (s:ByteArray) (i k:Nat) (h:i+k≤s.size):(s.extract i s.size).extract 0 k=s.extract i (i+k):=by
 rw[Lib.extract_eq,Lib.extract_data,Lib.extract_eq s i (i+k)]
 congr 2
 have hl:s.data.toList.length=s.size:=by simp
 rw[List.drop_zero,List.take_take]
 congr 1
 omega
theorem uh (p:Nat→Bool) (s:ByteArray) (i k:Nat) (h:i+k≤s.size):i+aH p (s.extract i s.size) k=aH p s (i+k):=by
 have hsz:=ext_size s i s.size (Nat.le_refl _)
 have hle:=iI p (s.extract i s.size) k (by omega)
 have hge:=qE p (s.extract i s.size) k
 symm
 refine ou (by omega) (by omega) (fun j hj hl=>?_) (fun hl=>?_)
 ·have:=lV p (s.extract i s.size) k (j - i) (by omega) (by omega)
  rw[kY,show i+(j - i)=j by omega] at this
  exact this
 ·have:=xS p (s.extract i s.size) k (by omega)
  rw[kY] at this
  exact this
theorem EO (s:ByteArray) (i j:Nat) (h:j≤s.size):∀m,m≤j - i→dV (s.extract i j) 0 m=dV s i m
 |0,_=>rfl
 |m+1,hm=>by
  show dV (s.extract i j) 0 m*10+(aK (s.extract i j) (0+m) - 48)=dV s i m*10+(aK s (i+m) - 48)
  rw[EO s i j h m (by omega),Nat.zero_add,yH s i j m h (by omega)]
theorem CB (s:ByteArray) (i:Nat):∀m,dV (s.extract i s.size) 0 m=dV s i m
 |0=>rfl
 |m+1=>by
  show dV (s.extract i s.size) 0 m*10+(aK (s.extract i s.size) (0+m) - 48)=dV s i m*10+(aK s (i+m) - 48)
  rw[CB s i m,Nat.zero_add,kY]
def nX (t:ByteArray):Bool:=bV (aK t 0)||dL (aK t 0)||(aK t 0==39&&dL (aK t 1))
def plain (t:ByteArray):One:=if nX t then one t 0 else⟨0,0,0,0⟩
def gD (t:ByteArray):ByteArray:=if(plain t).kind≤1 then⟨#[]⟩ else t.extract 0 (plain t).stop
theorem Kq (s:ByteArray) (i:Nat) (hi:i<s.size) (hp:nX (s.extract i s.size)=true):
 (one (s.extract i s.size) 0).err=(one s i).err∧(one (s.extract i s.size) 0).kind=(one s i).kind∧(one (s.extract i s.size) 0).n=(one s i).n∧
  ((one s i).err=0→i+(one (s.extract i s.size) 0).stop=(one s i).stop)∧((one s i).err≠0→one (s.extract i s.size) 0=⟨3,0,0,0⟩)∧((one s i).err=0→1≤(one s i).kind∧(one s i).kind≤4):=by
 have b0:aK (s.extract i s.size) 0=aK s i:=kY s i 0
 have b1:aK (s.extract i s.size) 1=aK s (i+1):=kY s i 1
 cases hd:bV (aK s i)
 ·cases hl:dL (aK s i)
  ·have oq:aK s i=39∧dL (aK s (i+1))=true:=by
    simp[nX,b0,b1,hd,hl] at hp;exact hp
   have hi1:i+1<s.size:=by
    rcases Nat.lt_or_ge (i+1) s.size with h|h
    ·exact h
    ·have:=oq.2;rw[qO (by omega)] at this;simp[dL] at this
   have hr:=uh bq s i 1 (by omega)
   have hge:=qE bq s (i+1)
   rw[uF (s:=s.extract i s.size) (by rw[b0];exact oq.1) (by rw[Nat.zero_add,b1];exact oq.2),uF oq.1 oq.2,Nat.zero_add]
   by_cases h21:21<aH bq s (i+1) - i
   ·rw[if_pos h21,if_pos (by omega)];simp
   ·rw[if_neg h21,if_neg (by omega)];simp;exact hr
  ·have hr:=uh bq s i 0 (by omega)
   rw[Nat.add_zero] at hr
   have hle:=iI bq s i (by omega)
   rw[pG (s:=s.extract i s.size) (by rw[b0];exact hl),pG hl,M0 s i _ (by omega),hr]
   cases hw:isWord (s.extract i (aH bq s i)).toList
   ·by_cases h20:20<aH bq s i - i
    ·rw[if_neg (by simp),if_pos (by omega),if_neg (by simp),if_pos h20];simp
    ·rw[if_neg (by simp),if_neg (by omega),if_neg (by simp),if_neg h20];simp;exact hr
   ·rw[if_pos rfl,if_pos rfl];simp;exact hr
 ·have hr:=uh bV s i 0 (by omega)
  rw[Nat.add_zero] at hr
  rw[sD (s:=s.extract i s.size) (by rw[b0];exact hd),sD hd,Nat.sub_zero,CB,show aH bV (s.extract i s.size) 0=aH bV s i - i by omega]
  by_cases hm:dV s i (aH bV s i - i)≤9223372036854775807
  ·rw[if_pos hm,if_pos hm];simp;omega
  ·rw[if_neg hm,if_neg hm];simp
def nY (acc:Nat):List UInt8→Nat
 |[]=>acc
 |c::r=>nY (acc*10+(c.toNat - 48)) r
theorem EP:∀(l:List UInt8) (acc:Nat),acc≤nY acc l
 |[],acc=>Nat.le_refl _
 |c::r,acc=>by have:=EP r (acc*10+(c.toNat - 48));show acc≤nY _ r;omega
theorem GY:∀(l:List UInt8) (acc:Nat),acc<18446744073709551616→(∀c∈l,48≤c.toNat∧c.toNat≤57)→Lib.parseUint10 acc l=if nY acc l<18446744073709551616 then .ok (nY acc l) else .range
 |[],acc,h,_=>by rw[show nY acc []=acc from rfl,if_pos h,Lib.parseUint10]
 |c::r,acc,h,hd=>by
  have hc:=hd c (List.mem_cons_self ..)
  have hg:=EP r (acc*10+(c.toNat - 48))
  rw[Lib.parseUint10,if_pos hc]
  rw[show nY acc (c::r)=nY (acc*10+(c.toNat - 48)) r from rfl]
  by_cases h1:1844674407370955162≤acc
  ·rw[if_pos h1,if_neg (by omega)]
  ·rw[if_neg h1]
   by_cases h2:18446744073709551616≤acc*10+(c.toNat - 48)
   ·rw[if_pos h2,if_neg (by omega)]
   ·rw[if_neg h2,GY r _ (by omega) (fun x hx=>hd x (List.mem_cons_of_mem _ hx))]
theorem Bj:∀(l:List UInt8) (acc:Nat) (c:UInt8),nY acc (l++[c])=nY acc l*10+(c.toNat - 48)
 |[],_,_=>rfl
 |_::r,_,c=>Bj r _ c
theorem CF (d:ByteArray):∀m,m≤d.size→nY 0 (d.data.toList.take m)=dV d 0 m
 |0,_=>rfl
 |m+1,h=>by
  have hm:m<d.size:=h
  rw[List.take_succ_eq_append_getElem (by simpa using hm),Bj,CF d m (by omega)]
  show _=dV d 0 m*10+(aK d (0+m) - 48)
  rw[Nat.zero_add,mO hm]
  rfl
theorem CG (d:ByteArray) (h0:0<d.size) (hd:∀j,j<d.size→bV (aK d j)=true):
 Lib.atoiAll d.data.toList=if dV d 0 d.size≤9223372036854775807 then .ok (dV d 0 d.size:Nat) else .range:=by
 have hall:∀c∈d.data.toList,48≤c.toNat∧c.toNat≤57:=by
  intro c hc
  obtain⟨j,hj,rfl⟩:=List.getElem_of_mem hc
  have hj':j<d.size:=by simpa using hj
  have:=hd j hj'
  rw[mO hj'] at this
  have h2:48≤(d[j]'hj').toNat∧(d[j]'hj').toNat≤57:=by simpa[bV] using this
  exact h2
 have hn:nY 0 d.data.toList=dV d 0 d.size:=by
  have:=CF d d.size (Nat.le_refl _)
  rwa [List.take_of_length_le (by simp)] at this
 match hl:d.data.toList with
 |[]=>
  have:d.data.toList.length=d.size:=by simp
  rw[hl] at this;simp at this;omega
 |c::r=>
  rw[hl] at hall hn
  have hc:=hall c (List.mem_cons_self ..)
  rw[Lib.atoiAll]
  rw[if_neg (by omega),Lib.parseMag,if_neg (by simp),GY _ 0 (by omega) hall,hn]
  by_cases h1:dV d 0 d.size≤9223372036854775807
  ·rw[if_pos h1,if_pos (by omega)]
   simp only
   rw[if_neg (by omega),if_neg (by omega),if_neg (by omega)]
  ·rw[if_neg h1]
   by_cases h2:dV d 0 d.size<18446744073709551616
   ·rw[if_pos h2]
    simp only
    rw[if_pos (by omega)]
   ·rw[if_neg h2]
theorem yT (c:Nat) (w:World):Calls Tryz.prog 27 #[.int .i32 c] w fun e w'=>e=.returned (.bool (iH c))∧w'=w:=by
 rcases(show c=32∨c=9∨c=10∨(c≠32∧c≠9∧c≠10) by omega) with rfl|rfl|rfl|⟨h1,h2,h3⟩
 ·go_enter Tryz.func27,Tryz.ntmps27
  go_wp2
  go_ret
  exact⟨rfl,rfl⟩
 ·go_enter Tryz.func27,Tryz.ntmps27
  go_wp2
  go_ret
  exact⟨rfl,rfl⟩
 ·go_enter Tryz.func27,Tryz.ntmps27
  go_wp2
  go_ret
  exact⟨rfl,rfl⟩
 ·have b1:((c:Int)==32)=false:=by simp;omega
  have b2:((c:Int)==9)=false:=by simp;omega
  have b3:((c:Int)==10)=false:=by simp;omega
  have e:iH c=false:=by simp[iH];omega
  have HE:=@aG _ @e
  clear e h1 h2 h3
  go_enter Tryz.func27,Tryz.ntmps27
  go_wp2
  go_ret
  exact⟨by rw[HE.out];rfl,rfl⟩
theorem Kt (c:Nat) (w:World):Calls Tryz.prog 29 #[.int .i32 c] w fun e w'=>e=.returned (.bool (kK c))∧w'=w:=by
 go_enter Tryz.func29,Tryz.ntmps29
 go_wp2
 go_ret
 exact⟨uE (by rw[kK,Bool.eq_iff_iff];simp;omega),rfl⟩
theorem yU (c:Nat) (w:World):Calls Tryz.prog 55 #[.int .i32 c] w fun e w'=>e=.returned (.bool (bV c))∧w'=w:=by
 rcases(show(48:Int)≤c∧(c:Int)≤57∨(57:Int)<c∨(c:Int)<48 by omega) with⟨h1,h2⟩|h1|h1
 all_goals
  go_enter Tryz.func55,Tryz.ntmps55
  go_wp2
  go_ret
  exact⟨uE (by first|(rw[show bV c=true by simp only[bV,decide_eq_true_eq];omega];done)|(rw[show bV c=false by simp only[bV,decide_eq_false_iff_not];omega];done)|(rw[show bV c=false by simp only[bV,decide_eq_false_iff_not];omega];simp;omega)),rfl⟩
theorem letter32 (c:Nat) (w:World):Calls Tryz.prog 132 #[.int .i32 c] w fun e w'=>e=.returned (.bool (dL c))∧w'=w:=by
 rcases(show(97:Int)≤c∧(c:Int)≤122∨(122:Int)<c∨(65:Int)≤c∧(c:Int)≤90∨(90:Int)<c∧(c:Int)<97∨(c:Int)<65 by omega) with⟨h1,h2⟩|h1|⟨h1,h2⟩|⟨h1,h2⟩|h1
 all_goals
  go_enter Tryz.func132,Tryz.ntmps132
  go_wp2
  go_ret
  exact⟨uE (by first|(rw[show dL c=true by simp only[dL,decide_eq_true_eq];omega];done)|(rw[show dL c=false by simp only[dL,decide_eq_false_iff_not];omega];first|done|rfl|(simp;omega))),rfl⟩
theorem Ku (c:Nat) (w:World):Calls Tryz.prog 133 #[.int .i32 c] w fun e w'=>e=.returned (.bool (bq c))∧w'=w:=by
 cases hl:dL c
 ·cases hd:bV c
  ·go_enter Tryz.func133,Tryz.ntmps133
   go_wp2_with (first|(go_at_call 132;refine(letter32 _ _).mono ?_;rintro e w' ⟨rfl,rfl⟩)|(go_at_call 55;refine(yU _ _).mono ?_;rintro e w' ⟨rfl,rfl⟩))
   go_ret
   exact⟨uE (by rw[bq,hl,hd,Bool.eq_iff_iff];simp;omega),rfl⟩
  ·go_enter Tryz.func133,Tryz.ntmps133
   go_wp2_with (first|(go_at_call 132;refine(letter32 _ _).mono ?_;rintro e w' ⟨rfl,rfl⟩)|(go_at_call 55;refine(yU _ _).mono ?_;rintro e w' ⟨rfl,rfl⟩))
   go_ret
   exact⟨uE (by rw[bq,hl,hd];rfl),rfl⟩
 ·go_enter Tryz.func133,Tryz.ntmps133
  go_wp2_with (first|(go_at_call 132;refine(letter32 _ _).mono ?_;rintro e w' ⟨rfl,rfl⟩)|(go_at_call 55;refine(yU _ _).mono ?_;rintro e w' ⟨rfl,rfl⟩))
  go_ret
  exact⟨uE (by rw[bq,hl];rfl),rfl⟩
theorem wX {p:Nat→Bool} {b:Bool} (hp:∀c,128≤c→p c=b) {s:ByteArray} {q:Nat} (hq:q<s.size):p (Utf8.decode s q).1=p (aK s q):=by
 by_cases h:aK s q<128
 ·rw[uP hq h]
 ·rw[hp _ (TH hq (by omega)),hp _ (by omega)]
theorem BR {p:Nat→Bool} {b:Bool} (hp:∀c,128≤c→p c=b) {s:ByteArray} {q:Nat} (hq:q<s.size) (ht:p (aK s q)=true) (hall:∀j,j<q→p (aK s j)=true):∀j,j<q+(Utf8.decode s q).2→p (aK s j)=true:=by
 intro j hj
 rcases Nat.lt_trichotomy j q with h|h|h
 ·exact hall j h
 ·rw[h];exact ht
 ·by_cases hb:aK s q<128
  ·rw[uP hq hb] at hj;simp at hj;omega
  ·have h1:=(ow s q hq).2.2 (j - q) (by omega) (by omega)
   rw[show q+(j - q)=j by omega] at h1
   rw[hp _ h1,←hp _ (show 128≤aK s q by omega),ht]
theorem BS:∀c,128≤c→bV c=false:=fun c h=>by simp only[bV,decide_eq_false_iff_not];omega
theorem FL:∀c,128≤c→dL c=false:=fun c h=>by simp only[dL,decide_eq_false_iff_not];omega
theorem FM:∀c,128≤c→bq c=false:=fun c h=>by simp[bq,BS c h,FL c h];omega
theorem M7:∀c,128≤c→kK c=true:=fun c h=>by simp[kK];omega
theorem zT (s:ByteArray) (w:World) (_hs:s.size≤6000):Calls Tryz.prog 28 #[.string s,.func (.func 55) #[] #[]] w fun e w'=>e=.returned (.int .i64 (aH bV s 0))∧Below w.heap.size w w':=by
 go_enter Tryz.func28,Tryz.ntmps28
 go_wp2_with fail
 go_loopw [5] (fun _ w'=>∃q:Nat,w'=w.iter s q∧q≤s.size∧∀j,j<q→bV (aK s j)=true) (fun _ w'=>s.size - w'.iterPos w.heap.size)
 case atStart=>exact⟨0,rfl,Nat.zero_le _,fun j hj=>absurd hj (by omega)⟩
 case round=>
  obtain⟨q,rfl,hq,hall⟩:=hrel
  have HA:=@aG _ @hall
  clear hall
  by_cases hlt:q<s.size
  ·have hnx:∀ty,(Instr.next (.pointer (some ⟨w.heap.size,0,none⟩)) true ty).run Tryz.prog (w.iter s q)=_:=fun ty=>run_next_any w s q ty hlt
   have hd:=ow s q hlt
   obtain⟨hd1,hd2,_⟩:=hd
   have HS:Hid (bV (Utf8.decode s q).1=bV (aK s q)):=wX BS hlt
   cases hp:bV (Utf8.decode s q).1
   ·go_wp2_with (go_at_call 55;refine(yU _ _).mono ?_;rintro e w' ⟨rfl,rfl⟩)
    go_ret
    refine⟨su ?_,(Below.refl _ _).alloc (Nat.le_refl _) _⟩
    rw[ou (Nat.zero_le q) hq (fun j _ hj=>HA.out j hj) (fun _=>by rw[←HS.out];exact hp)]
   ·go_wp2_with (go_at_call 55;refine(yU _ _).mono ?_;rintro e w' ⟨rfl,rfl⟩)
    go_roundw
    case rel=>exact⟨_,rfl,hd2,BR BS hlt (by rw[←HS.out];exact hp) HA.out⟩
    case measure=>simp;omega
  ·have hnx:∀ty,(Instr.next (.pointer (some ⟨w.heap.size,0,none⟩)) true ty).run Tryz.prog (w.iter s q)=_:=fun ty=>run_next_end w s q ty hlt
   go_wp2_with fail
   go_ret
   refine⟨su ?_,(Below.refl _ _).alloc (Nat.le_refl _) _⟩
   rw[ou (Nat.zero_le q) hq (fun j _ hj=>HA.out j hj) (fun h=>absurd h hlt),show q=s.size by omega]
theorem Kv (s:ByteArray) (w:World) (_hs:s.size≤6000):Calls Tryz.prog 28 #[.string s,.func (.func 132) #[] #[]] w fun e w'=>e=.returned (.int .i64 (aH dL s 0))∧Below w.heap.size w w':=by
 go_enter Tryz.func28,Tryz.ntmps28
 go_wp2_with fail
 go_loopw [5] (fun _ w'=>∃q:Nat,w'=w.iter s q∧q≤s.size∧∀j,j<q→dL (aK s j)=true) (fun _ w'=>s.size - w'.iterPos w.heap.size)
 case atStart=>exact⟨0,rfl,Nat.zero_le _,fun j hj=>absurd hj (by omega)⟩
 case round=>
  obtain⟨q,rfl,hq,hall⟩:=hrel
  have HA:=@aG _ @hall
  clear hall
  by_cases hlt:q<s.size
  ·have hnx:∀ty,(Instr.next (.pointer (some ⟨w.heap.size,0,none⟩)) true ty).run Tryz.prog (w.iter s q)=_:=fun ty=>run_next_any w s q ty hlt
   have hd:=ow s q hlt
   obtain⟨hd1,hd2,_⟩:=hd
   have HS:Hid (dL (Utf8.decode s q).1=dL (aK s q)):=wX FL hlt
   cases hp:dL (Utf8.decode s q).1
   ·go_wp2_with (go_at_call 132;refine(letter32 _ _).mono ?_;rintro e w' ⟨rfl,rfl⟩)
    go_ret
    refine⟨su ?_,(Below.refl _ _).alloc (Nat.le_refl _) _⟩
    rw[ou (Nat.zero_le q) hq (fun j _ hj=>HA.out j hj) (fun _=>by rw[←HS.out];exact hp)]
   ·go_wp2_with (go_at_call 132;refine(letter32 _ _).mono ?_;rintro e w' ⟨rfl,rfl⟩)
    go_roundw
    case rel=>exact⟨_,rfl,hd2,BR FL hlt (by rw[←HS.out];exact hp) HA.out⟩
    case measure=>simp;omega
  ·have hnx:∀ty,(Instr.next (.pointer (some ⟨w.heap.size,0,none⟩)) true ty).run Tryz.prog (w.iter s q)=_:=fun ty=>run_next_end w s q ty hlt
   go_wp2_with fail
   go_ret
   refine⟨su ?_,(Below.refl _ _).alloc (Nat.le_refl _) _⟩
   rw[ou (Nat.zero_le q) hq (fun j _ hj=>HA.out j hj) (fun h=>absurd h hlt),show q=s.size by omega]
theorem TI (s:ByteArray) (w:World) (_hs:s.size≤6000):Calls Tryz.prog 28 #[.string s,.func (.func 133) #[] #[]] w fun e w'=>e=.returned (.int .i64 (aH bq s 0))∧Below w.heap.size w w':=by
 go_enter Tryz.func28,Tryz.ntmps28
 go_wp2_with fail
 go_loopw [5] (fun _ w'=>∃q:Nat,w'=w.iter s q∧q≤s.size∧∀j,j<q→bq (aK s j)=true) (fun _ w'=>s.size - w'.iterPos w.heap.size)
 case atStart=>exact⟨0,rfl,Nat.zero_le _,fun j hj=>absurd hj (by omega)⟩
 case round=>
  obtain⟨q,rfl,hq,hall⟩:=hrel
  have HA:=@aG _ @hall
  clear hall
  by_cases hlt:q<s.size
  ·have hnx:∀ty,(Instr.next (.pointer (some ⟨w.heap.size,0,none⟩)) true ty).run Tryz.prog (w.iter s q)=_:=fun ty=>run_next_any w s q ty hlt
   have hd:=ow s q hlt
   obtain⟨hd1,hd2,_⟩:=hd
   have HS:Hid (bq (Utf8.decode s q).1=bq (aK s q)):=wX FM hlt
   cases hp:bq (Utf8.decode s q).1
   ·go_wp2_with (go_at_call 133;refine(Ku _ _).mono ?_;rintro e w' ⟨rfl,rfl⟩)
    go_ret
    refine⟨su ?_,(Below.refl _ _).alloc (Nat.le_refl _) _⟩
    rw[ou (Nat.zero_le q) hq (fun j _ hj=>HA.out j hj) (fun _=>by rw[←HS.out];exact hp)]
   ·go_wp2_with (go_at_call 133;refine(Ku _ _).mono ?_;rintro e w' ⟨rfl,rfl⟩)
    go_roundw
    case rel=>exact⟨_,rfl,hd2,BR FM hlt (by rw[←HS.out];exact hp) HA.out⟩
    case measure=>simp;omega
  ·have hnx:∀ty,(Instr.next (.pointer (some ⟨w.heap.size,0,none⟩)) true ty).run Tryz.prog (w.iter s q)=_:=fun ty=>run_next_end w s q ty hlt
   go_wp2_with fail
   go_ret
   refine⟨su ?_,(Below.refl _ _).alloc (Nat.le_refl _) _⟩
   rw[ou (Nat.zero_le q) hq (fun j _ hj=>HA.out j hj) (fun h=>absurd h hlt),show q=s.size by omega]
theorem TJ (s:ByteArray) (w:World) (_hs:s.size≤6000):Calls Tryz.prog 28 #[.string s,.func (.func 29) #[] #[]] w fun e w'=>e=.returned (.int .i64 (aH kK s 0))∧Below w.heap.size w w':=by
 go_enter Tryz.func28,Tryz.ntmps28
 go_wp2_with fail
 go_loopw [5] (fun _ w'=>∃q:Nat,w'=w.iter s q∧q≤s.size∧∀j,j<q→kK (aK s j)=true) (fun _ w'=>s.size - w'.iterPos w.heap.size)
 case atStart=>exact⟨0,rfl,Nat.zero_le _,fun j hj=>absurd hj (by omega)⟩
 case round=>
  obtain⟨q,rfl,hq,hall⟩:=hrel
  have HA:=@aG _ @hall
  clear hall
  by_cases hlt:q<s.size
  ·have hnx:∀ty,(Instr.next (.pointer (some ⟨w.heap.size,0,none⟩)) true ty).run Tryz.prog (w.iter s q)=_:=fun ty=>run_next_any w s q ty hlt
   have hd:=ow s q hlt
   obtain⟨hd1,hd2,_⟩:=hd
   have HS:Hid (kK (Utf8.decode s q).1=kK (aK s q)):=wX M7 hlt
   cases hp:kK (Utf8.decode s q).1
   ·go_wp2_with (go_at_call 29;refine(Kt _ _).mono ?_;rintro e w' ⟨rfl,rfl⟩)
    go_ret
    refine⟨su ?_,(Below.refl _ _).alloc (Nat.le_refl _) _⟩
    rw[ou (Nat.zero_le q) hq (fun j _ hj=>HA.out j hj) (fun _=>by rw[←HS.out];exact hp)]
   ·go_wp2_with (go_at_call 29;refine(Kt _ _).mono ?_;rintro e w' ⟨rfl,rfl⟩)
    go_roundw
    case rel=>exact⟨_,rfl,hd2,BR M7 hlt (by rw[←HS.out];exact hp) HA.out⟩
    case measure=>simp;omega
  ·have hnx:∀ty,(Instr.next (.pointer (some ⟨w.heap.size,0,none⟩)) true ty).run Tryz.prog (w.iter s q)=_:=fun ty=>run_next_end w s q ty hlt
   go_wp2_with fail
   go_ret
   refine⟨su ?_,(Below.refl _ _).alloc (Nat.le_refl _) _⟩
   rw[ou (Nat.zero_le q) hq (fun j _ hj=>HA.out j hj) (fun h=>absurd h hlt),show q=s.size by omega]
end Go.Proofs.YtdplogkmkgekdaaGreatDoor
