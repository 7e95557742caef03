/- The document's own lexer, function by function: each answers what the plain mathematics says. -/
import Derived.Test.YtdplogkmkgekdaaGreatDoorProg
import Derived.WalkKit
import Derived.WalkLawsBesides
import Derived.WalkSpells
import Derived.Outline
import Derived.Laws.RangeAny
import Derived.Lib.Strings
set_option linter.all false
set_option maxRecDepth 100000
set_option maxHeartbeats 4000000
namespace Go.Proofs.YtdplogkmkgekdaaGreatDoor
open Go.RowKit
def wordsB:List ByteArray:=[⟨#[109,111,100]⟩,⟨#[117,115,101]⟩,⟨#[112,117,98]⟩,⟨#[99,111,112,121]⟩,⟨#[115,116,114,117,99,116]⟩,⟨#[101,110,117,109]⟩,⟨#[116,114,97,105,116]⟩,⟨#[105,109,112,108]⟩,⟨#[102,111,114]⟩,⟨#[102,110]⟩,⟨#[108,101,116]⟩,⟨#[109,117,116]⟩,⟨#[105,102]⟩,⟨#[101,108,115,101]⟩,⟨#[109,97,116,99,104]⟩,⟨#[119,104,105,108,101]⟩,⟨#[108,111,111,112]⟩,⟨#[98,114,101,97,107]⟩,⟨#[110,101,120,116]⟩,⟨#[114,101,116,117,114,110]⟩,⟨#[112,97,110,105,99]⟩,⟨#[109,97,107,101]⟩,⟨#[114,101,102]⟩,⟨#[111,110,99,101]⟩,⟨#[115,112,97,119,110]⟩,⟨#[116,114,117,101]⟩,⟨#[102,97,108,115,101]⟩,⟨#[105,110,116]⟩,⟨#[98,111,111,108]⟩]
def isWord (l:List UInt8):Bool:=wordsB.any fun b=>l==b.toList
theorem word10 (s:ByteArray) (w:World):Calls Tryz.prog 97 #[.string s] w fun e w'=>e=.returned (.bool (isWord s.toList))∧w'=w:=by
 go_enter Tryz.func97,Tryz.ntmps97
 go_wp2_with fail
 all_goals first|(exfalso;simp_all;done)|(go_ret;refine⟨?_,rfl⟩;simp[isWord,wordsB, *])
end Go.Proofs.YtdplogkmkgekdaaGreatDoor
namespace Go.Proofs.YtdplogkmkgekdaaGreatDoor
def bat (s:ByteArray) (i:Nat):Nat:=if h:i<s.size then(s[i]'h).toNat else 0
theorem bat_eq {s:ByteArray} {i:Nat} (h:i<s.size):bat s i=(s[i]'h).toNat:=by simp[bat,h]
theorem bat_out {s:ByteArray} {i:Nat} (h:¬i<s.size):bat s i=0:=by simp[bat,h]
def digN (c:Nat):Bool:=decide (48≤c∧c≤57)
def letN (c:Nat):Bool:=decide (97≤c∧c≤122∨65≤c∧c≤90)
def namN (c:Nat):Bool:=letN c||digN c||c==95
def remN (c:Nat):Bool:=c !=10
def blankN (c:Nat):Bool:=c==32||c==9||c==10
def runGo (p:Nat→Bool) (s:ByteArray):Nat→Nat→Nat
 |0,i=>i
 |f+1,i=>if p (bat s i) then runGo p s f (i+1) else i
def runEnd (p:Nat→Bool) (s:ByteArray) (i:Nat):Nat:=runGo p s (s.size - i) i
theorem runEnd_go {p:Nat→Bool} {s:ByteArray} {i:Nat} (h:i<s.size) (hp:p (bat s i)=true):runEnd p s i=runEnd p s (i+1):=by
 unfold runEnd
 rw[show s.size - i=(s.size - (i+1))+1 by omega,runGo,if_pos hp]
theorem runEnd_no {p:Nat→Bool} {s:ByteArray} {i:Nat} (hp:p (bat s i)=false):runEnd p s i=i:=by
 unfold runEnd
 cases s.size - i with
 |zero=>rfl
 |succ f=>rw[runGo,if_neg (by simp[hp])]
theorem runEnd_end {p:Nat→Bool} {s:ByteArray} {i:Nat} (h:¬i<s.size):runEnd p s i=i:=by
 unfold runEnd
 rw[show s.size - i=0 by omega,runGo]
theorem runGo_ge (p:Nat→Bool) (s:ByteArray):∀(f i:Nat),i≤runGo p s f i
 |0,_=>Nat.le_refl _
 |f+1,i=>by
  rw[runGo]
  split
  ·have:=runGo_ge p s f (i+1);omega
  ·exact Nat.le_refl _
theorem runGo_le (p:Nat→Bool) (s:ByteArray):∀(f i:Nat),runGo p s f i≤i+f
 |0,_=>Nat.le_refl _
 |f+1,i=>by
  rw[runGo]
  split
  ·have:=runGo_le p s f (i+1);omega
  ·omega
theorem runGo_all (p:Nat→Bool) (s:ByteArray):∀(f i j:Nat),i≤j→j<runGo p s f i→p (bat s j)=true
 |0,i,j,h1,h2=>by rw[runGo] at h2;omega
 |f+1,i,j,h1,h2=>by
  rw[runGo] at h2
  split at h2
  ·rename_i hp
   by_cases e:j=i
   ·subst e;exact hp
   ·exact runGo_all p s f (i+1) j (by omega) h2
  ·omega
theorem runEnd_ge (p:Nat→Bool) (s:ByteArray) (i:Nat):i≤runEnd p s i:=runGo_ge p s _ i
theorem runEnd_le (p:Nat→Bool) (s:ByteArray) (i:Nat) (hi:i≤s.size):runEnd p s i≤s.size:=by
 have:=runGo_le p s (s.size - i) i
 unfold runEnd;omega
theorem runEnd_all (p:Nat→Bool) (s:ByteArray) (i j:Nat) (hj:i≤j) (hl:j<runEnd p s i):p (bat s j)=true:=runGo_all p s _ i j hj hl
theorem runEnd_pos {p:Nat→Bool} {s:ByteArray} {i:Nat} (h:i<s.size) (hp:p (bat s i)=true):i<runEnd p s i:=by
 rw[runEnd_go h hp];have:=runEnd_ge p s (i+1);omega
def numVal (s:ByteArray) (i:Nat):Nat→Nat
 |0=>0
 |k+1=>numVal s i k*10+(bat s (i+k) - 48)
structure One where
 err:Nat
 kind:Nat
 stop:Nat
 n:Nat
def twoSigns:List (Nat × Nat):=[(58,58),(45,62),(61,62),(61,61),(33,61),(60,61),(62,61),(38,38),(124,124)]
def oneSigns:List Nat:=[40,41,123,125,91,93,60,62,44,59,58,46,61,43,45,42,47,37,38,33,95]
def signLen (s:ByteArray) (i:Nat):Nat:=if twoSigns.contains (bat s i,bat s (i+1)) then 2 else if oneSigns.contains (bat s i) then 1 else 0
def one (s:ByteArray) (i:Nat):One:=
 if digN (bat s i) then
  (if numVal s i (runEnd digN s i - i)≤9223372036854775807 then⟨0,1,runEnd digN s i,numVal s i (runEnd digN s i - i)⟩ else⟨3,0,0,0⟩)
 else if letN (bat s i) then
  (if isWord (s.extract i (runEnd namN s i)).toList then⟨0,3,runEnd namN s i,0⟩ else if 20<runEnd namN s i - i then⟨3,0,0,0⟩ else⟨0,2,runEnd namN s i,0⟩)
 else if bat s i==39&&letN (bat s (i+1)) then
  (if 21<runEnd namN s (i+1) - i then⟨3,0,0,0⟩ else⟨0,4,runEnd namN s (i+1),0⟩)
 else if signLen s i=0 then⟨2,0,0,0⟩ else⟨0,5,i+signLen s i,0⟩
def oneText (s:ByteArray) (i:Nat) (o:One):ByteArray:=if o.kind=1 then⟨#[]⟩ else s.extract i o.stop
def tokCells (kind:Nat) (i:Nat) (t:ByteArray) (n:Nat):List Value:=[.int .i64 kind,.int .i64 i,.string t,.int .i64 n]
def oneCells (s:ByteArray) (i:Nat):List Value:=tokCells (one s i).kind i (oneText s i (one s i)) (one s i).n
abbrev LexOut:=Sum (Nat × Nat) (List (List Value))
def lexFrom:Nat→ByteArray→Nat→List (List Value)→LexOut
 |0,s,_,acc=>.inr (acc++[tokCells 0 s.size ⟨#[]⟩ 0])
 |b+1,s,i,acc=>
  if i<s.size then
   if blankN (bat s i) then lexFrom b s (i+1) acc
   else if bat s i=35 then lexFrom b s (runEnd remN s i) acc
   else if(one s i).err≠0 then .inl ((one s i).err,i)
   else lexFrom b s (one s i).stop (acc++[oneCells s i])
  else .inr (acc++[tokCells 0 s.size ⟨#[]⟩ 0])
def lexAll (s:ByteArray):LexOut:=if 6000<s.size then .inl (1,0) else lexFrom s.size s 0 []
theorem signLen_pos_le {s:ByteArray} {i:Nat} (hi:i<s.size):i+signLen s i≤s.size:=by
 unfold signLen
 split
 ·rename_i h
  by_cases h2:i+1<s.size
  ·omega
  ·rw[bat_out h2] at h
   simp[twoSigns] at h
 ·split<;>omega
theorem one_stop {s:ByteArray} {i:Nat} (hi:i<s.size) (h:(one s i).err=0):i<(one s i).stop∧(one s i).stop≤s.size:=by
 unfold one at h⊢
 split
 ·rename_i hd
  have h1:=runEnd_pos hi hd
  have h2:=runEnd_le digN s i (by omega)
  split at h<;>split at h<;>simp_all
 ·split
  ·rename_i hd
   have h1:i<runEnd namN s i:=runEnd_pos hi (by simp[namN,hd])
   have h2:=runEnd_le namN s i (by omega)
   split
   ·exact⟨h1,h2⟩
   ·split
    ·simp_all
    ·exact⟨h1,h2⟩
  ·split
   ·have h2:=runEnd_le namN s (i+1) (by omega)
    have h1:=runEnd_ge namN s (i+1)
    split
    ·simp_all
    ·exact⟨by simp;omega,h2⟩
   ·split
    ·simp_all
    ·have:=signLen_pos_le hi
     exact⟨by simp;omega,this⟩
theorem lex_blank {s:ByteArray} {i b:Nat} {acc:List (List Value)} (hi:i<s.size) (hb:blankN (bat s i)=true):lexFrom (b+1) s i acc=lexFrom b s (i+1) acc:=by
 rw[lexFrom,if_pos hi,if_pos hb]
theorem lex_rem {s:ByteArray} {i b:Nat} {acc:List (List Value)} (hi:i<s.size) (hb:bat s i=35):lexFrom (b+1) s i acc=lexFrom b s (runEnd remN s i) acc:=by
 rw[lexFrom,if_pos hi,if_neg (by simp[blankN,hb]),if_pos hb]
theorem lex_bad {s:ByteArray} {i b:Nat} {acc:List (List Value)} (hi:i<s.size) (hb:blankN (bat s i)=false) (hr:bat s i≠35) (he:(one s i).err≠0):lexFrom (b+1) s i acc=.inl ((one s i).err,i):=by
 rw[lexFrom,if_pos hi,if_neg (by simp[hb]),if_neg hr,if_pos he]
theorem lex_tok {s:ByteArray} {i b:Nat} {acc:List (List Value)} (hi:i<s.size) (hb:blankN (bat s i)=false) (hr:bat s i≠35) (he:(one s i).err=0):lexFrom (b+1) s i acc=lexFrom b s (one s i).stop (acc++[oneCells s i]):=by
 rw[lexFrom,if_pos hi,if_neg (by simp[hb]),if_neg hr,if_neg (by simp[he])]
theorem lex_end {s:ByteArray} {i b:Nat} {acc:List (List Value)} (hi:¬i<s.size):lexFrom b s i acc=.inr (acc++[tokCells 0 s.size ⟨#[]⟩ 0]):=by
 cases b with
 |zero=>rfl
 |succ b=>rw[lexFrom,if_neg hi]
end Go.Proofs.YtdplogkmkgekdaaGreatDoor
namespace Go.Proofs.YtdplogkmkgekdaaGreatDoor
open Go.RowKit
theorem ret_bool {a b:Bool} (h:a=b):Ending.returned (.bool a)=.returned (.bool b):=by rw[h]
theorem ret_int {k:IntKind} {a b:Int} (h:a=b):Ending.returned (.int k a)=.returned (.int k b):=by rw[h]
theorem digit25 (c:Nat) (w:World):Calls Tryz.prog 93 #[.int .u8 c] w fun e w'=>e=.returned (.bool (digN c))∧w'=w:=by
 by_cases h1:(48:Int)≤c
 ·by_cases h2:(c:Int)≤57
  ·go_enter Tryz.func93,Tryz.ntmps93
   go_wp2
   go_ret
   exact⟨ret_bool (by simp[digN];omega),rfl⟩
  ·go_enter Tryz.func93,Tryz.ntmps93
   go_wp2
   go_ret
   exact⟨ret_bool (by simp[digN];omega),rfl⟩
 ·go_enter Tryz.func93,Tryz.ntmps93
  go_wp2
  go_ret
  exact⟨ret_bool (by simp[digN];omega),rfl⟩
theorem letter27 (c:Nat) (w:World):Calls Tryz.prog 95 #[.int .u8 c] w fun e w'=>e=.returned (.bool (letN c))∧w'=w:=by
 rcases(show(97:Int)≤c∧(c:Int)≤122∨(122:Int)<c∨(65:Int)≤c∧(c:Int)≤90∨(90:Int)<c∧(c:Int)<97∨(c:Int)<65 by omega) with⟨h1,h2⟩|h1|⟨h1,h2⟩|⟨h1,h2⟩|h1
 all_goals
  go_enter Tryz.func95,Tryz.ntmps95
  go_wp2
  go_ret
  exact⟨ret_bool (by first|(rw[show letN c=true by simp only[letN,decide_eq_true_eq];omega];done)|(rw[show letN c=false by simp only[letN,decide_eq_false_iff_not];omega];first|done|rfl|(simp;omega)|trace_state)),rfl⟩
theorem rest28 (s:ByteArray) (i:Nat) (w:World) (hs:s.size≤6000) (hi:i≤s.size):Calls Tryz.prog 96 #[.string s,.int .i64 i] w fun e w'=>e=.returned (.int .i64 (runEnd namN s i))∧w'=w:=by
 go_enter Tryz.func96,Tryz.ntmps96
 go_wp2_with fail
 go_loop [1] (fun t=>∃k:Nat,k≤s.size∧t=.int .i64 k∧runEnd namN s k=runEnd namN s i) (fun t=>s.size - (intOf t).toNat)
 case atStart=>exact⟨i,hi,rfl,rfl⟩
 case round=>
  obtain⟨k,hk,rfl,hrun⟩:=hrel
  have HR:Hid (runEnd namN s k=runEnd namN s i):=hrun
  clear hrun
  by_cases hlt:k<s.size
  ·have hb:=bat_eq hlt
   have HB:Hid (bat s k=(s[k]'hlt).toNat):=hb
   clear hb
   cases hl:letN (s[k]'hlt).toNat
   ·cases hd:digN (s[k]'hlt).toNat
    ·cases hu:((((s[k]'hlt).toNat:Int))==95)
     ·go_wp2_with (first|(go_at_call 95;refine(letter27 _ _).mono ?_;rintro e w' ⟨rfl,rfl⟩)|(go_at_call 93;refine(digit25 _ _).mono ?_;rintro e w' ⟨rfl,rfl⟩))
      go_ret
      exact⟨ret_int (by have:=HR.out;rw[runEnd_no (by rw[HB.out];simp at hu;simp[namN,hl,hd];omega)] at this;rw[this]),rfl⟩
     ·have hu':(s[k]'hlt).toNat=95:=by simp at hu;omega
      have HU:Hid ((s[k]'hlt).toNat=95):=hu'
      clear hu'
      go_wp2_with (first|(go_at_call 95;refine(letter27 _ _).mono ?_;rintro e w' ⟨rfl,rfl⟩)|(go_at_call 93;refine(digit25 _ _).mono ?_;rintro e w' ⟨rfl,rfl⟩))
      go_round
      case rel=>exact⟨k+1,by omega,by go_num,by rw[←HR.out];exact(runEnd_go hlt (by rw[HB.out];simp[namN,HU.out])).symm⟩
      case measure=>simp[intOf];omega
    ·go_wp2_with (first|(go_at_call 95;refine(letter27 _ _).mono ?_;rintro e w' ⟨rfl,rfl⟩)|(go_at_call 93;refine(digit25 _ _).mono ?_;rintro e w' ⟨rfl,rfl⟩))
     go_round
     case rel=>exact⟨k+1,by omega,by go_num,by rw[←HR.out];exact(runEnd_go hlt (by rw[HB.out];simp[namN,hd])).symm⟩
     case measure=>simp[intOf];omega
   ·go_wp2_with (first|(go_at_call 95;refine(letter27 _ _).mono ?_;rintro e w' ⟨rfl,rfl⟩)|(go_at_call 93;refine(digit25 _ _).mono ?_;rintro e w' ⟨rfl,rfl⟩))
    go_round
    case rel=>exact⟨k+1,by omega,by go_num,by rw[←HR.out];exact(runEnd_go hlt (by rw[HB.out];simp[namN,hl])).symm⟩
    case measure=>simp[intOf];omega
  ·go_wp2
   go_ret
   exact⟨ret_int (by have:=HR.out;rw[runEnd_end hlt] at this;rw[this]),rfl⟩
theorem num_step (s:ByteArray) (i k:Nat) (h:i≤k):numVal s i (k+1 - i)=numVal s i (k - i)*10+(bat s k - 48):=by
 rw[show k+1 - i=(k - i)+1 by omega]
 show numVal s i (k - i)*10+(bat s (i+(k - i)) - 48)=_
 rw[show i+(k - i)=k by omega]
def NumPost (s:ByteArray) (i:Nat) (e:Ending):Prop:=
 ∃(n:Int) (big:Bool),e=.returned (.tuple #[.int .i64 n,.int .i64 (runEnd digN s i),.bool big])∧
  (big=true→9223372036854775807<numVal s i (runEnd digN s i - i))∧(big=false→n=(numVal s i (runEnd digN s i - i):Nat)∧numVal s i (runEnd digN s i - i)≤9223372036854775807)
theorem number26 (s:ByteArray) (i:Nat) (w:World) (hs:s.size≤6000) (hi:i≤s.size):
 Calls Tryz.prog 94 #[.string s,.int .i64 i] w fun e w'=>NumPost s i e∧w'=w:=by
 go_enter Tryz.func94,Tryz.ntmps94
 go_wp2_with fail
 go_loop [1,7,8] (fun t n b=>∃(k:Nat) (m:Nat) (big:Bool),i≤k∧k≤s.size∧m≤9223372036854775807∧t=.int .i64 k∧n=.int .i64 m∧b=.bool big∧runEnd digN s k=runEnd digN s i∧
  (big=true→9223372036854775807<numVal s i (k - i))∧(big=false→m=numVal s i (k - i))) (fun t _ _=>s.size - (intOf t).toNat)
 case atStart=>exact⟨i,0,false,Nat.le_refl _,hi,by omega,rfl,rfl,rfl,rfl,by simp,by simp[numVal]⟩
 case round=>
  obtain⟨k,m,big,hik,hk,hm,rfl,rfl,rfl,hrun,hb1,hb2⟩:=hrel
  have HR:Hid (runEnd digN s k=runEnd digN s i):=hrun
  have H1:Hid (big=true→9223372036854775807<numVal s i (k - i)):=hb1
  have H2:Hid (big=false→m=numVal s i (k - i)):=hb2
  clear hrun hb1 hb2
  by_cases hlt:k<s.size
  ·have HB:Hid (bat s k=(s[k]'hlt).toNat):=bat_eq hlt
   cases hd:digN (s[k]'hlt).toNat
   ·go_wp2_with (go_at_call 93;refine(digit25 _ _).mono ?_;rintro e w' ⟨rfl,rfl⟩)
    go_ret3
    have e:runEnd digN s i=k:=by rw[←HR.out];exact runEnd_no (by rw[HB.out];exact hd)
    refine⟨?_,rfl⟩
    unfold NumPost
    rw[e]
    exact⟨m,big,rfl,H1.out,fun h=>⟨by rw[H2.out h],by rw[←H2.out h];exact hm⟩⟩
   ·have hd1:(48:Int)≤((s[k]'hlt).toNat:Int):=by simp[digN] at hd;omega
    have hd2:((s[k]'hlt).toNat:Int)≤57:=by simp[digN] at hd;omega
    have HS:Hid (numVal s i (k+1 - i)=numVal s i (k - i)*10+((s[k]'hlt).toNat - 48)):=by
     have:=num_step s i k hik
     rw[bat_eq hlt] at this
     exact this
    have HG:Hid (runEnd digN s (k+1)=runEnd digN s i):=by
     have:=HR.out
     rw[runEnd_go hlt (by rw[HB.out];exact hd)] at this
     exact this
    by_cases hbig:(9223372036854775807 - (((s[k]'hlt).toNat:Int) - 48))/10<(m:Int)
    ·go_wp2_with (go_at_call 93;refine(digit25 _ _).mono ?_;rintro e w' ⟨rfl,rfl⟩)
     go_round
     case rel=>
      refine⟨k+1,m,true,by omega,by omega,hm,by go_num,rfl,rfl,HG.out,fun _=>?_,fun h=>by cases h⟩
      rw[HS.out]
      cases big
      ·have:=H2.out rfl
       rw[←this];omega
      ·have:=H1.out rfl
       omega
     case measure=>simp[intOf];omega
    ·go_wp2_with (go_at_call 93;refine(digit25 _ _).mono ?_;rintro e w' ⟨rfl,rfl⟩)
     go_round
     case rel=>
      refine⟨k+1,m*10+((s[k]'hlt).toNat - 48),big,by omega,by omega,by omega,by go_num,by go_num,rfl,HG.out,fun h=>?_,fun h=>?_⟩
      ·rw[HS.out]
       have:=H1.out h
       omega
      ·rw[HS.out,←H2.out h]
     case measure=>simp[intOf];omega
  ·go_wp2
   go_ret3
   have e:runEnd digN s i=k:=by rw[←HR.out];exact runEnd_end hlt
   refine⟨?_,rfl⟩
   unfold NumPost
   rw[e]
   exact⟨m,big,rfl,H1.out,fun h=>⟨by rw[H2.out h],by rw[←H2.out h];exact hm⟩⟩
theorem two_eq {s:ByteArray} {i:Nat} (h:i+1<s.size) (a b:UInt8):((s.extract i (i+2)).toList==[a,b])=((bat s i,bat s (i+1))==(a.toNat,b.toNat)):=by
 have e:(s.extract i (i+2)).toList=[s[i]'(by omega),s[i+1]'h]:=by
  rw[Lib.extract_toList,show i+2 - i=2 by omega]
  rw[List.drop_eq_getElem_cons (by simp;omega),List.drop_eq_getElem_cons (by simpa using h)]
  rfl
 rw[e,bat_eq h,bat_eq (show i<s.size by omega),Bool.eq_iff_iff]
 simp[UInt8.toNat_inj]
theorem two_yes {s:ByteArray} {i:Nat} (h:i+1<s.size) (a b:UInt8) (hl:((s.extract i (i+2)).toList==[a,b])=true) (hm:twoSigns.contains (a.toNat,b.toNat)=true):signLen s i=2:=by
 rw[two_eq h] at hl
 have e:(bat s i,bat s (i+1))=(a.toNat,b.toNat):=by simpa using hl
 unfold signLen
 rw[e,if_pos hm]
theorem two_no {s:ByteArray} {i:Nat} (h:i+1<s.size) (h1:((s.extract i (i+2)).toList==[58,58])=false) (h2:((s.extract i (i+2)).toList==[45,62])=false) (h3:((s.extract i (i+2)).toList==[61,62])=false) (h4:((s.extract i (i+2)).toList==[61,61])=false) (h5:((s.extract i (i+2)).toList==[33,61])=false) (h6:((s.extract i (i+2)).toList==[60,61])=false) (h7:((s.extract i (i+2)).toList==[62,61])=false) (h8:((s.extract i (i+2)).toList==[38,38])=false) (h9:((s.extract i (i+2)).toList==[124,124])=false):twoSigns.contains (bat s i,bat s (i+1))=false:=by
 rw[two_eq h] at h1
 rw[two_eq h] at h2
 rw[two_eq h] at h3
 rw[two_eq h] at h4
 rw[two_eq h] at h5
 rw[two_eq h] at h6
 rw[two_eq h] at h7
 rw[two_eq h] at h8
 rw[two_eq h] at h9
 simp only[twoSigns,List.contains,List.elem]
 simp only[UInt8.reduceToNat] at h1 h2 h3 h4 h5 h6 h7 h8 h9
 simp only[h1,h2,h3,h4,h5,h6,h7,h8,h9]
theorem two_out {s:ByteArray} {i:Nat} (h:¬i+1<s.size):twoSigns.contains (bat s i,bat s (i+1))=false:=by
 rw[bat_out h];simp[twoSigns]
theorem one_yes {s:ByteArray} {i:Nat} {c:Int} (h:twoSigns.contains (bat s i,bat s (i+1))=false) (hi:i<s.size) (hc:(((s[i]'hi).toNat:Int)==c)=true) (hm:oneSigns.contains c.toNat=true):signLen s i=1:=by
 have e:bat s i=c.toNat:=by rw[bat_eq hi];simp at hc;omega
 unfold signLen
 rw[h,e,if_neg (by simp),if_pos hm]
theorem sign29_one (s:ByteArray) (i:Nat) (w:World) (hs:s.size≤6000) (hi:i<s.size) (hno:twoSigns.contains (bat s i,bat s (i+1))=false)
 (hl:i+1<s.size→((s.extract i (i+2)).toList==[58,58])=false∧((s.extract i (i+2)).toList==[45,62])=false∧((s.extract i (i+2)).toList==[61,62])=false∧((s.extract i (i+2)).toList==[61,61])=false∧((s.extract i (i+2)).toList==[33,61])=false∧((s.extract i (i+2)).toList==[60,61])=false∧((s.extract i (i+2)).toList==[62,61])=false∧((s.extract i (i+2)).toList==[38,38])=false∧((s.extract i (i+2)).toList==[124,124])=false):
 Calls Tryz.prog 98 #[.string s,.int .i64 i] w fun e w'=>e=.returned (.int .i64 (signLen s i))∧w'=w:=by
 have HN:Hid (twoSigns.contains (bat s i,bat s (i+1))=false):=hno
 clear hno
 by_cases h2:i+1<s.size
 ·obtain⟨h11,h12,h13,h14,h15,h16,h17,h18,h19⟩:=hl h2
  clear hl
  go_enter Tryz.func98,Tryz.ntmps98
  go_wp2_with fail
  all_goals first|(exfalso;simp_all;done)|(go_ret;refine⟨ret_int ?_,rfl⟩;first|(have hy:=one_yes HN.out hi ‹(((s[i]'hi).toNat:Int)==_)=true› (by decide);rw[hy];rfl)|(unfold signLen;rw[HN.out,if_neg (by simp),if_neg (by rw[bat_eq hi];simp_all [oneSigns];omega)];rfl))
 ·clear hl
  go_enter Tryz.func98,Tryz.ntmps98
  go_wp2_with fail
  all_goals first|(exfalso;simp_all;done)|(go_ret;refine⟨ret_int ?_,rfl⟩;first|(have hy:=one_yes HN.out hi ‹(((s[i]'hi).toNat:Int)==_)=true› (by decide);rw[hy];rfl)|(unfold signLen;rw[HN.out,if_neg (by simp),if_neg (by rw[bat_eq hi];simp_all [oneSigns];omega)];rfl))
theorem sign29 (s:ByteArray) (i:Nat) (w:World) (hs:s.size≤6000) (hi:i<s.size):
 Calls Tryz.prog 98 #[.string s,.int .i64 i] w fun e w'=>e=.returned (.int .i64 (signLen s i))∧w'=w:=by
 by_cases h2:i+1<s.size
 ·cases h11:((s.extract i (i+2)).toList==[58,58])
  ·cases h12:((s.extract i (i+2)).toList==[45,62])
   ·cases h13:((s.extract i (i+2)).toList==[61,62])
    ·cases h14:((s.extract i (i+2)).toList==[61,61])
     ·cases h15:((s.extract i (i+2)).toList==[33,61])
      ·cases h16:((s.extract i (i+2)).toList==[60,61])
       ·cases h17:((s.extract i (i+2)).toList==[62,61])
        ·cases h18:((s.extract i (i+2)).toList==[38,38])
         ·cases h19:((s.extract i (i+2)).toList==[124,124])
          ·exact sign29_one s i w hs hi (two_no h2 h11 h12 h13 h14 h15 h16 h17 h18 h19) (fun _=>⟨h11,h12,h13,h14,h15,h16,h17,h18,h19⟩)
          ·have HT:Hid (signLen s i=2):=two_yes h2 _ _ h19 (by decide)
           go_enter Tryz.func98,Tryz.ntmps98
           go_wp2_with fail
           all_goals first|(exfalso;simp_all;done)|(go_ret;exact⟨ret_int (by rw[HT.out];rfl),rfl⟩)
         ·have HT:Hid (signLen s i=2):=two_yes h2 _ _ h18 (by decide)
          go_enter Tryz.func98,Tryz.ntmps98
          go_wp2_with fail
          all_goals first|(exfalso;simp_all;done)|(go_ret;exact⟨ret_int (by rw[HT.out];rfl),rfl⟩)
        ·have HT:Hid (signLen s i=2):=two_yes h2 _ _ h17 (by decide)
         go_enter Tryz.func98,Tryz.ntmps98
         go_wp2_with fail
         all_goals first|(exfalso;simp_all;done)|(go_ret;exact⟨ret_int (by rw[HT.out];rfl),rfl⟩)
       ·have HT:Hid (signLen s i=2):=two_yes h2 _ _ h16 (by decide)
        go_enter Tryz.func98,Tryz.ntmps98
        go_wp2_with fail
        all_goals first|(exfalso;simp_all;done)|(go_ret;exact⟨ret_int (by rw[HT.out];rfl),rfl⟩)
      ·have HT:Hid (signLen s i=2):=two_yes h2 _ _ h15 (by decide)
       go_enter Tryz.func98,Tryz.ntmps98
       go_wp2_with fail
       all_goals first|(exfalso;simp_all;done)|(go_ret;exact⟨ret_int (by rw[HT.out];rfl),rfl⟩)
     ·have HT:Hid (signLen s i=2):=two_yes h2 _ _ h14 (by decide)
      go_enter Tryz.func98,Tryz.ntmps98
      go_wp2_with fail
      all_goals first|(exfalso;simp_all;done)|(go_ret;exact⟨ret_int (by rw[HT.out];rfl),rfl⟩)
    ·have HT:Hid (signLen s i=2):=two_yes h2 _ _ h13 (by decide)
     go_enter Tryz.func98,Tryz.ntmps98
     go_wp2_with fail
     all_goals first|(exfalso;simp_all;done)|(go_ret;exact⟨ret_int (by rw[HT.out];rfl),rfl⟩)
   ·have HT:Hid (signLen s i=2):=two_yes h2 _ _ h12 (by decide)
    go_enter Tryz.func98,Tryz.ntmps98
    go_wp2_with fail
    all_goals first|(exfalso;simp_all;done)|(go_ret;exact⟨ret_int (by rw[HT.out];rfl),rfl⟩)
  ·have HT:Hid (signLen s i=2):=two_yes h2 _ _ h11 (by decide)
   go_enter Tryz.func98,Tryz.ntmps98
   go_wp2_with fail
   all_goals first|(exfalso;simp_all;done)|(go_ret;exact⟨ret_int (by rw[HT.out];rfl),rfl⟩)
 ·exact sign29_one s i w hs hi (two_out h2) (fun h=>absurd h h2)
end Go.Proofs.YtdplogkmkgekdaaGreatDoor
