/- The document's own lexer: all tokens of a text. -/
import Derived.Test.YtdplogkmkgekdaaGreatDoorRef
set_option linter.all false
set_option maxRecDepth 100000
set_option maxHeartbeats 4000000
namespace Go.Proofs.YtdplogkmkgekdaaGreatDoor
open Go.RowKit
def OnePost (s:ByteArray) (i:Nat) (e:Ending):Prop:=
 ∃(a b:Int) (t:ByteArray) (n j:Int),e=.returned (.tuple #[.agg #[.int .i64 a,.int .i64 b,.string t,.int .i64 n],.int .i64 j,.int .i64 (one s i).err])∧
  ((one s i).err=0→a=(one s i).kind∧b=i∧t=oneText s i (one s i)∧n=(one s i).n∧j=((one s i).stop:Nat))
theorem onePost_bad {s:ByteArray} {i:Nat} {a b:Int} {t:ByteArray} {n j:Int} {k:Nat} (h:(one s i).err=k) (hk:k≠0):OnePost s i (.returned (.tuple #[.agg #[.int .i64 a,.int .i64 b,.string t,.int .i64 n],.int .i64 j,.int .i64 (k:Int)])):=
 ⟨a,b,t,n,j,by rw[h],fun h0=>absurd h0 (by omega)⟩
theorem onePost_ok {s:ByteArray} {i:Nat} {o:One} {t:ByteArray} {a b:Int} (h:one s i=o) (h0:o.err=0) (ht:oneText s i o=t) (ha:a=o.kind) (hb:b=o.n):OnePost s i (.returned (.tuple #[.agg #[.int .i64 a,.int .i64 (i:Int),.string t,.int .i64 b],.int .i64 (o.stop:Int),.int .i64 0])):=
 ⟨_,_,_,_,_,by rw[h,h0];rfl,fun _=>⟨by rw[h,ha],rfl,by rw[h,ht],by rw[h,hb],by rw[h]⟩⟩
theorem one_digit {s:ByteArray} {i:Nat} (hd:digN (bat s i)=true):one s i=if numVal s i (runEnd digN s i - i)≤9223372036854775807 then⟨0,1,runEnd digN s i,numVal s i (runEnd digN s i - i)⟩ else⟨3,0,0,0⟩:=by
 rw[one,if_pos hd]
theorem let_not_dig {c:Nat} (h:letN c=true):digN c=false:=by
 simp only[letN,digN,decide_eq_true_eq,decide_eq_false_iff_not] at h⊢;omega
theorem one_letter {s:ByteArray} {i:Nat} (hd:letN (bat s i)=true):one s i=if isWord (s.extract i (runEnd namN s i)).toList then⟨0,3,runEnd namN s i,0⟩ else if 20<runEnd namN s i - i then⟨3,0,0,0⟩ else⟨0,2,runEnd namN s i,0⟩:=by
 rw[one,if_neg (by simp[let_not_dig hd]),if_pos hd]
theorem one_life {s:ByteArray} {i:Nat} (h:bat s i=39) (hd:letN (bat s (i+1))=true):one s i=if 21<runEnd namN s (i+1) - i then⟨3,0,0,0⟩ else⟨0,4,runEnd namN s (i+1),0⟩:=by
 rw[one,if_neg (by simp[h,digN]),if_neg (by simp[h,letN]),if_pos (by simp[h,hd])]
theorem one_sign {s:ByteArray} {i:Nat} (h1:digN (bat s i)=false) (h2:letN (bat s i)=false) (h3:bat s i≠39∨letN (bat s (i+1))=false):one s i=if signLen s i=0 then⟨2,0,0,0⟩ else⟨0,5,i+signLen s i,0⟩:=by
 rw[one,if_neg (by simp[h1]),if_neg (by simp[h2]),if_neg]
 rcases h3 with h|h<;>simp[h]
theorem rest28' (s:ByteArray) (i:Nat) (x:Int) (w:World) (hs:s.size≤6000) (hi:i≤s.size) (hx:x=(i:Nat)):Calls Tryz.prog 96 #[.string s,.int .i64 x] w fun e w'=>e=.returned (.int .i64 (runEnd namN s i))∧w'=w:=by
 subst hx;exact rest28 s i w hs hi
theorem below2 (w:World) (o1 o2:Obj):Below w.heap.size w ((w.alloc o1).alloc o2):=((Below.refl _ _).alloc (Nat.le_refl _) _).alloc (by simp) _
theorem one17_digit (s:ByteArray) (i:Nat) (w:World) (hs:s.size≤6000) (hi:i<s.size) (hd:digN (bat s i)=true):
 Calls Tryz.prog 40 #[.string s,.int .i64 i] w fun e w'=>OnePost s i e∧Below w.heap.size w w':=by
 have hd':digN (s[i]'hi).toNat=true:=by rw[←bat_eq hi];exact hd
 have HO:Hid (one s i=if numVal s i (runEnd digN s i - i)≤9223372036854775807 then⟨0,1,runEnd digN s i,numVal s i (runEnd digN s i - i)⟩ else⟨3,0,0,0⟩):=one_digit hd
 clear hd
 go_enter Tryz.func40,Tryz.ntmps40
 go_wp2_with (first|(go_at_call 93;refine(digit25 _ _).mono ?_;rintro e w' ⟨rfl,rfl⟩)|(go_at_call 94;refine(number26 s i _ hs (Nat.le_of_lt hi)).mono ?_;rintro e w' ⟨⟨n,big,rfl,hn1,hn2⟩,rfl⟩;cases big))
 ·obtain⟨hn3,hn4⟩:=hn2 (by trivial)
  have e:one s i=⟨0,1,runEnd digN s i,numVal s i (runEnd digN s i - i)⟩:=by rw[HO.out,if_pos hn4]
  exact bodyPost_ret (v:=.tuple #[.agg #[.int .i64 1,.int .i64 i,.string ⟨#[]⟩,.int .i64 (numVal s i (runEnd digN s i - i))],.int .i64 (runEnd digN s i),.int .i64 0]) (by simp[results,Tryz.results40,go_sem]) rfl ⟨onePost_ok e rfl rfl rfl rfl,below2 _ _ _⟩
 ·have hn3:=hn1 (by trivial)
  have e:(one s i).err=3:=by rw[HO.out,if_neg (by omega)]
  exact bodyPost_ret (v:=.tuple #[.agg #[.int .i64 1,.int .i64 i,.string ⟨#[]⟩,.int .i64 n],.int .i64 (runEnd digN s i),.int .i64 3]) (by simp[results,Tryz.results40,go_sem]) rfl ⟨onePost_bad e (by decide),below2 _ _ _⟩
theorem one17_letter (s:ByteArray) (i:Nat) (w:World) (hs:s.size≤6000) (hi:i<s.size) (hd:letN (bat s i)=true):
 Calls Tryz.prog 40 #[.string s,.int .i64 i] w fun e w'=>OnePost s i e∧Below w.heap.size w w':=by
 have hd':letN (s[i]'hi).toNat=true:=by rw[←bat_eq hi];exact hd
 have hd0:digN (s[i]'hi).toNat=false:=let_not_dig hd'
 have HO:Hid (one s i=if isWord (s.extract i (runEnd namN s i)).toList then⟨0,3,runEnd namN s i,0⟩ else if 20<runEnd namN s i - i then⟨3,0,0,0⟩ else⟨0,2,runEnd namN s i,0⟩):=one_letter hd
 have h1:i<runEnd namN s i:=runEnd_pos hi (by simp[namN,hd])
 have h2:=runEnd_le namN s i (by omega)
 clear hd
 cases hw:isWord (s.extract i (runEnd namN s i)).toList
 ·by_cases h20:(20:Int)<(runEnd namN s i:Int) - i
  ·go_enter Tryz.func40,Tryz.ntmps40
   go_wp2_with (first|(go_at_call 93;refine(digit25 _ _).mono ?_;rintro e w' ⟨rfl,rfl⟩)|(go_at_call 95;refine(letter27 _ _).mono ?_;rintro e w' ⟨rfl,rfl⟩)|(go_at_call 96;refine(rest28' s i _ _ hs (by omega) rfl).mono ?_;rintro e w' ⟨rfl,rfl⟩)|(go_at_call 97;refine(word10 _ _).mono ?_;rintro e w' ⟨rfl,rfl⟩))
   have e:(one s i).err=3:=by rw[HO.out,if_neg (by simp[hw]),if_pos (by omega)]
   exact bodyPost_ret (v:=.tuple #[.agg #[.int .i64 2,.int .i64 i,.string (s.extract i (runEnd namN s i)),.int .i64 0],.int .i64 (runEnd namN s i),.int .i64 3]) (by simp[results,Tryz.results40,go_sem]) rfl ⟨onePost_bad e (by decide),below2 _ _ _⟩
  ·go_enter Tryz.func40,Tryz.ntmps40
   go_wp2_with (first|(go_at_call 93;refine(digit25 _ _).mono ?_;rintro e w' ⟨rfl,rfl⟩)|(go_at_call 95;refine(letter27 _ _).mono ?_;rintro e w' ⟨rfl,rfl⟩)|(go_at_call 96;refine(rest28' s i _ _ hs (by omega) rfl).mono ?_;rintro e w' ⟨rfl,rfl⟩)|(go_at_call 97;refine(word10 _ _).mono ?_;rintro e w' ⟨rfl,rfl⟩))
   have e:one s i=⟨0,2,runEnd namN s i,0⟩:=by rw[HO.out,if_neg (by simp[hw]),if_neg (by omega)]
   exact bodyPost_ret (v:=.tuple #[.agg #[.int .i64 2,.int .i64 i,.string (s.extract i (runEnd namN s i)),.int .i64 0],.int .i64 (runEnd namN s i),.int .i64 0]) (by simp[results,Tryz.results40,go_sem]) rfl ⟨onePost_ok e rfl (by simp[oneText]) rfl rfl,below2 _ _ _⟩
 ·go_enter Tryz.func40,Tryz.ntmps40
  go_wp2_with (first|(go_at_call 93;refine(digit25 _ _).mono ?_;rintro e w' ⟨rfl,rfl⟩)|(go_at_call 95;refine(letter27 _ _).mono ?_;rintro e w' ⟨rfl,rfl⟩)|(go_at_call 96;refine(rest28' s i _ _ hs (by omega) rfl).mono ?_;rintro e w' ⟨rfl,rfl⟩)|(go_at_call 97;refine(word10 _ _).mono ?_;rintro e w' ⟨rfl,rfl⟩))
  have e:one s i=⟨0,3,runEnd namN s i,0⟩:=by rw[HO.out,if_pos hw]
  exact bodyPost_ret (v:=.tuple #[.agg #[.int .i64 3,.int .i64 i,.string (s.extract i (runEnd namN s i)),.int .i64 0],.int .i64 (runEnd namN s i),.int .i64 0]) (by simp[results,Tryz.results40,go_sem]) rfl ⟨onePost_ok e rfl (by simp[oneText]) rfl rfl,below2 _ _ _⟩
theorem one17_life (s:ByteArray) (i:Nat) (w:World) (hs:s.size≤6000) (hi:i<s.size) (hb:bat s i=39) (hi2:i+1<s.size) (hd:letN (bat s (i+1))=true):
 Calls Tryz.prog 40 #[.string s,.int .i64 i] w fun e w'=>OnePost s i e∧Below w.heap.size w w':=by
 have hd':letN (s[i+1]'hi2).toNat=true:=by rw[←bat_eq hi2];exact hd
 have hb':(s[i]'hi).toNat=39:=by rw[←bat_eq hi];exact hb
 have hd0:digN (s[i]'hi).toNat=false:=by rw[hb'];rfl
 have hd1:letN (s[i]'hi).toNat=false:=by rw[hb'];rfl
 have hb2:(((s[i]'hi).toNat:Int)==39)=true:=by simp[hb']
 have HO:Hid (one s i=if 21<runEnd namN s (i+1) - i then⟨3,0,0,0⟩ else⟨0,4,runEnd namN s (i+1),0⟩):=one_life hb hd
 have h1:i+1<runEnd namN s (i+1):=runEnd_pos hi2 (by simp[namN,hd])
 have h2:=runEnd_le namN s (i+1) (by omega)
 clear hd hb hb'
 by_cases h21:(21:Int)<(runEnd namN s (i+1):Int) - i
 ·go_enter Tryz.func40,Tryz.ntmps40
  go_wp2_with (first|(go_at_call 93;refine(digit25 _ _).mono ?_;rintro e w' ⟨rfl,rfl⟩)|(go_at_call 95;refine(letter27 _ _).mono ?_;rintro e w' ⟨rfl,rfl⟩)|(go_at_call 96;refine(rest28' s (i+1) _ _ hs (by omega) (by omega)).mono ?_;rintro e w' ⟨rfl,rfl⟩)|(go_at_call 98;refine(sign29 s i _ hs hi).mono ?_;rintro e w' ⟨rfl,rfl⟩))
  have e:(one s i).err=3:=by rw[HO.out,if_pos (by omega)]
  exact bodyPost_ret (v:=.tuple #[.agg #[.int .i64 4,.int .i64 i,.string (s.extract i (runEnd namN s (i+1))),.int .i64 0],.int .i64 (runEnd namN s (i+1)),.int .i64 3]) (by simp[results,Tryz.results40,go_sem]) rfl ⟨onePost_bad e (by decide),below2 _ _ _⟩
 ·go_enter Tryz.func40,Tryz.ntmps40
  go_wp2_with (first|(go_at_call 93;refine(digit25 _ _).mono ?_;rintro e w' ⟨rfl,rfl⟩)|(go_at_call 95;refine(letter27 _ _).mono ?_;rintro e w' ⟨rfl,rfl⟩)|(go_at_call 96;refine(rest28' s (i+1) _ _ hs (by omega) (by omega)).mono ?_;rintro e w' ⟨rfl,rfl⟩)|(go_at_call 98;refine(sign29 s i _ hs hi).mono ?_;rintro e w' ⟨rfl,rfl⟩))
  have e:one s i=⟨0,4,runEnd namN s (i+1),0⟩:=by rw[HO.out,if_neg (by omega)]
  exact bodyPost_ret (v:=.tuple #[.agg #[.int .i64 4,.int .i64 i,.string (s.extract i (runEnd namN s (i+1))),.int .i64 0],.int .i64 (runEnd namN s (i+1)),.int .i64 0]) (by simp[results,Tryz.results40,go_sem]) rfl ⟨onePost_ok e rfl (by simp[oneText]) rfl rfl,below2 _ _ _⟩
theorem one17_sign (s:ByteArray) (i:Nat) (w:World) (hs:s.size≤6000) (hi:i<s.size) (hd0:digN (bat s i)=false) (hd1:letN (bat s i)=false)
 (hl:(bat s i≠39)∨(bat s i=39∧¬i+1<s.size)∨(bat s i=39∧∃h:i+1<s.size,letN (s[i+1]'h).toNat=false)):
 Calls Tryz.prog 40 #[.string s,.int .i64 i] w fun e w'=>OnePost s i e∧Below w.heap.size w w':=by
 have h3:bat s i≠39∨letN (bat s (i+1))=false:=by
  rcases hl with h|⟨_,h⟩|⟨_,h,h'⟩
  ·exact .inl h
  ·exact .inr (by rw[bat_out h];rfl)
  ·exact .inr (by rw[bat_eq h];exact h')
 have HO:Hid (one s i=if signLen s i=0 then⟨2,0,0,0⟩ else⟨0,5,i+signLen s i,0⟩):=one_sign hd0 hd1 h3
 have hle:=signLen_pos_le hi
 clear h3
 rw[bat_eq hi] at hd0 hd1 hl
 by_cases hz:signLen s i=0
 ·have HZ:Hid (signLen s i=0):=hz
  have hz':((signLen s i:Int)==0)=true:=by simp[hz]
  clear hz
  rcases hl with hb|⟨hb,hi2⟩|⟨hb,hi2,hl2⟩
  ·have hb':(((s[i]'hi).toNat:Int)==39)=false:=by simp;omega
   clear hb
   go_enter Tryz.func40,Tryz.ntmps40
   go_wp2_with (first|(go_at_call 93;refine(digit25 _ _).mono ?_;rintro e w' ⟨rfl,rfl⟩)|(go_at_call 95;refine(letter27 _ _).mono ?_;rintro e w' ⟨rfl,rfl⟩)|(go_at_call 96;refine(rest28' s (i+1) _ _ hs (by omega) (by omega)).mono ?_;rintro e w' ⟨rfl,rfl⟩)|(go_at_call 98;refine(sign29 s i _ hs hi).mono ?_;rintro e w' ⟨rfl,rfl⟩))
   have e:(one s i).err=2:=by rw[HO.out,if_pos HZ.out]
   exact bodyPost_ret (v:=.tuple #[.agg #[.int .i64 0,.int .i64 i,.string ⟨#[]⟩,.int .i64 0],.int .i64 (i),.int .i64 2]) (by simp[results,Tryz.results40,go_sem]) rfl ⟨onePost_bad e (by decide),below2 _ _ _⟩
  ·have hb':(((s[i]'hi).toNat:Int)==39)=true:=by simp;omega
   clear hb
   go_enter Tryz.func40,Tryz.ntmps40
   go_wp2_with (first|(go_at_call 93;refine(digit25 _ _).mono ?_;rintro e w' ⟨rfl,rfl⟩)|(go_at_call 95;refine(letter27 _ _).mono ?_;rintro e w' ⟨rfl,rfl⟩)|(go_at_call 96;refine(rest28' s (i+1) _ _ hs (by omega) (by omega)).mono ?_;rintro e w' ⟨rfl,rfl⟩)|(go_at_call 98;refine(sign29 s i _ hs hi).mono ?_;rintro e w' ⟨rfl,rfl⟩))
   have e:(one s i).err=2:=by rw[HO.out,if_pos HZ.out]
   exact bodyPost_ret (v:=.tuple #[.agg #[.int .i64 0,.int .i64 i,.string ⟨#[]⟩,.int .i64 0],.int .i64 (i),.int .i64 2]) (by simp[results,Tryz.results40,go_sem]) rfl ⟨onePost_bad e (by decide),below2 _ _ _⟩
  ·have hb':(((s[i]'hi).toNat:Int)==39)=true:=by simp;omega
   clear hb
   go_enter Tryz.func40,Tryz.ntmps40
   go_wp2_with (first|(go_at_call 93;refine(digit25 _ _).mono ?_;rintro e w' ⟨rfl,rfl⟩)|(go_at_call 95;refine(letter27 _ _).mono ?_;rintro e w' ⟨rfl,rfl⟩)|(go_at_call 96;refine(rest28' s (i+1) _ _ hs (by omega) (by omega)).mono ?_;rintro e w' ⟨rfl,rfl⟩)|(go_at_call 98;refine(sign29 s i _ hs hi).mono ?_;rintro e w' ⟨rfl,rfl⟩))
   have e:(one s i).err=2:=by rw[HO.out,if_pos HZ.out]
   exact bodyPost_ret (v:=.tuple #[.agg #[.int .i64 0,.int .i64 i,.string ⟨#[]⟩,.int .i64 0],.int .i64 (i),.int .i64 2]) (by simp[results,Tryz.results40,go_sem]) rfl ⟨onePost_bad e (by decide),below2 _ _ _⟩
 ·have HZ:Hid (signLen s i≠0):=hz
  have hz':((signLen s i:Int)==0)=false:=by simp;omega
  have hzp:0<signLen s i:=by omega
  clear hz
  rcases hl with hb|⟨hb,hi2⟩|⟨hb,hi2,hl2⟩
  ·have hb':(((s[i]'hi).toNat:Int)==39)=false:=by simp;omega
   clear hb
   go_enter Tryz.func40,Tryz.ntmps40
   go_wp2_with (first|(go_at_call 93;refine(digit25 _ _).mono ?_;rintro e w' ⟨rfl,rfl⟩)|(go_at_call 95;refine(letter27 _ _).mono ?_;rintro e w' ⟨rfl,rfl⟩)|(go_at_call 96;refine(rest28' s (i+1) _ _ hs (by omega) (by omega)).mono ?_;rintro e w' ⟨rfl,rfl⟩)|(go_at_call 98;refine(sign29 s i _ hs hi).mono ?_;rintro e w' ⟨rfl,rfl⟩))
   have e:one s i=⟨0,5,i+signLen s i,0⟩:=by rw[HO.out,if_neg HZ.out]
   exact bodyPost_ret (v:=.tuple #[.agg #[.int .i64 5,.int .i64 i,.string (s.extract i (i+signLen s i)),.int .i64 0],.int .i64 (i+signLen s i),.int .i64 0]) (by simp[results,Tryz.results40,go_sem]) rfl ⟨onePost_ok e rfl (by simp[oneText]) rfl rfl,below2 _ _ _⟩
  ·have hb':(((s[i]'hi).toNat:Int)==39)=true:=by simp;omega
   clear hb
   go_enter Tryz.func40,Tryz.ntmps40
   go_wp2_with (first|(go_at_call 93;refine(digit25 _ _).mono ?_;rintro e w' ⟨rfl,rfl⟩)|(go_at_call 95;refine(letter27 _ _).mono ?_;rintro e w' ⟨rfl,rfl⟩)|(go_at_call 96;refine(rest28' s (i+1) _ _ hs (by omega) (by omega)).mono ?_;rintro e w' ⟨rfl,rfl⟩)|(go_at_call 98;refine(sign29 s i _ hs hi).mono ?_;rintro e w' ⟨rfl,rfl⟩))
   have e:one s i=⟨0,5,i+signLen s i,0⟩:=by rw[HO.out,if_neg HZ.out]
   exact bodyPost_ret (v:=.tuple #[.agg #[.int .i64 5,.int .i64 i,.string (s.extract i (i+signLen s i)),.int .i64 0],.int .i64 (i+signLen s i),.int .i64 0]) (by simp[results,Tryz.results40,go_sem]) rfl ⟨onePost_ok e rfl (by simp[oneText]) rfl rfl,below2 _ _ _⟩
  ·have hb':(((s[i]'hi).toNat:Int)==39)=true:=by simp;omega
   clear hb
   go_enter Tryz.func40,Tryz.ntmps40
   go_wp2_with (first|(go_at_call 93;refine(digit25 _ _).mono ?_;rintro e w' ⟨rfl,rfl⟩)|(go_at_call 95;refine(letter27 _ _).mono ?_;rintro e w' ⟨rfl,rfl⟩)|(go_at_call 96;refine(rest28' s (i+1) _ _ hs (by omega) (by omega)).mono ?_;rintro e w' ⟨rfl,rfl⟩)|(go_at_call 98;refine(sign29 s i _ hs hi).mono ?_;rintro e w' ⟨rfl,rfl⟩))
   have e:one s i=⟨0,5,i+signLen s i,0⟩:=by rw[HO.out,if_neg HZ.out]
   exact bodyPost_ret (v:=.tuple #[.agg #[.int .i64 5,.int .i64 i,.string (s.extract i (i+signLen s i)),.int .i64 0],.int .i64 (i+signLen s i),.int .i64 0]) (by simp[results,Tryz.results40,go_sem]) rfl ⟨onePost_ok e rfl (by simp[oneText]) rfl rfl,below2 _ _ _⟩
theorem one17 (s:ByteArray) (i:Nat) (w:World) (hs:s.size≤6000) (hi:i<s.size):
 Calls Tryz.prog 40 #[.string s,.int .i64 i] w fun e w'=>OnePost s i e∧Below w.heap.size w w':=by
 cases hd:digN (bat s i)
 ·cases hl:letN (bat s i)
  ·by_cases hb:bat s i=39
   ·by_cases hi2:i+1<s.size
    ·cases hl2:letN (bat s (i+1))
     ·exact one17_sign s i w hs hi hd hl (.inr (.inr ⟨hb,hi2,by rw[←bat_eq hi2];exact hl2⟩))
     ·exact one17_life s i w hs hi hb hi2 hl2
    ·exact one17_sign s i w hs hi hd hl (.inr (.inl ⟨hb,hi2⟩))
   ·exact one17_sign s i w hs hi hd hl (.inl hb)
  ·exact one17_letter s i w hs hi hl
 ·exact one17_digit s i w hs hi hd
theorem one17_ok (s:ByteArray) (i:Nat) (w:World) (hs:s.size≤6000) (hi:i<s.size) (h0:(one s i).err=0):
 Calls Tryz.prog 40 #[.string s,.int .i64 i] w fun e w'=>e=.returned (.tuple #[.agg #[.int .i64 (one s i).kind,.int .i64 i,.string (oneText s i (one s i)),.int .i64 (one s i).n],.int .i64 (one s i).stop,.int .i64 0])∧Below w.heap.size w w':=by
 refine(one17 s i w hs hi).mono ?_
 rintro e w' ⟨⟨a,b,t,n,j,rfl,h⟩,hb⟩
 obtain⟨rfl,rfl,rfl,rfl,rfl⟩:=h h0
 exact⟨by rw[h0];rfl,hb⟩
theorem one17_bad (s:ByteArray) (i:Nat) (w:World) (hs:s.size≤6000) (hi:i<s.size):
 Calls Tryz.prog 40 #[.string s,.int .i64 i] w fun e w'=>(∃(a b:Int) (t:ByteArray) (n j:Int),e=.returned (.tuple #[.agg #[.int .i64 a,.int .i64 b,.string t,.int .i64 n],.int .i64 j,.int .i64 (one s i).err]))∧Below w.heap.size w w':=by
 refine(one17 s i w hs hi).mono ?_
 rintro e w' ⟨⟨a,b,t,n,j,rfl,h⟩,hb⟩
 exact⟨⟨a,b,t,n,j,rfl⟩,hb⟩
end Go.Proofs.YtdplogkmkgekdaaGreatDoor
namespace Go.Proofs.YtdplogkmkgekdaaGreatDoor
open Go.RowKit
theorem info30:(Tryz.prog.info? 67).map (fun i=>(i.zero,i.size,i.bytes))=some (some (.agg #[.int .i64 0,.int .i64 0,.string ⟨#[]⟩,.int .i64 0]),4,40):=by kernel_rfl
theorem ownsRow_below {w w1:World} {base:Nat} {e:TypeId} {size:Nat} {v:Value} {n:Nat} {xs:List Value} (h:w.ownsRow base e size v n xs) (hb:Below w.heap.size w w1):w1.ownsRow base e size v n xs:=by
 obtain⟨h1,h2⟩:=h
 refine⟨h1,?_⟩
 rcases h2 with h2|⟨g,cap,cur,hv,hbg,hg,rest⟩
 ·exact .inl h2
 ·have hlt:g<w.heap.size:=(Array.getElem?_eq_some_iff.1 hg).1
  exact .inr ⟨g,cap,cur,hv,hbg,by rw[hb.block g hlt];exact hg,rest⟩
def TokPost (s:ByteArray) (base:Nat) (e:Ending) (w':World):Prop:=
 match lexAll s with
 |.inl (k,i)=>e=.returned (.tuple #[.slice none 0 0,.agg #[.int .i64 k,.int .i64 i]])
 |.inr ts=>∃v,e=.returned (.tuple #[v,.agg #[.int .i64 0,.int .i64 0]])∧w'.ownsRow base 67 4 v ts.length ts.flatten
structure TokRel (s:ByteArray) (w wr:World) (v:Value) (k b:Nat) (acc:List (List Value)):Prop where
 le:k≤s.size
 own:wr.ownsRow (w.heap.size+1) 67 4 v acc.length acc.flatten
 below:Below (w.heap.size+1) (w.alloc (.cells #[.int .i64 0,.int .i64 0] 31)) wr
 same:lexFrom b s k acc=lexFrom s.size s 0 []
 fuel:s.size≤k+b
 few:acc.length≤k
theorem cells4_new (w:World) (c0 c1 c2 c3:Value) (t:TypeId):∀j u,[c0,c1,c2,c3][j]? =some u→(w.alloc (.cells #[c0,c1,c2,c3] t)).cell? ((⟨w.heap.size,0,none⟩:Addr).add j)=some u:=by
 intro j u hj
 match j,hj with
 |0,hj=>simp at hj;subst hj;simp[Addr.add]
 |1,hj=>simp at hj;subst hj;simp[Addr.add]
 |2,hj=>simp at hj;subst hj;simp[Addr.add]
 |3,hj=>simp at hj;subst hj;simp[Addr.add]
theorem cells4_one {a b n:Int} {t:ByteArray}:∀u∈[Value.int .i64 a,.int .i64 b,.string t,.int .i64 n],u.oneCell'=true:=by
 intro u hu
 simp at hu
 rcases hu with rfl|rfl|rfl|rfl<;>rfl
theorem faultBlock {w wr:World} (h:Below (w.heap.size+1) (w.alloc (.cells #[.int .i64 0,.int .i64 0] 31)) wr):
 wr.cell? ⟨w.heap.size,0,none⟩=some (.int .i64 0)∧wr.cell? ⟨w.heap.size,1,none⟩=some (.int .i64 0)∧wr.frozen? ⟨w.heap.size,0,none⟩=false∧wr.frozen? ⟨w.heap.size,1,none⟩=false:=by
 refine⟨?_,?_,?_,?_⟩
 ·rw[h.cell (p:=⟨w.heap.size,0,none⟩) (by simp)];simp
 ·rw[h.cell (p:=⟨w.heap.size,1,none⟩) (by simp)];simp
 ·rw[h.frozen (p:=⟨w.heap.size,0,none⟩) (by simp)];simp
 ·rw[h.frozen (p:=⟨w.heap.size,1,none⟩) (by simp)];simp
theorem TokRel.step {s:ByteArray} {w wr:World} {v:Value} {k b:Nat} {acc:List (List Value)} (h:TokRel s w wr v k b acc) (hlt:k<s.size) {k':Nat} {acc':List (List Value)} {wr':World} {v':Value}
 (h1:k<k') (h2:k'≤s.size) (hlex:∀b',lexFrom (b'+1) s k acc=lexFrom b' s k' acc') (own:wr'.ownsRow (w.heap.size+1) 67 4 v' acc'.length acc'.flatten)
 (below:Below (w.heap.size+1) (w.alloc (.cells #[.int .i64 0,.int .i64 0] 31)) wr') (few:acc'.length≤k'):∃b',TokRel s w wr' v' k' b' acc':=by
 obtain⟨b',rfl⟩:∃b',b=b'+1:=⟨b - 1,by have:=h.fuel;omega⟩
 exact⟨b',h2,own,below,by rw[←hlex];exact h.same,by have:=h.fuel;omega,few⟩
theorem TokRel.end_ {s:ByteArray} {w wr:World} {v:Value} {k b:Nat} {acc:List (List Value)} (h:TokRel s w wr v k b acc) (hs:s.size≤6000) (hlt:¬k<s.size):lexAll s=.inr (acc++[tokCells 0 s.size ⟨#[]⟩ 0]):=by
 have:=h.same
 rw[lex_end hlt] at this
 rw[lexAll,if_neg (by omega),←this]
theorem TokRel.bad {s:ByteArray} {w wr:World} {v:Value} {k b:Nat} {acc:List (List Value)} (h:TokRel s w wr v k b acc) (hs:s.size≤6000) (hlt:k<s.size) (hb:blankN (bat s k)=false) (hr:bat s k≠35) (he:(one s k).err≠0):lexAll s=.inl ((one s k).err,k):=by
 obtain⟨b',rfl⟩:∃b',b=b'+1:=⟨b - 1,by have:=h.fuel;omega⟩
 have:=h.same
 rw[lex_bad hlt hb hr he] at this
 rw[lexAll,if_neg (by omega),←this]
theorem flatten_snoc (acc:List (List Value)) (c:List Value):(acc++[c]).flatten=acc.flatten++c:=by simp
theorem tokens7 (s:ByteArray) (w:World) (hs:s.size≤6000):
 Calls Tryz.prog 16 #[.string s] w fun e w'=>TokPost s (w.heap.size+1) e w'∧Below w.heap.size w w':=by
 obtain⟨i0,hi0,hz0,hz1,hz2⟩:=info_parts info30
 go_enter Tryz.func16,Tryz.ntmps16
 go_wp2_with fail
 go_loopw [4,5] (fun v i wr=>∃(k b:Nat) (acc:List (List Value)),i=.int .i64 k∧TokRel s w wr v k b acc) (fun _ i _=>s.size - (intOf i).toNat)
 case atStart=>exact⟨0,s.size,[],rfl,⟨Nat.zero_le _,World.ownsRow_nil _ _ _ _,Below.refl _ _,rfl,by omega,by simp⟩⟩
 case round=>
  obtain⟨k,b,acc,rfl,hR⟩:=hrel
  have hk:=hR.le
  have hsz:w.heap.size+1≤wr.heap.size:=by have:=hR.below.size;simpa using this
  by_cases hlt:k<s.size
  ·have HB:Hid (bat s k=(s[k]'hlt).toNat):=bat_eq hlt
   rcases(show(s[k]'hlt).toNat=32∨(s[k]'hlt).toNat=9∨(s[k]'hlt).toNat=10∨(s[k]'hlt).toNat=35∨((s[k]'hlt).toNat≠32∧(s[k]'hlt).toNat≠9∧(s[k]'hlt).toNat≠10∧(s[k]'hlt).toNat≠35) by omega) with hc|hc|hc|hc|⟨hc1,hc2,hc3,hc4⟩
   ·have HC:Hid ((s[k]'hlt).toNat=32):=hc
    have b32:(((s[k]'hlt).toNat:Int)==32)=true:=by rw[hc];rfl
    clear hc
    go_wp2_with fail
    obtain⟨b',hR'⟩:=hR.step hlt (k':=k+1) (by omega) (by omega) (fun b'=>lex_blank hlt (by rw[HB.out,HC.out];rfl)) hR.own hR.below (by have:=hR.few;omega)
    go_roundw
    case rel=>exact⟨k+1,b',acc,by go_num,hR'⟩
    case measure=>simp[intOf];omega
   ·have HC:Hid ((s[k]'hlt).toNat=9):=hc
    have b32:(((s[k]'hlt).toNat:Int)==32)=false:=by rw[hc];rfl
    have b9:(((s[k]'hlt).toNat:Int)==9)=true:=by rw[hc];rfl
    clear hc
    go_wp2_with fail
    obtain⟨b',hR'⟩:=hR.step hlt (k':=k+1) (by omega) (by omega) (fun b'=>lex_blank hlt (by rw[HB.out,HC.out];rfl)) hR.own hR.below (by have:=hR.few;omega)
    go_roundw
    case rel=>exact⟨k+1,b',acc,by go_num,hR'⟩
    case measure=>simp[intOf];omega
   ·have HC:Hid ((s[k]'hlt).toNat=10):=hc
    have b32:(((s[k]'hlt).toNat:Int)==32)=false:=by rw[hc];rfl
    have b9:(((s[k]'hlt).toNat:Int)==9)=false:=by rw[hc];rfl
    have b10:(((s[k]'hlt).toNat:Int)==10)=true:=by rw[hc];rfl
    clear hc
    go_wp2_with fail
    obtain⟨b',hR'⟩:=hR.step hlt (k':=k+1) (by omega) (by omega) (fun b'=>lex_blank hlt (by rw[HB.out,HC.out];rfl)) hR.own hR.below (by have:=hR.few;omega)
    go_roundw
    case rel=>exact⟨k+1,b',acc,by go_num,hR'⟩
    case measure=>simp[intOf];omega
   ·have HC:Hid ((s[k]'hlt).toNat=35):=hc
    have b32:(((s[k]'hlt).toNat:Int)==32)=false:=by rw[hc];rfl
    have b9:(((s[k]'hlt).toNat:Int)==9)=false:=by rw[hc];rfl
    have b10:(((s[k]'hlt).toNat:Int)==10)=false:=by rw[hc];rfl
    have b35:(((s[k]'hlt).toNat:Int)==35)=true:=by rw[hc];rfl
    clear hc
    have hpos:k<runEnd remN s k:=runEnd_pos hlt (by rw[HB.out,HC.out];rfl)
    have hle:=runEnd_le remN s k hk
    go_wp2_with fail
    go_loop [5] (fun t=>∃m:Nat,k≤m∧m≤s.size∧t=.int .i64 m∧runEnd remN s m=runEnd remN s k) (fun t=>s.size - (intOf t).toNat)
    case atStart=>exact⟨k,Nat.le_refl _,hk,rfl,rfl⟩
    case round=>
     obtain⟨m,hkm,hm,rfl,hrun⟩:=hrel
     have HM:Hid (runEnd remN s m=runEnd remN s k):=hrun
     clear hrun
     by_cases hml:m<s.size
     ·have HBm:Hid (bat s m=(s[m]'hml).toNat):=bat_eq hml
      cases hn:(((s[m]'hml).toNat:Int) !=10)
      ·go_wp2_with fail
       have e:runEnd remN s m=m:=runEnd_no (by rw[HBm.out];simp at hn;simp[remN];omega)
       have e2:m=runEnd remN s k:=by rw[←HM.out,e]
       obtain⟨b',hR'⟩:=hR.step hlt (k':=m) (by omega) (by omega) (fun b'=>by rw[lex_rem hlt (by rw[HB.out,HC.out]),←e2]) hR.own hR.below (by have:=hR.few;omega)
       go_roundw
       case rel=>exact⟨m,b',acc,rfl,hR'⟩
       case measure=>simp[intOf];omega
      ·go_wp2_with fail
       go_round
       case rel=>exact⟨m+1,by omega,by omega,by go_num,by rw[←HM.out];exact(runEnd_go hml (by rw[HBm.out];simp at hn;simp[remN];omega)).symm⟩
       case measure=>simp[intOf];omega
     ·go_wp2_with fail
      have e:runEnd remN s m=m:=runEnd_end hml
      have e2:m=runEnd remN s k:=by rw[←HM.out,e]
      obtain⟨b',hR'⟩:=hR.step hlt (k':=m) (by omega) (by omega) (fun b'=>by rw[lex_rem hlt (by rw[HB.out,HC.out]),←e2]) hR.own hR.below (by have:=hR.few;omega)
      go_roundw
      case rel=>exact⟨m,b',acc,rfl,hR'⟩
      case measure=>simp[intOf];omega
   ·have b32:(((s[k]'hlt).toNat:Int)==32)=false:=by simp;omega
    have b9:(((s[k]'hlt).toNat:Int)==9)=false:=by simp;omega
    have b10:(((s[k]'hlt).toNat:Int)==10)=false:=by simp;omega
    have b35:(((s[k]'hlt).toNat:Int)==35)=false:=by simp;omega
    have HNb:Hid (blankN (bat s k)=false):=by show blankN (bat s k)=false;rw[HB.out];simp[blankN];omega
    have HNr:Hid (bat s k≠35):=by show bat s k≠35;rw[HB.out];exact hc4
    clear hc1 hc2 hc3 hc4
    by_cases he:(one s k).err=0
    ·have HE:Hid ((one s k).err=0):=he
     have hst:=one_stop hlt he
     clear he
     go_wp2_with (first|(go_at_call 40;refine(one17_ok s k _ hs hlt HE.out).mono ?_;rintro e w1 ⟨rfl,hb1⟩;have hc1:=ownsRow_below hR.own hb1)|(at_builtin;refine wpList_append_own _ rfl (.tmp 59) (.tmp 61) 39 rfl (w.heap.size+1) 67 i0 _ 4 40 Tryz.underlying39 hi0 hz0 hz1 hz2 rfl (by decide) _ _ _ rfl ((hc1.alloc _).alloc _) ⟨w1.heap.size+1,0,none⟩ 1 1 (oneCells s k) rfl rfl ?c1 cells4_one (by have:=hR.few;unfold maxLen;omega) (by have:=hR.few;omega) ?c5 ?_;rotate_left 2;intro v' w2 hown' hgrow _))
     case c1=>have:=cells4_new (w1.alloc (.cells #[.int .i64 (one s k).kind,.int .i64 k,.string (oneText s k (one s k)),.int .i64 (one s k).n] 67)) (.int .i64 (one s k).kind) (.int .i64 k) (.string (oneText s k (one s k))) (.int .i64 (one s k).n) 67;simpa[oneCells,tokCells] using this
     case c5=>have:=hb1.size;simp;omega
     have hs1:wr.heap.size≤w1.heap.size:=hb1.size
     have hbw:Below (w.heap.size+1) (w.alloc (.cells #[.int .i64 0,.int .i64 0] 31)) w2:=((((hR.below.trans (hb1.mono hsz)).alloc (by omega) _).alloc (by simp;omega) _)).grown hgrow (by simp;omega) (fun k hk=>(hR.own.lt k hk).1)
     obtain⟨b',hR'⟩:=hR.step hlt (k':=(one s k).stop) (acc':=acc++[oneCells s k]) hst.1 hst.2 (fun b'=>lex_tok hlt HNb.out HNr.out HE.out) (by rw[flatten_snoc,List.length_append];exact hown') hbw (by have:=hR.few;simp;omega)
     go_roundw
     case rel=>exact⟨_,b',_,rfl,hR'⟩
     case measure=>simp[intOf];omega
    ·have HE:Hid ((one s k).err≠0):=he
     have hE:(((one s k).err:Int) !=0)=true:=by simp;omega
     clear he
     go_wp2_with (go_at_call 40;refine(one17_bad s k _ hs hlt).mono ?_;rintro e w1 ⟨⟨x1,x2,x3,x4,x5,rfl⟩,hb1⟩;have hbw:Below (w.heap.size+1) (w.alloc (.cells #[.int .i64 0,.int .i64 0] 31)) w1:=hR.below.trans (hb1.mono hsz);obtain⟨f0,f1,f2,f3⟩:=faultBlock hbw;have hs1:w.heap.size<w1.heap.size:=(by have:=hbw.size;simp at this;omega))
     refine bodyPost_ret (v:=.tuple #[.slice none 0 0,.agg #[.int .i64 (one s k).err,.int .i64 k]]) (by simp[results,Tryz.results16,go_sem,f0,f1,hs1]) rfl ⟨?_,?_⟩
     ·unfold TokPost
      rw[hR.bad hs hlt HNb.out HNr.out HE.out]
     ·exact(((((Below.refl _ _).alloc (Nat.le_refl _) _).trans (hbw.mono (by simp))).setCell (by simp) _).setCell (by simp) _).alloc (by simp;omega) _
  ·go_wp2_with (first|(at_builtin;refine wpList_append_own _ rfl (.tmp 64) (.tmp 68) 39 rfl (w.heap.size+1) 67 i0 _ 4 40 Tryz.underlying39 hi0 hz0 hz1 hz2 rfl (by decide) _ _ _ rfl (hR.own.alloc _) ⟨wr.heap.size,0,none⟩ 1 1 [.int .i64 0,.int .i64 s.size,.string ⟨#[]⟩,.int .i64 0] rfl rfl (cells4_new _ _ _ _ _ _) cells4_one (by have:=hR.few;unfold maxLen;omega) (by have:=hR.few;omega) (by simp;omega) ?_;intro v' w1 hown' hgrow _;have hb1:Below (w.heap.size+1) (w.alloc (.cells #[.int .i64 0,.int .i64 0] 31)) w1:=(hR.below.alloc hsz _).grown hgrow (by simp;omega) (fun k hk=>(hR.own.lt k hk).1);obtain⟨f0,f1,f2,f3⟩:=faultBlock hb1)|fail)
   refine bodyPost_ret (v:=.tuple #[v',.agg #[.int .i64 0,.int .i64 0]]) (by simp[results,Tryz.results16,go_sem,f0,f1]) rfl ⟨?_,?_⟩
   ·unfold TokPost
    rw[hR.end_ hs hlt]
    refine⟨v',rfl,?_⟩
    rw[flatten_snoc,List.length_append]
    exact ownsRow_setCell_below (ownsRow_setCell_below hown' (by simp) _) (by simp) _
   ·exact((((Below.refl _ _).alloc (Nat.le_refl _) _).trans (hb1.mono (by simp))).setCell (by simp) _).setCell (by simp) _
theorem tokens7_long (s:ByteArray) (w:World) (hs:6000<s.size) (hm:s.size≤maxLen):
 Calls Tryz.prog 16 #[.string s] w fun e w'=>TokPost s (w.heap.size+1) e w'∧Below w.heap.size w w':=by
 unfold maxLen at hm
 go_enter Tryz.func16,Tryz.ntmps16
 go_wp2_with fail
 refine bodyPost_ret (v:=.tuple #[.slice none 0 0,.agg #[.int .i64 1,.int .i64 0]]) (by simp[results,Tryz.results16,go_sem]) rfl ⟨?_,(Below.refl _ _).alloc (Nat.le_refl _) _⟩
 unfold TokPost
 rw[lexAll,if_pos hs]
 rfl
theorem tokens7_any (s:ByteArray) (w:World) (hm:s.size≤maxLen):Calls Tryz.prog 16 #[.string s] w fun e w'=>TokPost s (w.heap.size+1) e w'∧Below w.heap.size w w':=by
 by_cases hs:s.size≤6000
 ·exact tokens7 s w hs
 ·exact tokens7_long s w (by omega) hm
end Go.Proofs.YtdplogkmkgekdaaGreatDoor
