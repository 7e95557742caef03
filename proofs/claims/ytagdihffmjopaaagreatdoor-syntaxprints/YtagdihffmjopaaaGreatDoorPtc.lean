/- The document's writer: numbers, truths, expressions. -/
import Derived.Test.YtagdihffmjopaaaGreatDoorPta
namespace Go.Proofs.YtagdihffmjopaaaGreatDoor
set_option linter.all false
open Go.RowKit
section
variable{B:Nat} {w0 w:World} {wb f:Nat} {bs:List UInt8} {kind pos n m:Int} {name:ByteArray} {ko:Option Addr} {kl kc:Nat}
set_option maxRecDepth 100000 in
set_option maxHeartbeats 2000000 in
theorem e76_210 (hRs:∀g,g≤f→RN B w0 wb g) (ht:Tab B w0) (hn01:n=0) (hx:Nw B w0 (f+1) (nodeC 21 pos n m name (.slice ko kl kc)).toList):Wc B w0 wb 76 (nodeC 21 pos n m name (.slice ko kl kc)) (tok (f+1) w0 (nodeC 21 pos n m name (.slice ko kl kc)).toList):=by
 intro w bs h hne hf
 have hR:RN B w0 wb f:=@hRs f (Nat.le_refl f)
 have hcap:=hx.cap
 obtain⟨vs,hkl,hr,hg,htok,hs,hc⟩:=hx.opened
 rw[htok] at hf⊢
 clear htok hx
 obtain rfl:n=0:=hn01
 have e:asm 21 0 m (name:ByteArray).data.toList (vs.map (kdAt f w0))=[102,97,108,115,101]::[]:=by
  rfl
 rw[e] at hf⊢
 clear e
 have q:=(Sw.start h hne hf).box (nodeC 21 pos 0 m name (.slice ko kl kc))
 clear h hne hf hr hg hc hkl hcap hRs
 have F:=q.f1
 go_enter Tryz.func76,Tryz.ntmps76
 go_wp2_with (first
  |(go_at_call 33;refine q.put ?_;clear q F;intro w2 q;have F:=q.f1))
 all_goals(go_end0;exact q.done (rfl))
set_option maxRecDepth 100000 in
set_option maxHeartbeats 2000000 in
theorem e76_211 (hRs:∀g,g≤f→RN B w0 wb g) (ht:Tab B w0) (hn01:n=1) (hx:Nw B w0 (f+1) (nodeC 21 pos n m name (.slice ko kl kc)).toList):Wc B w0 wb 76 (nodeC 21 pos n m name (.slice ko kl kc)) (tok (f+1) w0 (nodeC 21 pos n m name (.slice ko kl kc)).toList):=by
 intro w bs h hne hf
 have hR:RN B w0 wb f:=@hRs f (Nat.le_refl f)
 have hcap:=hx.cap
 obtain⟨vs,hkl,hr,hg,htok,hs,hc⟩:=hx.opened
 rw[htok] at hf⊢
 clear htok hx
 obtain rfl:n=1:=hn01
 have e:asm 21 1 m (name:ByteArray).data.toList (vs.map (kdAt f w0))=[116,114,117,101]::[]:=by
  rfl
 rw[e] at hf⊢
 clear e
 have q:=(Sw.start h hne hf).box (nodeC 21 pos 1 m name (.slice ko kl kc))
 clear h hne hf hr hg hc hkl hcap hRs
 have F:=q.f1
 go_enter Tryz.func76,Tryz.ntmps76
 go_wp2_with (first
  |(go_at_call 33;refine q.put ?_;clear q F;intro w2 q;have F:=q.f1))
 all_goals(go_end0;exact q.done (rfl))
set_option maxRecDepth 100000 in
set_option maxHeartbeats 2000000 in
theorem e76_520 (hRs:∀g,g≤f→RN B w0 wb g) (ht:Tab B w0) (hn01:n=0) (hx:Nw B w0 (f+1) (nodeC 52 pos n m name (.slice ko kl kc)).toList):Wc B w0 wb 76 (nodeC 52 pos n m name (.slice ko kl kc)) (tok (f+1) w0 (nodeC 52 pos n m name (.slice ko kl kc)).toList):=by
 intro w bs h hne hf
 have hR:RN B w0 wb f:=@hRs f (Nat.le_refl f)
 have hcap:=hx.cap
 obtain⟨vs,hkl,hr,hg,htok,hs,hc⟩:=hx.opened
 rw[htok] at hf⊢
 clear htok hx
 obtain rfl:n=0:=hn01
 have e:asm 52 0 m (name:ByteArray).data.toList (vs.map (kdAt f w0))=[102,97,108,115,101]::[]:=by
  rfl
 rw[e] at hf⊢
 clear e
 have q:=(Sw.start h hne hf).box (nodeC 52 pos 0 m name (.slice ko kl kc))
 clear h hne hf hr hg hc hkl hcap hRs
 have F:=q.f1
 go_enter Tryz.func76,Tryz.ntmps76
 go_wp2_with (first
  |(go_at_call 33;refine q.put ?_;clear q F;intro w2 q;have F:=q.f1))
 all_goals(go_end0;exact q.done (rfl))
set_option maxRecDepth 100000 in
set_option maxHeartbeats 2000000 in
theorem e76_521 (hRs:∀g,g≤f→RN B w0 wb g) (ht:Tab B w0) (hn01:n=1) (hx:Nw B w0 (f+1) (nodeC 52 pos n m name (.slice ko kl kc)).toList):Wc B w0 wb 76 (nodeC 52 pos n m name (.slice ko kl kc)) (tok (f+1) w0 (nodeC 52 pos n m name (.slice ko kl kc)).toList):=by
 intro w bs h hne hf
 have hR:RN B w0 wb f:=@hRs f (Nat.le_refl f)
 have hcap:=hx.cap
 obtain⟨vs,hkl,hr,hg,htok,hs,hc⟩:=hx.opened
 rw[htok] at hf⊢
 clear htok hx
 obtain rfl:n=1:=hn01
 have e:asm 52 1 m (name:ByteArray).data.toList (vs.map (kdAt f w0))=[116,114,117,101]::[]:=by
  rfl
 rw[e] at hf⊢
 clear e
 have q:=(Sw.start h hne hf).box (nodeC 52 pos 1 m name (.slice ko kl kc))
 clear h hne hf hr hg hc hkl hcap hRs
 have F:=q.f1
 go_enter Tryz.func76,Tryz.ntmps76
 go_wp2_with (first
  |(go_at_call 33;refine q.put ?_;clear q F;intro w2 q;have F:=q.f1))
 all_goals(go_end0;exact q.done (rfl))
set_option maxRecDepth 100000 in
set_option maxHeartbeats 2000000 in
theorem e76_20 (hRs:∀g,g≤f→RN B w0 wb g) (ht:Tab B w0) (hx:Nw B w0 (f+1) (nodeC 20 pos n m name (.slice ko kl kc)).toList):Wc B w0 wb 76 (nodeC 20 pos n m name (.slice ko kl kc)) (tok (f+1) w0 (nodeC 20 pos n m name (.slice ko kl kc)).toList):=by
 intro w bs h hne hf
 have hR:RN B w0 wb f:=@hRs f (Nat.le_refl f)
 have hcap:=hx.cap
 obtain⟨vs,hkl,hr,hg,htok,hs,hc⟩:=hx.opened
 rw[htok] at hf⊢
 clear htok hx
 have hb:=hg.eint rfl
 have e:asm 20 n m (name:ByteArray).data.toList (vs.map (kdAt f w0))=[Lib.itoa n]++[]:=by
  rfl
 rw[e] at hf⊢
 clear e
 have q:=(Sw.start h hne hf).box (nodeC 20 pos n m name (.slice ko kl kc))
 have HB:Hid (0≤n∧n≤9223372036854775807):=hb
 clear h hne hf hr hg hc hkl hcap hRs hb
 have F:=q.f1
 go_enter Tryz.func76,Tryz.ntmps76
 go_wp2_with (first
  |(go_at_call 99;refine q.go (fun a1 a2 a3=>number99_pos ht HB.out.1 HB.out.2 a1 a2 a3) ?_;clear q F;intro w2 q;have F:=q.f1))
 all_goals(go_end0;exact q.done (by simp<;>rfl))
theorem digit48 (c:Nat) (h:c<10):(UInt8.ofNat (48+c)==45)=false:=by
 have:c=0∨c=1∨c=2∨c=3∨c=4∨c=5∨c=6∨c=7∨c=8∨c=9:=by omega
 rcases this with rfl|rfl|rfl|rfl|rfl|rfl|rfl|rfl|rfl|rfl<;>rfl
theorem dec_head:∀(k u:Nat),u≤k→∃a r,Lib.decDigits u=a::r∧(a==45)=false:=by
 intro k
 induction k with
 |zero=>
  intro u hu
  obtain rfl:u=0:=by omega
  rw[Lib.decDigits_one (by decide)]
  exact⟨_,_,rfl,digit48 0 (by decide)⟩
 |succ k ih=>
  intro u hu
  by_cases h:u<10
  ·rw[Lib.decDigits_one h]
   exact⟨_,_,rfl,digit48 u h⟩
  ·obtain⟨a,r,e,ha⟩:=ih (u/10) (by omega)
   rw[Lib.decDigits,dif_neg h,e]
   exact⟨a,r++_,rfl,ha⟩
theorem trim_pos {n:Int} (h:0≤n):Lib.trimPrefix (Lib.itoa n) [45]=Lib.itoa n:=by
 unfold Lib.itoa
 rw[if_neg (by omega)]
 obtain⟨a,r,e,ha⟩:=dec_head n.toNat n.toNat (Nat.le_refl _)
 rw[e]
 unfold Lib.trimPrefix Lib.hasPrefix
 have:([45]:List UInt8).isPrefixOf (a::r)=false:=by
  simp only[List.isPrefixOf,Bool.and_true]
  cases h9:((45:UInt8)==a)
  ·rfl
  ·have:=eq_of_beq h9
   rw[←this] at ha
   exact absurd ha (by decide)
 rw[this]
 rfl
theorem trim_neg {n:Int} (h:n<0):Lib.trimPrefix (Lib.itoa n) [45]=(Lib.itoa n).drop 1:=by
 unfold Lib.itoa
 rw[if_pos h]
 unfold Lib.trimPrefix Lib.hasPrefix
 simp[List.isPrefixOf]
set_option maxRecDepth 100000 in
set_option maxHeartbeats 2000000 in
theorem e76_51p (hRs:∀g,g≤f→RN B w0 wb g) (ht:Tab B w0) (hn0:0≤n) (hx:Nw B w0 (f+1) (nodeC 51 pos n m name (.slice ko kl kc)).toList):Wc B w0 wb 76 (nodeC 51 pos n m name (.slice ko kl kc)) (tok (f+1) w0 (nodeC 51 pos n m name (.slice ko kl kc)).toList):=by
 intro w bs h hne hf
 have hR:RN B w0 wb f:=@hRs f (Nat.le_refl f)
 have hcap:=hx.cap
 obtain⟨vs,hkl,hr,hg,htok,hs,hc⟩:=hx.opened
 rw[htok] at hf⊢
 clear htok hx
 have hb:=hg.pint rfl
 have e:asm 51 n m (name:ByteArray).data.toList (vs.map (kdAt f w0))=[Lib.itoa n]++[]:=by
  show pWhen (decide (n<0)) [[45]]++[Lib.trimPrefix (Lib.itoa n) [45]]=_;rw[trim_pos hn0,decide_eq_false (by omega)];rfl
 rw[e] at hf⊢
 clear e
 have q:=(Sw.start h hne hf).box (nodeC 51 pos n m name (.slice ko kl kc))
 have HB:Hid (0≤n∧n≤9223372036854775807):=⟨hn0,hb.2⟩
 clear h hne hf hr hg hc hkl hcap hRs hb hn0
 have F:=q.f1
 go_enter Tryz.func76,Tryz.ntmps76
 go_wp2_with (first
  |(go_at_call 99;refine q.go (fun a1 a2 a3=>number99_pos ht HB.out.1 HB.out.2 a1 a2 a3) ?_;clear q F;intro w2 q;have F:=q.f1))
 all_goals(go_end0;exact q.done (by simp<;>rfl))
set_option maxRecDepth 100000 in
set_option maxHeartbeats 2000000 in
theorem e76_51n (hRs:∀g,g≤f→RN B w0 wb g) (ht:Tab B w0) (hn0:n<0) (hx:Nw B w0 (f+1) (nodeC 51 pos n m name (.slice ko kl kc)).toList):Wc B w0 wb 76 (nodeC 51 pos n m name (.slice ko kl kc)) (tok (f+1) w0 (nodeC 51 pos n m name (.slice ko kl kc)).toList):=by
 intro w bs h hne hf
 have hR:RN B w0 wb f:=@hRs f (Nat.le_refl f)
 have hcap:=hx.cap
 obtain⟨vs,hkl,hr,hg,htok,hs,hc⟩:=hx.opened
 rw[htok] at hf⊢
 clear htok hx
 have hb:=hg.pint rfl
 have e:asm 51 n m (name:ByteArray).data.toList (vs.map (kdAt f w0))=[[45],(Lib.itoa n).drop 1]++[]:=by
  show pWhen (decide (n<0)) [[45]]++[Lib.trimPrefix (Lib.itoa n) [45]]=_;rw[trim_neg hn0,decide_eq_true hn0];rfl
 rw[e] at hf⊢
 clear e
 have q:=(Sw.start h hne hf).box (nodeC 51 pos n m name (.slice ko kl kc))
 have HB:Hid (n<0∧ -9223372036854775808≤n):=⟨hn0,hb.1⟩
 clear h hne hf hr hg hc hkl hcap hRs hb hn0
 have F:=q.f1
 go_enter Tryz.func76,Tryz.ntmps76
 go_wp2_with (first
  |(go_at_call 99;refine q.go (fun a1 a2 a3=>number99_neg ht HB.out.1 HB.out.2 a1 a2 a3) ?_;clear q F;intro w2 q;have F:=q.f1))
 all_goals(go_end0;exact q.done (by simp<;>rfl))
end
end Go.Proofs.YtagdihffmjopaaaGreatDoor
