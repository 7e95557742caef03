/- The document's Print, whole. -/
import Derived.Test.YtagdihffmjopaaaGreatDoorPtb
import Derived.Test.YtagdihffmjopaaaGreatDoorPtd
import Derived.Test.YtagdihffmjopaaaGreatDoorPte
import Derived.Test.YtagdihffmjopaaaGreatDoorPtf
import Derived.Test.YtagdihffmjopaaaGreatDoorPtg
import Derived.Test.YtagdihffmjopaaaGreatDoorPth
import Derived.Test.YtagdihffmjopaaaGreatDoorPtl
import Derived.Test.YtagdihffmjopaaaGreatDoorPtm
import Derived.Test.YtagdihffmjopaaaGreatDoorPsg
import Derived.Test.YtagdihffmjopaaaGreatDoorPsm
import Derived.Laws.IdiomStrings
import Derived.Lib.BufferRead
namespace Go.Proofs.YtagdihffmjopaaaGreatDoor
set_option linter.all false
open Go.RowKit
section
variable{B:Nat} {w0 w:World} {wb f:Nat} {bs:List UInt8} {kind pos n m:Int} {name:ByteArray} {ko:Option Addr} {kl kc:Nat}
theorem RN.up (hRs:∀g,g≤f→RN B w0 wb g) (ht:Tab B w0) (hx:Nw B w0 (f+1) (nodeC kind pos n m name (.slice ko kl kc)).toList) (hk:(13≤kind∧kind≤54)∧kind≠35∧kind≠45∧kind≠47):Wc B w0 wb 76 (nodeC kind pos n m name (.slice ko kl kc)) (tok (f+1) w0 (nodeC kind pos n m name (.slice ko kl kc)).toList):=by
 obtain⟨vs,hkl,hr,hg,-,-,-⟩:=hx.opened
 by_cases k13:kind=13
 ·subst k13
  exact e76_13 (fun g hg=>@hRs g hg) ht hx
 by_cases k14:kind=14
 ·subst k14
  exact e76_14 (fun g hg=>@hRs g hg) ht hx
 by_cases k15:kind=15
 ·subst k15
  exact e76_15 (fun g hg=>@hRs g hg) ht hx
 by_cases k16:kind=16
 ·subst k16
  have hn':n=0∨n=1:=(hg.ref rfl).1
  rcases nm_cases name with h|h<;>rcases hn' with hn'|hn'
  ·exact e76_16f0 (fun g hg=>@hRs g hg) ht h hn' hx
  ·exact e76_16f1 (fun g hg=>@hRs g hg) ht h hn' hx
  ·exact e76_16t0 (fun g hg=>@hRs g hg) ht h hn' hx
  ·exact e76_16t1 (fun g hg=>@hRs g hg) ht h hn' hx
 by_cases k17:kind=17
 ·subst k17
  exact e76_17 (fun g hg=>@hRs g hg) ht hx
 by_cases k18:kind=18
 ·subst k18
  rcases Nat.eq_zero_or_pos kl with hz|hz
  ·exact e76_18a (fun g hg=>@hRs g hg) ht hz hx
  ·exact e76_18b (fun g hg=>@hRs g hg) ht hz hx
 by_cases k19:kind=19
 ·subst k19
  exact e76_19 (fun g hg=>@hRs g hg) ht hx
 by_cases k20:kind=20
 ·subst k20
  exact e76_20 (fun g hg=>@hRs g hg) ht hx
 by_cases k21:kind=21
 ·subst k21
  rcases hg.ebool (.inl rfl) with hn'|hn'
  ·exact e76_210 (fun g hg=>@hRs g hg) ht hn' hx
  ·exact e76_211 (fun g hg=>@hRs g hg) ht hn' hx
 by_cases k22:kind=22
 ·subst k22
  exact e76_22 (fun g hg=>@hRs g hg) ht hx
 by_cases k23:kind=23
 ·subst k23
  exact f76_23 (e101_23 (fun g hg=>@hRs g hg) ht hx)
 by_cases k24:kind=24
 ·subst k24
  exact f76_24 (e101_24 (fun g hg=>@hRs g hg) ht hx)
 by_cases k25:kind=25
 ·subst k25
  rcases nm_cases name with h|h
  ·exact f76_25 (e101_25a (fun g hg=>@hRs g hg) ht h hx)
  ·exact f76_25 (e101_25b (fun g hg=>@hRs g hg) ht h hx)
 by_cases k26:kind=26
 ·subst k26
  exact f76_26 (e101_26 (fun g hg=>@hRs g hg) ht hx)
 by_cases k27:kind=27
 ·subst k27
  exact f76_27 (e101_27 (fun g hg=>@hRs g hg) ht hx)
 by_cases k28:kind=28
 ·subst k28
  exact f76_28 (e101_28 (fun g hg=>@hRs g hg) ht hx)
 by_cases k29:kind=29
 ·subst k29
  exact f76_29 (e101_29 (fun g hg=>@hRs g hg) ht hx)
 by_cases k30:kind=30
 ·subst k30
  exact f76_30 (e101_30 (fun g hg=>@hRs g hg) ht hx)
 by_cases k31:kind=31
 ·subst k31
  exact f76_31 (e101_31 (fun g hg=>@hRs g hg) ht hx)
 by_cases k32:kind=32
 ·subst k32
  exact f76_32 (e101_32 (fun g hg=>@hRs g hg) ht hx)
 by_cases k33:kind=33
 ·subst k33
  have hlen:kl=2∨kl=3:=by
   obtain⟨y,z,zs,eks,hz,-,-,-⟩:=hg.eif rfl
   have:=congrArg List.length eks
   simp at this;omega
  rcases hlen with h|h
  ·exact f76_33 (f101_33 (e117_33a (fun g hg=>@hRs g hg) ht h hx))
  ·exact f76_33 (f101_33 (e117_33b (fun g hg=>@hRs g hg) ht h hx))
 by_cases k34:kind=34
 ·subst k34
  by_cases h:kc=1
  ·exact f76_34 (f101_34 (e117_34a (fun g hg=>@hRs g hg) ht h hx))
  ·exact f76_34 (f101_34 (e117_34b (fun g hg=>@hRs g hg) ht h hx))
 by_cases k36:kind=36
 ·subst k36
  exact f76_36 (f101_36 (fun a1 a2 a3=>ctl_36 (fun g hg=>@hRs g hg) hx a1 a2 a3))
 by_cases k37:kind=37
 ·subst k37
  exact f76_37 (f101_37 (fun a1 a2 a3=>ctl_37 (fun g hg=>@hRs g hg) hx a1 a2 a3))
 by_cases k38:kind=38
 ·subst k38
  exact f76_38 (f101_38 (fun a1 a2 a3=>ctl_38 (fun g hg=>@hRs g hg) hx a1 a2 a3))
 by_cases k39:kind=39
 ·subst k39
  exact f76_39 (f101_39 (fun a1 a2 a3=>ctl_39 (fun g hg=>@hRs g hg) hx a1 a2 a3))
 by_cases k40:kind=40
 ·subst k40
  exact f76_40 (f101_40 (fun a1 a2 a3=>ctl_40 (fun g hg=>@hRs g hg) hx a1 a2 a3))
 by_cases k41:kind=41
 ·subst k41
  exact f76_41 (f101_41 (fun a1 a2 a3=>ctl_41 (fun g hg=>@hRs g hg) hx a1 a2 a3))
 by_cases k42:kind=42
 ·subst k42
  exact f76_42 (f101_42 (fun a1 a2 a3=>ctl_42 (fun g hg=>@hRs g hg) hx a1 a2 a3))
 by_cases k43:kind=43
 ·subst k43
  have hn':n=0∨n=1∨n=2∨n=3:=by have:=(hg.elet rfl).2;omega
  rcases hn' with hn'|hn'|hn'|hn'
  ·exact f76_43 (f101_43 (e117_430 (fun g hg=>@hRs g hg) ht hn' hx))
  ·exact f76_43 (f101_43 (e117_431 (fun g hg=>@hRs g hg) ht hn' hx))
  ·exact f76_43 (f101_43 (e117_432 (fun g hg=>@hRs g hg) ht hn' hx))
  ·exact f76_43 (f101_43 (e117_433 (fun g hg=>@hRs g hg) ht hn' hx))
 by_cases k44:kind=44
 ·subst k44
  rcases hx.shape with h|h
  ·exact f76_44 (e101_44a (fun g hg=>@hRs g hg) ht h hx)
  ·obtain⟨-,cs,-,-,hml,-,-⟩:=hg.make rfl
   by_cases hz:kc=cs.length
   ·exact f76_44 (e101_44c (fun g hg=>@hRs g hg) ht ⟨h,fun z hm=>by omega⟩ hx)
   ·exact f76_44 (e101_44b (fun g hg=>@hRs g hg) ht ⟨h,fun z hm=>by omega⟩ hx)
 by_cases k46:kind=46
 ·subst k46
  exact f76_46 (f101_46 (e117_46 (fun g hg=>@hRs g hg) ht hx))
 by_cases k48:kind=48
 ·subst k48
  exact f76_48 (f101_48 (e117_48 (fun g hg=>@hRs g hg) ht hx))
 by_cases k49:kind=49
 ·subst k49
  exact e76_49 (fun g hg=>@hRs g hg) ht hx
 by_cases k50:kind=50
 ·subst k50
  exact e76_50 (fun g hg=>@hRs g hg) ht hx
 by_cases k51:kind=51
 ·subst k51
  by_cases hn':n<0
  ·exact e76_51n (fun g hg=>@hRs g hg) ht hn' hx
  ·exact e76_51p (fun g hg=>@hRs g hg) ht (by omega) hx
 by_cases k52:kind=52
 ·subst k52
  rcases hg.ebool (.inr rfl) with hn'|hn'
  ·exact e76_520 (fun g hg=>@hRs g hg) ht hn' hx
  ·exact e76_521 (fun g hg=>@hRs g hg) ht hn' hx
 by_cases k53:kind=53
 ·subst k53
  exact e76_53 (fun g hg=>@hRs g hg) ht hx
 by_cases k54:kind=54
 ·subst k54
  rcases Nat.eq_zero_or_pos kl with hz|hz
  ·exact e76_54a (fun g hg=>@hRs g hg) ht hz hx
  ·exact e76_54b (fun g hg=>@hRs g hg) ht hz hx
 omega
theorem RN.next (hRs:∀g,g≤f→RN B w0 wb g) (ht:Tab B w0):RN B w0 wb (f+1):=by
 unfold RN
 intro w bs kind pos n m name kv hx hk h hne hf
 obtain⟨k',p',n',m',s',o',l',c',e,-,-⟩:=hx.fields
 have e2:kind=k'∧pos=p'∧n=n'∧m=m'∧name=s'∧kv=.slice o' l' c':=by simpa[nodeC] using e
 obtain⟨rfl,rfl,rfl,rfl,rfl,rfl⟩:=e2
 have hk1:=hk
 unfold noK at hk1
 have hk2:kind=labOf (nodeC kind pos n m name (.slice o' l' c')).toList:=lab_is rfl (.inl (by omega))
 rw[←hk2] at hk1
 exact RN.up (fun g hg=>@hRs g hg) ht hx hk1 h hne hf
theorem RN.all (ht:Tab B w0) (f:Nat):∀g,g≤f→RN B w0 wb g:=by
 induction f with
 |zero=>
  intro g hg
  obtain rfl:g=0:=by omega
  intro w bs kind pos n m name kv hx
  exact absurd hx (fun x=>x)
 |succ f ih=>
  intro g hg
  by_cases h:g≤f
  ·exact ih g h
  ·obtain rfl:g=f+1:=by omega
   exact RN.next (fun g hg=>ih g hg) ht
theorem lab108 {k p n m:Int} {s:ByteArray} {v:Value} (h:labOf (nodeC k p n m s v).toList=108∨labOf (nodeC k p n m s v).toList=208):k=8:=by
 have h2:lab k n m s (lenOf v)=108∨lab k n m s (lenOf v)=208:=h
 unfold lab at h2
 split at h2
 ·assumption
 ·split at h2
  ·split at h2<;>omega
  ·split at h2
   ·split at h2
    ·split at h2<;>omega
    ·omega
   ·split at h2
    ·split at h2<;>omega
    ·split at h2<;>omega
theorem labsm {k p n m z:Int} {s:ByteArray} {v:Value} (h:labOf (nodeC k p n m s v).toList=z) (hz:z=2∨z=3∨z=6∨z=7):k=z:=by
 have h2:lab k n m s (lenOf v)=z:=h
 unfold lab at h2
 split at h2
 ·split at h2<;>split at h2<;>omega
 ·split at h2
  ·split at h2<;>omega
  ·split at h2
   ·split at h2
    ·split at h2<;>omega
    ·omega
   ·split at h2
    ·split at h2<;>omega
    ·split at h2<;>omega
theorem item_w (ht:Tab B w0) (hx:Nw B w0 f (nodeC kind pos n m name (.slice ko kl kc)).toList) (h1:labOf (nodeC kind pos n m name (.slice ko kl kc)).toList=2∨labOf (nodeC kind pos n m name (.slice ko kl kc)).toList=3∨labOf (nodeC kind pos n m name (.slice ko kl kc)).toList=6∨labOf (nodeC kind pos n m name (.slice ko kl kc)).toList=7∨labOf (nodeC kind pos n m name (.slice ko kl kc)).toList=108∨labOf (nodeC kind pos n m name (.slice ko kl kc)).toList=208):Wc B w0 wb 32 (nodeC kind pos n m name (.slice ko kl kc)) (tok f w0 (nodeC kind pos n m name (.slice ko kl kc)).toList):=by
 cases f with
 |zero=>exact absurd hx (fun x=>x)
 |succ f=>
  have hRs:∀g,g≤f→RN B w0 wb g:=RN.all ht f
  obtain⟨vs,hkl,hr,hg,htok,-,-⟩:=hx.opened
  rcases h1 with h1|h1|h1|h1|h1
  ·obtain rfl:=labsm h1 (by omega)
   obtain⟨rfl,-⟩:=hg.use rfl
   (intro w1 cs a1 a2 a3;exact e32_2 (fun g hg=>@hRs g hg) ht hx a1 a2 a3)
  ·obtain rfl:=labsm h1 (by omega)
   obtain⟨hm,hn⟩:=hg.data rfl
   have hF:tok (f+1) w0 (nodeC 3 pos n m name (.slice ko kl kc)).toList=pWhen (m%2==1) [[112,117,98]]++(pWhen (decide (2≤m)) [[99,111,112,121]]++(if n=0 then [115,116,114,117,99,116]::name.data.toList::pAll (vs.map (kdAt f w0)) else [101,110,117,109]::name.data.toList::((kd (vs.map (kdAt f w0)) 0).t++pRow [123] [125] ((vs.map (kdAt f w0)).drop 1)))):=by
    rw[htok,←List.append_assoc];rfl
   have W:Wc B w0 wb 73 (nodeC 3 pos n m name (.slice ko kl kc)) (pWhen (decide (2≤m)) [[99,111,112,121]]++(if n=0 then [115,116,114,117,99,116]::name.data.toList::pAll (vs.map (kdAt f w0)) else [101,110,117,109]::name.data.toList::((kd (vs.map (kdAt f w0)) 0).t++pRow [123] [125] ((vs.map (kdAt f w0)).drop 1)))):=by
    by_cases h2:2≤m
    ·rcases hn with⟨h0,-⟩|⟨h0,-⟩
     ·exact fun a1 a2 a3=>e73_3s1 (fun g hg=>@hRs g hg) ht h0 h2 hx hF a1 a2 a3
     ·by_cases hz:kc=1
      ·exact fun a1 a2 a3=>e73_3e11 (fun g hg=>@hRs g hg) ht h0 h2 hz hx hF a1 a2 a3
      ·exact fun a1 a2 a3=>e73_3e10 (fun g hg=>@hRs g hg) ht h0 h2 hz hx hF a1 a2 a3
    ·rcases hn with⟨h0,-⟩|⟨h0,-⟩
     ·exact fun a1 a2 a3=>e73_3s0 (fun g hg=>@hRs g hg) ht h0 h2 hx hF a1 a2 a3
     ·by_cases hz:kc=1
      ·exact fun a1 a2 a3=>e73_3e01 (fun g hg=>@hRs g hg) ht h0 h2 hz hx hF a1 a2 a3
      ·exact fun a1 a2 a3=>e73_3e00 (fun g hg=>@hRs g hg) ht h0 h2 hz hx hF a1 a2 a3
   rw[hF]
   have hm':m=0∨m=1∨m=2∨m=3:=by omega
   rcases hm' with rfl|rfl|rfl|rfl
   ·(intro w1 cs a1 a2 a3;exact f32_3_0 W a1 a2 a3)
   ·(intro w1 cs a1 a2 a3;exact f32_3_1 W a1 a2 a3)
   ·(intro w1 cs a1 a2 a3;exact f32_3_2 W a1 a2 a3)
   ·(intro w1 cs a1 a2 a3;exact f32_3_3 W a1 a2 a3)
  ·obtain rfl:=labsm h1 (by omega)
   rcases(hg.trait rfl).1 with hm|hm
   ·(intro w1 cs a1 a2 a3;exact e32_60 (fun g hg=>@hRs g hg) ht hm hx a1 a2 a3)
   ·(intro w1 cs a1 a2 a3;exact e32_61 (fun g hg=>@hRs g hg) ht hm hx a1 a2 a3)
  ·obtain rfl:=labsm h1 (by omega)
   have hzz:kc=2∨kc≠2:=by omega
   rcases hzz with hz|hz
   ·(intro w1 cs a1 a2 a3;exact e32_7z (fun g hg=>@hRs g hg) ht hz hx a1 a2 a3)
   ·(intro w1 cs a1 a2 a3;exact e32_7n (fun g hg=>@hRs g hg) ht hz hx a1 a2 a3)
  ·obtain rfl:=lab108 h1
   obtain⟨F,hF,W⟩:=fn74_any (fun g hg=>@hRs g hg) ht hx
   rw[hF]
   rcases(hg.fn rfl).1 with rfl|rfl
   ·(intro w1 cs a1 a2 a3;exact f32_8_0 W a1 a2 a3)
   ·(intro w1 cs a1 a2 a3;exact f32_8_1 W a1 a2 a3)
theorem item_open (ht:Tab B w0) (hx:Nw B w0 f (nodeC kind pos n m name (.slice ko kl kc)).toList) (h1:labOf (nodeC kind pos n m name (.slice ko kl kc)).toList=2∨labOf (nodeC kind pos n m name (.slice ko kl kc)).toList=3∨labOf (nodeC kind pos n m name (.slice ko kl kc)).toList=6∨labOf (nodeC kind pos n m name (.slice ko kl kc)).toList=7∨labOf (nodeC kind pos n m name (.slice ko kl kc)).toList=108∨labOf (nodeC kind pos n m name (.slice ko kl kc)).toList=208):∃T,Wc B w0 wb 32 (nodeC kind pos n m name (.slice ko kl kc)) T∧tok f w0 (nodeC kind pos n m name (.slice ko kl kc)).toList=T:=⟨_,item_w ht hx h1,rfl⟩
end
end Go.Proofs.YtagdihffmjopaaaGreatDoor
namespace Go.Proofs.YtagdihffmjopaaaGreatDoor
set_option linter.all false
open Go.RowKit
section
variable{B:Nat} {w0 w:World} {wb f:Nat} {bs:List UInt8} {kind pos n m:Int} {name:ByteArray} {ko:Option Addr} {kl kc:Nat}
theorem putL_ne (bs a:List UInt8) (r:List (List UInt8)) (h:a≠[]):putL bs (a::r)≠[]:=fun e=>by
 have h1:=putL_len (if bs=[] then a else bs++32::a) r
 have h2:putL (if bs=[] then a else bs++32::a) r=[]:=e
 rw[h2] at h1
 split at h1
 ·exact h (List.eq_nil_of_length_eq_zero (by simpa using h1))
 ·simp at h1
set_option maxRecDepth 100000 in
set_option maxHeartbeats 2000000 in
theorem module16s (ht:Tab B w0) (hx:Nw B w0 (f+1) (nodeC 1 pos n m name (.slice ko kl kc)).toList) (h:Wr B w0 w wb bs) (hf:(putL bs (tok (f+1) w0 (nodeC 1 pos n m name (.slice ko kl kc)).toList)).length≤1099511627776):Calls Tryz.prog 16 #[.pointer (some ⟨wb,0,none⟩),.agg (nodeC 1 pos n m name (.slice ko kl kc))] w (fun e w'=>e=.returned (.tuple #[])∧Wr B w0 w' wb (putL bs (tok (f+1) w0 (nodeC 1 pos n m name (.slice ko kl kc)).toList))∧Fr 5 w wb w'):=by
 obtain⟨us,hkl,hr,hg,htok,hs,hc⟩:=hx.opened
 subst hkl
 have hk:∀x∈us,labOf x=2∨labOf x=3∨labOf x=6∨labOf x=7∨labOf x=108∨labOf x=208:=fun x hx=>by
  rcases hg.mod rfl _ (List.mem_map.2 ⟨x,hx,rfl⟩) with h|h|h|h|h|h<;>simp[h]
 obtain⟨b1,hb1⟩:∃b1,b1=putL bs [[109,111,100],tl name,[123]]:=⟨_,rfl⟩
 have hb1n:b1≠[]:=by rw[hb1];exact putL_ne _ _ _ (by decide)
 have hEND:putL bs (tok (f+1) w0 (nodeC 1 pos n m name (.slice ko us.length kc)).toList)=b1++glue (pAll (us.map (kdAt f w0))++[[125]]):=by
  rw[htok,hb1]
  show putL bs ([[109,111,100],tl name,[123]]++(pAll (us.map (kdAt f w0))++[[125]]))=_
  rw[putL_append,putL_glue (putL_ne _ _ _ (by decide))]
 have HEND:Hid (putL bs (tok (f+1) w0 (nodeC 1 pos n m name (.slice ko us.length kc)).toList)=b1++glue (pAll (us.map (kdAt f w0))++[[125]])):=hEND
 have HF:Hid ((b1++glue (pAll (us.map (kdAt f w0))++[[125]])).length≤1099511627776):=by rw[hEND] at hf;exact hf
 have HF1:Hid ((putL bs [[109,111,100],tl name,[123]]).length≤1099511627776):=by
  show _≤_
  rw[←hb1]
  exact Nat.le_trans (by simp) HF.out
 have HL:Hid (NR B w0 f ko us∧(∀x∈us,labOf x=2∨labOf x=3∨labOf x=6∨labOf x=7∨labOf x=108∨labOf x=208)∧us.length=us.length):=⟨hr,hk,rfl⟩
 have HTB:Hid (Tab B w0):=ht
 have HB1:Hid (b1=putL bs [[109,111,100],tl name,[123]]∧b1≠[]):=⟨hb1,hb1n⟩
 have hal:=al1 w (.cells (nodeC 1 pos n m name (.slice ko us.length kc)) 28)
 have HW0:Hid (Wr B w0 w wb bs∧Wr B w0 (w.alloc (.cells (nodeC 1 pos n m name (.slice ko us.length kc)) 28)) wb bs∧Fr 5 w wb (w.alloc (.cells (nodeC 1 pos n m name (.slice ko us.length kc)) 28))∧wb≠w.heap.size):=⟨h,h.below hal.1,Fr.below hal.1,by have:=h.lt;omega⟩
 have F:(∀o,(w.alloc (.cells (nodeC 1 pos n m name (.slice ko us.length kc)) 28)).cell? ⟨w.heap.size,o,none⟩=(nodeC 1 pos n m name (.slice ko us.length kc))[o]?)∧w.heap.size<(w.alloc (.cells (nodeC 1 pos n m name (.slice ko us.length kc)) 28)).heap.size:=⟨fun o=>cell_of_row _ w.heap.size o _ 28 (0,0) hal.2,(Array.getElem?_eq_some_iff.1 hal.2).1⟩
 have hfew:=hr.few
 obtain⟨nb,hnb⟩:∃nb,nb=w.heap.size:=⟨_,rfl⟩
 clear h hf hr hg hc hk hs htok hx hEND hb1 hb1n hal ht
 go_enter Tryz.func16,Tryz.ntmps16
 go_wp2_with (go_at_call 31;refine(puts31g (ss:=[⟨#[109,111,100]⟩,name,⟨#[123]⟩]) (n:=3) (HW0.out.2.1.below (al1 _ _).1) rfl (by omega) (by have h7:=(al1 (w.alloc (.cells (nodeC 1 pos n m name (.slice ko us.length kc)) 28)) (.cells #[.string ⟨#[109,111,100]⟩,.string name,.string ⟨#[123]⟩] 9)).2;simpa using h7) (by have h7:=HW0.out.1.lt;omega) HF1.out).mono ?_;rintro e w1 ⟨rfl,hw1,hf1⟩;have q:Sw B w0 w1 wb b1 [] (pAll (us.map (kdAt f w0))++[[125]]) w1 [(w.heap.size,(nodeC 1 pos n m name (.slice ko us.length kc)))]:=⟨by have h6:=hw1;rw[show putL bs (([⟨#[109,111,100]⟩,name,⟨#[123]⟩]:List ByteArray).map (·.data.toList))=b1 from HB1.out.1.symm] at h6;simpa[glue] using h6,Fr.refl _ _,by simpa using HF.out,HB1.out.2,fun p hp=>by
  obtain rfl:=List.mem_singleton.1 hp
  refine⟨hf1.cells (t:=28) ?_ (by decide) HW0.out.2.2.2.symm,HW0.out.2.2.2.symm⟩
  rw[Below.heap_alloc _ _ _ (by simp)]
  exact(al1 w (.cells (nodeC 1 pos n m name (.slice ko us.length kc)) 28)).2⟩;have HFR:Hid (Fr 5 w wb w1):=(HW0.out.2.2.1.trans (Fr.below (al1 _ _).1)).trans hf1;clear hw1 hf1 F;have F:=q.f1)
 rw[←hnb] at q F⊢
 clear hnb
 go_loopg [14] us.length (fun gg u wr=>∃(idx:Nat) (ts:List (List UInt8)),gg=us.length - idx∧u=.int .i64 idx∧idx≤us.length∧Hid (ts++aR (us.map (kdAt f w0)) idx=[]++aR (us.map (kdAt f w0)) 0)∧Hid (Sw B w0 w1 wb b1 ts (aR (us.map (kdAt f w0)) idx++[[125]]) wr [(nb,(nodeC 1 pos n m name (.slice ko us.length kc)))]))
 case atStart=>exact⟨0,_,rfl,rfl,Nat.zero_le _,(by show _=_;simp[aR]),q⟩
 case round=>
  clear q F
  obtain⟨idx,ts,hgk,rfl,hidx,HT,Q⟩:=hrel
  have HG:Hid (gk=us.length - idx):=hgk
  clear hgk
  by_cases hlt:idx<us.length
  ·have hltI:(idx:Int)<(us.length:Int):=by omega
   obtain⟨x,hx⟩:∃x,us[idx]? =some x:=⟨_,List.getElem?_eq_getElem hlt⟩
   obtain⟨gx,ox,hax,hgB,hcell⟩:=HL.out.1.cell idx x hx
   have hmem:=List.mem_of_getElem? hx
   obtain⟨kind2,pos2,n2,m2,name2,ko2,kl2,kc2,rfl,-,-⟩:=(HL.out.1.all x hmem).fields
   have HX:Hid (Nw B w0 f (nodeC kind2 pos2 n2 m2 name2 (.slice ko2 kl2 kc2)).toList∧(labOf (nodeC kind2 pos2 n2 m2 name2 (.slice ko2 kl2 kc2)).toList=2∨labOf (nodeC kind2 pos2 n2 m2 name2 (.slice ko2 kl2 kc2)).toList=3∨labOf (nodeC kind2 pos2 n2 m2 name2 (.slice ko2 kl2 kc2)).toList=6∨labOf (nodeC kind2 pos2 n2 m2 name2 (.slice ko2 kl2 kc2)).toList=7∨labOf (nodeC kind2 pos2 n2 m2 name2 (.slice ko2 kl2 kc2)).toList=108∨labOf (nodeC kind2 pos2 n2 m2 name2 (.slice ko2 kl2 kc2)).toList=208)∧(us.map (kdAt f w0))[idx]? =some (kdAt f w0 (nodeC kind2 pos2 n2 m2 name2 (.slice ko2 kl2 kc2)).toList)):=⟨HL.out.1.all _ hmem,HL.out.2.1 _ hmem,by rw[List.getElem?_map,hx];rfl⟩
   have lift:∀j,j<11→wr.cell? ⟨gx,ox+idx*11+j,none⟩=(nodeC kind2 pos2 n2 m2 name2 (.slice ko2 kl2 kc2)).toList[j]? :=fun j hj=>(Q.out.wr.bel.cell (p:=⟨gx,ox+idx*11+j,none⟩) hgB).trans (hcell j hj)
   have lgx:gx<wr.heap.size:=Nat.lt_of_lt_of_le hgB Q.out.wr.base
   subst hax
   have e0:=lift 0 (by decide)
   have e1:=lift 1 (by decide)
   have e2:=lift 2 (by decide)
   have e3:=lift 3 (by decide)
   have e4:=lift 4 (by decide)
   have e5:=lift 5 (by decide)
   have e6:=lift 6 (by decide)
   have e7:=lift 7 (by decide)
   have e8:=lift 8 (by decide)
   have e9:=lift 9 (by decide)
   have e10:=lift 10 (by decide)
   simp only[Nat.add_zero,Nat.zero_add] at e0 e1 e2 e3 e4 e5 e6 e7 e8 e9 e10
   clear lift hcell hx hmem
   obtain⟨T,HW',hT⟩:=item_open HTB.out HX.out.1 HX.out.2.1
   have HW:Hid (Wc B w0 wb 32 (nodeC kind2 pos2 n2 m2 name2 (.slice ko2 kl2 kc2)) T):=HW'
   clear HW'
   obtain⟨KT,hKT⟩:∃KT,KT=T:=⟨_,rfl⟩
   have HKT:Hid (tok f w0 (nodeC kind2 pos2 n2 m2 name2 (.slice ko2 kl2 kc2)).toList=KT):=by show _=_;rw[hKT,hT]
   clear hT
   rcases Nat.eq_zero_or_pos idx with h0|h0
   ·subst h0
    simp only[Nat.zero_mul,Nat.add_zero,Nat.zero_add] at e0 e1 e2 e3 e4 e5 e6 e7 e8 e9 e10
    have st:aR (us.map (kdAt f w0)) 0=KT++(aR (us.map (kdAt f w0)) (0+1)):=by rw[aR_step HX.out.2.2];exact congrArg (fun z=>z++_) HKT.out
    have HE:Hid (ts++([]++(KT++aR (us.map (kdAt f w0)) (0+1)))=[]++aR (us.map (kdAt f w0)) 0):=by show _=_;rw[←HT.out,st];simp
    have q:=((Q.out.as (rest':=T++(aR (us.map (kdAt f w0)) (0+1)++[[125]])) (by rw[st,hKT];simp)).box (nodeC kind2 pos2 n2 m2 name2 (.slice ko2 kl2 kc2)))
    have HE2:Hid (ts++((T)++aR (us.map (kdAt f w0)) (0+1))=[]++aR (us.map (kdAt f w0)) 0):=by show _=_;rw[←HE.out,hKT];simp
    clear st hKT
    have F:=q.f1
    go_wp2_with (first
     |(go_at_call 32;refine q.go (fun a1 a2 a3=>HW.out a1 a2 a3) ?_;clear q F;intro w2 q;have F:=q.f1))
    go_roundg (us.length - (0+1))
    case measure=>rw[HG.out];omega
    case rel=>exact⟨0+1,_,rfl,by go_num,hlt,(by show _=_;have:=HE2.out;simpa using this),q.pop⟩
   ·have hI:(0:Int)<(idx:Int):=by omega
    have st:aR (us.map (kdAt f w0)) idx=KT++(aR (us.map (kdAt f w0)) (idx+1)):=by rw[aR_step HX.out.2.2];exact congrArg (fun z=>z++_) HKT.out
    have HE:Hid (ts++([]++(KT++aR (us.map (kdAt f w0)) (idx+1)))=[]++aR (us.map (kdAt f w0)) 0):=by show _=_;rw[←HT.out,st];simp
    have q:=((Q.out.as (rest':=T++(aR (us.map (kdAt f w0)) (idx+1)++[[125]])) (by rw[st,hKT];simp)).box (nodeC kind2 pos2 n2 m2 name2 (.slice ko2 kl2 kc2)))
    have HE2:Hid (ts++((T)++aR (us.map (kdAt f w0)) (idx+1))=[]++aR (us.map (kdAt f w0)) 0):=by show _=_;rw[←HE.out,hKT];simp
    clear st hKT
    have F:=q.f1
    go_wp2_with (first
     |(go_at_call 32;refine q.go (fun a1 a2 a3=>HW.out a1 a2 a3) ?_;clear q F;intro w2 q;have F:=q.f1))
    go_roundg (us.length - (idx+1))
    case measure=>rw[HG.out];omega
    case rel=>exact⟨idx+1,_,rfl,by go_num,hlt,(by show _=_;have:=HE2.out;simpa using this),q.pop⟩
  ·have hltI:¬(idx:Int)<(us.length:Int):=by omega
   obtain rfl:idx=us.length:=by omega
   have e:aR (us.map (kdAt f w0)) us.length=[]:=by have:=aR_end (ks:=(us.map (kdAt f w0)));rwa [List.length_map] at this
   have q:=Q.out.as (rest':=[[125]]) (by rw[e];rfl)
   have HE:Hid (ts=[]++aR (us.map (kdAt f w0)) 0):=by show _=_;rw[←HT.out,e,List.append_nil]
   clear e
   have F:=q.f1
   go_wp2_with (go_at_call 33;refine q.put ?_;clear q F;intro w3 q;have F:=q.f1)
   go_end0
   refine⟨rfl,?_,HFR.out.trans q.fr⟩
   have h9:=q.wr
   rw[HE.out] at h9
   rw[HEND.out]
   have h8:([]++aR (us.map (kdAt f w0)) 0++[[125]]:List (List UInt8))=pAll (us.map (kdAt f w0))++[[125]]:=by simp[aR]
   rw[h8] at h9
   exact h9
theorem module16 (ht:Tab B w0) (hx:Nw B w0 f (nodeC kind pos n m name (.slice ko kl kc)).toList) (h1:labOf (nodeC kind pos n m name (.slice ko kl kc)).toList=1) (h:Wr B w0 w wb bs) (hf:(putL bs (tok f w0 (nodeC kind pos n m name (.slice ko kl kc)).toList)).length≤1099511627776):Calls Tryz.prog 16 #[.pointer (some ⟨wb,0,none⟩),.agg (nodeC kind pos n m name (.slice ko kl kc))] w (fun e w'=>e=.returned (.tuple #[])∧Wr B w0 w' wb (putL bs (tok f w0 (nodeC kind pos n m name (.slice ko kl kc)).toList))∧Fr 5 w wb w'):=by
 have hkk:kind=1:=by
  have h2:lab kind n m name (lenOf (.slice ko kl kc))=1:=h1
  unfold lab at h2
  split at h2
  ·split at h2<;>split at h2<;>omega
  ·split at h2
   ·split at h2<;>omega
   ·split at h2
    ·split at h2
     ·split at h2<;>omega
     ·omega
    ·split at h2
     ·split at h2<;>omega
     ·split at h2<;>omega
 subst hkk
 cases f with
 |zero=>exact absurd hx (fun x=>x)
 |succ f=>exact module16s ht hx h hf
theorem Wr.conv (h:Wr B w0 w wb bs):∃ao cp,w.heap[wb]? =some (.cells #[.slice ao bs.length cp] 56 (0,0))∧(convert 54 9 (.slice ao bs.length cp)).run Tryz.prog w=.ok (.string ⟨bs.toArray⟩) w:=by
 obtain⟨ov,hov,hrow⟩:=h.ex
 rcases hrow.2 with⟨h1,h2⟩|⟨g,cap,cur,h1,hb,hg,hnc,hcm,hcs,htake⟩
 ·subst h1
  have hn:bs=[]:=List.eq_nil_of_length_eq_zero h2
  subst hn
  exact⟨none,0,hov,Lib.run_convert_nil_bytes w 54 9 5 0 Tryz.underlying54 Tryz.underlying5 Tryz.underlying9⟩
 ·subst h1
  refine⟨some ⟨g,0,none⟩,cap,hov,run_convert_bytes_back w 54 9 5 ⟨g,0,none⟩ cap bs Tryz.underlying54 Tryz.underlying5 Tryz.underlying9 (fun j hj=>?_)⟩
  exact Lib.bytes_of_row (l:=bs) hg (by rw[Nat.mul_one] at htake;exact htake) j hj
end
end Go.Proofs.YtagdihffmjopaaaGreatDoor
namespace Go.Proofs.YtagdihffmjopaaaGreatDoor
set_option linter.all false
open Go.RowKit
section
variable{B:Nat} {w0 w:World} {wb f:Nat} {bs:List UInt8} {kind pos n m:Int} {name:ByteArray} {ko:Option Addr} {kl kc:Nat}
set_option maxRecDepth 100000 in
set_option maxHeartbeats 2000000 in
theorem print6 (ht:Tab w.heap.size w) (hx:Nw w.heap.size w (f+1) (nodeC 0 pos n m name (.slice ko kl kc)).toList) (hf:(putL [] (tok (f+1) w (nodeC 0 pos n m name (.slice ko kl kc)).toList)).length≤1099511627776):Calls Tryz.prog 6 #[.agg (nodeC 0 pos n m name (.slice ko kl kc))] w (fun e w'=>e=.returned (.string ⟨(putL [] (tok (f+1) w (nodeC 0 pos n m name (.slice ko kl kc)).toList)).toArray⟩)∧Below w.heap.size w w'):=by
 obtain⟨us,hkl,hr,hg,htok,hs,hc⟩:=hx.opened
 subst hkl
 have htot:tok (f+1) w (nodeC 0 pos n m name (.slice ko us.length kc)).toList=aR (us.map (kdAt f w)) 0:=by rw[htok];rfl
 have HTOT:Hid (tok (f+1) w (nodeC 0 pos n m name (.slice ko us.length kc)).toList=aR (us.map (kdAt f w)) 0):=htot
 have HF:Hid ((putL [] (aR (us.map (kdAt f w)) 0)).length≤1099511627776):=by rw[htot] at hf;exact hf
 have HL:Hid (NR w.heap.size w f ko us∧(∀x∈us,labOf x=1)∧us.length=us.length):=⟨hr,fun x hx=>hg.prog rfl _ (List.mem_map.2 ⟨x,hx,rfl⟩),rfl⟩
 have HTB:Hid (Tab w.heap.size w):=ht
 have hal:=al1 w (.cells (nodeC 0 pos n m name (.slice ko us.length kc)) 28)
 have hal2:=al1 (w.alloc (.cells (nodeC 0 pos n m name (.slice ko us.length kc)) 28)) (.cells #[.slice none 0 0] 56)
 have HW0:Hid (Wr w.heap.size w ((w.alloc (.cells (nodeC 0 pos n m name (.slice ko us.length kc)) 28)).alloc (.cells #[.slice none 0 0] 56)) (w.heap.size+1) []):=⟨hal.1.trans (hal2.1.mono (by simp)),Nat.le_succ _,⟨.slice none 0 0,by have:=hal2.2;simpa using this,World.ownsRow_nil _ _ _ _⟩,by simp⟩
 have hfew:=hr.few
 clear hf hr hg hc hs htok hx htot ht hal hal2
 go_enter Tryz.func6,Tryz.ntmps6
 go_wp2_with fail
 go_loopg [11] us.length (fun gg u wr=>∃(idx:Nat) (ts:List (List UInt8)),gg=us.length - idx∧u=.int .i64 idx∧idx≤us.length∧Hid (ts++aR (us.map (kdAt f w)) idx=aR (us.map (kdAt f w)) 0)∧Hid (Wr w.heap.size w wr (w.heap.size+1) (putL [] ts)))
 case atStart=>exact⟨0,[],rfl,rfl,Nat.zero_le _,(by show _=_;simp),HW0.out⟩
 case round=>
  obtain⟨idx,ts,hgk,rfl,hidx,HT,Q⟩:=hrel
  have HG:Hid (gk=us.length - idx):=hgk
  clear hgk
  by_cases hlt:idx<us.length
  ·have hltI:(idx:Int)<(us.length:Int):=by omega
   obtain⟨x,hx⟩:∃x,us[idx]? =some x:=⟨_,List.getElem?_eq_getElem hlt⟩
   obtain⟨gx,ox,rfl,hgB,hcell⟩:=HL.out.1.cell idx x hx
   have hmem:=List.mem_of_getElem? hx
   obtain⟨kind2,pos2,n2,m2,name2,ko2,kl2,kc2,rfl,-,-⟩:=(HL.out.1.all x hmem).fields
   have HX:Hid (Nw w.heap.size w f (nodeC kind2 pos2 n2 m2 name2 (.slice ko2 kl2 kc2)).toList∧labOf (nodeC kind2 pos2 n2 m2 name2 (.slice ko2 kl2 kc2)).toList=1∧(us.map (kdAt f w))[idx]? =some (kdAt f w (nodeC kind2 pos2 n2 m2 name2 (.slice ko2 kl2 kc2)).toList)):=⟨HL.out.1.all _ hmem,HL.out.2.1 _ hmem,by rw[List.getElem?_map,hx];rfl⟩
   have lift:∀j,j<11→wr.cell? ⟨gx,ox+idx*11+j,none⟩=(nodeC kind2 pos2 n2 m2 name2 (.slice ko2 kl2 kc2)).toList[j]? :=fun j hj=>(Q.out.bel.cell (p:=⟨gx,ox+idx*11+j,none⟩) hgB).trans (hcell j hj)
   have lgx:gx<wr.heap.size:=Nat.lt_of_lt_of_le hgB Q.out.base
   have e0:=lift 0 (by decide)
   have e1:=lift 1 (by decide)
   have e2:=lift 2 (by decide)
   have e3:=lift 3 (by decide)
   have e4:=lift 4 (by decide)
   have e5:=lift 5 (by decide)
   have e6:=lift 6 (by decide)
   have e7:=lift 7 (by decide)
   have e8:=lift 8 (by decide)
   have e9:=lift 9 (by decide)
   have e10:=lift 10 (by decide)
   simp only[Nat.add_zero] at e0
   clear lift hcell hx hmem
   have st:aR (us.map (kdAt f w)) idx=tok f w (nodeC kind2 pos2 n2 m2 name2 (.slice ko2 kl2 kc2)).toList++aR (us.map (kdAt f w)) (idx+1):=aR_step HX.out.2.2
   have HE:Hid (ts++tok f w (nodeC kind2 pos2 n2 m2 name2 (.slice ko2 kl2 kc2)).toList++aR (us.map (kdAt f w)) (idx+1)=aR (us.map (kdAt f w)) 0):=by show _=_;rw[←HT.out,st,List.append_assoc]
   have HF2:Hid ((putL (putL [] ts) (tok f w (nodeC kind2 pos2 n2 m2 name2 (.slice ko2 kl2 kc2)).toList)).length≤1099511627776):=by
    show _≤_
    rw[←putL_append]
    refine Nat.le_trans ?_ HF.out
    rw[←HE.out,putL_append [] (ts++_)]
    exact putL_len _ _
   clear st
   have hal:=al1 wr (.cells (nodeC kind2 pos2 n2 m2 name2 (.slice ko2 kl2 kc2)) 28)
   have F:(∀o,(wr.alloc (.cells (nodeC kind2 pos2 n2 m2 name2 (.slice ko2 kl2 kc2)) 28)).cell? ⟨wr.heap.size,o,none⟩=(nodeC kind2 pos2 n2 m2 name2 (.slice ko2 kl2 kc2))[o]?)∧wr.heap.size<(wr.alloc (.cells (nodeC kind2 pos2 n2 m2 name2 (.slice ko2 kl2 kc2)) 28)).heap.size:=⟨fun o=>cell_of_row _ wr.heap.size o _ 28 (0,0) hal.2,(Array.getElem?_eq_some_iff.1 hal.2).1⟩
   clear hal
   go_wp2_with (go_at_call 16;refine(module16 HTB.out HX.out.1 HX.out.2.1 (Q.out.below (al1 _ _).1) HF2.out).mono ?_;rintro e w1 ⟨rfl,hw1,hf1⟩;have HW1:Hid _:=hw1;clear hw1 hf1)
   go_roundg (us.length - (idx+1))
   case measure=>rw[HG.out];omega
   case rel=>exact⟨idx+1,ts++tok f w (nodeC kind2 pos2 n2 m2 name2 (.slice ko2 kl2 kc2)).toList,rfl,by go_num,hlt,HE.out,(by show Wr _ _ _ _ _;rw[putL_append];exact HW1.out)⟩
  ·have hltI:¬(idx:Int)<(us.length:Int):=by omega
   obtain rfl:idx=us.length:=by omega
   have e:aR (us.map (kdAt f w)) us.length=[]:=by have:=aR_end (ks:=(us.map (kdAt f w)));rwa [List.length_map] at this
   have HTS:Hid (ts=aR (us.map (kdAt f w)) 0):=by show _=_;rw[←HT.out,e,List.append_nil]
   clear e
   have q:=Q.out
   rw[HTS.out,←HTOT.out] at q
   obtain⟨ao,cp,hb,hcv⟩:=q.conv
   have c0:=cell_of_row wr (w.heap.size+1) 0 _ 56 (0,0) hb
   have lb:w.heap.size+1<wr.heap.size:=q.lt
   have HQ:Hid (Wr w.heap.size w wr (w.heap.size+1) (putL [] (tok (f+1) w (nodeC 0 pos n m name (.slice ko us.length kc)).toList))):=q
   clear q hb
   go_wp2_with fail
   exact bodyPost_ret (v:=.string ⟨(putL [] (tok (f+1) w (nodeC 0 pos n m name (.slice ko us.length kc)).toList)).toArray⟩) (by simp[results,Tryz.results6,go_sem]) rfl ⟨rfl,HQ.out.bel⟩
end
end Go.Proofs.YtagdihffmjopaaaGreatDoor
