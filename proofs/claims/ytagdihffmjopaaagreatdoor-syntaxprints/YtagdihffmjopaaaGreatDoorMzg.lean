/- What calls that read types leave, their trees counted. -/
import Derived.Test.YtagdihffmjopaaaGreatDoorPtr
import Derived.Test.YtagdihffmjopaaaGreatDoorPsn
import Derived.Lib.ItoaLen
import Derived.Lib.ReplaceLaws
import Derived.Test.YtagdihffmjopaaaGreatDoorMze
namespace Go.Proofs.YtagdihffmjopaaaGreatDoor
set_option linter.all false
open Go.RowKit
def gl (ts:List (List UInt8)):Nat:=(glue ts).length
theorem gl_append (a b:List (List UInt8)):gl (a++b)=gl a+gl b:=by unfold gl;rw[glue_append,List.length_append]
theorem gl_cons (a:List UInt8) (b:List (List UInt8)):gl (a::b)=1+a.length+gl b:=by unfold gl;rw[glue_cons];simp;omega
theorem gl_nil:gl []=0:=rfl
theorem gl_when (d:Bool) (l:List (List UInt8)):gl (pWhen d l)≤gl l:=by unfold pWhen;split<;>simp[gl_nil]
def SK (ks:List Kd):Nat:=(ks.map (fun k=>gl k.t+100)).sum
theorem SK_cons (k:Kd) (r:List Kd):SK (k::r)=gl k.t+100+SK r:=by simp[SK]
theorem SK_append (a b:List Kd):SK (a++b)=SK a+SK b:=by simp[SK]
theorem SK_cut (ks:List Kd) (i:Nat):SK (ks.take i)+SK (ks.drop i)=SK ks:=by rw[←SK_append,List.take_append_drop]
theorem gl_pAll (ks:List Kd):gl (pAll ks)≤SK ks:=by
 induction ks with
 |nil=>simp[pAll,gl_nil]
 |cons k r ih=>
  have e:pAll (k::r)=k.t++pAll r:=by simp[pAll]
  rw[e,gl_append,SK_cons];omega
theorem gl_pMore (s:List UInt8) (hs:s.length≤50) (ks:List Kd):gl (pMore s ks)≤SK ks:=by
 induction ks with
 |nil=>simp[pMore,gl_nil]
 |cons k r ih=>
  have e:pMore s (k::r)=s::(k.t++pMore s r):=by simp[pMore]
  rw[e,gl_cons,gl_append,SK_cons];omega
theorem gl_pSep (s:List UInt8) (hs:s.length≤50) (ks:List Kd):gl (pSep s ks)≤SK ks:=by
 cases ks with
 |nil=>simp[pSep,gl_nil]
 |cons k r=>
  have:=gl_pMore s hs r
  show gl (k.t++pMore s r)≤_
  rw[gl_append,SK_cons];omega
theorem gl_pRow (a b:List UInt8) (ha:a.length=1) (hb:b.length=1) (ks:List Kd):gl (pRow a b ks)≤SK ks+10:=by
 have:=gl_pSep [44] (by decide) ks
 unfold pRow
 rw[gl_cons,gl_append,gl_cons,gl_nil];omega
theorem gl_pAng (ks:List Kd):gl (pAng ks)≤SK ks+10:=by
 have:=gl_pRow [60] [62] rfl rfl ks
 unfold pAng
 split
 ·rw[gl_nil];omega
 ·exact this
theorem gl_pRnd (ks:List Kd):gl (pRnd ks)≤SK ks+10:=by
 have:=gl_pRow [40] [41] rfl rfl ks
 unfold pRnd
 split
 ·rw[gl_nil];omega
 ·exact this
theorem gl_pTys (ks:List Kd):gl (pTys ks)≤SK ks+20:=by
 have:=gl_pAng ks
 have h2:=gl_when (ks.length !=0) [[58,58]]
 have h3:gl [[58,58]]=3:=rfl
 unfold pTys
 rw[gl_append];omega
theorem gl_pBlk (n:Int) (ks:List Kd):gl (pBlk n ks)≤SK ks:=by
 induction ks with
 |nil=>simp[pBlk,gl_nil]
 |cons k r ih=>
  have h2:=gl_when (n==0||r.length !=0) [[59]]
  have h3:gl [[59]]=2:=rfl
  show gl (k.t++(pWhen (n==0||r.length !=0) [[59]]++pBlk n r))≤_
  rw[gl_append,gl_append,SK_cons];omega
theorem gl_semi (ks:List Kd):gl ((ks.map (fun k=>k.t++[[59]])).flatten)≤SK ks:=by
 induction ks with
 |nil=>simp[gl_nil]
 |cons k r ih=>
  have h3:gl [[59]]=2:=rfl
  rw[List.map_cons,List.flatten_cons,gl_append,gl_append,SK_cons];omega
theorem gl_pOp (k:Kd):gl (pOp k)≤gl k.t+10:=by
 unfold pOp
 split
 ·omega
 ·rw[gl_cons,gl_append,gl_cons,gl_nil];simp;omega
theorem gl_pRes (k:Kd):gl (pRes k)≤gl k.t+10:=by
 unfold pRes
 split
 ·rw[gl_nil];omega
 ·rw[gl_cons];simp;omega
theorem gl_pFn (n:Int):gl (pFn n)≤20:=by
 have h1:=gl_when (n==1) [[109,117,116]]
 have h2:=gl_when (n==2) [[111,110,99,101]]
 have h3:gl [[109,117,116]]=4:=rfl
 have h4:gl [[111,110,99,101]]=5:=rfl
 unfold pFn
 rw[gl_append];omega
def sk (ks:List Kd) (i:Nat):Nat:=SK ((ks.drop i).take 1)
theorem gl_kd (ks:List Kd) (i:Nat):gl (kd ks i).t≤sk ks i:=by
 unfold kd sk
 cases h:ks[i]? with
 |none=>simp[gl_nil]
 |some k=>
  rw[List.drop_eq_getElem_cons (List.getElem?_eq_some_iff.1 h).1,(List.getElem?_eq_some_iff.1 h).2]
  simp[SK]
theorem sk_step (ks:List Kd) (i:Nat):sk ks i+SK (ks.drop (i+1))=SK (ks.drop i):=by
 have:=SK_cut (ks.drop i) 1
 rw[List.drop_drop] at this
 exact this
theorem pth_len (s:List UInt8) (h:s.length≤20000):(pth s).length≤100004:=by
 have key:∀(k:Nat) (s:List UInt8),(Lib.replaceK [58,58] [32,58,58,32] k s).length≤s.length+4*k:=by
  intro k
  induction k with
  |zero=>intro s;simp[Lib.replaceK]
  |succ k ih=>
   intro s
   unfold Lib.replaceK
   split
   ·omega
   ·have:=ih (s.drop ((Lib.index s [58,58]).toNat+[(58:UInt8),58].length))
    simp only[List.length_append,List.length_take,List.length_drop,List.length_cons,List.length_nil] at this⊢
    omega
 have h2:=key (Lib.count s [58,58]) s
 have h3:=Lib.count_le s [58,58]
 have e:pth s=Lib.replaceK [58,58] [32,58,58,32] (Lib.count s [58,58]) s:=by simp[pth,Lib.replaceAll,Lib.replace,Lib.replaceNum]
 rw[e]
 omega
theorem itoa_len {n:Int} (h0: -9223372036854775808≤n) (h1:n≤9223372036854775807):(Lib.itoa n).length≤21:=by
 unfold Lib.itoa
 split
 ·rw[List.length_cons,Lib.decDigits_length]
  have:=Lib.nDigits_le20 n.natAbs (by omega)
  omega
 ·rw[Lib.decDigits_length]
  have:=Lib.nDigits_le20 n.toNat (by omega)
  omega
theorem trim_len (s:List UInt8):(Lib.trimPrefix s [45]).length≤s.length:=by
 unfold Lib.trimPrefix
 split<;>simp
theorem asm_len {kind n m:Int} {s:List UInt8} {name:ByteArray} {ks:List Kd} {ls:List Int} (hs:s.length≤20000) (hl:ls.length=ks.length) (hg:Gr kind n m name ls):gl (asm kind n m s ks)≤200000+SK ks:=by
 have hp:=pth_len s hs
 by_cases hk:kind=0
 ·have a:=gl_pAll ks
  rw[hk]
  show gl (pAll ks)≤_
  try simp only[pWhen,pNm,pBool,pTwo]
  repeat' split
  all_goals first|(simp only[gl_append,gl_cons,gl_nil,List.length_cons,List.length_nil,List.append_assoc,List.nil_append];omega)|omega
 by_cases hk:kind=1
 ·have a:=gl_pAll ks
  rw[hk]
  show gl ([109,111,100]::s::[123]::(pAll ks++[[125]]))≤_
  try simp only[pWhen,pNm,pBool,pTwo]
  repeat' split
  all_goals first|(simp only[gl_append,gl_cons,gl_nil,List.length_cons,List.length_nil,List.append_assoc,List.nil_append];omega)|omega
 by_cases hk:kind=2
 ·rw[hk]
  show gl ([[117,115,101],pth s,[59]])≤_
  try simp only[pWhen,pNm,pBool,pTwo]
  repeat' split
  all_goals first|(simp only[gl_append,gl_cons,gl_nil,List.length_cons,List.length_nil,List.append_assoc,List.nil_append];omega)|omega
 by_cases hk:kind=3
 ·have a:=gl_pAll ks
  have q0:=gl_kd ks 0
  have r0:=gl_pRow [123] [125] rfl rfl (ks.drop 1)
  have d0:sk ks 0+SK (ks.drop 1)=SK ks:=sk_step ks 0
  have d1:sk ks 1+SK (ks.drop 2)=SK (ks.drop 1):=sk_step ks 1
  rw[hk]
  show gl (pWhen (m%2==1) [[112,117,98]]++pWhen (decide (2≤m)) [[99,111,112,121]]++(if n=0 then [115,116,114,117,99,116]::s::pAll ks else [101,110,117,109]::s::((kd ks 0).t++pRow [123] [125] (ks.drop 1))))≤_
  try simp only[pWhen,pNm,pBool,pTwo]
  repeat' split
  all_goals first|(simp only[gl_append,gl_cons,gl_nil,List.length_cons,List.length_nil,List.append_assoc,List.nil_append];omega)|omega
 by_cases hk:kind=4
 ·have r0:=gl_pRow [123] [125] rfl rfl (ks)
  have a:=gl_pRnd ks
  rw[hk]
  show gl (if s.length=0 then pRow [123] [125] ks else s::pRnd ks)≤_
  try simp only[pWhen,pNm,pBool,pTwo]
  repeat' split
  all_goals first|(simp only[gl_append,gl_cons,gl_nil,List.length_cons,List.length_nil,List.append_assoc,List.nil_append];omega)|omega
 by_cases hk:kind=5
 ·have a:=gl_pAll ks
  rw[hk]
  show gl (pWhen (m==1) [[112,117,98]]++(pWhen (s.length !=0) [s,[58]]++pAll ks))≤_
  try simp only[pWhen,pNm,pBool,pTwo]
  repeat' split
  all_goals first|(simp only[gl_append,gl_cons,gl_nil,List.length_cons,List.length_nil,List.append_assoc,List.nil_append];omega)|omega
 by_cases hk:kind=6
 ·have a:=gl_semi ks
  rw[hk]
  show gl (pWhen (m==1) [[112,117,98]]++([116,114,97,105,116]::s::[123]::((ks.map (fun k=>k.t++[[59]])).flatten++[[125]])))≤_
  try simp only[pWhen,pNm,pBool,pTwo]
  repeat' split
  all_goals first|(simp only[gl_append,gl_cons,gl_nil,List.length_cons,List.length_nil,List.append_assoc,List.nil_append];omega)|omega
 by_cases hk:kind=7
 ·have q0:=gl_kd ks 0
  have q1:=gl_kd ks 1
  have a:=gl_pAll (ks.drop 2)
  have d0:sk ks 0+SK (ks.drop 1)=SK ks:=sk_step ks 0
  have d1:sk ks 1+SK (ks.drop 2)=SK (ks.drop 1):=sk_step ks 1
  rw[hk]
  show gl ([105,109,112,108]::((kd ks 0).t++(pth s::[102,111,114]::((kd ks 1).t++([123]::(pAll (ks.drop 2)++[[125]]))))))≤_
  try simp only[pWhen,pNm,pBool,pTwo]
  repeat' split
  all_goals first|(simp only[gl_append,gl_cons,gl_nil,List.length_cons,List.length_nil,List.append_assoc,List.nil_append];omega)|omega
 by_cases hk:kind=8
 ·have q0:=gl_kd ks 0
  have q1:=gl_kd ks (1+n.toNat)
  have o1:=gl_pRes (kd ks (1+n.toNat))
  have r0:=gl_pRow [40] [41] rfl rfl ((ks.drop 1).take n.toNat)
  have a:=gl_pAll (ks.drop (2+n.toNat))
  have c:=SK_cut (ks.drop 1) n.toNat
  rw[List.drop_drop] at c
  have d2:=sk_step ks (1+n.toNat)
  rw[show 1+n.toNat+1=2+n.toNat by omega] at d2
  have d0:sk ks 0+SK (ks.drop 1)=SK ks:=sk_step ks 0
  have d1:sk ks 1+SK (ks.drop 2)=SK (ks.drop 1):=sk_step ks 1
  rw[hk]
  show gl (pWhen (m==1) [[112,117,98]]++([102,110]::s::((kd ks 0).t++(pRow [40] [41] ((ks.drop 1).take n.toNat)++(pRes (kd ks (1+n.toNat))++pAll (ks.drop (2+n.toNat)))))))≤_
  try simp only[pWhen,pNm,pBool,pTwo]
  repeat' split
  all_goals first|(simp only[gl_append,gl_cons,gl_nil,List.length_cons,List.length_nil,List.append_assoc,List.nil_append];omega)|omega
 by_cases hk:kind=9
 ·have a:=gl_pAng ks
  rw[hk]
  show gl (pAng ks)≤_
  try simp only[pWhen,pNm,pBool,pTwo]
  repeat' split
  all_goals first|(simp only[gl_append,gl_cons,gl_nil,List.length_cons,List.length_nil,List.append_assoc,List.nil_append];omega)|omega
 by_cases hk:kind=10
 ·have a:=gl_pSep [43] (by decide) ks
  rw[hk]
  show gl (s::(pWhen (ks.length !=0) [[58]]++pSep [43] ks))≤_
  try simp only[pWhen,pNm,pBool,pTwo]
  repeat' split
  all_goals first|(simp only[gl_append,gl_cons,gl_nil,List.length_cons,List.length_nil,List.append_assoc,List.nil_append];omega)|omega
 by_cases hk:kind=11
 ·have a:=gl_pSep [43] (by decide) ks
  rw[hk]
  show gl (s::(pWhen (ks.length !=0) [[58]]++pSep [43] ks))≤_
  try simp only[pWhen,pNm,pBool,pTwo]
  repeat' split
  all_goals first|(simp only[gl_append,gl_cons,gl_nil,List.length_cons,List.length_nil,List.append_assoc,List.nil_append];omega)|omega
 by_cases hk:kind=12
 ·have a:=gl_pAll ks
  rw[hk]
  show gl (pWhen (m==1) [[109,117,116]]++(pWhen (s.length !=0) [s,[58]]++pAll ks))≤_
  try simp only[pWhen,pNm,pBool,pTwo]
  repeat' split
  all_goals first|(simp only[gl_append,gl_cons,gl_nil,List.length_cons,List.length_nil,List.append_assoc,List.nil_append];omega)|omega
 by_cases hk:kind=13
 ·rw[hk]
  show gl ([[105,110,116]])≤_
  try simp only[pWhen,pNm,pBool,pTwo]
  repeat' split
  all_goals first|(simp only[gl_append,gl_cons,gl_nil,List.length_cons,List.length_nil,List.append_assoc,List.nil_append];omega)|omega
 by_cases hk:kind=14
 ·rw[hk]
  show gl ([[98,111,111,108]])≤_
  try simp only[pWhen,pNm,pBool,pTwo]
  repeat' split
  all_goals first|(simp only[gl_append,gl_cons,gl_nil,List.length_cons,List.length_nil,List.append_assoc,List.nil_append];omega)|omega
 by_cases hk:kind=15
 ·have r0:=gl_pRow [40] [41] rfl rfl (ks)
  rw[hk]
  show gl (pRow [40] [41] ks)≤_
  try simp only[pWhen,pNm,pBool,pTwo]
  repeat' split
  all_goals first|(simp only[gl_append,gl_cons,gl_nil,List.length_cons,List.length_nil,List.append_assoc,List.nil_append];omega)|omega
 by_cases hk:kind=16
 ·have a:=gl_pAll ks
  rw[hk]
  show gl ([38]::(pNm s++(pWhen (n==1) [[109,117,116]]++pAll ks)))≤_
  try simp only[pWhen,pNm,pBool,pTwo]
  repeat' split
  all_goals first|(simp only[gl_append,gl_cons,gl_nil,List.length_cons,List.length_nil,List.append_assoc,List.nil_append];omega)|omega
 by_cases hk:kind=17
 ·have f:=gl_pFn n
  have r0:=gl_pRow [40] [41] rfl rfl (ks.take (ks.length - 1))
  have q1:=gl_kd ks (ks.length - 1)
  have c:=SK_cut ks (ks.length - 1)
  have d2:=sk_step ks (ks.length - 1)
  rw[hk]
  show gl ([102,110]::(pNm s++(pFn n++(pRow [40] [41] (ks.take (ks.length - 1))++([45,62]::(kd ks (ks.length - 1)).t)))))≤_
  try simp only[pWhen,pNm,pBool,pTwo]
  repeat' split
  all_goals first|(simp only[gl_append,gl_cons,gl_nil,List.length_cons,List.length_nil,List.append_assoc,List.nil_append];omega)|omega
 by_cases hk:kind=18
 ·have a:=gl_pAng ks
  rw[hk]
  show gl (pth s::pAng ks)≤_
  try simp only[pWhen,pNm,pBool,pTwo]
  repeat' split
  all_goals first|(simp only[gl_append,gl_cons,gl_nil,List.length_cons,List.length_nil,List.append_assoc,List.nil_append];omega)|omega
 by_cases hk:kind=19
 ·rw[hk]
  show gl ([s])≤_
  try simp only[pWhen,pNm,pBool,pTwo]
  repeat' split
  all_goals first|(simp only[gl_append,gl_cons,gl_nil,List.length_cons,List.length_nil,List.append_assoc,List.nil_append];omega)|omega
 by_cases hk:kind=20
 ·have i:=itoa_len (by have:=(hg.eint hk).1;omega) (hg.eint hk).2
  rw[hk]
  show gl ([Lib.itoa n])≤_
  try simp only[pWhen,pNm,pBool,pTwo]
  repeat' split
  all_goals first|(simp only[gl_append,gl_cons,gl_nil,List.length_cons,List.length_nil,List.append_assoc,List.nil_append];omega)|omega
 by_cases hk:kind=21
 ·rw[hk]
  show gl (pBool n)≤_
  try simp only[pWhen,pNm,pBool,pTwo]
  repeat' split
  all_goals first|(simp only[gl_append,gl_cons,gl_nil,List.length_cons,List.length_nil,List.append_assoc,List.nil_append];omega)|omega
 by_cases hk:kind=22
 ·have r0:=gl_pRow [40] [41] rfl rfl (ks)
  rw[hk]
  show gl (pRow [40] [41] ks)≤_
  try simp only[pWhen,pNm,pBool,pTwo]
  repeat' split
  all_goals first|(simp only[gl_append,gl_cons,gl_nil,List.length_cons,List.length_nil,List.append_assoc,List.nil_append];omega)|omega
 by_cases hk:kind=23
 ·have a:=gl_pTys ks
  rw[hk]
  show gl (pth s::pTys ks)≤_
  try simp only[pWhen,pNm,pBool,pTwo]
  repeat' split
  all_goals first|(simp only[gl_append,gl_cons,gl_nil,List.length_cons,List.length_nil,List.append_assoc,List.nil_append];omega)|omega
 by_cases hk:kind=24
 ·have q0:=gl_kd ks 0
  have o0:=gl_pOp (kd ks 0)
  have r0:=gl_pRow [40] [41] rfl rfl (ks.drop 1)
  have d0:sk ks 0+SK (ks.drop 1)=SK ks:=sk_step ks 0
  have d1:sk ks 1+SK (ks.drop 2)=SK (ks.drop 1):=sk_step ks 1
  rw[hk]
  show gl (pOp (kd ks 0)++pRow [40] [41] (ks.drop 1))≤_
  try simp only[pWhen,pNm,pBool,pTwo]
  repeat' split
  all_goals first|(simp only[gl_append,gl_cons,gl_nil,List.length_cons,List.length_nil,List.append_assoc,List.nil_append];omega)|omega
 by_cases hk:kind=25
 ·have q0:=gl_kd ks 0
  have o0:=gl_pOp (kd ks 0)
  have i:=itoa_len (by have:=(hg.part hk).1.1;omega) (hg.part hk).1.2
  have d0:sk ks 0+SK (ks.drop 1)=SK ks:=sk_step ks 0
  have d1:sk ks 1+SK (ks.drop 2)=SK (ks.drop 1):=sk_step ks 1
  rw[hk]
  show gl (pOp (kd ks 0)++[[46],if s.length=0 then Lib.itoa n else s])≤_
  try simp only[pWhen,pNm,pBool,pTwo]
  repeat' split
  all_goals first|(simp only[gl_append,gl_cons,gl_nil,List.length_cons,List.length_nil,List.append_assoc,List.nil_append];omega)|omega
 by_cases hk:kind=26
 ·have q0:=gl_kd ks 0
  have o0:=gl_pOp (kd ks 0)
  have d0:sk ks 0+SK (ks.drop 1)=SK ks:=sk_step ks 0
  have d1:sk ks 1+SK (ks.drop 2)=SK (ks.drop 1):=sk_step ks 1
  rw[hk]
  show gl ([42]::pOp (kd ks 0))≤_
  try simp only[pWhen,pNm,pBool,pTwo]
  repeat' split
  all_goals first|(simp only[gl_append,gl_cons,gl_nil,List.length_cons,List.length_nil,List.append_assoc,List.nil_append];omega)|omega
 by_cases hk:kind=27
 ·have q0:=gl_kd ks 0
  have o0:=gl_pOp (kd ks 0)
  have d0:sk ks 0+SK (ks.drop 1)=SK ks:=sk_step ks 0
  have d1:sk ks 1+SK (ks.drop 2)=SK (ks.drop 1):=sk_step ks 1
  rw[hk]
  show gl ([38]::(pWhen (n==1) [[109,117,116]]++pOp (kd ks 0)))≤_
  try simp only[pWhen,pNm,pBool,pTwo]
  repeat' split
  all_goals first|(simp only[gl_append,gl_cons,gl_nil,List.length_cons,List.length_nil,List.append_assoc,List.nil_append];omega)|omega
 by_cases hk:kind=28
 ·have q0:=gl_kd ks 0
  have o0:=gl_pOp (kd ks 0)
  have d0:sk ks 0+SK (ks.drop 1)=SK ks:=sk_step ks 0
  have d1:sk ks 1+SK (ks.drop 2)=SK (ks.drop 1):=sk_step ks 1
  rw[hk]
  show gl (s::pOp (kd ks 0))≤_
  try simp only[pWhen,pNm,pBool,pTwo]
  repeat' split
  all_goals first|(simp only[gl_append,gl_cons,gl_nil,List.length_cons,List.length_nil,List.append_assoc,List.nil_append];omega)|omega
 by_cases hk:kind=29
 ·have q0:=gl_kd ks 0
  have o0:=gl_pOp (kd ks 0)
  have q1:=gl_kd ks 1
  have o1:=gl_pOp (kd ks 1)
  have d0:sk ks 0+SK (ks.drop 1)=SK ks:=sk_step ks 0
  have d1:sk ks 1+SK (ks.drop 2)=SK (ks.drop 1):=sk_step ks 1
  rw[hk]
  show gl (pTwo s ks)≤_
  try simp only[pWhen,pNm,pBool,pTwo]
  repeat' split
  all_goals first|(simp only[gl_append,gl_cons,gl_nil,List.length_cons,List.length_nil,List.append_assoc,List.nil_append];omega)|omega
 by_cases hk:kind=30
 ·have q0:=gl_kd ks 0
  have o0:=gl_pOp (kd ks 0)
  have q1:=gl_kd ks 1
  have o1:=gl_pOp (kd ks 1)
  have d0:sk ks 0+SK (ks.drop 1)=SK ks:=sk_step ks 0
  have d1:sk ks 1+SK (ks.drop 2)=SK (ks.drop 1):=sk_step ks 1
  rw[hk]
  show gl (pTwo [38,38] ks)≤_
  try simp only[pWhen,pNm,pBool,pTwo]
  repeat' split
  all_goals first|(simp only[gl_append,gl_cons,gl_nil,List.length_cons,List.length_nil,List.append_assoc,List.nil_append];omega)|omega
 by_cases hk:kind=31
 ·have q0:=gl_kd ks 0
  have o0:=gl_pOp (kd ks 0)
  have q1:=gl_kd ks 1
  have o1:=gl_pOp (kd ks 1)
  have d0:sk ks 0+SK (ks.drop 1)=SK ks:=sk_step ks 0
  have d1:sk ks 1+SK (ks.drop 2)=SK (ks.drop 1):=sk_step ks 1
  rw[hk]
  show gl (pTwo [124,124] ks)≤_
  try simp only[pWhen,pNm,pBool,pTwo]
  repeat' split
  all_goals first|(simp only[gl_append,gl_cons,gl_nil,List.length_cons,List.length_nil,List.append_assoc,List.nil_append];omega)|omega
 by_cases hk:kind=32
 ·have q0:=gl_kd ks 0
  have o0:=gl_pOp (kd ks 0)
  have q1:=gl_kd ks 1
  have o1:=gl_pOp (kd ks 1)
  have d0:sk ks 0+SK (ks.drop 1)=SK ks:=sk_step ks 0
  have d1:sk ks 1+SK (ks.drop 2)=SK (ks.drop 1):=sk_step ks 1
  rw[hk]
  show gl (pTwo [61] ks)≤_
  try simp only[pWhen,pNm,pBool,pTwo]
  repeat' split
  all_goals first|(simp only[gl_append,gl_cons,gl_nil,List.length_cons,List.length_nil,List.append_assoc,List.nil_append];omega)|omega
 by_cases hk:kind=33
 ·have q0:=gl_kd ks 0
  have o0:=gl_pOp (kd ks 0)
  have q1:=gl_kd ks 1
  have a:=gl_pAll (ks.drop 2)
  have d0:sk ks 0+SK (ks.drop 1)=SK ks:=sk_step ks 0
  have d1:sk ks 1+SK (ks.drop 2)=SK (ks.drop 1):=sk_step ks 1
  rw[hk]
  show gl ([105,102]::(pOp (kd ks 0)++((kd ks 1).t++(pWhen (decide (2<ks.length)) [[101,108,115,101]]++pAll (ks.drop 2)))))≤_
  try simp only[pWhen,pNm,pBool,pTwo]
  repeat' split
  all_goals first|(simp only[gl_append,gl_cons,gl_nil,List.length_cons,List.length_nil,List.append_assoc,List.nil_append];omega)|omega
 by_cases hk:kind=34
 ·have q0:=gl_kd ks 0
  have o0:=gl_pOp (kd ks 0)
  have r0:=gl_pRow [123] [125] rfl rfl (ks.drop 1)
  have d0:sk ks 0+SK (ks.drop 1)=SK ks:=sk_step ks 0
  have d1:sk ks 1+SK (ks.drop 2)=SK (ks.drop 1):=sk_step ks 1
  rw[hk]
  show gl ([109,97,116,99,104]::(pOp (kd ks 0)++pRow [123] [125] (ks.drop 1)))≤_
  try simp only[pWhen,pNm,pBool,pTwo]
  repeat' split
  all_goals first|(simp only[gl_append,gl_cons,gl_nil,List.length_cons,List.length_nil,List.append_assoc,List.nil_append];omega)|omega
 by_cases hk:kind=35
 ·have a:=gl_pSep [61,62] (by decide) ks
  rw[hk]
  show gl (pSep [61,62] ks)≤_
  try simp only[pWhen,pNm,pBool,pTwo]
  repeat' split
  all_goals first|(simp only[gl_append,gl_cons,gl_nil,List.length_cons,List.length_nil,List.append_assoc,List.nil_append];omega)|omega
 by_cases hk:kind=36
 ·have q0:=gl_kd ks 0
  have o0:=gl_pOp (kd ks 0)
  have q1:=gl_kd ks 1
  have d0:sk ks 0+SK (ks.drop 1)=SK ks:=sk_step ks 0
  have d1:sk ks 1+SK (ks.drop 2)=SK (ks.drop 1):=sk_step ks 1
  rw[hk]
  show gl ([119,104,105,108,101]::(pOp (kd ks 0)++(kd ks 1).t))≤_
  try simp only[pWhen,pNm,pBool,pTwo]
  repeat' split
  all_goals first|(simp only[gl_append,gl_cons,gl_nil,List.length_cons,List.length_nil,List.append_assoc,List.nil_append];omega)|omega
 by_cases hk:kind=37
 ·have a:=gl_pAll ks
  rw[hk]
  show gl ([108,111,111,112]::pAll ks)≤_
  try simp only[pWhen,pNm,pBool,pTwo]
  repeat' split
  all_goals first|(simp only[gl_append,gl_cons,gl_nil,List.length_cons,List.length_nil,List.append_assoc,List.nil_append];omega)|omega
 by_cases hk:kind=38
 ·rw[hk]
  show gl ([[98,114,101,97,107]])≤_
  try simp only[pWhen,pNm,pBool,pTwo]
  repeat' split
  all_goals first|(simp only[gl_append,gl_cons,gl_nil,List.length_cons,List.length_nil,List.append_assoc,List.nil_append];omega)|omega
 by_cases hk:kind=39
 ·rw[hk]
  show gl ([[110,101,120,116]])≤_
  try simp only[pWhen,pNm,pBool,pTwo]
  repeat' split
  all_goals first|(simp only[gl_append,gl_cons,gl_nil,List.length_cons,List.length_nil,List.append_assoc,List.nil_append];omega)|omega
 by_cases hk:kind=40
 ·have a:=gl_pAll ks
  rw[hk]
  show gl ([114,101,116,117,114,110]::pAll ks)≤_
  try simp only[pWhen,pNm,pBool,pTwo]
  repeat' split
  all_goals first|(simp only[gl_append,gl_cons,gl_nil,List.length_cons,List.length_nil,List.append_assoc,List.nil_append];omega)|omega
 by_cases hk:kind=41
 ·rw[hk]
  show gl ([[112,97,110,105,99]])≤_
  try simp only[pWhen,pNm,pBool,pTwo]
  repeat' split
  all_goals first|(simp only[gl_append,gl_cons,gl_nil,List.length_cons,List.length_nil,List.append_assoc,List.nil_append];omega)|omega
 by_cases hk:kind=42
 ·have a:=gl_pBlk n ks
  rw[hk]
  show gl ([123]::(pBlk n ks++[[125]]))≤_
  try simp only[pWhen,pNm,pBool,pTwo]
  repeat' split
  all_goals first|(simp only[gl_append,gl_cons,gl_nil,List.length_cons,List.length_nil,List.append_assoc,List.nil_append];omega)|omega
 by_cases hk:kind=43
 ·rw[hk]
  have f:gl (asm 43 n m s ks)=gl ([108,101,116]::(pWhen (m==1) [[109,117,116]]++(s::(pWhen (n%2==1) ([58]::(kd ks 0).t)++pWhen (decide (2≤n)) ([61]::(kd ks (n%2).toNat).t))))):=rfl
  rw[f]
  have w1:=gl_when (m==1) [[109,117,116]]
  have w2:=gl_when (n%2==1) ([58]::(kd ks 0).t)
  have w3:=gl_when (decide (2≤n)) ([61]::(kd ks (n%2).toNat).t)
  have q0:=gl_kd ks 0
  have q1:=gl_kd ks 1
  have d0:sk ks 0+SK (ks.drop 1)=SK ks:=sk_step ks 0
  have d1:sk ks 1+SK (ks.drop 2)=SK (ks.drop 1):=sk_step ks 1
  by_cases hn:n%2=1
  ·rw[hn] at w2 w3⊢
   simp only[gl_append,gl_cons,gl_nil,List.length_cons,List.length_nil,show(1:Int).toNat=1 from rfl] at w1 w2 w3⊢
   omega
  ·have hn0:n%2=0:=by omega
   rw[hn0] at w3⊢
   have e0:pWhen ((0:Int)==1) ([58]::(kd ks 0).t)=[]:=rfl
   rw[e0]
   simp only[gl_append,gl_cons,gl_nil,List.length_cons,List.length_nil,show(0:Int).toNat=0 from rfl] at w1 w3⊢
   omega
 by_cases hk:kind=44
 ·have a:=gl_pTys (ks.take m.toNat)
  have r0:=gl_pRow [123] [125] rfl rfl (ks.drop m.toNat)
  have c:=SK_cut ks m.toNat
  rw[hk]
  show gl ([109,97,107,101]::pth s::(pTys (ks.take m.toNat)++pRow [123] [125] (ks.drop m.toNat)))≤_
  try simp only[pWhen,pNm,pBool,pTwo]
  repeat' split
  all_goals first|(simp only[gl_append,gl_cons,gl_nil,List.length_cons,List.length_nil,List.append_assoc,List.nil_append];omega)|omega
 by_cases hk:kind=45
 ·have a:=gl_pAll ks
  rw[hk]
  show gl (s::[58]::pAll ks)≤_
  try simp only[pWhen,pNm,pBool,pTwo]
  repeat' split
  all_goals first|(simp only[gl_append,gl_cons,gl_nil,List.length_cons,List.length_nil,List.append_assoc,List.nil_append];omega)|omega
 by_cases hk:kind=46
 ·rw[hk]
  obtain⟨cs,ps,x,y,eks,hml,-,-,-,-⟩:=hg.clos hk
  have hlen:m.toNat+ps.length+2=ks.length:=by
   rw[←hl,eks,←hml]
   simp
   omega
  have f:=gl_pFn n
  have r0:=gl_pRow [91] [93] rfl rfl (ks.take m.toNat)
  have r1:=gl_pRow [40] [41] rfl rfl ((ks.take (ks.length - 2)).drop m.toNat)
  have q0:=gl_kd ks (ks.length - 2)
  have o0:=gl_pRes (kd ks (ks.length - 2))
  have q1:=gl_kd ks (ks.length - 1)
  have c:=SK_cut (ks.take (ks.length - 2)) m.toNat
  rw[List.take_take,Nat.min_eq_left (by omega)] at c
  have c2:=SK_cut ks (ks.length - 2)
  have d2:=sk_step ks (ks.length - 2)
  have d3:=sk_step ks (ks.length - 1)
  rw[show ks.length - 2+1=ks.length - 1 by omega] at d2
  have g:gl (asm 46 n m s ks)=gl ([102,110]::(pFn n++(pRow [91] [93] (ks.take m.toNat)++(pRow [40] [41] ((ks.take (ks.length - 2)).drop m.toNat)++(pRes (kd ks (ks.length - 2))++(kd ks (ks.length - 1)).t))))):=rfl
  rw[g]
  simp only[gl_append,gl_cons,gl_nil,List.length_cons,List.length_nil]
  omega
 by_cases hk:kind=47
 ·rw[hk]
  show gl (pWhen (decide (0<n)) [[38]]++(pWhen (n==2) [[109,117,116]]++[s]))≤_
  try simp only[pWhen,pNm,pBool,pTwo]
  repeat' split
  all_goals first|(simp only[gl_append,gl_cons,gl_nil,List.length_cons,List.length_nil,List.append_assoc,List.nil_append];omega)|omega
 by_cases hk:kind=48
 ·have r0:=gl_pRow [91] [93] rfl rfl (ks.take m.toNat)
  have q0:=gl_kd ks m.toNat
  have o0:=gl_pRes (kd ks m.toNat)
  have q1:=gl_kd ks (m.toNat+1)
  have c:=SK_cut ks m.toNat
  have d2:=sk_step ks m.toNat
  have d3:=sk_step ks (m.toNat+1)
  rw[hk]
  show gl ([115,112,97,119,110]::(pRow [91] [93] (ks.take m.toNat)++(pRes (kd ks m.toNat)++(kd ks (m.toNat+1)).t)))≤_
  try simp only[pWhen,pNm,pBool,pTwo]
  repeat' split
  all_goals first|(simp only[gl_append,gl_cons,gl_nil,List.length_cons,List.length_nil,List.append_assoc,List.nil_append];omega)|omega
 by_cases hk:kind=49
 ·rw[hk]
  show gl ([[95]])≤_
  try simp only[pWhen,pNm,pBool,pTwo]
  repeat' split
  all_goals first|(simp only[gl_append,gl_cons,gl_nil,List.length_cons,List.length_nil,List.append_assoc,List.nil_append];omega)|omega
 by_cases hk:kind=50
 ·rw[hk]
  show gl (pWhen (decide (0<n)) [[114,101,102]]++(pWhen (n==2||m==1) [[109,117,116]]++[s]))≤_
  try simp only[pWhen,pNm,pBool,pTwo]
  repeat' split
  all_goals first|(simp only[gl_append,gl_cons,gl_nil,List.length_cons,List.length_nil,List.append_assoc,List.nil_append];omega)|omega
 by_cases hk:kind=51
 ·have i:=itoa_len (hg.pint hk).1 (hg.pint hk).2
  have i2:=trim_len (Lib.itoa n)
  rw[hk]
  show gl (pWhen (decide (n<0)) [[45]]++[Lib.trimPrefix (Lib.itoa n) [45]])≤_
  try simp only[pWhen,pNm,pBool,pTwo]
  repeat' split
  all_goals first|(simp only[gl_append,gl_cons,gl_nil,List.length_cons,List.length_nil,List.append_assoc,List.nil_append];omega)|omega
 by_cases hk:kind=52
 ·rw[hk]
  show gl (pBool n)≤_
  try simp only[pWhen,pNm,pBool,pTwo]
  repeat' split
  all_goals first|(simp only[gl_append,gl_cons,gl_nil,List.length_cons,List.length_nil,List.append_assoc,List.nil_append];omega)|omega
 by_cases hk:kind=53
 ·have r0:=gl_pRow [40] [41] rfl rfl (ks)
  rw[hk]
  show gl (pRow [40] [41] ks)≤_
  try simp only[pWhen,pNm,pBool,pTwo]
  repeat' split
  all_goals first|(simp only[gl_append,gl_cons,gl_nil,List.length_cons,List.length_nil,List.append_assoc,List.nil_append];omega)|omega
 by_cases hk:kind=54
 ·have a:=gl_pRnd ks
  rw[hk]
  show gl (pth s::pRnd ks)≤_
  try simp only[pWhen,pNm,pBool,pTwo]
  repeat' split
  all_goals first|(simp only[gl_append,gl_cons,gl_nil,List.length_cons,List.length_nil,List.append_assoc,List.nil_append];omega)|omega
 by_cases hn:kind<0
 ·have h1:kind.toNat=0:=by omega
  have h2:=gl_pAll ks
  unfold asm
  rw[h1]
  exact Nat.le_trans h2 (by omega)
 ·have h1:55≤kind.toNat:=by omega
  unfold asm
  split
  all_goals first|omega|(rw[gl_nil];omega)
theorem tok_len {B:Nat} {w:World}:∀(f:Nat) (x:List Value),Nw B w f x→gl (tok f w x)+100≤200100*nsz f w x:=by
 intro f
 induction f with
 |zero=>intro x hx;exact absurd hx (fun x=>x)
 |succ f ih=>
  intro x hx
  obtain⟨kind,pos,n,m,name,kv,vs,h1,h2,h3,h3',h4,h5,h6,h7⟩:=hx
  subst h1
  rw[tok_eq h4 h6,nsz_eq h4 h6]
  have ha:=asm_len (s:=name.data.toList) (ks:=vs.map (kdAt f w)) (by rw[size_list];exact h2) (by simp) (h7 trivial)
  have hk:∀us:List (List Value),(∀x∈us,Nw B w f x)→SK (us.map (kdAt f w))≤200100*(us.map (nsz f w)).sum:=by
   intro us
   induction us with
   |nil=>intro _;simp[SK]
   |cons y r ihr=>
    intro hy
    have i1:=ih y (hy y (List.mem_cons_self ..))
    have i2:=ihr (fun z hz=>hy z (List.mem_cons_of_mem _ hz))
    rw[List.map_cons,List.map_cons,List.sum_cons,SK_cons]
    have e:(kdAt f w y).t=tok f w y:=rfl
    rw[e]
    omega
  have hk2:=hk vs h6
  omega
end Go.Proofs.YtagdihffmjopaaaGreatDoor
namespace Go.Proofs.YtagdihffmjopaaaGreatDoor
set_option linter.all false
open Go.RowKit
variable{wt:Nat}
theorem Mz.post {w W:World} {rb tb cap i j:Nat} {t:Tk} {k kj aj:Int} {g:Prop} {s:Int} {L:List (Nat × Array Value)} {T:List (List Value)} {kv:Value} {vs:List (List Value)} (q:Mz wt w rb tb cap t i k g s W j kj aj L T kv vs) {must:Prop} {d:Int} {C:List Int→Prop} (hm:must→g) (hl:vs.length≤6002) (hC:kj=0→C (vs.map labOf)) (hs:s+d≤0):ListZ wt w rb tb cap t i k must d C (.returned kv) W:=by
 obtain⟨ao,cp,rfl⟩:=q.shape
 refine⟨ao,cp,vs,j,kj,aj,rfl,⟨q.st.rd,q.st.kp,q.le,q.ok,fun m=>q.go (hm m)⟩,q.mid.kids,hl,hC,fun e f=>?_⟩
 have h1:=q.sz e f
 have h2:=tot_nonneg wt f W T
 omega
end Go.Proofs.YtagdihffmjopaaaGreatDoor
namespace Go.Proofs.YtagdihffmjopaaaGreatDoor
set_option linter.all false
open Go.RowKit
variable{wt:Nat}
def tysQ (wt N:Nat):Prop:=∀{w:World} {rb tb cap i:Nat} {t:Tk} {k a:Int},Rd w rb tb cap t i k a→Bd N t i k 4→∀s,Calls Tryz.prog 80 #[.pointer (some ⟨rb,0,none⟩),.string s] w (ListZ wt w rb tb cap t i k True 0 fun ks=>∀x∈ks,tyK x)
def refQ (wt N:Nat):Prop:=∀{w:World} {rb tb cap i:Nat} {t:Tk} {k a:Int},Rd w rb tb cap t i k a→k=0→i+1<t.len→Bd N t i k 2→Calls Tryz.prog 104 #[.pointer (some ⟨rb,0,none⟩)] w (NodeZ wt w rb tb cap t i k True 8 tyK)
def argsQ (wt N:Nat):Prop:=∀{w:World} {rb tb cap i:Nat} {t:Tk} {k a:Int},Rd w rb tb cap t i k a→Bd N t i k 4→Calls Tryz.prog 105 #[.pointer (some ⟨rb,0,none⟩)] w (ListZ wt w rb tb cap t i k True 0 argK)
end Go.Proofs.YtagdihffmjopaaaGreatDoor
