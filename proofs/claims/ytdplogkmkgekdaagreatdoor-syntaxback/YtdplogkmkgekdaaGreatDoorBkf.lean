/- Parse of print: what is read is printed so that it is read back. -/
import Derived.Test.YtdplogkmkgekdaaGreatDoorPpa
import Derived.Test.YtdplogkmkgekdaaGreatDoorBke
import Derived.Lib.ItoaLen
import Derived.Lib.ReplaceLaws
set_option linter.all false
set_option maxRecDepth 100000
set_option maxHeartbeats 4000000
namespace Go.Proofs.YtdplogkmkgekdaaGreatDoor
open Go.RowKit
def gl (ts:List (List UInt8)):Nat:=(glue ts).length
theorem jl (a b:List (List UInt8)):gl (a++b)=gl a+gl b:=by unfold gl;rw[aN,List.length_append]
theorem nW (a:List UInt8) (b:List (List UInt8)):gl (a::b)=1+a.length+gl b:=by unfold gl;rw[aQ];simp;omega
theorem lD:gl []=0:=rfl
theorem uO (d:Bool) (l:List (List UInt8)):gl (aC d l)≤gl l:=by unfold aC;split<;>simp[lD]
theorem fA {p:Prop} (h:p:=by (try simp only[aC,lG,vS,zh]);(repeat' split);all_goals first|(simp only[jl,nW,lD,List.length_cons,List.length_nil,List.append_assoc,List.nil_append];omega)|omega):p:=h
def SK (ks:List Kd):Nat:=(ks.map (fun k=>gl k.t+100)).sum
theorem wm (k:Kd) (r:List Kd):SK (k::r)=gl k.t+100+SK r:=by simp[SK]
theorem QC (a b:List Kd):SK (a++b)=SK a+SK b:=by simp[SK]
theorem wR (ks:List Kd) (i:Nat):SK (ks.take i)+SK (ks.drop i)=SK ks:=by rw[←QC,List.take_append_drop]
theorem mK (ks:List Kd):gl (bB ks)≤SK ks:=by
 induction ks with
 |nil=>simp[bB,lD]
 |cons k r ih=>
  have e:bB (k::r)=k.t++bB r:=by simp[bB]
  rw[e,jl,wm];omega
theorem SY (s:List UInt8) (hs:s.length≤50) (ks:List Kd):gl (oK s ks)≤SK ks:=by
 induction ks with
 |nil=>simp[oK,lD]
 |cons k r ih=>
  have e:oK s (k::r)=s::(k.t++oK s r):=by simp[oK]
  rw[e,nW,jl,wm];omega
theorem BM (s:List UInt8) (hs:s.length≤50) (ks:List Kd):gl (pSep s ks)≤SK ks:=by
 cases ks with
 |nil=>simp[pSep,lD]
 |cons k r=>
  have:=SY s hs r
  show gl (k.t++oK s r)≤_
  rw[jl,wm];omega
theorem kT (a b:List UInt8) (ha:a.length=1) (hb:b.length=1) (ks:List Kd):gl (bF a b ks)≤SK ks+10:=by
 have:=BM [44] (by decide) ks
 unfold bF
 rw[nW,jl,nW,lD];omega
theorem Fx (ks:List Kd):gl (oP ks)≤SK ks+10:=by
 have:=kT [60] [62] rfl rfl ks
 unfold oP
 split
 ·rw[lD];omega
 ·exact this
theorem MF (ks:List Kd):gl (ql ks)≤SK ks+10:=by
 have:=kT [40] [41] rfl rfl ks
 unfold ql
 split
 ·rw[lD];omega
 ·exact this
theorem MG (ks:List Kd):gl (qm ks)≤SK ks+20:=by
 have:=Fx ks
 have h2:=uO (ks.length !=0) [[58,58]]
 have h3:gl [[58,58]]=3:=rfl
 unfold qm
 rw[jl];omega
theorem X7 (n:Int) (ks:List Kd):gl (nO n ks)≤SK ks:=by
 induction ks with
 |nil=>simp[nO,lD]
 |cons k r ih=>
  have h2:=uO (n==0||r.length !=0) [[59]]
  have h3:gl [[59]]=2:=rfl
  show gl (k.t++(aC (n==0||r.length !=0) [[59]]++nO n r))≤_
  rw[jl,jl,wm];omega
theorem X8 (ks:List Kd):gl ((ks.map (fun k=>k.t++[[59]])).flatten)≤SK ks:=by
 induction ks with
 |nil=>simp[lD]
 |cons k r ih=>
  have h3:gl [[59]]=2:=rfl
  rw[List.map_cons,List.flatten_cons,jl,jl,wm];omega
theorem lU (k:Kd):gl (gQ k)≤gl k.t+10:=by
 unfold gQ
 split
 ·omega
 ·rw[nW,jl,nW,lD];simp;omega
theorem Fy (k:Kd):gl (kN k)≤gl k.t+10:=by
 unfold kN
 split
 ·rw[lD];omega
 ·rw[nW];simp;omega
theorem QD (n:Int):gl (pFn n)≤20:=by
 have h1:=uO (n==1) [[109,117,116]]
 have h2:=uO (n==2) [[111,110,99,101]]
 have h3:gl [[109,117,116]]=4:=rfl
 have h4:gl [[111,110,99,101]]=5:=rfl
 unfold pFn
 rw[jl];omega
def sk (ks:List Kd) (i:Nat):Nat:=SK ((ks.drop i).take 1)
theorem iU (ks:List Kd) (i:Nat):gl (kd ks i).t≤sk ks i:=by
 unfold kd sk
 cases h:ks[i]? with
 |none=>simp[lD]
 |some k=>
  rw[List.drop_eq_getElem_cons (List.getElem?_eq_some_iff.1 h).1,(List.getElem?_eq_some_iff.1 h).2]
  simp[SK]
theorem dG (ks:List Kd) (i:Nat):sk ks i+SK (ks.drop (i+1))=SK (ks.drop i):=by
 have:=wR (ks.drop i) 1
 rw[List.drop_drop] at this
 exact this
theorem X9 (s:List UInt8) (h:s.length≤20000):(jQ s).length≤100004:=by
 have key:∀(k:Nat) (s:List UInt8),(Lib.replaceK [58,58] [32,58,58,32] k s).length≤s.length+4*k:=by
  intro k
  induction k with
  |zero=>intro s;simp[Lib.replaceK]
  |succ k ih=>
   intro s
   unfold Lib.replaceK
   split
   ·omega
   ·have:=ih (s.drop ((Lib.index s [58,58]).toNat+[(58:UInt8),58].length))
    simp only[List.length_append,List.length_take,List.length_drop,List.length_cons,List.length_nil] at this⊢
    omega
 have h2:=key (Lib.count s [58,58]) s
 have h3:=Lib.count_le s [58,58]
 have e:jQ s=Lib.replaceK [58,58] [32,58,58,32] (Lib.count s [58,58]) s:=by simp[jQ,Lib.replaceAll,Lib.replace,Lib.replaceNum]
 rw[e]
 omega
theorem Du {n:Int} (h0: -9223372036854775808≤n) (h1:n≤9223372036854775807):(Lib.itoa n).length≤21:=by
 unfold Lib.itoa
 split
 ·rw[List.length_cons,Lib.decDigits_length]
  have:=Lib.nDigits_le20 n.natAbs (by omega)
  omega
 ·rw[Lib.decDigits_length]
  have:=Lib.nDigits_le20 n.toNat (by omega)
  omega
theorem S9 (s:List UInt8):(Lib.trimPrefix s [45]).length≤s.length:=by
 unfold Lib.trimPrefix
 split<;>simp
theorem Ya {kind n m:Int} {s:List UInt8} {name:ByteArray} {ks:List Kd} {ls:List Int} (hs:s.length≤20000) (hl:ls.length=ks.length) (hg:Gr kind n m name ls):gl (asm kind n m s ks)≤200000+SK ks:=by
 have hp:=X9 s hs
 by_cases hk:kind=0
 ·have a:=mK ks
  rw[hk]
  show gl (bB ks)≤_
  exact fA
 by_cases hk:kind=1
 ·have a:=mK ks
  rw[hk]
  show gl ([109,111,100]::s::[123]::(bB ks++[[125]]))≤_
  exact fA
 by_cases hk:kind=2
 ·rw[hk]
  show gl ([[117,115,101],jQ s,[59]])≤_
  exact fA
 by_cases hk:kind=3
 ·have a:=mK ks
  have q0:=iU ks 0
  have r0:=kT [123] [125] rfl rfl (ks.drop 1)
  have d0:sk ks 0+SK (ks.drop 1)=SK ks:=dG ks 0
  have d1:sk ks 1+SK (ks.drop 2)=SK (ks.drop 1):=dG ks 1
  rw[hk]
  show gl (aC (m%2==1) [[112,117,98]]++aC (decide (2≤m)) [[99,111,112,121]]++(if n=0 then [115,116,114,117,99,116]::s::bB ks else [101,110,117,109]::s::((kd ks 0).t++bF [123] [125] (ks.drop 1))))≤_
  exact fA
 by_cases hk:kind=4
 ·have r0:=kT [123] [125] rfl rfl (ks)
  have a:=MF ks
  rw[hk]
  show gl (if s.length=0 then bF [123] [125] ks else s::ql ks)≤_
  exact fA
 by_cases hk:kind=5
 ·have a:=mK ks
  rw[hk]
  show gl (aC (m==1) [[112,117,98]]++(aC (s.length !=0) [s,[58]]++bB ks))≤_
  exact fA
 by_cases hk:kind=6
 ·have a:=X8 ks
  rw[hk]
  show gl (aC (m==1) [[112,117,98]]++([116,114,97,105,116]::s::[123]::((ks.map (fun k=>k.t++[[59]])).flatten++[[125]])))≤_
  exact fA
 by_cases hk:kind=7
 ·have q0:=iU ks 0
  have q1:=iU ks 1
  have a:=mK (ks.drop 2)
  have d0:sk ks 0+SK (ks.drop 1)=SK ks:=dG ks 0
  have d1:sk ks 1+SK (ks.drop 2)=SK (ks.drop 1):=dG ks 1
  rw[hk]
  show gl ([105,109,112,108]::((kd ks 0).t++(jQ s::[102,111,114]::((kd ks 1).t++([123]::(bB (ks.drop 2)++[[125]]))))))≤_
  exact fA
 by_cases hk:kind=8
 ·have q0:=iU ks 0
  have q1:=iU ks (1+n.toNat)
  have o1:=Fy (kd ks (1+n.toNat))
  have r0:=kT [40] [41] rfl rfl ((ks.drop 1).take n.toNat)
  have a:=mK (ks.drop (2+n.toNat))
  have c:=wR (ks.drop 1) n.toNat
  rw[List.drop_drop] at c
  have d2:=dG ks (1+n.toNat)
  rw[show 1+n.toNat+1=2+n.toNat by omega] at d2
  have d0:sk ks 0+SK (ks.drop 1)=SK ks:=dG ks 0
  have d1:sk ks 1+SK (ks.drop 2)=SK (ks.drop 1):=dG ks 1
  rw[hk]
  show gl (aC (m==1) [[112,117,98]]++([102,110]::s::((kd ks 0).t++(bF [40] [41] ((ks.drop 1).take n.toNat)++(kN (kd ks (1+n.toNat))++bB (ks.drop (2+n.toNat)))))))≤_
  exact fA
 by_cases hk:kind=9
 ·have a:=Fx ks
  rw[hk]
  show gl (oP ks)≤_
  exact fA
 by_cases hk:kind=10
 ·have a:=BM [43] (by decide) ks
  rw[hk]
  show gl (s::(aC (ks.length !=0) [[58]]++pSep [43] ks))≤_
  exact fA
 by_cases hk:kind=11
 ·have a:=BM [43] (by decide) ks
  rw[hk]
  show gl (s::(aC (ks.length !=0) [[58]]++pSep [43] ks))≤_
  exact fA
 by_cases hk:kind=12
 ·have a:=mK ks
  rw[hk]
  show gl (aC (m==1) [[109,117,116]]++(aC (s.length !=0) [s,[58]]++bB ks))≤_
  exact fA
 by_cases hk:kind=13
 ·rw[hk]
  show gl ([[105,110,116]])≤_
  exact fA
 by_cases hk:kind=14
 ·rw[hk]
  show gl ([[98,111,111,108]])≤_
  exact fA
 by_cases hk:kind=15
 ·have r0:=kT [40] [41] rfl rfl (ks)
  rw[hk]
  show gl (bF [40] [41] ks)≤_
  exact fA
 by_cases hk:kind=16
 ·have a:=mK ks
  rw[hk]
  show gl ([38]::(lG s++(aC (n==1) [[109,117,116]]++bB ks)))≤_
  exact fA
 by_cases hk:kind=17
 ·have f:=QD n
  have r0:=kT [40] [41] rfl rfl (ks.take (ks.length - 1))
  have q1:=iU ks (ks.length - 1)
  have c:=wR ks (ks.length - 1)
  have d2:=dG ks (ks.length - 1)
  rw[hk]
  show gl ([102,110]::(lG s++(pFn n++(bF [40] [41] (ks.take (ks.length - 1))++([45,62]::(kd ks (ks.length - 1)).t)))))≤_
  exact fA
 by_cases hk:kind=18
 ·have a:=Fx ks
  rw[hk]
  show gl (jQ s::oP ks)≤_
  exact fA
 by_cases hk:kind=19
 ·rw[hk]
  show gl ([s])≤_
  exact fA
 by_cases hk:kind=20
 ·have i:=Du (by have:=(hg.Ng hk).1;omega) (hg.Ng hk).2
  rw[hk]
  show gl ([Lib.itoa n])≤_
  exact fA
 by_cases hk:kind=21
 ·rw[hk]
  show gl (vS n)≤_
  exact fA
 by_cases hk:kind=22
 ·have r0:=kT [40] [41] rfl rfl (ks)
  rw[hk]
  show gl (bF [40] [41] ks)≤_
  exact fA
 by_cases hk:kind=23
 ·have a:=MG ks
  rw[hk]
  show gl (jQ s::qm ks)≤_
  exact fA
 by_cases hk:kind=24
 ·have q0:=iU ks 0
  have o0:=lU (kd ks 0)
  have r0:=kT [40] [41] rfl rfl (ks.drop 1)
  have d0:sk ks 0+SK (ks.drop 1)=SK ks:=dG ks 0
  have d1:sk ks 1+SK (ks.drop 2)=SK (ks.drop 1):=dG ks 1
  rw[hk]
  show gl (gQ (kd ks 0)++bF [40] [41] (ks.drop 1))≤_
  exact fA
 by_cases hk:kind=25
 ·have q0:=iU ks 0
  have o0:=lU (kd ks 0)
  have i:=Du (by have:=(hg.part hk).1.1;omega) (hg.part hk).1.2
  have d0:sk ks 0+SK (ks.drop 1)=SK ks:=dG ks 0
  have d1:sk ks 1+SK (ks.drop 2)=SK (ks.drop 1):=dG ks 1
  rw[hk]
  show gl (gQ (kd ks 0)++[[46],if s.length=0 then Lib.itoa n else s])≤_
  exact fA
 by_cases hk:kind=26
 ·have q0:=iU ks 0
  have o0:=lU (kd ks 0)
  have d0:sk ks 0+SK (ks.drop 1)=SK ks:=dG ks 0
  have d1:sk ks 1+SK (ks.drop 2)=SK (ks.drop 1):=dG ks 1
  rw[hk]
  show gl ([42]::gQ (kd ks 0))≤_
  exact fA
 by_cases hk:kind=27
 ·have q0:=iU ks 0
  have o0:=lU (kd ks 0)
  have d0:sk ks 0+SK (ks.drop 1)=SK ks:=dG ks 0
  have d1:sk ks 1+SK (ks.drop 2)=SK (ks.drop 1):=dG ks 1
  rw[hk]
  show gl ([38]::(aC (n==1) [[109,117,116]]++gQ (kd ks 0)))≤_
  exact fA
 by_cases hk:kind=28
 ·have q0:=iU ks 0
  have o0:=lU (kd ks 0)
  have d0:sk ks 0+SK (ks.drop 1)=SK ks:=dG ks 0
  have d1:sk ks 1+SK (ks.drop 2)=SK (ks.drop 1):=dG ks 1
  rw[hk]
  show gl (s::gQ (kd ks 0))≤_
  exact fA
 by_cases hk:kind=29
 ·have q0:=iU ks 0
  have o0:=lU (kd ks 0)
  have q1:=iU ks 1
  have o1:=lU (kd ks 1)
  have d0:sk ks 0+SK (ks.drop 1)=SK ks:=dG ks 0
  have d1:sk ks 1+SK (ks.drop 2)=SK (ks.drop 1):=dG ks 1
  rw[hk]
  show gl (zh s ks)≤_
  exact fA
 by_cases hk:kind=30
 ·have q0:=iU ks 0
  have o0:=lU (kd ks 0)
  have q1:=iU ks 1
  have o1:=lU (kd ks 1)
  have d0:sk ks 0+SK (ks.drop 1)=SK ks:=dG ks 0
  have d1:sk ks 1+SK (ks.drop 2)=SK (ks.drop 1):=dG ks 1
  rw[hk]
  show gl (zh [38,38] ks)≤_
  exact fA
 by_cases hk:kind=31
 ·have q0:=iU ks 0
  have o0:=lU (kd ks 0)
  have q1:=iU ks 1
  have o1:=lU (kd ks 1)
  have d0:sk ks 0+SK (ks.drop 1)=SK ks:=dG ks 0
  have d1:sk ks 1+SK (ks.drop 2)=SK (ks.drop 1):=dG ks 1
  rw[hk]
  show gl (zh [124,124] ks)≤_
  exact fA
 by_cases hk:kind=32
 ·have q0:=iU ks 0
  have o0:=lU (kd ks 0)
  have q1:=iU ks 1
  have o1:=lU (kd ks 1)
  have d0:sk ks 0+SK (ks.drop 1)=SK ks:=dG ks 0
  have d1:sk ks 1+SK (ks.drop 2)=SK (ks.drop 1):=dG ks 1
  rw[hk]
  show gl (zh [61] ks)≤_
  exact fA
 by_cases hk:kind=33
 ·have q0:=iU ks 0
  have o0:=lU (kd ks 0)
  have q1:=iU ks 1
  have a:=mK (ks.drop 2)
  have d0:sk ks 0+SK (ks.drop 1)=SK ks:=dG ks 0
  have d1:sk ks 1+SK (ks.drop 2)=SK (ks.drop 1):=dG ks 1
  rw[hk]
  show gl ([105,102]::(gQ (kd ks 0)++((kd ks 1).t++(aC (decide (2<ks.length)) [[101,108,115,101]]++bB (ks.drop 2)))))≤_
  exact fA
 by_cases hk:kind=34
 ·have q0:=iU ks 0
  have o0:=lU (kd ks 0)
  have r0:=kT [123] [125] rfl rfl (ks.drop 1)
  have d0:sk ks 0+SK (ks.drop 1)=SK ks:=dG ks 0
  have d1:sk ks 1+SK (ks.drop 2)=SK (ks.drop 1):=dG ks 1
  rw[hk]
  show gl ([109,97,116,99,104]::(gQ (kd ks 0)++bF [123] [125] (ks.drop 1)))≤_
  exact fA
 by_cases hk:kind=35
 ·have a:=BM [61,62] (by decide) ks
  rw[hk]
  show gl (pSep [61,62] ks)≤_
  exact fA
 by_cases hk:kind=36
 ·have q0:=iU ks 0
  have o0:=lU (kd ks 0)
  have q1:=iU ks 1
  have d0:sk ks 0+SK (ks.drop 1)=SK ks:=dG ks 0
  have d1:sk ks 1+SK (ks.drop 2)=SK (ks.drop 1):=dG ks 1
  rw[hk]
  show gl ([119,104,105,108,101]::(gQ (kd ks 0)++(kd ks 1).t))≤_
  exact fA
 by_cases hk:kind=37
 ·have a:=mK ks
  rw[hk]
  show gl ([108,111,111,112]::bB ks)≤_
  exact fA
 by_cases hk:kind=38
 ·rw[hk]
  show gl ([[98,114,101,97,107]])≤_
  exact fA
 by_cases hk:kind=39
 ·rw[hk]
  show gl ([[110,101,120,116]])≤_
  exact fA
 by_cases hk:kind=40
 ·have a:=mK ks
  rw[hk]
  show gl ([114,101,116,117,114,110]::bB ks)≤_
  exact fA
 by_cases hk:kind=41
 ·rw[hk]
  show gl ([[112,97,110,105,99]])≤_
  exact fA
 by_cases hk:kind=42
 ·have a:=X7 n ks
  rw[hk]
  show gl ([123]::(nO n ks++[[125]]))≤_
  exact fA
 by_cases hk:kind=43
 ·rw[hk]
  have f:gl (asm 43 n m s ks)=gl ([108,101,116]::(aC (m==1) [[109,117,116]]++(s::(aC (n%2==1) ([58]::(kd ks 0).t)++aC (decide (2≤n)) ([61]::(kd ks (n%2).toNat).t))))):=rfl
  rw[f]
  have w1:=uO (m==1) [[109,117,116]]
  have w2:=uO (n%2==1) ([58]::(kd ks 0).t)
  have w3:=uO (decide (2≤n)) ([61]::(kd ks (n%2).toNat).t)
  have q0:=iU ks 0
  have q1:=iU ks 1
  have d0:sk ks 0+SK (ks.drop 1)=SK ks:=dG ks 0
  have d1:sk ks 1+SK (ks.drop 2)=SK (ks.drop 1):=dG ks 1
  by_cases hn:n%2=1
  ·rw[hn] at w2 w3⊢
   simp only[jl,nW,lD,List.length_cons,List.length_nil,show(1:Int).toNat=1 from rfl] at w1 w2 w3⊢
   omega
  ·have hn0:n%2=0:=by omega
   rw[hn0] at w3⊢
   have e0:aC ((0:Int)==1) ([58]::(kd ks 0).t)=[]:=rfl
   rw[e0]
   simp only[jl,nW,lD,List.length_cons,List.length_nil,show(0:Int).toNat=0 from rfl] at w1 w3⊢
   omega
 by_cases hk:kind=44
 ·have a:=MG (ks.take m.toNat)
  have r0:=kT [123] [125] rfl rfl (ks.drop m.toNat)
  have c:=wR ks m.toNat
  rw[hk]
  show gl ([109,97,107,101]::jQ s::(qm (ks.take m.toNat)++bF [123] [125] (ks.drop m.toNat)))≤_
  exact fA
 by_cases hk:kind=45
 ·have a:=mK ks
  rw[hk]
  show gl (s::[58]::bB ks)≤_
  exact fA
 by_cases hk:kind=46
 ·rw[hk]
  obtain⟨cs,ps,x,y,ji,hml,-,-,-,-⟩:=hg.Rq hk
  have hlen:m.toNat+ps.length+2=ks.length:=by
   rw[←hl,ji,←hml]
   simp
   omega
  have f:=QD n
  have r0:=kT [91] [93] rfl rfl (ks.take m.toNat)
  have r1:=kT [40] [41] rfl rfl ((ks.take (ks.length - 2)).drop m.toNat)
  have q0:=iU ks (ks.length - 2)
  have o0:=Fy (kd ks (ks.length - 2))
  have q1:=iU ks (ks.length - 1)
  have c:=wR (ks.take (ks.length - 2)) m.toNat
  rw[List.take_take,Nat.min_eq_left (by omega)] at c
  have c2:=wR ks (ks.length - 2)
  have d2:=dG ks (ks.length - 2)
  have d3:=dG ks (ks.length - 1)
  rw[show ks.length - 2+1=ks.length - 1 by omega] at d2
  have g:gl (asm 46 n m s ks)=gl ([102,110]::(pFn n++(bF [91] [93] (ks.take m.toNat)++(bF [40] [41] ((ks.take (ks.length - 2)).drop m.toNat)++(kN (kd ks (ks.length - 2))++(kd ks (ks.length - 1)).t))))):=rfl
  rw[g]
  simp only[jl,nW,lD,List.length_cons,List.length_nil]
  omega
 by_cases hk:kind=47
 ·rw[hk]
  show gl (aC (decide (0<n)) [[38]]++(aC (n==2) [[109,117,116]]++[s]))≤_
  exact fA
 by_cases hk:kind=48
 ·have r0:=kT [91] [93] rfl rfl (ks.take m.toNat)
  have q0:=iU ks m.toNat
  have o0:=Fy (kd ks m.toNat)
  have q1:=iU ks (m.toNat+1)
  have c:=wR ks m.toNat
  have d2:=dG ks m.toNat
  have d3:=dG ks (m.toNat+1)
  rw[hk]
  show gl ([115,112,97,119,110]::(bF [91] [93] (ks.take m.toNat)++(kN (kd ks m.toNat)++(kd ks (m.toNat+1)).t)))≤_
  exact fA
 by_cases hk:kind=49
 ·rw[hk]
  show gl ([[95]])≤_
  exact fA
 by_cases hk:kind=50
 ·rw[hk]
  show gl (aC (decide (0<n)) [[114,101,102]]++(aC (n==2||m==1) [[109,117,116]]++[s]))≤_
  exact fA
 by_cases hk:kind=51
 ·have i:=Du (hg.Nh hk).1 (hg.Nh hk).2
  have i2:=S9 (Lib.itoa n)
  rw[hk]
  show gl (aC (decide (n<0)) [[45]]++[Lib.trimPrefix (Lib.itoa n) [45]])≤_
  exact fA
 by_cases hk:kind=52
 ·rw[hk]
  show gl (vS n)≤_
  exact fA
 by_cases hk:kind=53
 ·have r0:=kT [40] [41] rfl rfl (ks)
  rw[hk]
  show gl (bF [40] [41] ks)≤_
  exact fA
 by_cases hk:kind=54
 ·have a:=MF ks
  rw[hk]
  show gl (jQ s::ql ks)≤_
  exact fA
 by_cases hn:kind<0
 ·have h1:kind.toNat=0:=by omega
  have h2:=mK ks
  unfold asm
  rw[h1]
  exact Nat.le_trans h2 (by omega)
 ·have h1:55≤kind.toNat:=by omega
  unfold asm
  split
  all_goals first|omega|(rw[lD];omega)
end Go.Proofs.YtdplogkmkgekdaaGreatDoor
namespace Go.Proofs.YtdplogkmkgekdaaGreatDoor.Bk
section
variable {t:Tk} {i:Nat} {β:Type} {L:List Wd} {N:List Nat}
theorem Vh {n:Int} (hn:n=0∨n=1∨n=2) (hat:At t i (pFn n)) (h:cu t (i+(pFn n).length) L N) (e:(!(L.contains [109,117,116])&&!(L.contains [111,110,99,101])&&N.all (fun q=>q !=5&&q !=3))=true):Ev (fun _=>jR t) ⟨i,0,0⟩ (n,⟨i+(pFn n).length,0,0⟩):=by
 simp only[Bool.and_eq_true] at e
 rcases hn with rfl|rfl|rfl
 ·have h1:au t i 0 0 ⟨#[109,117,116]⟩=false:=bQ h (by simp only[Bool.and_eq_true];exact⟨e.1.1,e.2⟩)
  have h2:au t i 0 0 ⟨#[111,110,99,101]⟩=false:=bQ h (by simp only[Bool.and_eq_true];exact⟨e.1.2,e.2⟩)
  unfold jR;exact evs
 ·have a1:dI t i [109,117,116]:=hat.1
  unfold jR;exact evs
 ·have a1:dI t i [111,110,99,101]:=hat.1
  unfold jR;exact evs
theorem aed {s:ByteArray} (hs:s=E0∨qp s) (hat:At t i (lG s.data.toList)) (h:cu t (i+(lG s.data.toList).length) L N) (e:(L.all (fun u=>(wk u:Int) !=4)&&N.all (fun p=>(p:Int) !=4))=true) {f:Nat→ByteArray→GP β} {r:β × Rs} (h2:Ev (fun n=>f n s) ⟨i+(lG s.data.toList).length,0,0⟩ r):Ev (fun n=>bnd (fB t 0 4) (fun b=>bnd (cond b (dW t) (ret E0)) (f n))) ⟨i,0,0⟩ r:=by
 rcases hs with rfl|hs
 ·have h1:bf t i 0 0 4=false:=Fh h e
  exact Ev.ak dz (Vd h1 (Ev.ak Ev.ret' h2))
 ·rw[Ey hs] at hat h2
  have h1:bf t i 0 0 4=true:=(kE hat.1).trans (by rw[hs.1];rfl)
  exact Ev.ak dz (Hy h1 (Ev.ak (Dt hs hat.1) h2))
theorem abK {s:ByteArray} (hs:s=E0∨qp s):∀u∈lG s.data.toList,okW u=true:=by
 rcases hs with rfl|hs
 ·exact iZ
 ·rw[Ey hs];exact aV hs.2 iZ
theorem QE {n:Int} (hn:n=0∨n=1∨n=2):∀u∈pFn n,okW u=true:=by
 rcases hn with rfl|rfl|rfl<;>decide
theorem At.opt {us vs:List Wd} (h:At t i (us++vs)) (h1:∀u∈us,(L.contains u||N.contains (wk u))=true) (h2:∃u r,vs=u::r∧(L.contains u||N.contains (wk u))=true):cu t i L N:=by
 cases us with
 |nil=>exact At.head h h2
 |cons u us=>exact cu.of h.1 (h1 u (List.mem_cons_self ..))
end
theorem Yb {F:List (List Nr)} {y:List Nr} {lb:Int→Prop} (h:∀x∈F.map bA,lb x) (hy:lb (bA y)):∀x∈(F++[y]).map bA,lb x:=by
 intro x hx
 rw[List.map_append] at hx
 rcases List.mem_append.1 hx with hx|hx
 ·exact h x hx
 ·obtain rfl:x=bA y:=by simpa using hx
  exact hy
theorem Yc {Ks:List Kd} {K:Kd}:kd (Ks++[K]) ((Ks++[K]).length - 1)=K:=by
 unfold kd
 simp
theorem QF {Ks:List Kd} {K:Kd}:(Ks++[K]).take ((Ks++[K]).length - 1)=Ks:=by
 simp
theorem aee {p n:Int} {s:ByteArray} {F:List (List Nr)} {y:List Nr} (hs:s=E0∨qp s) (hn:n=0∨n=1∨n=2) (h:∀x∈F,PT x) (hy:PT y):PT (nd 17 p n 0 s (F++[y])):=by
 obtain⟨⟨K,u,b⟩,-⟩:=hy
 obtain⟨Ks,Us,l⟩:=Fw h
 have hg:Gr 17 n 0 s ((F++[y]).map bA):=by
  constructor<;>intro e<;>first|exact absurd e (by decide)|exact⟨by simp,Yb l.lb b.lb⟩
 refine PT.mk (us:=[102,110]::(lG s.data.toList++(pFn n++([40]::(aS [44] Us++([41]::[45,62]::u)))))) (Ks:=Ks++[K]) (l.pt.app ⟨b.pt,trivial⟩) hg ?_ (aV rfl (bE (abK hs) (bE (QE hn) (aV rfl (bE (kF rfl l.ok) (aV rfl (aV rfl b.ok))))))) ⟨_,_,rfl,rfl⟩ ?_ (by unfold nN lab;simp) (TU.ne (by decide))
 ·show glue _=glue ([102,110]::(lG _++(pFn n++(bF [40] [41] ((Ks++[K]).take ((Ks++[K]).length - 1))++([45,62]::(kd (Ks++[K]) ((Ks++[K]).length - 1)).t)))))
  rw[Yc,QF]
  unfold bF
  simp only[aQ,aN,iO l.gl,b.gl,List.append_assoc,List.cons_append,List.nil_append]
 ·rintro t i ⟨a1,a2⟩ hf
  obtain⟨a3,a4⟩:=a2.app
  obtain⟨a5,a6,a7⟩:=a4.app
  have a7':At t (i+1+(lG s.data.toList).length+(pFn n).length+1) ((aS [44] Us++[[41]])++([45,62]::u)):=by simpa using a7
  obtain⟨a8,a9⟩:=a7'.app
  obtain⟨F',h1,h2⟩:=Ob l a8
  have e1:i+1+(lG s.data.toList).length+(pFn n).length+1+(aS [44] Us++[[41]]).length=i+1+(lG s.data.toList).length+(pFn n).length+1+(aS [44] Us).length+1:=by simp only[List.length_append,List.length_cons,List.length_nil];omega
  rw[e1] at a9
  have e2:i+([102,110]::(lG s.data.toList++(pFn n++([40]::(aS [44] Us++([41]::[45,62]::u)))))).length=i+1+(lG s.data.toList).length+(pFn n).length+1+(aS [44] Us).length+1+1+u.length:=by simp only[List.length_append,List.length_cons,List.length_nil];omega
  rw[e2] at hf⊢
  obtain⟨y',h3,h4⟩:=b.rd t _ a9.2 hf
  have h5:Ev (fun n=>gG t n 0) _ (y',_):=h4
  have Cx:=a9.1
  have c1:cu t (i+1+(lG s.data.toList).length) [[109,117,116],[111,110,99,101],[40]] []:=a4.opt (by rcases hn with rfl|rfl|rfl<;>decide) ⟨_,_,rfl,rfl⟩
  have k1:=Vh hn a5 (cu.of (L:=[[40]]) (N:=[]) a6 rfl) rfl
  refine⟨nd 17 (t.pos i) n 0 s (F'++[y']),bD (by simp[h1,h3]),gT ?_⟩
  have main:Ev (fun n_1=>bnd (fB t 0 4) fun k=>bnd (cond k (dW t) (ret E0)) fun s=>bnd (jR t) fun n=>seq (aM t ⟨#[40]⟩) (bnd (fC t (gG t n_1 0) ⟨#[41]⟩ n_1) fun ks=>seq (aM t ⟨#[45,62]⟩) (bnd (gG t n_1 0) fun y=>ret (nd 17 (t.pos i) n 0 s (ks++[y]))))) ⟨i+1,0,0⟩ (nd 17 (t.pos i) n 0 s (F'++[y']),⟨i+1+(lG s.data.toList).length+(pFn n).length+1+(aS [44] Us).length+1+1+u.length,0,0⟩):=by
   refine aed hs a3 c1 rfl ?_
   exact evs
  unfold iN;exact evs
abbrev mL:Tk→Nat→GP (List Nr):=fun t _=>iR t
def Ez (_:Tk) (_:Nat):Prop:=True
def PL (x:List Nr):Prop:=∃K us,Bk mL Ez [] [4] (fun z=>z=19) x K us
theorem nL {p:Int} {s:ByteArray} (hs:qp s):PL (nd 19 p 0 0 s []):=by
 refine⟨_,[s.data.toList],Pt.nd (Ks:=[]) trivial (Gr.free (.inr (.inr (.inl rfl)))),rfl,aV hs.2 iZ,⟨_,_,rfl,by rw[hs.1];rfl⟩,?_,by rw[dA];simp[lab]⟩
 rintro t i ⟨a1,-⟩ -
 obtain⟨q,h⟩:=Fu hs a1
 exact⟨nd 19 q 0 0 s [],bD rfl,h⟩
def kU (s:Wd) (Us:List (List Wd)):List Wd:=(Us.map (fun u=>u++[s])).flatten
theorem Fz {s:Wd}:∀{A B:List (List Wd)},B≠[]→aS s (A++B)=kU s A++aS s B
 |[],B,_=>rfl
 |[a],B,h=>by
  cases B with
  |nil=>exact absurd rfl h
  |cons b B=>simp[aS,kU,jP]
 |a::a2::A,B,h=>by
  have:=Fz (s:=s) (A:=a2::A) h
  have e:aS s (a::a2::A++B)=a++(s::aS s (a2::A++B)):=by simp[aS,jP]
  rw[e,this]
  simp[kU]
section
variable {t:Tk}
theorem Vi:∀{F:List (List Nr)} {Us:List (List Wd)},Zip (fun x us=>qC mL Ez x us∧∃u r,us=u::r∧(([]:List Wd).contains u||[4].contains (wk u))=true) F Us→∀(i:Nat) (o:List (List Nr)),At t i (kU [44] Us)→cu t (i+(kU [44] Us).length) LT [2]→∃F',F'.map er=F.map er∧EvL (fun _=>jw t) (o,false) ⟨i,0,0⟩ ((o++F',false),⟨i+(kU [44] Us).length,0,0⟩)
 |[],[],_,i,o,hat,hc=>⟨[],rfl,by
  rw[List.append_nil]
  refine EvL.stop ?_
  have hc':cu t i LT [2]:=hc
  unfold jw
  exact evs⟩
 |x::F,u::Us,hz,i,o,hat,hc=>by
  have e1:kU [44] (u::Us)=u++([44]::kU [44] Us):=by simp[kU]
  rw[e1] at hat hc⊢
  obtain⟨a1,a2,a3⟩:=hat.app
  obtain⟨x',h1,h2⟩:=hz.1.1 t i a1 trivial
  have e2:i+(u++[44]::kU [44] Us).length=i+u.length+1+(kU [44] Us).length:=by simp only[List.length_append,List.length_cons];omega
  rw[e2] at hc⊢
  obtain⟨F',h3,h4⟩:=Vi hz.2 (i+u.length+1) (o++[x']) a3 hc
  refine⟨x'::F',by rw[List.map_cons,List.map_cons,h1,h3],?_⟩
  rw[List.append_assoc] at h4
  refine EvL.on ?_ h4
  have c1:=a1.head hz.1.2
  have k1:bf t i 0 0 4=true:=by
   obtain⟨v,hv1,hv2⟩:=c1
   rw[kE hv1]
   simp at hv2
   rw[hv2];rfl
  have h2':Ev (fun _=>iR t) ⟨i,0,0⟩ (x',⟨i+u.length,0,0⟩):=h2
  unfold jw
  exact evs
 |[],_::_,hz,_,_,_,_=>hz.elim
 |_::_,[],hz,_,_,_,_=>hz.elim
theorem Vj:∀{F:List (List Nr)} {Us:List (List Wd)},F≠[]→Zip (fun x us=>qC mL Ez x us∧∃u r,us=u::r∧(([]:List Wd).contains u||[4].contains (wk u))=true) F Us→∀(i:Nat) (o:List (List Nr)),At t i (aS [44] Us++[[62]])→∃F',F'.map er=F.map er∧EvL (fun _=>jw t) (o,false) ⟨i,0,0⟩ ((o++F',true),⟨i+(aS [44] Us).length+1,0,0⟩)
 |[],_,hne,_,_,_,_=>absurd rfl hne
 |[x],[u],_,hz,i,o,hat=>by
  have e1:aS [44] [u]=u:=by simp[aS,jP]
  rw[e1] at hat⊢
  obtain⟨a1,a2,-⟩:=hat.app
  obtain⟨x',h1,h2⟩:=hz.1.1 t i a1 trivial
  refine⟨[x'],by simp[h1],EvL.stop ?_⟩
  have k1:bf t i 0 0 4=true:=by
   obtain⟨v,hv1,hv2⟩:=a1.head hz.1.2
   rw[kE hv1]
   simp at hv2
   rw[hv2];rfl
  have h2':Ev (fun _=>iR t) ⟨i,0,0⟩ (x',⟨i+u.length,0,0⟩):=h2
  unfold jw
  exact evs
 |x::y::F,u::v::Us,_,hz,i,o,hat=>by
  have e1:aS [44] (u::v::Us)=u++([44]::aS [44] (v::Us)):=by simp[aS,jP]
  rw[e1] at hat⊢
  rw[List.append_assoc] at hat
  obtain⟨a1,a2,a3⟩:=hat.app
  obtain⟨x',h1,h2⟩:=hz.1.1 t i a1 trivial
  obtain⟨F',h3,h4⟩:=Vj (by simp) hz.2 (i+u.length+1) (o++[x']) a3
  refine⟨x'::F',by rw[List.map_cons,List.map_cons,h1,h3],?_⟩
  rw[List.append_assoc] at h4
  have e2:i+(u++[44]::aS [44] (v::Us)).length+1=i+u.length+1+(aS [44] (v::Us)).length+1:=by simp only[List.length_append,List.length_cons];omega
  rw[e2]
  refine EvL.on ?_ h4
  have k1:bf t i 0 0 4=true:=by
   obtain⟨v,hv1,hv2⟩:=a1.head hz.1.2
   rw[kE hv1]
   simp at hv2
   rw[hv2];rfl
  have h2':Ev (fun _=>iR t) ⟨i,0,0⟩ (x',⟨i+u.length,0,0⟩):=h2
  unfold jw
  exact evs
 |_::_,[],_,hz,_,_,_=>hz.elim
 |[_],_::_::_,_,hz,_,_,_=>hz.2.elim
 |_::_::_,[_],_,hz,_,_,_=>hz.2.elim
end
theorem afk {F:List (List Nr)} (h:∀x∈F,PL x):∃Ks Us,tY mL Ez [] [4] (fun z=>z=19) F Ks Us:=nJ (fun x hx=>h x hx)
theorem Zip.ne {α β:Type} {R:α→β→Prop} {l:List α} {r:List β} (h:Zip R l r) (hl:l≠[]):r≠[]:=by
 intro e
 subst e
 cases l with
 |nil=>exact hl rfl
 |cons _ _=>exact h.elim
theorem FB {Ks:List Kd} (h:Ks≠[]):oP Ks=bF [60] [62] Ks:=by
 unfold oP
 rw[if_neg (by simpa using h)]
theorem MH {p:Int} {s n:ByteArray} {r:List ByteArray} {A B:List (List Nr)} (hp:qD 2 s n r) (hA:∀x∈A,PL x) (hB:∀x∈B,PT x):PT (nd 18 p 0 0 s (A++B)):=by
 obtain⟨KA,UA,la⟩:=afk hA
 obtain⟨KB,UB,lb⟩:=Fw hB
 have hg:Gr 18 0 0 s ((A++B).map bA):=by
  constructor<;>intro e<;>first|exact absurd e (by decide)|exact⟨hp.path,A.map bA,B.map bA,List.map_append ..,la.lb,lb.lb⟩
 have hz:=Zip.app la.pt lb.pt
 have hgl:=Zip.app la.gl lb.gl
 obtain⟨ws,hws⟩:∃ws:List Wd,ws=if A++B=[] then [] else [60]::(aS [44] (UA++UB)++[[62]]):=⟨_,rfl⟩
 refine PT.mk (us:=pw n r++ws) (Ks:=KA++KB) hz hg ?_ ?_ ⟨_,_,rfl,by rw[hp.nm.1];exact Bool.or_true _⟩ ?_ (by unfold nN lab;simp) (TU.ne (by decide))
 ·show glue _=glue (jQ s.data.toList::oP (KA++KB))
  rw[←hp.glue,hws,aN,aN]
  congr 1
  by_cases h0:A++B=[]
  ·rw[if_pos h0]
   have:KA++KB=[]:=by
    have:=hz.len
    rw[h0] at this
    exact List.length_eq_zero_iff.1 this.symm
   rw[this];rfl
  ·rw[if_neg h0,FB (hz.ne h0)]
   unfold bF
   rw[aQ,aQ,aN,aN,iO hgl]
 ·refine bE hp.ok ?_
  rw[hws]
  by_cases h0:A++B=[]
  ·rw[if_pos h0];exact iZ
  ·rw[if_neg h0]
   refine aV rfl (bE (kF rfl ?_) (by decide))
   intro us dS
   rcases List.mem_append.1 dS with h|h
   ·exact la.ok us h
   ·exact lb.ok us h
 ·intro t i hat hf
  obtain⟨a1,a2⟩:=hat.app
  have c0:cu t i [] [2]:=⟨_,a1.1,.inr (by rw[hp.nm.1];rfl)⟩
  have e0:i+(pw n r++ws).length=i+(pw n r).length+ws.length:=by rw[List.length_append];omega
  rw[e0] at hf⊢
  subst hws
  by_cases h0:A++B=[]
  ·rw[if_pos h0] at hf a2⊢
   have hf':cu t (i+(pw n r).length) [[44],[41],[62],[125],[123],[59],[61]] []:=hf
   have k1:=qY hp a1 (bQ hf' rfl)
   refine⟨nd 18 (t.pos i) 0 0 s [],?_,gT ?_⟩
   ·rw[h0];exact bD rfl
   ·unfold iN;exact evs
  ·rw[if_neg h0] at hf a2⊢
   obtain⟨a3,a4⟩:=a2
   have k1:=qY hp a1 (gY a3 rfl)
   have main:∃F',F'.map er=(A++B).map er∧Ev (fun fu=>qw t (gG t fu 0) fu) ⟨i+(pw n r).length+1,0,0⟩ (F',⟨i+(pw n r).length+1+(aS [44] (UA++UB)).length+1,0,0⟩):=by
    by_cases hb:B=[]
    ·subst hb
     have hU:UB=[]:=List.length_eq_zero_iff.1 lb.len.1.symm
     rw[hU,List.append_nil] at a4⊢
     rw[List.append_nil] at h0⊢
     obtain⟨F',h1,h2⟩:=Vj h0 la.rd _ [] a4
     exact⟨F',h1,Ev.ak h2.ev (Ev.yes rfl Ev.ret')⟩
    ·have hU:UB≠[]:=lb.rd.ne hb
     rw[Fz hU] at a4⊢
     rw[List.append_assoc] at a4
     obtain⟨a5,a6⟩:=a4.app
     have hc:cu t (i+(pw n r).length+1+(kU [44] UA).length) LT [2]:=by
      have hz:=lb.rd
      cases B with
      |nil=>exact absurd rfl hb
      |cons x B=>
       cases UB with
       |nil=>exact absurd rfl hU
       |cons u UB=>
        have:At t (i+(pw n r).length+1+(kU [44] UA).length) (u++(jP [44] UB++[[62]])):=by rw[←List.append_assoc];exact a6
        exact this.app.1.head hz.1.2
     obtain⟨F1,h1,h2⟩:=Vi la.rd _ [] a5 hc
     obtain⟨F2,h3,h4⟩:=wP.run (m:=mT) (s:=[44]) (e:=[62]) (B:=fun n=>gH t (gG t n 0) ⟨[62].toArray⟩) Fj ⟨rfl,rfl,rfl⟩ (fun j h=>vP.of h rfl) (fun j h=>vP.of h rfl) hb lb.rd _ F1 a6
     refine⟨F1++F2,by rw[List.map_append,List.map_append,h1,h3],?_⟩
     have h5:Ev (fun fu=>qj t (gG t fu 0) ⟨#[62]⟩ fu F1) ⟨i+(pw n r).length+1+(kU [44] UA).length,0,0⟩ (F1++F2,⟨i+(pw n r).length+1+(kU [44] UA).length+(aS [44] UB).length+1,0,0⟩):=h4.ev
     have e:i+(pw n r).length+1+(kU [44] UA++aS [44] UB).length+1=i+(pw n r).length+1+(kU [44] UA).length+(aS [44] UB).length+1:=by rw[List.length_append];omega
     rw[e]
     exact Ev.ak h2.ev (Ev.no rfl h5)
   obtain⟨F',h1,h2⟩:=main
   refine⟨nd 18 (t.pos i) 0 0 s F',bD h1,gT ?_⟩
   unfold iN;exact evs
end Go.Proofs.YtdplogkmkgekdaaGreatDoor.Bk
