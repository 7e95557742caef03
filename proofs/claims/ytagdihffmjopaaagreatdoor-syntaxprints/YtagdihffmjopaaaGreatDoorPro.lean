/- The document's writer: parameters. -/
import Derived.Test.YtagdihffmjopaaaGreatDoorPsb
namespace Go.Proofs.YtagdihffmjopaaaGreatDoor
set_option linter.all false
open Go.RowKit
theorem pBlk_step {n:Int} {k:Kd} {ks:List Kd} {i:Nat} (h:ks[i]? =some k):pBlk n (ks.drop i)=k.t++(pWhen (n==0||(decide (i+1<ks.length))) [[59]]++pBlk n (ks.drop (i+1))):=by
 have e:ks.drop i=k::ks.drop (i+1):=by
  rw[List.drop_eq_getElem_cons (List.getElem?_eq_some_iff.1 h).1,(List.getElem?_eq_some_iff.1 h).2]
 rw[e]
 show k.t++(pWhen (n==0||(ks.drop (i+1)).length !=0) [[59]]++_)=_
 have e2:((ks.drop (i+1)).length !=0)=decide (i+1<ks.length):=by
  rw[List.length_drop]
  by_cases hh:i+1<ks.length
  ·rw[decide_eq_true hh]
   simp
   omega
  ·rw[decide_eq_false hh]
   simp
   omega
 rw[e2]
section
variable{B:Nat} {w0 w:World} {wb f:Nat} {bs:List UInt8} {kind pos n m:Int} {name:ByteArray} {ko:Option Addr} {kl kc:Nat}
set_option maxRecDepth 100000 in
set_option maxHeartbeats 2000000 in
theorem block131 (hR:RN B w0 wb f) {ks:List (List Value)} (r:NR B w0 f ko ks) (hk:∀x∈ks,noK (labOf x)) (h:Wr B w0 w wb bs) (hne:bs≠[]) (hf:(bs++glue ([123]::(pBlk n (ks.map (kdAt f w0))++[[125]]))).length≤1099511627776):Calls Tryz.prog 131 #[.pointer (some ⟨wb,0,none⟩),.agg (nodeC kind pos n m name (.slice ko ks.length kc))] w (WP B w0 w wb bs ([123]::(pBlk n (ks.map (kdAt f w0))++[[125]]))):=by
 have H:Hid (NR B w0 f ko ks∧∀x∈ks,noK (labOf x)):=⟨r,hk⟩
 have q:=(Sw.start h hne hf).box (nodeC kind pos n m name (.slice ko ks.length kc))
 have hfew:=r.few
 have F:=q.f1
 obtain⟨nb,hnb⟩:∃nb,nb=w.heap.size:=⟨_,rfl⟩
 clear r hk h hne hf
 go_enter Tryz.func131,Tryz.ntmps131
 go_wp2_with (go_at_call 33;refine q.put ?_;clear q F;intro w1 q;have F:=q.f1)
 rw[←hnb] at q F⊢
 clear hnb
 go_loopg [11] ks.length (fun gg u wr=>∃(idx:Nat) (ts:List (List UInt8)),gg=ks.length - idx∧u=.int .i64 idx∧idx≤ks.length∧Hid (ts++pBlk n ((ks.map (kdAt f w0)).drop idx)=[123]::pBlk n (ks.map (kdAt f w0)))∧Hid (Sw B w0 w wb bs ts (pBlk n ((ks.map (kdAt f w0)).drop idx)++[[125]]) wr [(nb,nodeC kind pos n m name (.slice ko ks.length kc))]))
 case atStart=>exact⟨0,[]++[[123]],rfl,rfl,Nat.zero_le _,(by show _=_;simp),q⟩
 case round=>
  clear q F
  obtain⟨idx,ts,hgk,rfl,hidx,HT,Q⟩:=hrel
  have HG:Hid (gk=ks.length - idx):=hgk
  clear hgk
  have F:=Q.out.f1
  by_cases hlt:idx<ks.length
  ·have hltI:(idx:Int)<(ks.length:Int):=by omega
   obtain⟨x,hx⟩:∃x,ks[idx]? =some x:=⟨_,List.getElem?_eq_getElem hlt⟩
   obtain⟨g,o,rfl,hgB,hcell⟩:=H.out.1.cell idx x hx
   have hmem:=List.mem_of_getElem? hx
   obtain⟨kind2,pos2,n2,m2,name2,ko2,kl2,kc2,rfl,-,-⟩:=(H.out.1.all x hmem).fields
   have HX:Hid (Nw B w0 f (nodeC kind2 pos2 n2 m2 name2 (.slice ko2 kl2 kc2)).toList∧noK (labOf (nodeC kind2 pos2 n2 m2 name2 (.slice ko2 kl2 kc2)).toList)∧(ks.map (kdAt f w0))[idx]? =some (kdAt f w0 (nodeC kind2 pos2 n2 m2 name2 (.slice ko2 kl2 kc2)).toList)):=⟨H.out.1.all _ hmem,H.out.2 _ hmem,by rw[List.getElem?_map,hx];rfl⟩
   have lift:∀j,j<11→wr.cell? ⟨g,o+idx*11+j,none⟩=(nodeC kind2 pos2 n2 m2 name2 (.slice ko2 kl2 kc2)).toList[j]? :=fun j hj=>(Q.out.wr.bel.cell (p:=⟨g,o+idx*11+j,none⟩) hgB).trans (hcell j hj)
   have lg:g<wr.heap.size:=Nat.lt_of_lt_of_le hgB Q.out.wr.base
   have e0:=lift 0 (by decide)
   have e1:=lift 1 (by decide)
   have e2:=lift 2 (by decide)
   have e3:=lift 3 (by decide)
   have e4:=lift 4 (by decide)
   have e5:=lift 5 (by decide)
   have e6:=lift 6 (by decide)
   have e7:=lift 7 (by decide)
   have e8:=lift 8 (by decide)
   have e9:=lift 9 (by decide)
   have e10:=lift 10 (by decide)
   simp only[Nat.add_zero] at e0
   clear lift hcell hx hmem
   have st:=pBlk_step (n:=n) HX.out.2.2
   rw[List.length_map] at st
   cases hb:(n==0||decide (idx+1<ks.length))
   ·rw[hb] at st
    have st2:pBlk n ((ks.map (kdAt f w0)).drop idx)++[[125]]=(kdAt f w0 (nodeC kind2 pos2 n2 m2 name2 (.slice ko2 kl2 kc2)).toList).t++(pBlk n ((ks.map (kdAt f w0)).drop (idx+1))++[[125]]):=by rw[st];simp[pWhen]
    have HE:Hid (ts++(kdAt f w0 (nodeC kind2 pos2 n2 m2 name2 (.slice ko2 kl2 kc2)).toList).t++pBlk n ((ks.map (kdAt f w0)).drop (idx+1))=[123]::pBlk n (ks.map (kdAt f w0))):=by show _=_;rw[←HT.out,st];simp[pWhen]
    have q:=((Q.out.as st2).box (nodeC kind2 pos2 n2 m2 name2 (.slice ko2 kl2 kc2)))
    clear st st2 F
    have F:=q.f2
    obtain⟨hn0,hl0⟩:(n==0)=false∧decide (idx+1<ks.length)=false:=by simpa[Bool.or_eq_false_iff] using hb
    have hl1:¬(idx:Int)<(ks.length:Int) - 1:=by simp at hl0;omega
    clear hb hl0
    go_wp2_with (go_at_call 76;refine q.go (fun a1 a2 a3=>hR HX.out.1 HX.out.2.1 a1 a2 a3) ?_;clear q F;intro w2 q;have F:=q.f2)
    go_roundg (ks.length - (idx+1))
    case measure=>rw[HG.out];omega
    case rel=>exact⟨idx+1,_,rfl,by go_num,hlt,HE.out,q.pop⟩
   ·rw[hb] at st
    have st2:pBlk n ((ks.map (kdAt f w0)).drop idx)++[[125]]=(kdAt f w0 (nodeC kind2 pos2 n2 m2 name2 (.slice ko2 kl2 kc2)).toList).t++([59]::(pBlk n ((ks.map (kdAt f w0)).drop (idx+1))++[[125]])):=by rw[st];simp[pWhen]
    have HE:Hid (ts++(kdAt f w0 (nodeC kind2 pos2 n2 m2 name2 (.slice ko2 kl2 kc2)).toList).t++[[59]]++pBlk n ((ks.map (kdAt f w0)).drop (idx+1))=[123]::pBlk n (ks.map (kdAt f w0))):=by show _=_;rw[←HT.out,st];simp[pWhen]
    have q:=((Q.out.as st2).box (nodeC kind2 pos2 n2 m2 name2 (.slice ko2 kl2 kc2)))
    clear st st2 F
    have F:=q.f2
    by_cases hl0:idx+1<ks.length
    ·have hl1:(idx:Int)<(ks.length:Int) - 1:=by omega
     clear hb
     go_wp2_with (first|(go_at_call 33;refine q.put ?_;clear q F;intro w3 q;have F:=q.f2)|(go_at_call 76;refine q.go (fun a1 a2 a3=>hR HX.out.1 HX.out.2.1 a1 a2 a3) ?_;clear q F;intro w2 q;have F:=q.f2))
     go_roundg (ks.length - (idx+1))
     case measure=>rw[HG.out];omega
     case rel=>exact⟨idx+1,_,rfl,by go_num,hlt,HE.out,q.pop⟩
    ·have hl1:¬(idx:Int)<(ks.length:Int) - 1:=by omega
     have hn0:n=0:=by simpa[hl0] using hb
     subst hn0
     clear hb
     go_wp2_with (first|(go_at_call 33;refine q.put ?_;clear q F;intro w3 q;have F:=q.f2)|(go_at_call 76;refine q.go (fun a1 a2 a3=>hR HX.out.1 HX.out.2.1 a1 a2 a3) ?_;clear q F;intro w2 q;have F:=q.f2))
     go_roundg (ks.length - (idx+1))
     case measure=>rw[HG.out];omega
     case rel=>exact⟨idx+1,_,rfl,by go_num,hlt,HE.out,q.pop⟩
  ·have hltI:¬(idx:Int)<(ks.length:Int):=by omega
   obtain rfl:idx=ks.length:=by omega
   have e:pBlk n ((ks.map (kdAt f w0)).drop ks.length)=[]:=by rw[List.drop_of_length_le (by rw[List.length_map];exact Nat.le_refl _)];rfl
   have q:=Q.out.as (rest':=[125]::[]) (by rw[e];rfl)
   have HE:Hid (ts=[123]::pBlk n (ks.map (kdAt f w0))):=by show _=_;rw[←HT.out,e,List.append_nil]
   clear e
   go_wp2_with (go_at_call 33;refine q.put ?_;clear q F;intro w3 q;have F:=q.f1)
   go_end0
   exact q.done (by rw[HE.out];rfl)
end
end Go.Proofs.YtagdihffmjopaaaGreatDoor
namespace Go.Proofs.YtagdihffmjopaaaGreatDoor
set_option linter.all false
open Go.RowKit
section
variable{B:Nat} {w0 w:World} {wb f:Nat} {bs:List UInt8} {kind pos n m:Int} {name:ByteArray} {ko:Option Addr} {kl kc:Nat}
theorem lab_is {k p n m:Int} {s:ByteArray} {v:Value} {z:Int} (h:labOf (nodeC k p n m s v).toList=z) (hz:(13≤z∧z<100)∨z=9∨z=10∨z=11):k=z:=by
 have h2:lab k n m s (lenOf v)=z:=h
 unfold lab at h2
 split at h2
 ·split at h2<;>split at h2<;>omega
 ·split at h2
  ·split at h2<;>omega
  ·split at h2
   ·split at h2
    ·split at h2<;>omega
    ·omega
   ·split at h2
    ·split at h2<;>omega
    ·split at h2<;>omega
set_option maxRecDepth 100000 in
set_option maxHeartbeats 2000000 in
theorem caps133 {a:Option Addr} {c:Nat} {ks:List (List Value)} (r:NR B w0 f a ks) (hk:∀x∈ks,labOf x=47) (h:Wr B w0 w wb bs) (hne:bs≠[]) (hf:(bs++glue (pRow [91] [93] (ks.map (kdAt f w0)))).length≤1099511627776):Calls Tryz.prog 133 #[.pointer (some ⟨wb,0,none⟩),.slice a ks.length c] w (WP B w0 w wb bs (pRow [91] [93] (ks.map (kdAt f w0)))):=by
 have H:Hid (NR B w0 f a ks∧∀x∈ks,labOf x=47):=⟨r,hk⟩
 have q:=Sw.start h hne hf
 have hfew:=r.few
 clear r hk h hne hf
 go_enter Tryz.func133,Tryz.ntmps133
 go_wp2_with (go_at_call 33;refine q.put ?_;clear q;intro w1 q)
 go_loopg [10] ks.length (fun gg u wr=>∃(idx:Nat) (ts:List (List UInt8)),gg=ks.length - idx∧u=.int .i64 idx∧idx≤ks.length∧Hid (ts++pRest [44] (ks.map (kdAt f w0)) idx=[91]::pSep [44] (ks.map (kdAt f w0)))∧Hid (Sw B w0 w wb bs ts (pRest [44] (ks.map (kdAt f w0)) idx++[[93]]) wr []))
 case atStart=>exact⟨0,[]++[[91]],rfl,rfl,Nat.zero_le _,(by show _=_;simp[pRest]),q⟩
 case round=>
  clear q
  obtain⟨idx,ts,hgk,rfl,hidx,HT,Q⟩:=hrel
  have HG:Hid (gk=ks.length - idx):=hgk
  clear hgk
  by_cases hlt:idx<ks.length
  ·have hltI:(idx:Int)<(ks.length:Int):=by omega
   obtain⟨x,hx⟩:∃x,ks[idx]? =some x:=⟨_,List.getElem?_eq_getElem hlt⟩
   obtain⟨g,o,rfl,hgB,hcell⟩:=H.out.1.cell idx x hx
   have hmem:=List.mem_of_getElem? hx
   obtain⟨kind2,pos2,n2,m2,name2,ko2,kl2,kc2,rfl,-,-⟩:=(H.out.1.all x hmem).fields
   have HX:Hid (Nw B w0 f (nodeC kind2 pos2 n2 m2 name2 (.slice ko2 kl2 kc2)).toList∧labOf (nodeC kind2 pos2 n2 m2 name2 (.slice ko2 kl2 kc2)).toList=47∧(ks.map (kdAt f w0))[idx]? =some (kdAt f w0 (nodeC kind2 pos2 n2 m2 name2 (.slice ko2 kl2 kc2)).toList)):=⟨H.out.1.all _ hmem,H.out.2 _ hmem,by rw[List.getElem?_map,hx];rfl⟩
   have lift:∀j,j<11→wr.cell? ⟨g,o+idx*11+j,none⟩=(nodeC kind2 pos2 n2 m2 name2 (.slice ko2 kl2 kc2)).toList[j]? :=fun j hj=>(Q.out.wr.bel.cell (p:=⟨g,o+idx*11+j,none⟩) hgB).trans (hcell j hj)
   have lg:g<wr.heap.size:=Nat.lt_of_lt_of_le hgB Q.out.wr.base
   have e0:=lift 0 (by decide)
   have e1:=lift 1 (by decide)
   have e2:=lift 2 (by decide)
   have e3:=lift 3 (by decide)
   have e4:=lift 4 (by decide)
   have e5:=lift 5 (by decide)
   have e6:=lift 6 (by decide)
   have e7:=lift 7 (by decide)
   have e8:=lift 8 (by decide)
   have e9:=lift 9 (by decide)
   have e10:=lift 10 (by decide)
   simp only[Nat.add_zero] at e0
   clear lift hcell hx hmem
   obtain⟨KT,hKT⟩:∃KT,KT=pWhen (decide (0<n2)) [[38]]++(pWhen (n2==2) [[109,117,116]]++[name2.data.toList]):=⟨_,rfl⟩
   have HKT:Hid (tok f w0 (nodeC kind2 pos2 n2 m2 name2 (.slice ko2 kl2 kc2)).toList=KT):=by
    show _=_
    rw[hKT]
    cases f with
    |zero=>exact absurd HX.out.1 (fun x=>x)
    |succ f=>
     obtain⟨vs,-,-,-,e,-,-⟩:=HX.out.1.opened
     rw[e]
     have h9:=HX.out.2.1
     obtain rfl:kind2=47:=lab_is h9 (by decide)
     rfl
   rcases Nat.eq_zero_or_pos idx with h0|h0
   ·subst h0
    simp only[Nat.zero_mul,Nat.add_zero] at e0 e1 e2 e3 e4 e5 e6 e7 e8 e9 e10
    have st:pRest [44] (ks.map (kdAt f w0)) 0=KT++pRest [44] (ks.map (kdAt f w0)) 1:=by rw[pRest_zero HX.out.2.2];exact congrArg (· ++_) HKT.out
    have HE:Hid (ts++(KT++pRest [44] (ks.map (kdAt f w0)) (0+1))=[91]::pSep [44] (ks.map (kdAt f w0))):=by show _=_;rw[←HT.out,st]
    by_cases hp:0<n2
    ·cases h2:(n2==2)
     ·have q:=((Q.out.as (rest':=[38]::name2.data.toList::(pRest [44] (ks.map (kdAt f w0)) (0+1)++[[93]])) (by rw[st,hKT];simp[pWhen,hp,h2])).box (nodeC kind2 pos2 n2 m2 name2 (.slice ko2 kl2 kc2)))
      have HE2:Hid (ts++[[38],name2.data.toList]++pRest [44] (ks.map (kdAt f w0)) (0+1)=[91]::pSep [44] (ks.map (kdAt f w0))):=by show _=_;rw[←HE.out,hKT];simp[pWhen,hp,h2]
      clear st hKT
      have F:=q.f1
      go_wp2_with (go_at_call 33;refine q.put ?_;clear q F;intro w2 q;have F:=q.f1)
      go_roundg (ks.length - (0+1))
      case measure=>rw[HG.out];omega
      case rel=>exact⟨0+1,_,rfl,by go_num,hlt,(by show _=_;have:=HE2.out;simpa using this),q.pop⟩
     ·have q:=((Q.out.as (rest':=[38]::[109,117,116]::name2.data.toList::(pRest [44] (ks.map (kdAt f w0)) (0+1)++[[93]])) (by rw[st,hKT];simp[pWhen,hp,h2])).box (nodeC kind2 pos2 n2 m2 name2 (.slice ko2 kl2 kc2)))
      have HE2:Hid (ts++[[38],[109,117,116],name2.data.toList]++pRest [44] (ks.map (kdAt f w0)) (0+1)=[91]::pSep [44] (ks.map (kdAt f w0))):=by show _=_;rw[←HE.out,hKT];simp[pWhen,hp,h2]
      clear st hKT
      have F:=q.f1
      go_wp2_with (go_at_call 33;refine q.put ?_;clear q F;intro w2 q;have F:=q.f1)
      go_roundg (ks.length - (0+1))
      case measure=>rw[HG.out];omega
      case rel=>exact⟨0+1,_,rfl,by go_num,hlt,(by show _=_;have:=HE2.out;simpa using this),q.pop⟩
    ·have h2:(n2==2)=false:=by simp;omega
     have q:=((Q.out.as (rest':=name2.data.toList::(pRest [44] (ks.map (kdAt f w0)) (0+1)++[[93]])) (by rw[st,hKT];simp[pWhen,hp,h2])).box (nodeC kind2 pos2 n2 m2 name2 (.slice ko2 kl2 kc2)))
     have HE2:Hid (ts++[name2.data.toList]++pRest [44] (ks.map (kdAt f w0)) (0+1)=[91]::pSep [44] (ks.map (kdAt f w0))):=by show _=_;rw[←HE.out,hKT];simp[pWhen,hp,h2]
     clear st hKT
     have F:=q.f1
     go_wp2_with (go_at_call 33;refine q.put ?_;clear q F;intro w2 q;have F:=q.f1)
     go_roundg (ks.length - (0+1))
     case measure=>rw[HG.out];omega
     case rel=>exact⟨0+1,_,rfl,by go_num,hlt,(by show _=_;have:=HE2.out;simpa using this),q.pop⟩
   ·have hI:(0:Int)<(idx:Int):=by omega
    have st:pRest [44] (ks.map (kdAt f w0)) idx=[44]::(KT++pRest [44] (ks.map (kdAt f w0)) (idx+1)):=by rw[pRest_succ h0 HX.out.2.2];exact congrArg (fun z=>[44]::(z++_)) HKT.out
    have HE:Hid (ts++[[44]]++(KT++pRest [44] (ks.map (kdAt f w0)) (idx+1))=[91]::pSep [44] (ks.map (kdAt f w0))):=by show _=_;rw[←HT.out,st];simp
    by_cases hp:0<n2
    ·cases h2:(n2==2)
     ·have q:=((Q.out.as (rest':=[44]::[38]::name2.data.toList::(pRest [44] (ks.map (kdAt f w0)) (idx+1)++[[93]])) (by rw[st,hKT];simp[pWhen,hp,h2])).box (nodeC kind2 pos2 n2 m2 name2 (.slice ko2 kl2 kc2)))
      have HE2:Hid (ts++[[44],[38],name2.data.toList]++pRest [44] (ks.map (kdAt f w0)) (idx+1)=[91]::pSep [44] (ks.map (kdAt f w0))):=by show _=_;rw[←HE.out,hKT];simp[pWhen,hp,h2]
      clear st hKT
      have F:=q.f1
      go_wp2_with (go_at_call 33;refine q.put ?_;clear q F;intro w2 q;have F:=q.f1)
      go_roundg (ks.length - (idx+1))
      case measure=>rw[HG.out];omega
      case rel=>exact⟨idx+1,_,rfl,by go_num,hlt,(by show _=_;have:=HE2.out;simpa using this),q.pop⟩
     ·have q:=((Q.out.as (rest':=[44]::[38]::[109,117,116]::name2.data.toList::(pRest [44] (ks.map (kdAt f w0)) (idx+1)++[[93]])) (by rw[st,hKT];simp[pWhen,hp,h2])).box (nodeC kind2 pos2 n2 m2 name2 (.slice ko2 kl2 kc2)))
      have HE2:Hid (ts++[[44],[38],[109,117,116],name2.data.toList]++pRest [44] (ks.map (kdAt f w0)) (idx+1)=[91]::pSep [44] (ks.map (kdAt f w0))):=by show _=_;rw[←HE.out,hKT];simp[pWhen,hp,h2]
      clear st hKT
      have F:=q.f1
      go_wp2_with (go_at_call 33;refine q.put ?_;clear q F;intro w2 q;have F:=q.f1)
      go_roundg (ks.length - (idx+1))
      case measure=>rw[HG.out];omega
      case rel=>exact⟨idx+1,_,rfl,by go_num,hlt,(by show _=_;have:=HE2.out;simpa using this),q.pop⟩
    ·have h2:(n2==2)=false:=by simp;omega
     have q:=((Q.out.as (rest':=[44]::name2.data.toList::(pRest [44] (ks.map (kdAt f w0)) (idx+1)++[[93]])) (by rw[st,hKT];simp[pWhen,hp,h2])).box (nodeC kind2 pos2 n2 m2 name2 (.slice ko2 kl2 kc2)))
     have HE2:Hid (ts++[[44],name2.data.toList]++pRest [44] (ks.map (kdAt f w0)) (idx+1)=[91]::pSep [44] (ks.map (kdAt f w0))):=by show _=_;rw[←HE.out,hKT];simp[pWhen,hp,h2]
     clear st hKT
     have F:=q.f1
     go_wp2_with (go_at_call 33;refine q.put ?_;clear q F;intro w2 q;have F:=q.f1)
     go_roundg (ks.length - (idx+1))
     case measure=>rw[HG.out];omega
     case rel=>exact⟨idx+1,_,rfl,by go_num,hlt,(by show _=_;have:=HE2.out;simpa using this),q.pop⟩
  ·have hltI:¬(idx:Int)<(ks.length:Int):=by omega
   obtain rfl:idx=ks.length:=by omega
   have e:pRest [44] (ks.map (kdAt f w0)) ks.length=[]:=by have:=pRest_end (s:=[44]) (ks:=ks.map (kdAt f w0));rwa [List.length_map] at this
   have q:=Q.out.as (rest':=[93]::[]) (by rw[e];rfl)
   have HE:Hid (ts=[91]::pSep [44] (ks.map (kdAt f w0))):=by show _=_;rw[←HT.out,e,List.append_nil]
   clear e
   go_wp2_with (go_at_call 33;refine q.put ?_;clear q;intro w3 q)
   go_end0
   exact q.done (by rw[HE.out];rfl)
end
end Go.Proofs.YtagdihffmjopaaaGreatDoor
namespace Go.Proofs.YtagdihffmjopaaaGreatDoor
set_option linter.all false
open Go.RowKit
section
variable{B:Nat} {w0 w:World} {wb f:Nat} {bs:List UInt8} {kind pos n m:Int} {name:ByteArray} {ko:Option Addr} {kl kc:Nat}
theorem one_open (hRs:∀g,g≤f→RN B w0 wb g) (hx:Nw B w0 f (nodeC kind pos n m name (.slice ko kl kc)).toList) (h1:∀ks,Gr kind n m name ks→∃x,ks=[x]∧noK x):∃(k p a b:Int) (s:ByteArray) (o:Option Addr) (l c g:Nat) (T:List (List UInt8)),ko=some ⟨g,0,none⟩∧kl=1∧Wc B w0 wb 76 (nodeC k p a b s (.slice o l c)) T∧(∀W,Below B w0 W→B≤W.heap.size→g<W.heap.size∧∀j,j<11→W.cell? ⟨g,0*11+j,none⟩=(nodeC k p a b s (.slice o l c)).toList[j]?)∧tok f w0 (nodeC kind pos n m name (.slice ko kl kc)).toList=asm kind n m name.data.toList [⟨k,l,T⟩]:=by
 cases f with
 |zero=>exact absurd hx (fun x=>x)
 |succ f=>
  obtain⟨vs,rfl,hr,hg,ht,-,hc⟩:=hx.opened
  obtain⟨x,e,hx2⟩:=h1 _ hg
  have hl:vs.length=1:=by have:=congrArg List.length e;simpa using this
  obtain⟨y,rfl⟩:=List.length_eq_one_iff.1 hl
  have hk:∀z,[y][0]? =some z→noK (labOf z):=fun z hz=>by
   obtain rfl:y=z:=by simpa using hz
   have:labOf y=x:=by simpa using e
   rw[this]
   exact hx2
  obtain⟨k,p,a,b,s,o,l,c,g,X,-,-,e0,-,-,e1,W,-,-,C⟩:=kid_w (hRs f (Nat.le_succ f)) hr hc (i:=0) (by simp) hk
  refine⟨k,p,a,b,s,o,l,c,g,X,e1,rfl,W,C,?_⟩
  rw[ht]
  have e2:kdAt f w0 y=⟨k,l,X⟩:=by simpa[kd] using e0
  simp[e2]
theorem lab12 {k p n m:Int} {s:ByteArray} {v:Value} (h:labOf (nodeC k p n m s v).toList=12):k=12∧s.size≠0:=by
 have h2:lab k n m s (lenOf v)=12:=h
 unfold lab at h2
 split at h2
 ·split at h2<;>split at h2<;>omega
 ·split at h2
  ·split at h2<;>omega
  ·split at h2
   ·split at h2
    ·split at h2<;>omega
    ·omega
   ·split at h2
    ·split at h2
     ·omega
     ·exact⟨‹_›,‹_›⟩
    ·split at h2<;>omega
theorem size_list (s:ByteArray):s.data.toList.length=s.size:=by rw[Array.length_toList];rfl
theorem param_open (hRs:∀g,g≤f→RN B w0 wb g) (hx:Nw B w0 f (nodeC kind pos n m name (.slice ko kl kc)).toList) (h1:labOf (nodeC kind pos n m name (.slice ko kl kc)).toList=12):∃(k p a b:Int) (s:ByteArray) (o:Option Addr) (l c g:Nat) (T:List (List UInt8)),ko=some ⟨g,0,none⟩∧kl=1∧Wc B w0 wb 76 (nodeC k p a b s (.slice o l c)) T∧(∀W,Below B w0 W→B≤W.heap.size→g<W.heap.size∧∀j,j<11→W.cell? ⟨g,0*11+j,none⟩=(nodeC k p a b s (.slice o l c)).toList[j]?)∧tok f w0 (nodeC kind pos n m name (.slice ko kl kc)).toList=pWhen (m==1) [[109,117,116]]++(name.data.toList::[58]::T):=by
 obtain⟨rfl,hs⟩:=lab12 h1
 obtain⟨k,p,a,b,s,o,l,c,g,T,e1,e2,e3,e4,e5⟩:=one_open hRs hx (fun ks hg=>by
  obtain⟨x,e,hx⟩:=hg.param rfl
  exact⟨x,e,hx.no⟩)
 refine⟨k,p,a,b,s,o,l,c,g,T,e1,e2,e3,e4,?_⟩
 rw[e5]
 have h9:(name.data.toList.length !=0)=true:=by rw[size_list];simpa using hs
 show pWhen (m==1) [[109,117,116]]++(pWhen (name.data.toList.length !=0) [name.data.toList,[58]]++pAll [⟨k,l,T⟩])=_
 rw[h9]
 simp[pWhen,pAll]
set_option maxRecDepth 100000 in
set_option maxHeartbeats 2000000 in
theorem params95 (hRs:∀g,g≤f→RN B w0 wb g) {a:Option Addr} {c:Nat} {ks:List (List Value)} (r:NR B w0 f a ks) (hk:∀x∈ks,labOf x=12) (h:Wr B w0 w wb bs) (hne:bs≠[]) (hf:(bs++glue (pRow [40] [41] (ks.map (kdAt f w0)))).length≤1099511627776):Calls Tryz.prog 95 #[.pointer (some ⟨wb,0,none⟩),.slice a ks.length c] w (WP B w0 w wb bs (pRow [40] [41] (ks.map (kdAt f w0)))):=by
 have H:Hid (NR B w0 f a ks∧∀x∈ks,labOf x=12):=⟨r,hk⟩
 have q:=Sw.start h hne hf
 have hfew:=r.few
 clear r hk h hne hf
 go_enter Tryz.func95,Tryz.ntmps95
 go_wp2_with (go_at_call 33;refine q.put ?_;clear q;intro w1 q)
 go_loopg [10] ks.length (fun gg u wr=>∃(idx:Nat) (ts:List (List UInt8)),gg=ks.length - idx∧u=.int .i64 idx∧idx≤ks.length∧Hid (ts++pRest [44] (ks.map (kdAt f w0)) idx=[40]::pSep [44] (ks.map (kdAt f w0)))∧Hid (Sw B w0 w wb bs ts (pRest [44] (ks.map (kdAt f w0)) idx++[[41]]) wr []))
 case atStart=>exact⟨0,[]++[[40]],rfl,rfl,Nat.zero_le _,(by show _=_;simp[pRest]),q⟩
 case round=>
  clear q
  obtain⟨idx,ts,hgk,rfl,hidx,HT,Q⟩:=hrel
  have HG:Hid (gk=ks.length - idx):=hgk
  clear hgk
  by_cases hlt:idx<ks.length
  ·have hltI:(idx:Int)<(ks.length:Int):=by omega
   obtain⟨x,hx⟩:∃x,ks[idx]? =some x:=⟨_,List.getElem?_eq_getElem hlt⟩
   obtain⟨g,o,rfl,hgB,hcell⟩:=H.out.1.cell idx x hx
   have hmem:=List.mem_of_getElem? hx
   obtain⟨kind2,pos2,n2,m2,name2,ko2,kl2,kc2,rfl,-,-⟩:=(H.out.1.all x hmem).fields
   have HX:Hid (Nw B w0 f (nodeC kind2 pos2 n2 m2 name2 (.slice ko2 kl2 kc2)).toList∧labOf (nodeC kind2 pos2 n2 m2 name2 (.slice ko2 kl2 kc2)).toList=12∧(ks.map (kdAt f w0))[idx]? =some (kdAt f w0 (nodeC kind2 pos2 n2 m2 name2 (.slice ko2 kl2 kc2)).toList)):=⟨H.out.1.all _ hmem,H.out.2 _ hmem,by rw[List.getElem?_map,hx];rfl⟩
   have lift:∀j,j<11→wr.cell? ⟨g,o+idx*11+j,none⟩=(nodeC kind2 pos2 n2 m2 name2 (.slice ko2 kl2 kc2)).toList[j]? :=fun j hj=>(Q.out.wr.bel.cell (p:=⟨g,o+idx*11+j,none⟩) hgB).trans (hcell j hj)
   have lg:g<wr.heap.size:=Nat.lt_of_lt_of_le hgB Q.out.wr.base
   have e0:=lift 0 (by decide)
   have e1:=lift 1 (by decide)
   have e2:=lift 2 (by decide)
   have e3:=lift 3 (by decide)
   have e4:=lift 4 (by decide)
   have e5:=lift 5 (by decide)
   have e6:=lift 6 (by decide)
   have e7:=lift 7 (by decide)
   have e8:=lift 8 (by decide)
   have e9:=lift 9 (by decide)
   have e10:=lift 10 (by decide)
   simp only[Nat.add_zero] at e0
   clear lift hcell hx hmem
   obtain⟨k3,p3,a3',b3,s3,o3,l3,c3,g3,T,hko,hkl,HW',HC',hT⟩:=param_open hRs HX.out.1 HX.out.2.1
   subst hko hkl
   have HW:Hid (Wc B w0 wb 76 (nodeC k3 p3 a3' b3 s3 (.slice o3 l3 c3)) T):=HW'
   have HC:Hid (∀W,Below B w0 W→B≤W.heap.size→g3<W.heap.size∧∀j,j<11→W.cell? ⟨g3,0*11+j,none⟩=(nodeC k3 p3 a3' b3 s3 (.slice o3 l3 c3)).toList[j]?):=HC'
   clear HW' HC'
   obtain⟨KT,hKT⟩:∃KT,KT=pWhen (m2==1) [[109,117,116]]++(name2.data.toList::[58]::T):=⟨_,rfl⟩
   have HKT:Hid (tok f w0 (nodeC kind2 pos2 n2 m2 name2 (.slice (some ⟨g3,0,none⟩) 1 kc2)).toList=KT):=by show _=_;rw[hKT];exact hT
   clear hT
   rcases Nat.eq_zero_or_pos idx with h0|h0
   ·subst h0
    simp only[Nat.zero_mul,Nat.add_zero] at e0 e1 e2 e3 e4 e5 e6 e7 e8 e9 e10
    have st:pRest [44] (ks.map (kdAt f w0)) 0=KT++pRest [44] (ks.map (kdAt f w0)) 1:=by rw[pRest_zero HX.out.2.2];exact congrArg (· ++_) HKT.out
    have HE:Hid (ts++(KT++pRest [44] (ks.map (kdAt f w0)) (0+1))=[40]::pSep [44] (ks.map (kdAt f w0))):=by show _=_;rw[←HT.out,st]
    cases h2:(m2==1)
    ·have q:=((Q.out.as (rest':=([name2.data.toList,[58]]++(T++(pRest [44] (ks.map (kdAt f w0)) (0+1)++[[41]])))) (by rw[st,hKT];simp[pWhen,h2])).box (nodeC kind2 pos2 n2 m2 name2 (.slice (some ⟨g3,0,none⟩) 1 kc2)))
     have HE2:Hid (ts++([name2.data.toList,[58]]++(T++pRest [44] (ks.map (kdAt f w0)) (0+1)))=[40]::pSep [44] (ks.map (kdAt f w0))):=by show _=_;rw[←HE.out,hKT];simp[pWhen,h2]
     clear st hKT
     have F:=q.f1
     go_wp2_with (first
      |(go_at_call 76;refine q.go (fun a1 a2 a3=>HW.out a1 a2 a3) ?_;clear q F;intro w4 q;have F:=q.f1)
      |(go_at_call 31;refine q.puts (ss:=[name2,⟨#[58]⟩]) ?_ (by first|rfl|simp) rfl rfl rfl (by decide);clear q F;intro w3 q;have F:=q.f1;have lg2:=(HC.out _ q.wr.bel q.wr.base).1;have G0:=kid0 (HC.out _ q.wr.bel q.wr.base).2)
      |(go_at_call 33;refine q.put ?_;clear q F;intro w2 q;have F:=q.f1))
     go_roundg (ks.length - (0+1))
     case measure=>rw[HG.out];omega
     case rel=>exact⟨0+1,_,rfl,by go_num,hlt,(by show _=_;have:=HE2.out;simpa using this),q.pop⟩
    ·have q:=((Q.out.as (rest':=[109,117,116]::([name2.data.toList,[58]]++(T++(pRest [44] (ks.map (kdAt f w0)) (0+1)++[[41]])))) (by rw[st,hKT];simp[pWhen,h2])).box (nodeC kind2 pos2 n2 m2 name2 (.slice (some ⟨g3,0,none⟩) 1 kc2)))
     have HE2:Hid (ts++([[109,117,116],name2.data.toList,[58]]++(T++pRest [44] (ks.map (kdAt f w0)) (0+1)))=[40]::pSep [44] (ks.map (kdAt f w0))):=by show _=_;rw[←HE.out,hKT];simp[pWhen,h2]
     clear st hKT
     have F:=q.f1
     go_wp2_with (first
      |(go_at_call 76;refine q.go (fun a1 a2 a3=>HW.out a1 a2 a3) ?_;clear q F;intro w4 q;have F:=q.f1)
      |(go_at_call 31;refine q.puts (ss:=[name2,⟨#[58]⟩]) ?_ (by first|rfl|simp) rfl rfl rfl (by decide);clear q F;intro w3 q;have F:=q.f1;have lg2:=(HC.out _ q.wr.bel q.wr.base).1;have G0:=kid0 (HC.out _ q.wr.bel q.wr.base).2)
      |(go_at_call 33;refine q.put ?_;clear q F;intro w2 q;have F:=q.f1))
     go_roundg (ks.length - (0+1))
     case measure=>rw[HG.out];omega
     case rel=>exact⟨0+1,_,rfl,by go_num,hlt,(by show _=_;have:=HE2.out;simpa using this),q.pop⟩
   ·have hI:(0:Int)<(idx:Int):=by omega
    have st:pRest [44] (ks.map (kdAt f w0)) idx=[44]::(KT++pRest [44] (ks.map (kdAt f w0)) (idx+1)):=by rw[pRest_succ h0 HX.out.2.2];exact congrArg (fun z=>[44]::(z++_)) HKT.out
    have HE:Hid (ts++[[44]]++(KT++pRest [44] (ks.map (kdAt f w0)) (idx+1))=[40]::pSep [44] (ks.map (kdAt f w0))):=by show _=_;rw[←HT.out,st];simp
    cases h2:(m2==1)
    ·have q:=((Q.out.as (rest':=[44]::([name2.data.toList,[58]]++(T++(pRest [44] (ks.map (kdAt f w0)) (idx+1)++[[41]])))) (by rw[st,hKT];simp[pWhen,h2])).box (nodeC kind2 pos2 n2 m2 name2 (.slice (some ⟨g3,0,none⟩) 1 kc2)))
     have HE2:Hid (ts++([[44],name2.data.toList,[58]]++(T++pRest [44] (ks.map (kdAt f w0)) (idx+1)))=[40]::pSep [44] (ks.map (kdAt f w0))):=by show _=_;rw[←HE.out,hKT];simp[pWhen,h2]
     clear st hKT
     have F:=q.f1
     go_wp2_with (first
      |(go_at_call 76;refine q.go (fun a1 a2 a3=>HW.out a1 a2 a3) ?_;clear q F;intro w4 q;have F:=q.f1)
      |(go_at_call 31;refine q.puts (ss:=[name2,⟨#[58]⟩]) ?_ (by first|rfl|simp) rfl rfl rfl (by decide);clear q F;intro w3 q;have F:=q.f1;have lg2:=(HC.out _ q.wr.bel q.wr.base).1;have G0:=kid0 (HC.out _ q.wr.bel q.wr.base).2)
      |(go_at_call 33;refine q.put ?_;clear q F;intro w2 q;have F:=q.f1))
     go_roundg (ks.length - (idx+1))
     case measure=>rw[HG.out];omega
     case rel=>exact⟨idx+1,_,rfl,by go_num,hlt,(by show _=_;have:=HE2.out;simpa using this),q.pop⟩
    ·have q:=((Q.out.as (rest':=[44]::[109,117,116]::([name2.data.toList,[58]]++(T++(pRest [44] (ks.map (kdAt f w0)) (idx+1)++[[41]])))) (by rw[st,hKT];simp[pWhen,h2])).box (nodeC kind2 pos2 n2 m2 name2 (.slice (some ⟨g3,0,none⟩) 1 kc2)))
     have HE2:Hid (ts++([[44],[109,117,116],name2.data.toList,[58]]++(T++pRest [44] (ks.map (kdAt f w0)) (idx+1)))=[40]::pSep [44] (ks.map (kdAt f w0))):=by show _=_;rw[←HE.out,hKT];simp[pWhen,h2]
     clear st hKT
     have F:=q.f1
     go_wp2_with (first
      |(go_at_call 76;refine q.go (fun a1 a2 a3=>HW.out a1 a2 a3) ?_;clear q F;intro w4 q;have F:=q.f1)
      |(go_at_call 31;refine q.puts (ss:=[name2,⟨#[58]⟩]) ?_ (by first|rfl|simp) rfl rfl rfl (by decide);clear q F;intro w3 q;have F:=q.f1;have lg2:=(HC.out _ q.wr.bel q.wr.base).1;have G0:=kid0 (HC.out _ q.wr.bel q.wr.base).2)
      |(go_at_call 33;refine q.put ?_;clear q F;intro w2 q;have F:=q.f1))
     go_roundg (ks.length - (idx+1))
     case measure=>rw[HG.out];omega
     case rel=>exact⟨idx+1,_,rfl,by go_num,hlt,(by show _=_;have:=HE2.out;simpa using this),q.pop⟩
  ·have hltI:¬(idx:Int)<(ks.length:Int):=by omega
   obtain rfl:idx=ks.length:=by omega
   have e:pRest [44] (ks.map (kdAt f w0)) ks.length=[]:=by have:=pRest_end (s:=[44]) (ks:=ks.map (kdAt f w0));rwa [List.length_map] at this
   have q:=Q.out.as (rest':=[41]::[]) (by rw[e];rfl)
   have HE:Hid (ts=[40]::pSep [44] (ks.map (kdAt f w0))):=by show _=_;rw[←HT.out,e,List.append_nil]
   clear e
   go_wp2_with (go_at_call 33;refine q.put ?_;clear q;intro w3 q)
   go_end0
   exact q.done (by rw[HE.out];rfl)
end
end Go.Proofs.YtagdihffmjopaaaGreatDoor
