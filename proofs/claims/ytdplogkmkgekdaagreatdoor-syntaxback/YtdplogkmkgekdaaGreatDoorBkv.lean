/- Trees in memory and what is printed of them; how deep alike trees are; alike, as the law asks it. -/
import Derived.Test.YtdplogkmkgekdaaGreatDoorBkc
import Derived.Test.YtdplogkmkgekdaaGreatDoorPkd
import Derived.Test.YtdplogkmkgekdaaGreatDoorTypes
import Derived.Test.YtdplogkmkgekdaaGreatDoorLxa
import Derived.Test.YtdplogkmkgekdaaGreatDoorPpa
import Derived.Test.YtdplogkmkgekdaaGreatDoorPkb
set_option linter.all false
set_option maxRecDepth 100000
set_option maxHeartbeats 4000000
namespace Go.Proofs.YtdplogkmkgekdaaGreatDoor.Bk
theorem zI (s:ByteArray) (i:Nat):aK s i=((s.data.toList[i]?).map (·.toNat)).getD 0:=by
 by_cases h:i<s.size
 ·rw[mO h,List.getElem?_eq_getElem (by simpa using h)];rfl
 ·rw[qO h,List.getElem?_eq_none (by simp;omega)];rfl
theorem abH (x:ByteArray):x=⟨x.data.toList.toArray⟩:=by cases x;simp
section
variable {s:ByteArray} {i:Nat} {u rest:Wd}
theorem JJ (h:s.data.toList.drop i=u++rest) (j:Nat):s.data.toList[i+j]? =(u++rest)[j]? :=by rw[←h,List.getElem?_drop]
theorem xH (h:s.data.toList.drop i=u++rest) (hu:u≠[]):i+u.length≤s.size:=by
 have h1:=congrArg List.length h
 rw[List.length_drop,List.length_append,kQ] at h1
 have:0<u.length:=List.length_pos_iff.2 hu
 omega
theorem yG (h:s.data.toList.drop i=u++rest) {j:Nat} (hj:j<u.length):aK s (i+j)=(u[j]).toNat:=by
 rw[zI,JJ h,List.getElem?_append_left hj,List.getElem?_eq_getElem hj];rfl
theorem XW (h:s.data.toList.drop i=u++rest) (hr:rest=[]∨∃q,rest=32::q):aK s (i+u.length)=0∨aK s (i+u.length)=32:=by
 rw[zI,JJ h,List.getElem?_append_right (Nat.le_refl _),Nat.sub_self]
 rcases hr with rfl|⟨q,rfl⟩
 ·exact .inl rfl
 ·exact .inr rfl
theorem zJ {p:Nat→Bool}:∀{u:Wd} {i:Nat},s.data.toList.drop i=u++rest→(∀c∈u,p c.toNat=true)→p (aK s (i+u.length))=false→aH p s i=i+u.length
 |[],i,h,_,hr=>uX hr
 |c::u,i,h,hu,hr=>by
  have hs:=xH h (by simp)
  simp only[List.length_cons] at hs hr⊢
  have hb:aK s i=c.toNat:=yG (j:=0) h (by simp)
  rw[FQ (by omega) (by rw[hb];exact hu c (List.mem_cons_self ..))]
  have h2:s.data.toList.drop (i+1)=u++rest:=by
   rw[←List.drop_drop,h];rfl
  rw[zJ h2 (fun d hd=>hu d (List.mem_cons_of_mem _ hd)) (by rw[show i+1+u.length=i+(u.length+1) by omega];exact hr)]
  omega
theorem SF (h:s.data.toList.drop i=u++rest):s.extract i (i+u.length)=⟨u.toArray⟩:=by
 have:(s.extract i (i+u.length)).data.toList=u:=by
  rw[ByteArray.data_extract,Array.toList_extract,List.extract_eq_take_drop,Nat.add_sub_cancel_left,h,List.take_left]
 have h9:=abH (s.extract i (i+u.length))
 rw[this] at h9
 exact h9
theorem JK (h:s.data.toList.drop i=u++rest):∀k,k≤u.length→dV s i k=qJ (u.take k)
 |0,_=>by simp[dV,qJ]
 |k+1,hk=>by
  have hb:=yG (j:=k) h (by omega)
  show dV s i k*10+(aK s (i+k) - 48)=_
  rw[JK h k (by omega),hb,List.take_succ_eq_append_getElem (by omega)]
  unfold qJ
  rw[List.foldl_append]
  rfl
end
theorem GJ (u:Wd):isWord u=yF.contains u:=by
 rw[Pj.Cm]
 rw[List.contains_eq_any_beq]
 rfl
theorem Et (c:UInt8):Es c=bq c.toNat:=by
 unfold Es bq
 have:(c==95)=(c.toNat==95):=by
  by_cases h:c=95
  ·subst h;rfl
  ·have h2:c.toNat≠95:=fun e=>h (UInt8.toNat_inj.1 e)
   rw[beq_eq_false_iff_ne.2 h,beq_eq_false_iff_ne.2 h2]
 rw[this]
 rfl
theorem BL:bV 0=false∧bV 32=false∧bq 0=false∧bq 32=false:=by decide
theorem JL {s:ByteArray} {i:Nat} {u rest:Wd} (h:s.data.toList.drop i=u++rest) (hr:rest=[]∨∃q,rest=32::q) (ok:okW u=true):one s i=⟨0,wk u,i+u.length,if wk u=1 then qJ u else 0⟩∧dD s i (one s i)=(if wk u=1 then⟨#[]⟩ else⟨u.toArray⟩)∧iH (aK s i)=false∧aK s i≠35:=by
 cases u with
 |nil=>exact absurd ok (by decide)
 |cons c r=>
  have hb:aK s i=c.toNat:=yG (j:=0) h (by simp)
  have hend:=XW h hr
  have hx:=SF h
  cases hd:wN c
  ·cases hl:Ac c
   ·by_cases oq:c=39
    ·subst oq
     have hw:wk (39::r)=4:=rfl
     cases r with
     |nil=>exact absurd ok (by decide)
     |cons d q=>
      have ok':(Ac d&&(d::q).all Es&&decide ((39::d::q).length≤21))=true:=ok
      simp only[Bool.and_eq_true,List.all_eq_true,decide_eq_true_eq] at ok'
      obtain⟨⟨o1,o2⟩,o3⟩:=ok'
      have hb1:aK s (i+1)=d.toNat:=yG (j:=1) h (by simp)
      have h2:s.data.toList.drop (i+1)=(d::q)++rest:=by rw[←List.drop_drop,h];rfl
      have hrun:aH bq s (i+1)=i+1+(d::q).length:=zJ h2 (fun c hc=>by rw[←Et];exact o2 c hc) (by
       have e:i+1+(d::q).length=i+(39::d::q).length:=by simp only[List.length_cons];omega
       rw[e]
       rcases hend with e|e<;>rw[e]
       ·exact BL.2.2.1
       ·exact BL.2.2.2)
      have e:=uF (s:=s) (i:=i) (by rw[hb];rfl) (by rw[hb1];exact o1)
      have hlen:(39::d::q).length=1+(d::q).length:=by simp only[List.length_cons];omega
      rw[hrun,if_neg (by rw[hlen] at o3;omega)] at e
      have e2:i+1+(d::q).length=i+(39::d::q).length:=by simp only[List.length_cons];omega
      rw[e2] at e
      refine⟨by rw[e,hw];rfl,?_,by rw[hb];rfl,by rw[hb];decide⟩
      rw[e,hw,if_neg (by decide)]
      show(if(4:Nat)=1 then _ else s.extract i (i+(39::d::q).length))=_
      rw[if_neg (by decide),hx]
    ·have afi:(c==39)=false:=by simpa using oq
     have hw:wk (c::r)=5:=by simp[wk,hd,hl,oq]
     have ok':JD.contains (c::r)=true:=by
      unfold okW at ok
      simp only[hd,hl,afi,Bool.false_eq_true,if_false] at ok
      exact ok
     have hc39:c.toNat≠39:=fun e=>oq (UInt8.toNat_inj.1 e)
     have e:=yX (s:=s) (i:=i) (by rw[hb];exact hd) (by rw[hb];exact hl) (.inl (by rw[hb];exact hc39))
     have key:bR s i=(c::r).length∧iH (aK s i)=false∧aK s i≠35:=by
      rw[hb]
      unfold bR
      rw[hb]
      simp only[JD,List.contains_iff_mem,List.mem_cons,List.not_mem_nil,or_false,List.cons.injEq] at ok'
      cases r with
      |nil=>
       have hn:aK s (i+1)=0∨aK s (i+1)=32:=hend
       simp only[reduceCtorEq,and_false,false_or,and_true] at ok'
       rcases hn with hn|hn<;>rw[hn]<;>rcases ok' with rfl|rfl|rfl|rfl|rfl|rfl|rfl|rfl|rfl|rfl|rfl|rfl|rfl|rfl|rfl|rfl|rfl|rfl|rfl|rfl|rfl<;>exact⟨rfl,rfl,by decide⟩
      |cons d q=>
       have hb1:aK s (i+1)=d.toNat:=yG (j:=1) h (by simp)
       rw[hb1]
       simp only[List.cons.injEq,reduceCtorEq,and_false,or_false] at ok'
       rcases ok' with⟨rfl,rfl,rfl⟩|⟨rfl,rfl,rfl⟩|⟨rfl,rfl,rfl⟩|⟨rfl,rfl,rfl⟩|⟨rfl,rfl,rfl⟩|⟨rfl,rfl,rfl⟩|⟨rfl,rfl,rfl⟩|⟨rfl,rfl,rfl⟩|⟨rfl,rfl,rfl⟩<;>exact⟨rfl,rfl,by decide⟩
     rw[if_neg (by rw[key.1];simp),key.1] at e
     refine⟨by rw[e,hw];rfl,?_,key.2⟩
     rw[e,hw,if_neg (by decide)]
     show(if(5:Nat)=1 then _ else s.extract i (i+(c::r).length))=_
     rw[if_neg (by decide),hx]
   ·have ok':((c::r).all Es&&(yF.contains (c::r)||decide ((c::r).length≤20)))=true:=by
     unfold okW at ok
     simp only[hd,hl,Bool.false_eq_true,if_false,if_true] at ok
     exact ok
    simp only[Bool.and_eq_true,List.all_eq_true] at ok'
    have hrun:aH bq s i=i+(c::r).length:=zJ h (fun c hc=>by rw[←Et];exact ok'.1 c hc) (by
     rcases hend with e|e<;>rw[e]
     ·exact BL.2.2.1
     ·exact BL.2.2.2)
    have e:=pG (s:=s) (i:=i) (by rw[hb];exact hl)
    rw[hrun,hx,Lib.toList_data,GJ] at e
    have hbl:iH (aK s i)=false∧aK s i≠35:=by
     rw[hb]
     have:dL c.toNat=true:=hl
     simp only[dL,decide_eq_true_eq] at this
     refine⟨?_,by omega⟩
     unfold iH
     simp
     omega
    cases hwl:yF.contains (c::r)
    ·have hw:wk (c::r)=2:=by simp only[wk,hd,hl,hwl,Bool.false_eq_true,if_false,if_true]
     rw[show(⟨(c::r).toArray⟩:ByteArray).data.toList=c::r from rfl,hwl] at e
     rw[if_neg (by decide),if_neg (by rw[hwl,Bool.false_or] at ok';have:=of_decide_eq_true ok'.2;omega)] at e
     refine⟨by rw[e,hw];rfl,?_,hbl⟩
     rw[e,hw,if_neg (by decide)]
     show(if(2:Nat)=1 then _ else s.extract i (i+(c::r).length))=_
     rw[if_neg (by decide),hx]
    ·have hw:wk (c::r)=3:=by simp only[wk,hd,hl,hwl,Bool.false_eq_true,if_false,if_true]
     rw[show(⟨(c::r).toArray⟩:ByteArray).data.toList=c::r from rfl,hwl,if_pos rfl] at e
     refine⟨by rw[e,hw];rfl,?_,hbl⟩
     rw[e,hw,if_neg (by decide)]
     show(if(3:Nat)=1 then _ else s.extract i (i+(c::r).length))=_
     rw[if_neg (by decide),hx]
  ·have hw:wk (c::r)=1:=by simp only[wk,hd,if_true]
   have ok':((c::r).all wN&&decide (qJ (c::r)≤9223372036854775807))=true:=by
    unfold okW at ok
    simp only[hd,if_true] at ok
    exact ok
   simp only[Bool.and_eq_true,List.all_eq_true,decide_eq_true_eq] at ok'
   have hrun:aH bV s i=i+(c::r).length:=zJ h (fun c hc=>ok'.1 c hc) (by
    rcases hend with e|e<;>rw[e]
    ·exact BL.1
    ·exact BL.2.1)
   have E8:=JK h (c::r).length (Nat.le_refl _)
   rw[List.take_length] at E8
   have e:=sD (s:=s) (i:=i) (by rw[hb];exact hd)
   rw[hrun,Nat.add_sub_cancel_left,E8,if_pos ok'.2] at e
   have hbl:iH (aK s i)=false∧aK s i≠35:=by
    rw[hb]
    have:bV c.toNat=true:=hd
    simp only[bV,decide_eq_true_eq] at this
    refine⟨?_,by omega⟩
    unfold iH
    simp
    omega
   refine⟨by rw[e,hw,if_pos rfl],?_,hbl⟩
   rw[e,hw,if_pos rfl]
   rfl
def rowOf (us:List Wd) (rs:List cK):Prop:=rs.length=us.length∧∀(j:Nat) (u:Wd),us[j]? =some u→∃r:cK,rs[j]? =some r∧r.kind=wk u∧(wk u≠1→r.text=⟨u.toArray⟩)∧(wk u=1→r.num=qJ u)
theorem rowOf.cons {u:Wd} {us:List Wd} {r:cK} {rs:List cK} (h1:r.kind=wk u∧(wk u≠1→r.text=⟨u.toArray⟩)∧(wk u=1→r.num=qJ u)) (h:rowOf us rs):rowOf (u::us) (r::rs):=by
 refine⟨by simp[h.1],fun j v hj=>?_⟩
 cases j with
 |zero=>
  obtain rfl:u=v:=by simpa using hj
  exact⟨r,rfl,h1⟩
 |succ j=>exact h.2 j v (by simpa using hj)
theorem Mv (us:List Wd):glue us=[]∨∃q,glue us=32::q:=by
 cases us with
 |nil=>exact .inl rfl
 |cons u us=>exact .inr ⟨_,rfl⟩
theorem JM {s:ByteArray}:∀(us:List Wd),(∀u∈us,okW u=true)→∀(b i:Nat) (rs:List cK),s.data.toList.drop i=glue us→s.size≤i+b→∃rs',lexFrom b s i (rs.map cK.cells)=.inr ((rs++rs'++[(⟨0,s.size,⟨#[]⟩,0⟩:cK)]).map cK.cells)∧rowOf us rs'
 |[],_,b,i,rs,h,_=>by
  have hi:¬i<s.size:=fun hi=>by
   have:=congrArg List.length h
   rw[List.length_drop,kQ] at this
   simp[glue] at this
   omega
  refine⟨[],?_,rfl,fun j u hj=>by simp at hj⟩
  rw[xU hi]
  simp[cK.cells]
 |u::us,ok,b,i,rs,h,hb=>by
  have hu:=ok u (List.mem_cons_self ..)
  have hne:u≠[]:=fun e=>by rw[e] at hu;exact absurd hu (by decide)
  have h':s.data.toList.drop i=[32]++(u++glue us):=by rw[h,aQ];rfl
  have s1:=xH h' (by simp)
  have hb0:aK s i=32:=yG (j:=0) h' (by simp)
  have h2:s.data.toList.drop (i+1)=u++glue us:=by rw[←List.drop_drop,h'];rfl
  have s2:=xH h2 hne
  have hl:0<u.length:=List.length_pos_iff.2 hne
  simp only[List.length_cons,List.length_nil] at s1
  obtain⟨b,rfl⟩:∃c,b=c+1+1:=⟨b - 2,by omega⟩
  obtain⟨q1,q2,q3,q4⟩:=JL h2 (Mv us) hu
  rw[uY (by omega) (by rw[hb0];rfl),uD (by omega) q3 q4 (by rw[q1])]
  have h3:s.data.toList.drop (i+1+u.length)=glue us:=by rw[←List.drop_drop,h2,List.drop_left]
  obtain⟨rs',e1,e2⟩:=JM us (fun v hv=>ok v (List.mem_cons_of_mem _ hv)) b (i+1+u.length) (rs++[⟨(one s (i+1)).kind,i+1,dD s (i+1) (one s (i+1)),(one s (i+1)).n⟩]) h3 (by omega)
  refine⟨⟨(one s (i+1)).kind,i+1,dD s (i+1) (one s (i+1)),(one s (i+1)).n⟩::rs',?_,rowOf.cons ⟨by rw[q1],fun hk=>?_,fun hk=>?_⟩ e2⟩
  ·rw[q1] at e1⊢
   rw[←q1] at e1⊢
   have e3:(one s (i+1)).stop=i+1+u.length:=by rw[q1]
   rw[e3]
   have e4:rs.map cK.cells++[jX s (i+1)]=(rs++[(⟨(one s (i+1)).kind,i+1,dD s (i+1) (one s (i+1)),(one s (i+1)).n⟩:cK)]).map cK.cells:=by simp[cK.cells,jX]
   rw[e4,e1]
   simp
  ·show dD s (i+1) (one s (i+1))=_
   rw[q2,if_neg hk]
  ·show(one s (i+1)).n=_
   rw[q1]
   show(if wk u=1 then qJ u else 0)=_
   rw[if_pos hk]
theorem Qz {s:ByteArray} {u:Wd} {us:List Wd} (ok:∀v∈u::us,okW v=true) (h:s.data.toList=u++glue us) (hs:s.size≤6000):∃rs',iE s=.inr ((rs'++[(⟨0,s.size,⟨#[]⟩,0⟩:cK)]).map cK.cells)∧rowOf (u::us) rs':=by
 have hu:=ok u (List.mem_cons_self ..)
 have hne:u≠[]:=fun e=>by rw[e] at hu;exact absurd hu (by decide)
 have h2:s.data.toList.drop 0=u++glue us:=h
 have s2:=xH h2 hne
 have hl:0<u.length:=List.length_pos_iff.2 hne
 obtain⟨q1,q2,q3,q4⟩:=JL h2 (Mv us) hu
 obtain⟨b,hb⟩:∃c,s.size=c+1:=⟨s.size - 1,by omega⟩
 have h3:s.data.toList.drop (0+u.length)=glue us:=by rw[←List.drop_drop,h2,List.drop_left]
 obtain⟨rs',e1,e2⟩:=JM us (fun v hv=>ok v (List.mem_cons_of_mem _ hv)) b (0+u.length) [⟨(one s 0).kind,0,dD s 0 (one s 0),(one s 0).n⟩] h3 (by omega)
 refine⟨⟨(one s 0).kind,0,dD s 0 (one s 0),(one s 0).n⟩::rs',?_,rowOf.cons ⟨by rw[q1],fun hk=>?_,fun hk=>?_⟩ e2⟩
 ·unfold iE
  rw[if_neg (by omega)]
  have e5:lexFrom s.size s 0 []=lexFrom (b+1) s 0 []:=by rw[←hb]
  rw[e5,uD (by omega) q3 q4 (by rw[q1])]
  have e3:(one s 0).stop=0+u.length:=by rw[q1]
  rw[e3]
  have e4:([]:List (List Value))++[jX s 0]=[(⟨(one s 0).kind,0,dD s 0 (one s 0),(one s 0).n⟩:cK)].map cK.cells:=by simp[cK.cells,jX]
  rw[e4,e1]
  simp
 ·show dD s 0 (one s 0)=_
  rw[q2,if_neg hk]
 ·show(one s 0).n=_
  rw[q1]
  show(if wk u=1 then qJ u else 0)=_
  rw[if_pos hk]
theorem SG {s:ByteArray} (h:s.data.toList=[]):iE s=.inr (([]++[(⟨0,s.size,⟨#[]⟩,0⟩:cK)]).map cK.cells):=by
 have hs:s.size=0:=by rw[←kQ,h];rfl
 unfold iE
 rw[if_neg (by omega),hs]
 simp[lexFrom,cK.cells,hs]
theorem XY {us:List Wd} {rs:List cK} {e:cK} (he:e.kind=0) (h:rowOf us rs):At (CY (rs++[e])) 0 us∧us.length<(CY (rs++[e])).len∧(CY (rs++[e])).kind us.length=0:=by
 have key:∀(vs:List Wd) (i:Nat),(∀(j:Nat) (u:Wd),vs[j]? =some u→∃r:cK,rs[i+j]? =some r∧r.kind=wk u∧(wk u≠1→r.text=⟨u.toArray⟩)∧(wk u=1→r.num=qJ u))→At (CY (rs++[e])) i vs:=by
  intro vs
  induction vs with
  |nil=>intro i _;trivial
  |cons v vs ih=>
   intro i hv
   obtain⟨r,h1,h2,h3,h4⟩:=hv 0 v rfl
   have hi:i<rs.length:=(List.getElem?_eq_some_iff.1 h1).1
   have hg:(rs++[e])[i]? =some r:=by rw[List.getElem?_append_left hi];exact h1
   refine⟨⟨?_,?_,?_,?_⟩,ih (i+1) (fun j u hj=>?_)⟩
   ·show i<(rs++[e]).length
    simp;omega
   ·show((((rs++[e])[i]?).getD vJ).kind)=wk v
    rw[hg];exact h2
   ·intro hk
    show((((rs++[e])[i]?).getD vJ).text)=_
    rw[hg];exact h3 hk
   ·intro hk
    show((((rs++[e])[i]?).getD vJ).num)=_
    rw[hg];exact h4 hk
   ·have:=hv (j+1) u (by simpa using hj)
    rw[show i+1+j=i+(j+1) by omega]
    exact this
 refine⟨key us 0 (fun j u hj=>by rw[Nat.zero_add];exact h.2 j u hj),?_,?_⟩
 ·show us.length<(rs++[e]).length
  rw[←h.1];simp
 ·show((((rs++[e])[us.length]?).getD vJ).kind)=0
  rw[←h.1,List.getElem?_append_right (Nat.le_refl _),Nat.sub_self]
  exact he
def SH (r:cK):Prop:=(r.kind=2→nI r.text)∧(r.kind=4→qp r.text)∧r.num≤9223372036854775807
theorem Mw {p:Nat→Bool} {s:ByteArray} {i:Nat} (hi:i≤s.size):∀c∈(s.extract i (aH p s i)).data.toList,p c.toNat=true:=by
 intro c hc
 have h2:=iI p s i hi
 obtain⟨j,hj,rfl⟩:=List.getElem_of_mem hc
 have hj':j<(s.extract i (aH p s i)).size:=by rw[kQ] at hj;exact hj
 have e1:=ext_size s i _ h2
 have e2:=yH s i _ j h2 (by omega)
 have e3:aK (s.extract i (aH p s i)) j=((s.extract i (aH p s i)).data.toList[j]).toNat:=by
  rw[zI,List.getElem?_eq_getElem hj];rfl
 rw[←e3,e2]
 exact lV p s i (i+j) (by omega) (by omega)
theorem Dn {s:ByteArray} {i e:Nat} (he:e≤s.size) (hi:i<e):∃c r,(s.extract i e).data.toList=c::r∧c.toNat=aK s i:=by
 have e1:=ext_size s i e he
 have e2:=yH s i e 0 he (by omega)
 cases h:(s.extract i e).data.toList with
 |nil=>
  have:=kQ (s.extract i e)
  rw[h] at this
  simp at this
  omega
 |cons c r=>
  refine⟨c,r,rfl,?_⟩
  rw[zI,h] at e2
  exact e2
theorem aec {s:ByteArray} {i:Nat} (hi:i<s.size) (he:(one s i).err=0):SH ⟨(one s i).kind,i,dD s i (one s i),(one s i).n⟩:=by
 cases hd:bV (aK s i)
 ·cases hl:dL (aK s i)
  ·by_cases oq:aK s i=39∧dL (aK s (i+1))=true
   ·have hi1:i+1<s.size:=by
     rcases Nat.lt_or_ge (i+1) s.size with h|h
     ·exact h
     ·have:=oq.2;rw[qO (by omega)] at this;simp[dL] at this
    have h1:i+1<aH bq s (i+1):=kW hi1 (by simp[bq,oq.2])
    have h2:=iI bq s (i+1) (by omega)
    have e:=uF oq.1 oq.2
    by_cases h21:21<aH bq s (i+1) - i
    ·rw[e,if_pos h21] at he;simp at he
    ·rw[if_neg h21] at e
     have et:dD s i (one s i)=s.extract i (aH bq s (i+1)):=by rw[dD,e];rfl
     refine⟨fun hk=>?_,fun _=>?_,?_⟩
     ·have:(one s i).kind=2:=hk
      rw[e] at this;simp at this
     ·show qp (dD s i (one s i))
      rw[et]
      obtain⟨c,r,q1,q2⟩:=Dn (s:=s) (i:=i) h2 (by omega)
      have hc:c=39:=UInt8.toNat_inj.1 (q2.trans oq.1)
      subst hc
      have e1:=ext_size s i _ h2
      have hlen:(39::r).length=aH bq s (i+1) - i:=by rw[←q1,kQ,e1]
      have hr:r=(s.extract (i+1) (aH bq s (i+1))).data.toList:=by
       have w1:(s.extract i (aH bq s (i+1))).data.toList=(s.data.toList.drop i).take (aH bq s (i+1) - i):=by rw[ByteArray.data_extract,Array.toList_extract,List.extract_eq_take_drop]
       have w2:(s.extract (i+1) (aH bq s (i+1))).data.toList=(s.data.toList.drop (i+1)).take (aH bq s (i+1) - (i+1)):=by rw[ByteArray.data_extract,Array.toList_extract,List.extract_eq_take_drop]
       have w3:r=((39::r:Wd)).drop 1:=rfl
       rw[w3,←q1,w1,w2,List.drop_take,List.drop_drop]
       congr 1
      have hall:=Mw (p:=bq) (s:=s) (i:=i+1) (by omega)
      rw[←hr] at hall
      obtain⟨d,q,q3,q4⟩:=Dn (s:=s) (i:=i+1) h2 h1
      rw[←hr] at q3
      subst q3
      unfold qp
      rw[q1]
      refine⟨rfl,?_⟩
      have this:okW (39::d::q)=(Ac d&&(d::q).all Es&&decide ((39::d::q).length≤21)):=rfl
      rw[this]
      have a1:(d::q).all Es=true:=List.all_eq_true.2 fun c hc=>by rw[Et];exact hall c hc
      have a2:decide ((39::d::q).length≤21)=true:=decide_eq_true (by omega)
      rw[a1,a2]
      have a3:Ac d=dL d.toNat:=rfl
      rw[a3,q4,oq.2];rfl
     ·show(one s i).n≤_
      rw[e];exact Nat.zero_le _
   ·have h3:aK s i≠39∨dL (aK s (i+1))=false:=by
     by_cases h:aK s i=39
     ·exact .inr (by cases h':dL (aK s (i+1));rfl;exact absurd ⟨h,h'⟩ oq)
     ·exact .inl h
    have e:=yX hd hl h3
    by_cases hz:bR s i=0
    ·rw[e,if_pos hz] at he;simp at he
    ·rw[if_neg hz] at e
     refine⟨fun hk=>?_,fun hk=>?_,?_⟩
     ·have:(one s i).kind=2:=hk
      rw[e] at this;simp at this
     ·have:(one s i).kind=4:=hk
      rw[e] at this;simp at this
     ·show(one s i).n≤_
      rw[e];exact Nat.zero_le _
  ·have h1:i<aH bq s i:=kW hi (by simp[bq,hl])
   have h2:=iI bq s i (by omega)
   have e:=pG hl
   obtain⟨c,r,q1,q2⟩:=Dn (s:=s) (i:=i) h2 h1
   have e1:=ext_size s i _ h2
   have hdc:wN c=false:=by show bV c.toNat=false;rw[q2];exact hd
   have hlc:Ac c=true:=by show dL c.toNat=true;rw[q2];exact hl
   rw[Lib.toList_data,GJ] at e
   cases hw:yF.contains (s.extract i (aH bq s i)).data.toList
   ·rw[hw,if_neg (by decide)] at e
    by_cases h20:20<aH bq s i - i
    ·rw[e,if_pos h20] at he;simp at he
    ·rw[if_neg h20] at e
     have et:dD s i (one s i)=s.extract i (aH bq s i):=by rw[dD,e];rfl
     refine⟨fun _=>?_,fun hk=>?_,?_⟩
     ·show nI (dD s i (one s i))
      rw[et]
      have hall:=Mw (p:=bq) (s:=s) (i:=i) (by omega)
      unfold nI
      rw[q1] at hw hall⊢
      have a1:(c::r).all Es=true:=List.all_eq_true.2 fun c hc=>by rw[Et];exact hall c hc
      have hlen:(c::r).length=aH bq s i - i:=by rw[←q1,kQ,e1]
      have a2:decide ((c::r).length≤20)=true:=decide_eq_true (by omega)
      refine⟨by simp only[wk,hdc,hlc,hw,Bool.false_eq_true,if_false,if_true],?_⟩
      unfold okW
      simp only[hdc,hlc,hw,Bool.false_eq_true,if_false,if_true,Bool.false_or,Bool.and_eq_true]
      exact⟨a1,a2⟩
     ·have:(one s i).kind=4:=hk
      rw[e] at this;simp at this
     ·show(one s i).n≤_
      rw[e];exact Nat.zero_le _
   ·rw[hw,if_pos rfl] at e
    refine⟨fun hk=>?_,fun hk=>?_,?_⟩
    ·have:(one s i).kind=2:=hk
     rw[e] at this;simp at this
    ·have:(one s i).kind=4:=hk
     rw[e] at this;simp at this
    ·show(one s i).n≤_
     rw[e];exact Nat.zero_le _
 ·have e:=sD hd
  by_cases hm:dV s i (aH bV s i - i)≤9223372036854775807
  ·rw[if_pos hm] at e
   refine⟨fun hk=>?_,fun hk=>?_,?_⟩
   ·have:(one s i).kind=2:=hk
    rw[e] at this;simp at this
   ·have:(one s i).kind=4:=hk
    rw[e] at this;simp at this
   ·show(one s i).n≤_
    rw[e];exact hm
  ·rw[e,if_neg hm] at he;simp at he
theorem abI {s:ByteArray} {ts:List (List Value)} (hl:iE s=.inr ts):GT (Iz ts):=by
 have hs:s.size≤6000:=by
  unfold iE at hl
  split at hl
  ·exact absurd hl (by simp)
  ·omega
 have hl':lexFrom s.size s 0 (([]:List cK).map cK.cells)=.inr ts:=by
  unfold iE at hl
  rw[if_neg (by omega)] at hl
  exact hl
 obtain⟨rs',e,hok⟩:=IJ (P:=SH) (fun i hi he=>aec hi he) s.size 0 [] ts (Nat.zero_le _) (fun r hr=>by cases hr) hl'
 obtain⟨rs2,e2,hlen,-⟩:=Iy hs s.size 0 [] ts (Nat.zero_le _) (Nat.le_refl _) (fun r hr=>by cases hr) hl'
 have hG:∀j:Nat,SH ((((rs'++[(⟨0,s.size,⟨#[]⟩,0⟩:cK)])[j]?).getD vJ)):=by
  intro j
  cases h:(rs'++[(⟨0,s.size,⟨#[]⟩,0⟩:cK)])[j]? with
  |none=>exact⟨fun h=>(by cases h),fun h=>(by cases h),Nat.zero_le _⟩
  |some r=>
   rcases List.mem_append.1 (List.mem_of_getElem? h) with hr|hr
   ·exact hok r hr
   ·obtain rfl:r=_:=by simpa using hr
    exact⟨fun h=>(by cases h),fun h=>(by cases h),Nat.zero_le _⟩
 refine⟨fun j hj=>?_,fun j hj=>?_,fun j=>?_,?_⟩
 ·rw[e,xZ] at hj⊢
  exact(hG j).1 hj
 ·rw[e,xZ] at hj⊢
  exact(hG j).2.1 hj
 ·rw[e,xZ]
  exact(hG j).2.2
 ·rw[e2]
  show((rs2++_).map cK.cells).length≤6001
  simp
  omega
open Go.RowKit
def z0 (z:Nr):Nr:=⟨z.k,0,z.n,z.m,z.s,z.c⟩
def strip (l:List Nr):List Nr:=l.map z0
theorem Dq {x y:List Nr} (h:er x=er y):strip x=strip y:=by
 have e:∀l,strip l=(er l).map (fun q=>(⟨q.1,0,q.2.1,q.2.2.1,q.2.2.2.1,q.2.2.2.2⟩:Nr)):=fun l=>by
  unfold strip er
  rw[List.map_map]
  rfl
 rw[e,e,h]
theorem Dr {k p n m:Int} {s:ByteArray} {F:List (List Nr)}:strip (nd k p n m s F)=nd k 0 n m s (F.map strip):=by
 unfold nd strip
 rw[List.map_cons,List.map_flatten,List.length_map]
 rfl
theorem zK:∀{h:Nat} {y:List Nr},gX h y→gX h (strip y)
 |0,_,h=>h.elim
 |h+1,_,⟨k,p,n,m,s,F,e,hF⟩=>by
  subst e
  refine⟨k,0,n,m,s,F.map strip,Dr,fun z hz=>?_⟩
  obtain⟨x,hx,rfl⟩:=List.mem_map.1 hz
  exact zK (hF x hx)
theorem Eu {h h':Nat} {k p n m k2 p2 n2 m2:Int} {s s2:ByteArray} {F F2:List (List Nr)} (hF:∀z∈F,gX h z) (hF2:∀z∈F2,gX h' z) (e:strip (nd k p n m s F)=strip (nd k2 p2 n2 m2 s2 F2)):(k=k2∧n=n2∧m=m2∧s=s2)∧F.length=F2.length∧F.map strip=F2.map strip:=by
 rw[Dr,Dr] at e
 obtain⟨⟨b1,-,b3,b4,b5⟩,b6⟩:=D6 (h:=h) (h':=h') (fun z hz=>by
  obtain⟨x,hx,rfl⟩:=List.mem_map.1 hz
  exact zK (hF x hx)) (fun z hz=>by
  obtain⟨x,hx,rfl⟩:=List.mem_map.1 hz
  exact zK (hF2 x hx)) e
 refine⟨⟨b1,b3,b4,b5⟩,?_,b6⟩
 have:=congrArg List.length b6
 simpa using this
theorem zL:∀(f:Nat) (d:Int) (c:Nat) (l:List Nr),((jO f d c (strip l)).1.isSome=(jO f d c l).1.isSome)∧(jO f d c (strip l)).2=strip (jO f d c l).2
 |0,_,_,_=>⟨rfl,rfl⟩
 |f+1,d,c,l=>by
  show((vI (fun z l=>if 80<d then(some z.p,l) else jO f (d+1) z.c l) c (strip l)).1.isSome=(vI (fun z l=>if 80<d then(some z.p,l) else jO f (d+1) z.c l) c l).1.isSome)∧(vI (fun z l=>if 80<d then(some z.p,l) else jO f (d+1) z.c l) c (strip l)).2=strip (vI (fun z l=>if 80<d then(some z.p,l) else jO f (d+1) z.c l) c l).2
  induction c generalizing l with
  |zero=>exact⟨rfl,rfl⟩
  |succ c ih=>
   cases l with
   |nil=>exact⟨rfl,rfl⟩
   |cons z l=>
    have e1:∀(z:Nr) (l:List Nr),vI (fun z l=>if 80<d then(some z.p,l) else jO f (d+1) z.c l) (c+1) (z::l)=match(if 80<d then(some z.p,l) else jO f (d+1) z.c l) with
     |(some p,l2)=>(some p,l2)
     |(none,l2)=>vI (fun z l=>if 80<d then(some z.p,l) else jO f (d+1) z.c l) c l2:=fun z l=>rfl
    rw[show strip (z::l)=z0 z::strip l from rfl,e1,e1]
    by_cases hd:80<d
    ·rw[if_pos hd,if_pos hd]
     exact⟨rfl,rfl⟩
    ·rw[if_neg hd,if_neg hd,show(z0 z).c=z.c from rfl]
     obtain⟨i1,i2⟩:=zL f (d+1) z.c l
     cases h1:jO f (d+1) z.c l with
     |mk o l2=>
      cases h2:jO f (d+1) z.c (strip l) with
      |mk o' l2'=>
       rw[h1,h2] at i1 i2
       cases o with
       |none=>
        cases o' with
        |none=>
         obtain rfl:l2'=strip l2:=i2
         exact ih l2
        |some q=>cases i1
       |some q=>
        cases o' with
        |none=>cases i1
        |some q'=>exact⟨rfl,i2⟩
theorem SI {x y:List Nr} (h:er x=er y) {d p:Int} (h1:Dp [x] d none) (h2:Dp [y] d (some p)):False:=by
 obtain⟨a,ha⟩:=h1
 obtain⟨b,hb⟩:=h2
 have e1:=(ha (max a b) (Nat.le_max_left _ _) 0 []).1 rfl
 have e2:=(hb (max a b) (Nat.le_max_right _ _) 0 []).2 p rfl
 rw[DJ] at e1
 simp only[List.flatten_cons,List.flatten_nil,List.append_nil] at e1 e2
 have i1:=(zL (max a b) d ([x].length+0) x).1
 have i2:=(zL (max a b) d ([y].length+0) y).1
 rw[Dq h] at i1
 rw[e1] at i1
 have i3:=i1.symm.trans i2
 rw[e2] at i3
 cases i3
theorem oJ.tree:∀{h:Nat} {y:List Nr} {K:Kd},oJ h y K→gX h y
 |0,_,_,h=>h.elim
 |h+1,_,_,⟨k,p,n,m,s,F,Ks,e,_,hz,_⟩=>by
  refine⟨k,p,n,m,s,F,e,?_⟩
  have key:∀(F:List (List Nr)) (Ks:List Kd),Zip (oJ h) F Ks→∀z∈F,gX h z:=by
   intro F
   induction F with
   |nil=>intro _ _ z hz;cases hz
   |cons a F ih=>
    intro Ks hz
    cases Ks with
    |nil=>exact hz.elim
    |cons b Ks=>
     intro z hm
     rcases List.mem_cons.1 hm with rfl|hm
     ·exact oJ.tree hz.1
     ·exact ih Ks hz.2 z hm
  exact key F Ks hz
theorem MC {S:Nat→Prop} {g:Prop} {w:World}:(h:Nat)→(cs:List Value)→isNode S g h w cs→∀(h':Nat) (K:Kd),oJ h' (flat h w cs) K→isNode S True h w cs∧aB h w cs=K∧nM cs=bA (flat h w cs)
 |0,_,hn,_,_,_=>absurd hn (fun x=>x)
 |h+1,_,⟨kind,pos,n,m,name,kv,vs,h1,h2,h3,h3',h4,h5,h6,h7⟩,h',K,hp=>by
  subst h1
  have hfl:=qR (S:=S) (g:=g) (f:=h) (kind:=kind) (pos:=pos) (n:=n) (m:=m) (name:=name) h4 h6
  rw[hfl] at hp⊢
  cases h' with
  |zero=>exact hp.elim
  |succ h'=>
   obtain⟨k,p,n',m',s,F,Ks,e,rfl,hz,hg⟩:=hp
   have hF:∀z∈vs.map (flat h w),gX h z:=fun z hz=>by
    obtain⟨x,hx,rfl⟩:=List.mem_map.1 hz
    exact isNode.D5 h x (h6 x hx)
   have hF2:∀z∈F,gX h' z:=by
    have key:∀(F:List (List Nr)) (Ks:List Kd),Zip (oJ h') F Ks→∀z∈F,gX h' z:=by
     intro F
     induction F with
     |nil=>intro _ _ z hz;cases hz
     |cons a F ih=>
      intro Ks hz
      cases Ks with
      |nil=>exact hz.elim
      |cons b Ks=>
       intro z hm
       rcases List.mem_cons.1 hm with rfl|hm
       ·exact oJ.tree hz.1
       ·exact ih Ks hz.2 z hm
    exact key F Ks hz
   obtain⟨⟨rfl,rfl,rfl,rfl,rfl⟩,rfl⟩:=D6 hF hF2 e
   have kids:∀(vs:List (List Value)) (Ks:List Kd),(∀x∈vs,isNode S g h w x)→Zip (oJ h') (vs.map (flat h w)) Ks→(∀x∈vs,isNode S True h w x)∧vs.map (aB h w)=Ks∧vs.map nM=(vs.map (flat h w)).map bA:=by
    intro vs
    induction vs with
    |nil=>
     intro Ks _ hz
     cases Ks with
     |nil=>exact⟨fun x hx=>(by cases hx),rfl,rfl⟩
     |cons _ _=>exact hz.elim
    |cons x vs ih=>
     intro Ks hv hz
     cases Ks with
     |nil=>exact hz.elim
     |cons K Ks=>
      obtain⟨a1,a2,a3⟩:=ih Ks (fun y hy=>hv y (List.mem_cons_of_mem _ hy)) hz.2
      obtain⟨b1,b2,b3⟩:=MC h x (hv x (List.mem_cons_self ..)) h' K hz.1
      refine⟨fun y hy=>?_,?_,?_⟩
      ·rcases List.mem_cons.1 hy with rfl|hy
       ·exact b1
       ·exact a1 y hy
      ·rw[List.map_cons,b2,a2]
      ·rw[List.map_cons,List.map_cons,List.map_cons,b3,a3]
   obtain⟨k1,k2,k3⟩:=kids vs Ks h6 hz
   obtain⟨ao,cp,hkv⟩:=xg h4
   refine⟨⟨kind,pos,n,m,name,kv,vs,rfl,h2,h3,h3',h4,h5,k1,fun _=>by rw[k3];exact hg⟩,?_,?_⟩
   ·unfold aB
    have ht:=DK (f:=h) (kind:=kind) (pos:=pos) (n:=n) (m:=m) (name:=name) h4 h6
    rw[ht,k2]
    have hl:lenOf ((ah kind pos n m name kv).toList.getD 5 undef)=(vs.map (flat h w)).length:=by
     show lenOf kv=_
     rw[hkv,List.length_map];rfl
    rw[hl]
    rfl
   ·show lab kind n m name (lenOf kv)=lab kind n m name (vs.map (flat h w)).length
    rw[hkv,List.length_map];rfl
end Go.Proofs.YtdplogkmkgekdaaGreatDoor.Bk
