/- Parse of print: what is read is printed so that it is read back. -/
import Derived.Test.YtdplogkmkgekdaaGreatDoorBkc
import Derived.Test.YtdplogkmkgekdaaGreatDoorBkv
import Derived.Test.YtdplogkmkgekdaaGreatDoorTypes
set_option linter.all false
set_option maxRecDepth 100000
set_option maxHeartbeats 4000000
namespace Go.Proofs.YtdplogkmkgekdaaGreatDoor.Bk
abbrev CC:ByteArray:=⟨#[58,58]⟩
def pv (n:ByteArray) (r:List ByteArray):ByteArray:=r.foldl (fun x s=>x++CC++s) n
theorem ME (n:ByteArray) (r:List ByteArray) (s:ByteArray):pv n (r++[s])=pv n r++CC++s:=by unfold pv;rw[List.foldl_append];rfl
def pw (n:ByteArray) (r:List ByteArray):List Wd:=n.data.toList::(r.map (fun s=>[[58,58],s.data.toList])).flatten
def pb:List Wd→Wd
 |[]=>[]
 |s::r=>58::58::(s++pb r)
theorem Fq (n:ByteArray):∀r:List ByteArray,(pv n r).data.toList=n.data.toList++pb (r.map (·.data.toList)):=by
 intro r
 induction r generalizing n with
 |nil=>simp[pv,pb]
 |cons s r ih=>
  show(pv (n++CC++s) r).data.toList=_
  rw[ih]
  simp[pb,ByteArray.data_append,CC]
structure qD (most:Nat) (s:ByteArray) (n:ByteArray) (r:List ByteArray):Prop where
 eq:s=pv n r
 nm:nI n
 all:∀x∈r,nI x
 few:r.length+1≤most
theorem XZ {u:Wd} (h1:wk u=2) (h2:okW u=true):u≠[]∧(58:UInt8)∉u:=by
 cases u with
 |nil=>exact absurd h1 (by decide)
 |cons c l=>
  refine⟨by simp,fun h=>?_⟩
  have hd:wN c=false:=by
   cases e:wN c
   ·rfl
   ·simp[wk,e] at h1
  have hl:Ac c=true:=by
   cases e:Ac c
   ·simp only[wk,hd,e] at h1
    simp only[Bool.false_eq_true,if_false] at h1
    split at h1<;>simp at h1
   ·rfl
  simp only[okW,hd,hl] at h2
  simp only[Bool.false_eq_true,if_false,if_true,Bool.and_eq_true,List.all_eq_true] at h2
  exact absurd (h2.1 58 h) (by decide)
theorem nI.ne {n:ByteArray} (h:nI n):n.data.toList≠[]∧(58:UInt8)∉n.data.toList:=XZ h.1 h.2
theorem JN:∀(n:Wd) (r:List Wd),tq (n::r)=n++pb r
 |n,[]=>by simp[tq,pb]
 |n,s::r=>by
  rw[tq,JN s r]
  simp[pb]
theorem qD.path {most:Nat} {s n:ByteArray} {r:List ByteArray} (h:qD most s n r):pU most s:=by
 refine⟨n.data.toList::r.map (·.data.toList),by simp,by simpa using h.few,?_,?_⟩
 ·intro x hx
  rcases List.mem_cons.1 hx with rfl|hx
  ·exact h.nm.ne
  ·obtain⟨y,hy,rfl⟩:=List.mem_map.1 hx
   exact(h.all y hy).ne
 ·rw[h.eq,Lib.toList_data,Fq,JN]
theorem Ew {n m:Wd} (h:(58:UInt8)∉n):∀j,j<n.length→Lib.occAt (n++m) [58,58] j=false:=by
 intro j hj
 cases e:Lib.occAt (n++m) [58,58] j
 ·rfl
 ·have:=Lib.occAt_head (c:=58) (t:=[58]) rfl e
  rw[List.getElem?_append_left hj,List.getElem?_eq_getElem hj] at this
  have h2:=Option.some.inj this
  exact absurd (h2▸List.getElem_mem hj) h
theorem X4 {n m:Wd} (h:(58:UInt8)∉n):Lib.index (n++(58::58::m)) [58,58]=(n.length:Int):=
 Lib.index_first (by simp) (by unfold Lib.occAt;rw[List.drop_left];rfl) (Ew h)
theorem SN {n:Wd} (h:(58:UInt8)∉n):Lib.index n [58,58]= -1:=by
 refine Lib.index_none fun j hj=>?_
 by_cases e:j<n.length
 ·have:=Ew (m:=[]) h j e
  simpa using this
 ·have:j=n.length:=by omega
  subst this
  unfold Lib.occAt
  rw[List.drop_length]
  rfl
theorem JO:∀(r:List Wd) (n:Wd),(58:UInt8)∉n→(∀x∈r,(58:UInt8)∉x)→Lib.count (n++pb r) [58,58]=r.length∧Lib.replaceK [58,58] [32,58,58,32] r.length (n++pb r)=n++((r.map (fun s=>32::58::58::32::s)).flatten)
 |[],n,h,_=>by
  have e:n++pb []=n:=by simp[pb]
  rw[e]
  exact⟨Lib.count_miss (SN h),by simp[Lib.replaceK]⟩
 |s::r,n,h,hr=>by
  have e:n++pb (s::r)=n++(58::58::(s++pb r)):=rfl
  rw[e]
  have hi:=X4 (n:=n) (m:=s++pb r) h
  obtain⟨h1,h2⟩:=JO r s (hr s (List.mem_cons_self ..)) (fun x hx=>hr x (List.mem_cons_of_mem _ hx))
  have hd:(n++(58::58::(s++pb r))).drop (n.length+[(58:UInt8),58].length)=s++pb r:=by
   rw[←List.drop_drop,List.drop_left]
   rfl
  have ht:(n++(58::58::(s++pb r))).take n.length=n:=List.take_left ..
  refine⟨?_,?_⟩
  ·rw[Lib.count_hit (by simp) hi,hd,h1]
   simp only[List.length_cons]
   omega
  ·rw[List.length_cons,Lib.replaceK_hit _ _ _ _ _ hi,hd,h2,ht]
   simp
theorem SQ {n:Wd} {r:List Wd} (h:(58:UInt8)∉n) (hr:∀x∈r,(58:UInt8)∉x):jQ (n++pb r)=n++((r.map (fun s=>32::58::58::32::s)).flatten):=by
 obtain⟨h1,h2⟩:=JO r n h hr
 unfold jQ Lib.replaceAll Lib.replace Lib.replaceNum
 rw[if_neg (by decide),if_pos (by left;decide),h1,h2]
theorem qD.glue {most:Nat} {s n:ByteArray} {r:List ByteArray} (h:qD most s n r) (ws:List (List UInt8)):glue (pw n r++ws)=glue (jQ s.data.toList::ws):=by
 rw[aN,aQ,h.eq,Fq,SQ h.nm.ne.2 (fun x hx=>by
  obtain⟨y,hy,rfl⟩:=List.mem_map.1 hx
  exact(h.all y hy).ne.2)]
 congr 1
 unfold pw
 rw[aQ]
 simp only[List.cons_append,List.cons.injEq,true_and]
 congr 1
 clear h
 induction r with
 |nil=>rfl
 |cons x r ih=>
  simp only[List.map_cons,List.flatten_cons,aN,ih,aQ,CS]
  simp
theorem qD.ok {most:Nat} {s n:ByteArray} {r:List ByteArray} (h:qD most s n r):∀u∈pw n r,okW u=true:=by
 intro u hu
 unfold pw at hu
 rcases List.mem_cons.1 hu with rfl|hu
 ·exact h.nm.2
 ·obtain⟨l,hl,h2⟩:=List.mem_flatten.1 hu
  obtain⟨x,hx,rfl⟩:=List.mem_map.1 hl
  simp only[List.mem_cons,List.not_mem_nil,or_false] at h2
  rcases h2 with rfl|rfl
  ·rfl
  ·exact(h.all x hx).2
section
variable {t:Tk} {fu most:Nat}
def lq (t:Tk) (most:Nat) (x:ByteArray × Nat × Bool):GP (Bool × (ByteArray × Nat × Bool)):=bnd (bY t 0 ⟨#[58,58]⟩) (fun b=>bnd (fB t 1 2) (fun b2=>cond (b&&b2) (cond (x.2.1==most) (seq (jB t) (ret (false,(E0,x.2.1,true)))) (seq (dK 1) (bnd (bG t) (fun s=>ret (true,(x.1++⟨#[58,58]⟩++s,x.2.1+1,x.2.2)))))) (ret (false,x))))
theorem nV (hg:GT t) (hm:1≤most) (i:Nat):wp (iq t fu most) (fun s j=>(∃n r,qD most s n r)∧i<j∧i<t.len) i:=by
 unfold iq
 refine dF hg (fun _=>aA) fun s0 h0 hl=>?_
 refine av (R:=fun x j=>(∃n r,qD most x.1 n r)∧i<j) (wp_loop (I:=fun x j=>(∃n r,qD most x.1 n r∧r.length+1=x.2.1)∧i<j) (fun _=>aA) ?_ fu _ _ ⟨⟨s0,[],⟨rfl,h0,fun _ h=>(by cases h),hm⟩,rfl⟩,Nat.lt_succ_self _⟩) (fun _=>aA) (fun x j hx=>wp_ret ⟨hx.1,hx.2,hl⟩)
 rintro x j ⟨⟨n,r,hp,hl⟩,hj⟩
 refine bJ (jq (wp_cond (fun _=>wp_cond (fun _=>qL aA) (fun hne=>fq (dF hg (fun _=>aA) fun s hs _=>wp_ret ⟨fun _=>⟨⟨n,r++[s],⟨?_,hp.nm,?_,?_⟩,?_⟩,Nat.lt_of_lt_of_le hj (by omega)⟩,(fun h=>by cases h)⟩))) (fun _=>wp_ret ⟨(fun h=>by cases h),fun _=>⟨⟨n,r,hp⟩,hj⟩⟩)))
 ·rw[ME,←hp.eq]
 ·intro y hy
  rcases List.mem_append.1 hy with hy|hy
  ·exact hp.all y hy
  ·obtain rfl:y=s:=by simpa using hy
   exact hs
 ·have h1:=hp.few
  have h2:¬x.2.1=most:=by simpa using hne
  simp only[List.length_append,List.length_cons,List.length_nil]
  omega
 ·simp only[List.length_append,List.length_cons,List.length_nil]
  omega
theorem JQ (most:Nat):∀(r r0:List ByteArray) (n:ByteArray) (i:Nat),(∀x∈r,nI x)→r0.length+1+r.length≤most→At t i ((r.map (fun s=>[[58,58],s.data.toList])).flatten)→(au t (i+2*r.length) 0 0 ⟨#[58,58]⟩&&bf t (i+2*r.length) 0 1 2)=false→EvL (fun _=>lq t most) (pv n r0,r0.length+1,false) ⟨i,0,0⟩ ((pv n (r0++r),r0.length+1+r.length,false),⟨i+2*r.length,0,0⟩)
 |[],r0,n,i,_,_,_,hf=>by
  rw[List.append_nil]
  refine EvL.stop ?_
  unfold lq
  exact Ev.ak aI (Ev.ak dz (Ev.no hf Ev.ret'))
 |s::r,r0,n,i,hr,hl,hat,hf=>by
  have h1:At t i ([58,58]::s.data.toList::(r.map (fun s=>[[58,58],s.data.toList])).flatten):=hat
  obtain⟨a1,a2,a3⟩:=h1
  have hs:=hr s (List.mem_cons_self ..)
  simp only[List.length_cons] at hl
  have ih:=JQ most r (r0++[s]) n (i+1+1) (fun x hx=>hr x (List.mem_cons_of_mem _ hx)) (by simp only[List.length_append,List.length_cons,List.length_nil];omega) a3 (by rw[show i+1+1+2*r.length=i+2*(s::r).length by simp only[List.length_cons];omega];exact hf)
  have e1:r0++[s]++r=r0++(s::r):=by simp
  have e2:(r0++[s]).length+1+r.length=r0.length+1+(s::r).length:=by simp only[List.length_append,List.length_cons,List.length_nil];omega
  have e3:i+1+1+2*r.length=i+2*(s::r).length:=by simp only[List.length_cons];omega
  rw[e1,e2,e3] at ih
  refine EvL.on ?_ ih
  unfold lq
  have hb:(au t i 0 0 ⟨#[58,58]⟩&&bf t i 0 1 2)=true:=dR (fD a1 rfl) (by rw[XV];exact(kE a2).trans (by rw[hs.1];rfl))
  have hm:((r0.length+1)==most)=false:=by simp;omega
  have h5:(pv n (r0++[s]),(r0++[s]).length+1,false)=(pv n r0++CC++s,r0.length+1+1,false):=by rw[ME];simp
  rw[h5]
  exact Ev.ak aI (Ev.ak dz (Ev.yes hb (Ev.no hm (Ev.seq iJ (Ev.ak (sW hs a2) Ev.ret')))))
theorem abJ (n:ByteArray) (r:List ByteArray):(pw n r).length=1+2*r.length:=by
 unfold pw
 rw[List.length_cons,List.length_flatten,List.map_map]
 induction r with
 |nil=>rfl
 |cons s r ih=>
  simp only[List.map_cons,List.sum_cons,Function.comp,List.length_cons] at ih⊢
  simp only[List.length_nil]
  omega
theorem JR {s n:ByteArray} {r:List ByteArray} (h:qD most s n r) {i:Nat} (hat:At t i (pw n r)) (hf:(au t (i+(pw n r).length) 0 0 ⟨#[58,58]⟩&&bf t (i+(pw n r).length) 0 1 2)=false):Ev (fun fu=>iq t fu most) ⟨i,0,0⟩ (s,⟨i+(pw n r).length,0,0⟩):=by
 rw[abJ] at hf⊢
 have e:i+(1+2*r.length)=i+1+2*r.length:=by omega
 rw[e] at hf⊢
 have hl:=JQ most r [] n (i+1) h.all (by have:=h.few;simp only[List.length_nil];omega) hat.2 hf
 rw[List.nil_append] at hl
 have h2:=h.eq
 subst h2
 exact Ev.ak (sW h.nm hat.1) (Ev.ak hl.ev Ev.ret')
theorem qY {s n:ByteArray} {r:List ByteArray} (h:qD most s n r) {i:Nat} (hat:At t i (pw n r)) (hf:au t (i+(pw n r).length) 0 0 ⟨#[58,58]⟩=false):Ev (fun fu=>iq t fu most) ⟨i,0,0⟩ (s,⟨i+(pw n r).length,0,0⟩):=JR h hat (oL hf)
theorem GK {s n:ByteArray} {r:List ByteArray} (h:qD most s n r) {i:Nat} (hat:At t i (pw n r)) (hf:bf t (i+(pw n r).length+1) 0 0 2=false):Ev (fun fu=>iq t fu most) ⟨i,0,0⟩ (s,⟨i+(pw n r).length,0,0⟩):=JR h hat (jf hf)
theorem Fu {s:ByteArray} (hs:qp s) {i:Nat} (h:dI t i s.data.toList):∃p,Ev (fun _=>iR t) ⟨i,0,0⟩ (nd 19 p 0 0 s [],⟨i+1,0,0⟩):=by
 have e:t.text i=s:=by rw[h.tx (by rw[hs.1];decide)]
 refine⟨(t.pos i:Int),?_⟩
 unfold iR
 refine Ev.ak bL (Ev.ak dz (Ev.yes ((kE h).trans (by rw[hs.1];rfl)) ?_))
 have:=Ev.ak (f:=fun(_:Nat) s=>seq (dK 1) (ret (nd 19 (t.pos i:Int) 0 0 s []))) (vX (t:=t) (i:=i) (k:=0) (a:=0)) (Ev.seq iJ Ev.ret')
 rw[e] at this
 exact this
theorem Dt {s:ByteArray} (hs:qp s) {i:Nat} (h:dI t i s.data.toList):Ev (fun _=>dW t) ⟨i,0,0⟩ (s,⟨i+1,0,0⟩):=by
 obtain⟨p,hp⟩:=Fu hs h
 exact Ev.ak hp Ev.ret'
theorem yI (hg:GT t) (i:Nat):wp (iR t) (fun x j=>(∃p s,qp s∧x=nd 19 p 0 0 s [])∧j=i+1∧i<t.len) i:=by
 unfold iR
 refine bM (jq (wp_cond (fun e=>BK (fq (wp_ret ⟨⟨_,_,hg.lf _ (by have:=Mq e;omega),rfl⟩,rfl,zH e⟩))) (fun _=>qL aA)))
theorem zM (hg:GT t) (i:Nat):wp (dW t) (fun s j=>qp s∧j=i+1∧i<t.len) i:=by
 unfold dW
 refine av (yI hg i) (fun _=>aA) ?_
 rintro x j ⟨⟨p,s,hs,rfl⟩,rfl,hl⟩
 exact wp_ret ⟨hs,rfl,hl⟩
end
open Go.RowKit
theorem X5 {S S2:Nat→Prop} {g g2:Prop} {h h2:Nat} {w:World} {kind pos n m dJ pos2 n2 m2:Int} {name name2:ByteArray} {ko iC:Option Addr} {kl kc iK iD:Nat} (hn:isNode S g (h+1) w (ah kind pos n m name (.slice ko kl kc)).toList) (hn2:isNode S2 g2 (h2+1) w (ah dJ pos2 n2 m2 name2 (.slice iC iK iD)).toList) {y yb:List Nr} (hE:strip y=strip yb) (hy:Fl w [(ah kind pos n m name (.slice ko kl kc)).toList] [y]) (hy2:Fl w [(ah dJ pos2 n2 m2 name2 (.slice iC iK iD)).toList] [yb]):
 (kind=dJ∧n=n2∧m=m2∧name=name2∧kl=iK∧kl≤20000)∧∀idx,idx<kl→∃gb A8,(ko=some ⟨gb,0,none⟩∧S gb∧gb<w.heap.size)∧(iC=some ⟨A8,0,none⟩∧S2 A8∧A8<w.heap.size)∧∃y2 y3,strip y2=strip y3∧(∃kind pos n m name ko kl kc,isNode S g h w (ah kind pos n m name (.slice ko kl kc)).toList∧(∀o,o<11→w.cell? ⟨gb,idx*11+o,none⟩=(ah kind pos n m name (.slice ko kl kc))[o]?)∧Fl w [(ah kind pos n m name (.slice ko kl kc)).toList] [y2])∧(∃kind pos n m name ko kl kc,isNode S2 g2 h2 w (ah kind pos n m name (.slice ko kl kc)).toList∧(∀o,o<11→w.cell? ⟨A8,idx*11+o,none⟩=(ah kind pos n m name (.slice ko kl kc))[o]?)∧Fl w [(ah kind pos n m name (.slice ko kl kc)).toList] [y3]):=by
 obtain⟨F,e,hl,hp,hk,Ap⟩:=hn.Rt hy
 obtain⟨F2,e2,hl2,hp2,hk2,Vf⟩:=hn2.Rt hy2
 have hF:∀z∈F,gX h z:=by
  intro z hz
  obtain⟨i,hi,rfl⟩:=List.getElem_of_mem hz
  obtain⟨gb,_,_,_,k1,p1,n1,m1,s1,o1,l1,c1,a1,a2,y2,a3,a4⟩:=Ap i (by omega)
  rw[List.getElem?_eq_getElem hi] at a3
  have a5:=Option.some.inj a3
  rw[a5,Fl.Nn a4 a1.fl]
  exact isNode.D5 h _ a1
 have hF2:∀z∈F2,gX h2 z:=by
  intro z hz
  obtain⟨i,hi,rfl⟩:=List.getElem_of_mem hz
  obtain⟨gb,_,_,_,k1,p1,n1,m1,s1,o1,l1,c1,a1,a2,y2,a3,a4⟩:=Vf i (by omega)
  rw[List.getElem?_eq_getElem hi] at a3
  have a5:=Option.some.inj a3
  rw[a5,Fl.Nn a4 a1.fl]
  exact isNode.D5 h2 _ a1
 obtain⟨⟨b1,b3,b4,b5⟩,bl,b6⟩:=Eu hF hF2 (by rw[←e,←e2];exact hE)
 refine⟨⟨b1,b3,b4,b5,by omega,hk⟩,fun idx hi=>?_⟩
 obtain⟨gb,c1,c2,c3,k1,p1,n1,m1,s1,o1,l1,r1,a1,a2,y2,a3,a4⟩:=Ap idx hi
 obtain⟨A8,d1,d2,d3,k2,p2',n2',m2',s2,o2,l2,r2,f1,f2,y3,f3,f4⟩:=Vf idx (by omega)
 have Vg:strip y2=strip y3:=by
  have q1:(F.map strip)[idx]? =some (strip y2):=by rw[List.getElem?_map,a3];rfl
  have q2:(F2.map strip)[idx]? =some (strip y3):=by rw[List.getElem?_map,f3];rfl
  rw[b6,q2] at q1
  exact(Option.some.inj q1).symm
 exact⟨gb,A8,⟨c1,c2,c3⟩,⟨d1,d2,d3⟩,y2,y3,Vg,⟨k1,p1,n1,m1,s1,o1,l1,r1,a1,a2,a4⟩,⟨k2,p2',n2',m2',s2,o2,l2,r2,f1,f2,f4⟩⟩
theorem QA {g g2:Prop}:(h h2:Nat)→∀{S S2:Nat→Prop} {w:World} {kind pos n m dJ pos2 n2 m2:Int} {name name2:ByteArray} {ko iC:Option Addr} {kl kc iK iD:Nat} {y yb:List Nr},strip y=strip yb→isNode S g h w (ah kind pos n m name (.slice ko kl kc)).toList→isNode S2 g2 h2 w (ah dJ pos2 n2 m2 name2 (.slice iC iK iD)).toList→Fl w [(ah kind pos n m name (.slice ko kl kc)).toList] [y]→Fl w [(ah dJ pos2 n2 m2 name2 (.slice iC iK iD)).toList] [yb]→Calls Tryz.prog 10 #[.agg (ah kind pos n m name (.slice ko kl kc)),.agg (ah dJ pos2 n2 m2 name2 (.slice iC iK iD))] w (fun e w'=>e=.returned (.bool true)∧Below w.heap.size w w')
 |0,_,_,_,_,_,_,_,_,_,_,_,_,_,_,_,_,_,_,_,_,_,_,_,hn,_,_,_=>absurd hn (fun x=>x)
 |_+1,0,_,_,_,_,_,_,_,_,_,_,_,_,_,_,_,_,_,_,_,_,_,_,_,hn,_,_=>absurd hn (fun x=>x)
 |h+1,h2+1,S,S2,w,kind,pos,n,m,dJ,pos2,n2,m2,name,name2,ko,iC,kl,kc,iK,iD,y,yb,hE,hn,hn2,hy,hy2=>by
  obtain⟨⟨rfl,rfl,rfl,rfl,rfl,hkl⟩,Ap⟩:=X5 hn hn2 hE hy hy2
  have IH:Hid (∀{S S2:Nat→Prop} {w:World} {kind pos n m dJ pos2 n2 m2:Int} {name name2:ByteArray} {ko iC:Option Addr} {kl kc iK iD:Nat} {y yb:List Nr},strip y=strip yb→isNode S g h w (ah kind pos n m name (.slice ko kl kc)).toList→isNode S2 g2 h2 w (ah dJ pos2 n2 m2 name2 (.slice iC iK iD)).toList→Fl w [(ah kind pos n m name (.slice ko kl kc)).toList] [y]→Fl w [(ah dJ pos2 n2 m2 name2 (.slice iC iK iD)).toList] [yb]→Calls Tryz.prog 10 #[.agg (ah kind pos n m name (.slice ko kl kc)),.agg (ah dJ pos2 n2 m2 name2 (.slice iC iK iD))] w (fun e w'=>e=.returned (.bool true)∧Below w.heap.size w w')):=QA h h2
  have HK:=@aG _ @Ap
  clear Ap hn hn2 hy hy2
  obtain⟨W2,hW2⟩:∃W2,W2=(w.alloc (.cells (ah kind pos n m name (.slice ko kl kc)) 28)).alloc (.cells (ah kind pos2 n m name (.slice iC kl iD)) 28):=⟨_,rfl⟩
  have hbW:Below w.heap.size w W2:=by rw[hW2];exact((Below.refl _ _).alloc (Nat.le_refl _) _).alloc (by simp) _
  have hsW:W2.heap.size=w.heap.size+2:=by rw[hW2];simp
  have x1:W2.heap[w.heap.size]? =some (.cells (ah kind pos n m name (.slice ko kl kc)) 28 (0,0)):=by rw[hW2];exact(Below.heap_alloc _ _ _ (by simp)).trans (heap_alloc_new w _)
  have x2:W2.heap[w.heap.size+1]? =some (.cells (ah kind pos2 n m name (.slice iC kl iD)) 28 (0,0)):=by
   rw[hW2]
   have:=heap_alloc_new (w.alloc (.cells (ah kind pos n m name (.slice ko kl kc)) 28)) (.cells (ah kind pos2 n m name (.slice iC kl iD)) 28)
   simpa using this
  have HW:Hid (Below w.heap.size w W2∧W2.heap.size=w.heap.size+2∧W2.heap[w.heap.size]? =some (.cells (ah kind pos n m name (.slice ko kl kc)) 28 (0,0))∧W2.heap[w.heap.size+1]? =some (.cells (ah kind pos2 n m name (.slice iC kl iD)) 28 (0,0))):=⟨hbW,hsW,x1,x2⟩
  have HE:=@aG _ @hW2
  clear hbW hsW x1 x2 hW2
  go_enter Tryz.func10,Tryz.ntmps10
  go_wp2_with fail
  rw[←HE.out]
  go_loopg [5,44] kl (fun gg _ u wr=>∃idx:Nat,gg=kl - idx∧u=.int .i64 idx∧idx≤kl∧Below W2.heap.size W2 wr)
  case atStart=>exact⟨0,rfl,rfl,Nat.zero_le _,Below.refl _ _⟩
  case round=>
   obtain⟨idx,eD,rfl,hidx,hb⟩:=hrel
   have HG:=@aG _ @eD
   clear eD
   have hbw:Below w.heap.size w wr:=HW.out.1.trans (hb.mono HW.out.1.size)
   have HBW:Hid (Below w.heap.size w wr∧Below W2.heap.size W2 wr):=⟨hbw,hb⟩
   by_cases hlt:idx<kl
   ·obtain⟨gb,A8,⟨rfl,hS,hgb⟩,⟨rfl,hS2,afj⟩,y2,y3,Vg,⟨N7,SV,nA,mA,N8,koA,klA,kcA,hkA,hcA,hfA⟩,⟨bf,posB,nB,mB,N9,koB,klB,kcB,hkB,hcB,hfB⟩⟩:=HK.out idx hlt
    have uI:(idx:Int)<(kl:Int):=by omega
    have hbs:=hbw.size
    have hgr:gb<wr.heap.size:=by omega
    have hgr2:A8<wr.heap.size:=by omega
    have ea:∀o,o<11→wr.cell? ⟨gb,idx*11+o,none⟩=(ah N7 SV nA mA N8 (.slice koA klA kcA))[o]? :=fun o ho=>(hbw.cell (p:=⟨gb,idx*11+o,none⟩) hgb).trans (hcA o ho)
    have eb:∀o,o<11→wr.cell? ⟨A8,idx*11+o,none⟩=(ah bf posB nB mB N9 (.slice koB klB kcB))[o]? :=fun o ho=>(hbw.cell (p:=⟨A8,idx*11+o,none⟩) afj).trans (hcB o ho)
    clear hcA hcB
    have a0:=ea 0 (by decide)
    have a1:=ea 1 (by decide)
    have a2:=ea 2 (by decide)
    have a3:=ea 3 (by decide)
    have a4:=ea 4 (by decide)
    have a5:=ea 5 (by decide)
    have a6:=ea 6 (by decide)
    have a7:=ea 7 (by decide)
    have a8:=ea 8 (by decide)
    have a9:=ea 9 (by decide)
    have Cx:=ea 10 (by decide)
    have b0:=eb 0 (by decide)
    have b1:=eb 1 (by decide)
    have b2:=eb 2 (by decide)
    have b3:=eb 3 (by decide)
    have b4:=eb 4 (by decide)
    have b5:=eb 5 (by decide)
    have b6:=eb 6 (by decide)
    have b7:=eb 7 (by decide)
    have b8:=eb 8 (by decide)
    have b9:=eb 9 (by decide)
    have b10:=eb 10 (by decide)
    clear ea eb
    simp only[Nat.add_zero] at a0 b0
    have v1:wr.cell? ⟨w.heap.size,5,none⟩=some (.slice (some ⟨gb,0,none⟩) kl kc):=cell_of_row wr w.heap.size 5 _ 28 (0,0) ((hb.block _ (by have:=HW.out.2.1;omega)).trans HW.out.2.2.1)
    have v2:wr.cell? ⟨w.heap.size+1,5,none⟩=some (.slice (some ⟨A8,0,none⟩) kl iD):=cell_of_row wr (w.heap.size+1) 5 _ 28 (0,0) ((hb.block _ (by have:=HW.out.2.1;omega)).trans HW.out.2.2.2)
    have hA:=wD hbw hkA hfA
    have hB:=wD hbw hkB hfB
    have hA2:=wD hbw.drew hkA hfA
    have hB2:=wD hbw.drew hkB hfB
    have HCD:Hid (Calls Tryz.prog 10 #[.agg (ah N7 SV nA mA N8 (.slice koA klA kcA)),.agg (ah bf posB nB mB N9 (.slice koB klB kcB))] wr.drew (fun e w'=>e=.returned (.bool true)∧Below wr.heap.size wr.drew w')):=IH.out Vg hA2.1 hB2.1 hA2.2 hB2.2
    have HC:Hid (Calls Tryz.prog 10 #[.agg (ah N7 SV nA mA N8 (.slice koA klA kcA)),.agg (ah bf posB nB mB N9 (.slice koB klB kcB))] wr (fun e w'=>e=.returned (.bool true)∧Below wr.heap.size wr w')):=IH.out Vg hA.1 hB.1 hA.2 hB.2
    clear hA hB hA2 hB2 hkA hkB hfA hfB hbw hb hbs
    go_wp2_with fail
    go_region_law (first|(go_simp;refine HCD.out.mono ?_;rintro e w2 ⟨rfl,hb2⟩;have HB2:Hid (Below W2.heap.size W2 w2):=HBW.out.2.drew.trans (hb2.mono HBW.out.2.size);clear hb2))
    all_goals
     clear a0 a1 a2 a3 a4 a5 a6 a7 a8 a9 Cx b0 b1 b2 b3 b4 b5 b6 b7 b8 b9 b10 v1 v2
     go_wp2_with fail
     go_roundg (kl - (idx+1))
     case measure=>rw[HG.out];omega
     case rel=>exact⟨idx+1,rfl,by go_num,hlt,by first|exact HB2.out|exact HB2.out.drew⟩
   ·have uI:¬(idx:Int)<(kl:Int):=by omega
    have aeR:decide ((idx:Int)<(kl:Int))=false:=by simpa using uI
    go_wp2_with fail
    go_ret
    exact⟨rfl,HBW.out.1⟩
section
variable {t:Tk} {P:List Nr→Prop} {X:GP (List Nr)} {e:ByteArray} {fu:Nat}
theorem JU (hX:∀i,wp X (fun y _=>P y) i) (hs:Sy X) (i:Nat) (o:List (List Nr)):wp (qj t X e fu o) (fun F _=>∃F2,F=o++F2∧F2≠[]∧∀y∈F2,P y) i:=by
 unfold qj
 refine wp_loop (I:=fun F _=>∃F2,F=o++F2∧∀y∈F2,P y) (fun _=>aA) ?_ fu o i ⟨[],by simp,fun _ h=>(by cases h)⟩
 rintro x j ⟨F2,rfl,hp⟩
 have key:∀y,P y→∃F3,o++F2++[y]=o++F3∧F3≠[]∧∀z∈F3,P z:=fun y hy=>⟨F2++[y],by simp,by simp,fun z hz=>by
  rcases List.mem_append.1 hz with hz|hz
  ·exact hp z hz
  ·obtain rfl:z=y:=by simpa using hz
   exact hy⟩
 refine fF (wp_cond (fun _=>av (hX j) (fun _=>aA) fun y j2 hy=>?_) (fun h=>by cases h))
 refine aZ (fun _=>wp_cond (fun _=>wp_ret ⟨(fun h=>by cases h),fun _=>key y hy⟩) (fun h=>by cases h)) (fun _=>wp_cond (fun h=>by cases h) (fun _=>aO aA (fun _=>wp_ret ⟨fun _=>?_,(fun h=>by cases h)⟩)))
 obtain⟨F3,h1,-,h3⟩:=key y hy
 exact⟨F3,h1,h3⟩
theorem uN (hX:∀i,wp X (fun y _=>P y) i) (hs:Sy X) (i:Nat):wp (fC t X e fu) (fun F _=>∀y∈F,P y) i:=by
 unfold fC
 refine aZ (fun _=>wp_cond (fun _=>wp_ret (fun _ h=>by cases h)) (fun h=>by cases h)) (fun _=>wp_cond (fun h=>by cases h) (fun _=>(JU hX hs _ _).mono ?_))
 rintro F j ⟨F2,rfl,-,h⟩
 exact h
end
def vP (t:Tk) (j:Nat):Prop:=cu t j [[44],[41],[62],[125],[123],[59],[61]] []
abbrev LT:List Wd:=[[105,110,116],[98,111,111,108],[40],[38],[102,110]]
abbrev mT:Tk→Nat→GP (List Nr):=fun t n=>gG t n 0
def TU (x:List Nr):Prop:=∀k p n m s F,x=nd k p n m s F→k=15→n=0∧m=0∧s=E0
def PT (x:List Nr):Prop:=(∃K us,Bk mT vP LT [2] nN x K us)∧TU x
theorem dA {k p n m:Int} {s:ByteArray} {F:List (List Nr)}:bA (nd k p n m s F)=lab k n m s F.length:=rfl
theorem Oa {k p n m k2 p2 n2 m2:Int} {s s2:ByteArray} {F F2:List (List Nr)} (h:nd k p n m s F=nd k2 p2 n2 m2 s2 F2):k=k2∧p=p2∧n=n2∧m=m2∧s=s2∧F.length=F2.length:=by
 unfold nd at h
 injection h with h1 h2
 injection h1 with a b c d e f
 exact⟨a,b,c,d,e,f⟩
theorem TU.ne {k p n m:Int} {s:ByteArray} {F:List (List Nr)} (h:k≠15):TU (nd k p n m s F):=fun k2 p2 n2 m2 s2 F2 e h2=>absurd ((Oa e).1.trans h2) h
theorem TU.tup {p:Int} {F:List (List Nr)}:TU (nd 15 p 0 0 E0 F):=fun k2 p2 n2 m2 s2 F2 e h2=>by
 obtain⟨-,-,h3,h4,h5,-⟩:=Oa e
 exact⟨h3.symm,h4.symm,h5.symm⟩
theorem PT.mk {k p n m:Int} {s:ByteArray} {F:List (List Nr)} {Ks:List Kd} {us:List Wd} (hz:Zip Pt F Ks) (hg:Gr k n m s (F.map bA)) (gl:glue us=glue (asm k n m s.data.toList Ks)) (ok:∀u∈us,okW u=true) (hd:∃u r,us=u::r∧(LT.contains u||[2].contains (wk u))=true) (rd:qC mT vP (nd k p n m s F) us) (lb:nN (lab k n m s F.length)) (tu:TU (nd k p n m s F)):PT (nd k p n m s F):=
 ⟨⟨_,us,Pt.nd hz hg,gl,ok,hd,rd,lb⟩,tu⟩
theorem gT {t:Tk} {s:Rs} {r:List Nr × Rs} (h:Ev (fun n=>iN t (gG t n 0) n) s r):Ev (mT t) s r:=Ev.up h (fun _=>rfl)
theorem QB {p:Int}:PT (nd 13 p 0 0 E0 []):=by
 refine PT.mk (us:=[[105,110,116]]) (Ks:=[]) trivial (Gr.free (.inl rfl)) rfl (by decide) ⟨_,_,rfl,rfl⟩ ?_ (by unfold nN;decide) (TU.ne (by decide))
 rintro t i ⟨a1,-⟩ hf
 exact⟨nd 13 (t.pos i) 0 0 E0 [],rfl,gT (by unfold iN;exact evs)⟩
theorem X6 {p:Int}:PT (nd 14 p 0 0 E0 []):=by
 refine PT.mk (us:=[[98,111,111,108]]) (Ks:=[]) trivial (Gr.free (.inr (.inl rfl))) rfl (by decide) ⟨_,_,rfl,rfl⟩ ?_ (by unfold nN;decide) (TU.ne (by decide))
 rintro t i ⟨a1,-⟩ hf
 exact⟨nd 14 (t.pos i) 0 0 E0 [],rfl,gT (by unfold iN;exact evs)⟩
theorem vP.of {t:Tk} {j:Nat} {u:Wd} (h:dI t j u) (e:([[44],[41],[62],[125],[123],[59],[61]]:List Wd).contains u=true):vP t j:=⟨u,h,.inl e⟩
theorem Fw {F:List (List Nr)} (h:∀x∈F,PT x):∃Ks Us,tY mT vP LT [2] nN F Ks Us:=nJ (fun x hx=>(h x hx).1)
theorem Ob {t:Tk} {F:List (List Nr)} {Ks:List Kd} {Us:List (List Wd)} (l:tY mT vP LT [2] nN F Ks Us) {i:Nat} (hat:At t i (aS [44] Us++[[41]])):∃F',F'.map er=F.map er∧Ev (fun n=>fC t (gG t n 0) ⟨#[41]⟩ n) ⟨i,0,0⟩ (F',⟨i+(aS [44] Us).length+1,0,0⟩):=
 Fp (m:=mT) (e:=[41]) ⟨rfl,rfl,rfl⟩ (fun j h=>vP.of h rfl) (fun j h=>vP.of h rfl) (fun j h=>bQ h rfl) l hat
theorem aV {u:Wd} {us:List Wd} (h:okW u=true) (h2:∀v∈us,okW v=true):∀v∈u::us,okW v=true:=by
 intro v hv
 rcases List.mem_cons.1 hv with rfl|hv
 ·exact h
 ·exact h2 v hv
theorem bE {us vs:List Wd} (h:∀v∈us,okW v=true) (h2:∀v∈vs,okW v=true):∀v∈us++vs,okW v=true:=by
 intro v hv
 rcases List.mem_append.1 hv with hv|hv
 ·exact h v hv
 ·exact h2 v hv
theorem iZ:∀v∈([]:List Wd),okW v=true:=fun _ h=>by cases h
theorem JV {p:Int} {F:List (List Nr)} (h:∀x∈F,PT x):PT (jv 15 p F):=by
 by_cases h1:F.length=1
 ·obtain⟨y,rfl⟩:∃y,F=[y]:=List.length_eq_one_iff.1 h1
  exact h y (List.mem_cons_self ..)
 ·rw[oh h1]
  obtain⟨Ks,Us,l⟩:=Fw h
  refine PT.mk (us:=[40]::(aS [44] Us++[[41]])) (Ks:=Ks) l.pt (by constructor<;>intro e<;>first|exact absurd e (by decide)|exact l.lb) ?_ (aV rfl (bE (kF rfl l.ok) (by decide))) ⟨_,_,rfl,rfl⟩ ?_ (by unfold nN lab;simp) TU.tup
  ·show glue _=glue (bF [40] [41] Ks)
   unfold bF
   rw[aQ,aQ,aN,aN,iO l.gl]
  ·rintro t i ⟨a1,a2⟩ hf
   obtain⟨F',h2,h3⟩:=Ob l a2
   have hl:F'.length≠1:=by have:=congrArg List.length h2;simp at this;omega
   refine⟨nd 15 (t.pos i) 0 0 E0 F',bD h2,gT (Ev.to (j:=i+1+(aS [44] Us).length+1) ?_ (by simp only[List.length_cons,List.length_append,List.length_nil];omega))⟩
   have h4:Ev (fun _=>ret (jv 15 (t.pos i) F')) ⟨i+1+(aS [44] Us).length+1,0,0⟩ (nd 15 (t.pos i) 0 0 E0 F',⟨i+1+(aS [44] Us).length+1,0,0⟩):=by
    rw[oh hl];exact Ev.ret'
   unfold iN;exact evs
theorem Ey {s:ByteArray} (hs:qp s):lG s.data.toList=[s.data.toList]:=by
 unfold lG
 have:s.data.toList≠[]:=fun e=>by
  have:=hs.1
  rw[e] at this
  exact absurd this (by decide)
 cases h:s.data.toList with
 |nil=>exact absurd h this
 |cons a b=>rfl
theorem JW {p n:Int} {s:ByteArray} {y:List Nr} (hs:s=E0∨qp s) (hn:n=0∨n=1) (h:PT y):PT (nd 16 p n 0 s [y]):=by
 obtain⟨⟨K,u,b⟩,-⟩:=h
 have hg:Gr 16 n 0 s ([y].map bA):=by
  constructor<;>intro e<;>first|exact absurd e (by decide)|exact⟨hn,_,rfl,b.lb⟩
 obtain⟨w,hw⟩:∃w,w=lG s.data.toList++aC (n==1) [[109,117,116]]:=⟨_,rfl⟩
 refine PT.mk (us:=[38]::(w++u)) (Ks:=[K]) ⟨b.pt,trivial⟩ hg ?_ ?_ ⟨_,_,rfl,rfl⟩ ?_ (by unfold nN lab;simp) (TU.ne (by decide))
 ·show glue _=glue ([38]::(lG _++(aC (n==1) [[109,117,116]]++bB [K])))
  rw[hw]
  simp only[aQ,aN,bB,List.map_cons,List.map_nil,List.flatten_cons,List.flatten_nil,List.append_nil,b.gl,List.append_assoc]
 ·refine aV rfl (bE ?_ b.ok)
  rw[hw]
  refine bE ?_ ?_
  ·rcases hs with rfl|hs
   ·exact iZ
   ·rw[Ey hs];exact aV hs.2 iZ
  ·rcases hn with rfl|rfl<;>decide
 ·rintro t i ⟨a1,a2⟩ hf
  have key:∀j,At t j u→vP t (j+u.length)→∃y',er y'=er y∧Ev (fun n=>gG t n 0) ⟨j,0,0⟩ (y',⟨j+u.length,0,0⟩):=fun j hj hf=>b.rd t j hj hf
  have hh:∀j,At t j u→cu t j LT [2]:=fun j hj=>hj.head b.hd
  obtain⟨a3,a4⟩:=a2.app
  have hf':vP t (i+1+w.length+u.length):=by
   have e:i+([38]::(w++u)).length=i+1+w.length+u.length:=by simp only[List.length_cons,List.length_append];omega
   rw[e] at hf
   exact hf
  obtain⟨y',h1,h2⟩:=key _ a4 hf'
  have h3:=hh _ a4
  refine⟨nd 16 (t.pos i) n 0 s [y'],bD (by simp[h1]),gT (Ev.to (j:=i+1+w.length+u.length) ?_ (by simp only[List.length_cons,List.length_append];omega))⟩
  subst hw
  rcases hs with rfl|hs
  ·rcases hn with rfl|rfl
   ·have h2':Ev (fun n=>gG t n 0) ⟨i+1,0,0⟩ (y',⟨i+1+u.length,0,0⟩):=h2
    have h3':cu t (i+1) LT [2]:=h3
    unfold iN pI;exact evs
   ·have a5:dI t (i+1) [109,117,116]:=a3.1
    have h2':Ev (fun n=>gG t n 0) ⟨i+1+1,0,0⟩ (y',⟨i+1+1+u.length,0,0⟩):=h2
    unfold iN pI;exact evs
  ·rw[Ey hs] at a3 h2 h3⊢
   have a6:dI t (i+1) s.data.toList:=a3.1
   have hk:bf t (i+1) 0 0 4=true:=(kE a6).trans (by rw[hs.1];rfl)
   have hl:=Dt hs a6
   have hc:cu t (i+1) [] [4]:=⟨_,a6,.inr (by rw[hs.1];rfl)⟩
   rcases hn with rfl|rfl
   ·have h2':Ev (fun n=>gG t n 0) ⟨i+1+1,0,0⟩ (y',⟨i+1+1+u.length,0,0⟩):=h2
    have h3':cu t (i+1+1) LT [2]:=h3
    unfold iN pI;exact evs
   ·have a5:dI t (i+1+1) [109,117,116]:=a3.2.1
    have h2':Ev (fun n=>gG t n 0) ⟨i+1+1+1,0,0⟩ (y',⟨i+1+1+1+u.length,0,0⟩):=h2
    unfold iN pI;exact evs
end Go.Proofs.YtdplogkmkgekdaaGreatDoor.Bk
