/- Parse of print: what is read is printed so that it is read back. -/
import Derived.Test.YtdplogkmkgekdaaGreatDoorBkf
set_option linter.all false
set_option maxRecDepth 100000
set_option maxHeartbeats 4000000
namespace Go.Proofs.YtdplogkmkgekdaaGreatDoor.Bk
section
variable {t:Tk} {T:GP (List Nr)} {fu:Nat}
abbrev uq (T:GP (List Nr)):Prop:=(∀i,wp T (fun x _=>PT x) i)∧Sy T
theorem Vk {β:Type} {Q:β→Nat→Prop} {f:ByteArray→GP β} (hg:GT t) (hs:∀s,Sy (f s)) {i:Nat} (h:∀s j,(s=E0∨qp s)→wp (f s) Q j):wp (bnd (fB t 0 4) (fun b=>bnd (cond b (dW t) (ret E0)) f)) Q i:=by
 refine jq ?_
 refine av (R:=fun s _=>s=E0∨qp s) (wp_cond (fun _=>(zM hg i).mono fun s j h=>.inr h.1) (fun _=>wp_ret (.inl rfl))) hs (fun s j hs=>h s j hs)
theorem yJ {i:Nat}:wp (jC t) (fun n _=>n=0∨n=1) i:=by
 unfold jC
 exact aZ (fun _=>wp_cond (fun _=>wp_ret (.inr rfl)) (fun _=>wp_ret (.inl rfl))) (fun _=>wp_cond (fun _=>wp_ret (.inr rfl)) (fun _=>wp_ret (.inl rfl)))
theorem Vl {i:Nat}:wp (jR t) (fun n _=>n=0∨n=1∨n=2) i:=by
 unfold jR
 refine aZ (fun _=>wp_cond (fun _=>wp_ret (.inr (.inl rfl))) (fun h=>by cases h)) (fun _=>wp_cond (fun h=>by cases h) (fun _=>aZ (fun _=>wp_cond (fun _=>wp_ret (.inr (.inr rfl))) (fun h=>by cases h)) (fun _=>wp_cond (fun h=>by cases h) (fun _=>wp_ret (.inl rfl)))))
theorem Yd (hg:GT t) (hT:uq T) (i:Nat):wp (pI t T) (fun x _=>PT x) i:=by
 have sT:=hT.2
 unfold pI
 refine bM (bJ (fq (Vk hg (fun _=>aA) fun s j hs=>?_)))
 refine av yJ (fun _=>aA) fun n j2 hn=>?_
 refine av (hT.1 _) (fun _=>aA) fun y j3 hy=>?_
 exact wp_cond (fun _=>wp_ret (JW (.inl rfl) (.inl rfl) (JW hs hn hy))) (fun _=>wp_ret (JW hs hn hy))
theorem Ta (hg:GT t) (hT:uq T) (i:Nat):wp (qw t T fu) (fun F _=>∃A B,F=A++B∧(∀x∈A,PL x)∧∀x∈B,PT x) i:=by
 have sT:=hT.2
 unfold qw
 refine av (R:=fun x _=>∀y∈x.1,PL y) (wp_loop (I:=fun x _=>∀y∈x.1,PL y) (fun _=>aA) ?_ fu _ _ (fun _ h=>by cases h)) (fun _=>aA) ?_
 ·intro x j hx
  refine jq (wp_cond (fun _=>av (yI hg j) (fun _=>aA) ?_) (fun _=>wp_ret ⟨(fun h=>by cases h),fun _=>hx⟩))
  rintro y j2 ⟨⟨p,s,hs,rfl⟩,-,-⟩
  have key:∀z∈x.1++[nd 19 p 0 0 s []],PL z:=fun z hz=>by
   rcases List.mem_append.1 hz with hz|hz
   ·exact hx z hz
   ·obtain rfl:z=_:=by simpa using hz
    exact nL hs
  exact aZ (fun _=>wp_cond (fun _=>wp_ret ⟨(fun h=>by cases h),fun _=>key⟩) (fun h=>by cases h)) (fun _=>wp_cond (fun h=>by cases h) (fun _=>aO aA fun _=>wp_ret ⟨fun _=>key,(fun h=>by cases h)⟩))
 ·intro x j hx
  refine wp_cond (fun _=>wp_ret ⟨x.1,[],by simp,hx,fun _ h=>(by cases h)⟩) (fun _=>(JU hT.1 hT.2 _ _).mono ?_)
  rintro F j2 ⟨F2,rfl,-,h⟩
  exact⟨x.1,F2,rfl,hx,h⟩
theorem Ye (hg:GT t) (hT:uq T) (i:Nat):wp (iN t T fu) (fun x _=>PT x) i:=by
 have sT:=hT.2
 unfold iN
 refine bM (aZ (fun _=>wp_cond (fun _=>wp_ret QB) (fun h=>by cases h)) (fun _=>wp_cond (fun h=>by cases h) (fun _=>?_)))
 refine aZ (fun _=>wp_cond (fun _=>wp_ret X6) (fun h=>by cases h)) (fun _=>wp_cond (fun h=>by cases h) (fun _=>?_))
 refine aZ (fun _=>wp_cond (fun _=>av (uN hT.1 hT.2 _) (fun _=>aA) fun F j hF=>wp_ret (JV hF)) (fun h=>by cases h)) (fun _=>wp_cond (fun h=>by cases h) (fun _=>?_))
 refine bJ (bJ (wp_cond (fun _=>Yd hg hT i) (fun _=>?_)))
 refine aZ (fun _=>wp_cond (fun _=>?_) (fun h=>by cases h)) (fun _=>wp_cond (fun h=>by cases h) (fun _=>?_))
 ·refine Vk hg (fun _=>aA) fun s j hs=>?_
  refine av Vl (fun _=>aA) fun n j2 hn=>aO aA fun _=>?_
  refine av (uN hT.1 hT.2 _) (fun _=>aA) fun F j3 hF=>aO aA fun _=>?_
  exact av (hT.1 _) (fun _=>aA) fun y j4 hy=>wp_ret (aee hs hn hF hy)
 ·refine av (nV hg (by decide) _) (fun _=>aA) ?_
  rintro s j ⟨⟨n,r,hp⟩,-,-⟩
  refine aZ (fun _=>wp_cond (fun _=>av (Ta hg hT _) (fun _=>aA) ?_) (fun h=>by cases h)) (fun _=>wp_cond (fun h=>by cases h) (fun _=>wp_ret (MH (A:=[]) (B:=[]) hp (fun _ h=>by cases h) (fun _ h=>by cases h))))
  rintro F j2 ⟨A,B,rfl,hA,hB⟩
  exact wp_ret (MH hp hA hB)
end
theorem Vm {d:Nat} (h:d<10):wN (UInt8.ofNat (48+d))=true∧(UInt8.ofNat (48+d)).toNat - 48=d:=by
 have h1:(UInt8.ofNat (48+d)).toNat=48+d:=by
  rw[UInt8.toNat_ofNat']
  omega
 refine⟨?_,by omega⟩
 unfold wN
 rw[h1]
 simp
 omega
theorem QG (u:Wd) (c:UInt8):qJ (u++[c])=qJ u*10+(c.toNat - 48):=by unfold qJ;rw[List.foldl_append];rfl
theorem abL:∀(k v:Nat),v≤k→(Lib.decDigits v≠[]∧(∀c∈Lib.decDigits v,wN c=true)∧qJ (Lib.decDigits v)=v):=by
 intro k
 induction k with
 |zero=>
  intro v hv
  obtain rfl:v=0:=by omega
  rw[Lib.decDigits,dif_pos (by decide)]
  exact⟨by simp,by decide,by decide⟩
 |succ k ih=>
  intro v hv
  by_cases h:v<10
  ·rw[Lib.decDigits,dif_pos h]
   have:=Vm h
   refine⟨by simp,?_,?_⟩
   ·intro c hc
    obtain rfl:=List.mem_singleton.1 hc
    exact this.1
   ·show(0*10+_)=v
    rw[this.2];omega
  ·rw[Lib.decDigits,dif_neg h]
   obtain⟨h1,h2,h3⟩:=ih (v/10) (by omega)
   have h4:v%10<10:=Nat.mod_lt _ (by decide)
   have:=Vm h4
   refine⟨by simp,?_,?_⟩
   ·intro c hc
    rcases List.mem_append.1 hc with hc|hc
    ·exact h2 c hc
    ·obtain rfl:=List.mem_singleton.1 hc
     exact this.1
   ·rw[QG,h3,this.2]
    omega
structure isNum (u:Wd) (v:Nat):Prop where
 wk:wk u=1
 ok:okW u=true
 nv:qJ u=v
theorem yK {v:Nat} (h:v≤9223372036854775807):isNum (Lib.decDigits v) v:=by
 obtain⟨h1,h2,h3⟩:=abL v v (Nat.le_refl _)
 have hall:(Lib.decDigits v).all wN=true:=by rw[List.all_eq_true];exact h2
 cases e:Lib.decDigits v with
 |nil=>exact absurd e h1
 |cons c r=>
  have hc:wN c=true:=h2 c (by rw[e];exact List.mem_cons_self ..)
  rw[e] at h3 hall
  refine⟨by simp[wk,hc],?_,h3⟩
  simp only[okW,hc,if_true,hall,Bool.true_and,decide_eq_true_eq]
  rw[h3];exact h
theorem zN {t:Tk} {i:Nat} {u:Wd} {v:Nat} (h:dI t i u) (hu:isNum u v):t.num i=v:=(h.nu hu.wk).trans hu.nv
theorem Dv {t:Tk} {i:Nat} {u:Wd} {v:Nat} (h:dI t i u) (hu:isNum u v):bf t i 0 0 1=true:=(kE h).trans (by rw[hu.wk];rfl)
theorem aef {t:Tk} {i:Nat} {u:Wd} {v:Nat} (h:dI t i u) (hu:isNum u v):cu t i [] [1]:=⟨_,h,.inr (by rw[hu.wk];rfl)⟩
theorem zO {v:Nat}:Lib.itoa (v:Int)=Lib.decDigits v:=by
 unfold Lib.itoa
 rw[if_neg (by omega)]
 simp
def GL (t:Tk) (j:Nat):Prop:=cu t j [[44],[41],[61,62]] []
abbrev LP:List Wd:=[[95],[45],[116,114,117,101],[102,97,108,115,101],[40],[114,101,102],[109,117,116]]
abbrev mP:Tk→Nat→GP (List Nr):=fun t n=>gG t n 5
def PP (x:List Nr):Prop:=∃K us,Bk mP GL LP [1,2] dB x K us
theorem PP.mk {k p n m:Int} {s:ByteArray} {F:List (List Nr)} {Ks:List Kd} {us:List Wd} (hz:Zip Pt F Ks) (hg:Gr k n m s (F.map bA)) (gl:glue us=glue (asm k n m s.data.toList Ks)) (ok:∀u∈us,okW u=true) (hd:∃u r,us=u::r∧(LP.contains u||[1,2].contains (wk u))=true) (rd:qC mP GL (nd k p n m s F) us) (lb:dB (lab k n m s F.length)):PP (nd k p n m s F):=
 ⟨_,us,Pt.nd hz hg,gl,ok,hd,rd,lb⟩
theorem gP {t:Tk} {s:Rs} {r:List Nr × Rs} (h:Ev (fun n=>bN t (gG t n 5) n) s r):Ev (mP t) s r:=Ev.up h (fun _=>rfl)
theorem GL.of {t:Tk} {j:Nat} {u:Wd} (h:dI t j u) (e:([[44],[41],[61,62]]:List Wd).contains u=true):GL t j:=⟨u,h,.inl e⟩
theorem abM {p:Int}:PP (nd 49 p 0 0 E0 []):=by
 refine PP.mk (us:=[[95]]) (Ks:=[]) trivial (Gr.free (by unfold xV;omega)) rfl (by decide) ⟨_,_,rfl,rfl⟩ ?_ (by unfold dB lab;simp)
 rintro t i ⟨a1,-⟩ hf
 exact⟨nd 49 (t.pos i) 0 0 E0 [],rfl,gP (by unfold bN;exact evs)⟩
theorem MI {p n:Int} (hn:n=0∨n=1):PP (nd 52 p n 0 E0 []):=by
 have hg:Gr 52 n 0 E0 (([]:List (List Nr)).map bA):=by constructor<;>intro e<;>first|exact absurd e (by decide)|exact hn
 rcases hn with rfl|rfl
 ·refine PP.mk (us:=[[102,97,108,115,101]]) (Ks:=[]) trivial hg rfl (by decide) ⟨_,_,rfl,rfl⟩ ?_ (by unfold dB lab;simp)
  rintro t i ⟨a1,-⟩ hf
  exact⟨nd 52 (t.pos i) 0 0 E0 [],rfl,gP (by unfold bN;exact evs)⟩
 ·refine PP.mk (us:=[[116,114,117,101]]) (Ks:=[]) trivial hg rfl (by decide) ⟨_,_,rfl,rfl⟩ ?_ (by unfold dB lab;simp)
  rintro t i ⟨a1,-⟩ hf
  exact⟨nd 52 (t.pos i) 1 0 E0 [],rfl,gP (by unfold bN;exact evs)⟩
theorem Yf {u:Wd} {v:Nat} (h:isNum u v):Lib.trimPrefix u [45]=u:=by
 unfold Lib.trimPrefix Lib.hasPrefix
 cases u with
 |nil=>rfl
 |cons c r=>
  have:c≠45:=fun e=>by
   have h1:=h.wk
   subst e
   exact absurd h1 (by simp[Bk.wk,wN,Ac])
  rw[if_neg]
  simp
  exact fun e=>this e.symm
theorem QH {p:Int} {v:Nat} (hv:v≤9223372036854775807):PP (nd 51 p v 0 E0 []):=by
 have hg:Gr 51 (v:Int) 0 E0 (([]:List (List Nr)).map bA):=by constructor<;>intro e<;>first|exact absurd e (by decide)|omega
 have hu:=yK hv
 refine PP.mk (us:=[Lib.decDigits v]) (Ks:=[]) trivial hg ?_ (aV hu.ok iZ) ⟨_,_,rfl,by rw[hu.wk];exact Bool.or_true _⟩ ?_ (by unfold dB lab;simp)
 ·show _=glue (aC (decide ((v:Int)<0)) [[45]]++[Lib.trimPrefix (Lib.itoa v) [45]])
  rw[zO,Yf hu,show decide ((v:Int)<0)=false by simp]
  rfl
 ·rintro t i ⟨a1,-⟩ hf
  have c1:=aef a1 hu
  have k1:=Dv a1 hu
  have n1:=zN a1 hu
  refine⟨nd 51 (t.pos i) v 0 E0 [],bD rfl,gP ?_⟩
  have k2:Ev (fun _=>qh t) ⟨i,0,0⟩ ((v:Int),⟨i,0,0⟩):=by rw[←n1];exact xX
  unfold bN
  refine Ev.ak bL (Ev.ak (dn AY) (Ev.no AY (Ev.ak (dn AY) (Ev.no AY (Ev.ak dz (Ev.yes k1 (Ev.ak k2 (Ev.seq iJ ?_))))))))
  exact evs
theorem abN {p:Int} {v:Nat} (hv:v≤9223372036854775807):PP (nd 51 p (-(v:Int)) 0 E0 []):=by
 by_cases h0:v=0
 ·subst h0
  exact QH (v:=0) (by decide)
 have hg:Gr 51 (-(v:Int)) 0 E0 (([]:List (List Nr)).map bA):=by constructor<;>intro e<;>first|exact absurd e (by decide)|omega
 have hu:=yK hv
 refine PP.mk (us:=[[45],Lib.decDigits v]) (Ks:=[]) trivial hg ?_ (aV rfl (aV hu.ok iZ)) ⟨_,_,rfl,rfl⟩ ?_ (by unfold dB lab;simp)
 ·show _=glue (aC (decide (-(v:Int)<0)) [[45]]++[Lib.trimPrefix (Lib.itoa (-(v:Int))) [45]])
  have e1:Lib.itoa (-(v:Int))=45::Lib.decDigits v:=by
   unfold Lib.itoa
   rw[if_pos (by omega)]
   simp
  rw[e1,show decide (-(v:Int)<0)=true by simp;omega]
  rfl
 ·rintro t i ⟨a1,a2,-⟩ hf
  have k1:=Dv a2 hu
  have n1:=zN a2 hu
  refine⟨nd 51 (t.pos i) (-(v:Int)) 0 E0 [],bD rfl,gP ?_⟩
  have k2:Ev (fun _=>qh t) ⟨i+1,0,0⟩ ((v:Int),⟨i+1,0,0⟩):=by rw[←n1];exact xX
  unfold bN
  refine Ev.ak bL (Ev.ak (dn AY) (Ev.no AY (Ev.ak (iV GH) (Ev.yes rfl (Ev.ak dz (Ev.yes k1 (Ev.ak k2 (Ev.seq iJ ?_))))))))
  exact evs
theorem abO {F:List (List Nr)} (h:∀x∈F,PP x):∃Ks Us,tY mP GL LP [1,2] dB F Ks Us:=nJ h
theorem oN {t:Tk} {F:List (List Nr)} {Ks:List Kd} {Us:List (List Wd)} (l:tY mP GL LP [1,2] dB F Ks Us) {i:Nat} (hat:At t i (aS [44] Us++[[41]])):∃F',F'.map er=F.map er∧Ev (fun n=>fC t (gG t n 5) ⟨#[41]⟩ n) ⟨i,0,0⟩ (F',⟨i+(aS [44] Us).length+1,0,0⟩):=
 Fp (m:=mP) (e:=[41]) ⟨rfl,rfl,rfl⟩ (fun j h=>GL.of h rfl) (fun j h=>GL.of h rfl) (fun j h=>bQ h rfl) l hat
theorem abP {p:Int} {F:List (List Nr)} (h:∀x∈F,PP x):PP (jv 53 p F):=by
 by_cases h1:F.length=1
 ·obtain⟨y,rfl⟩:∃y,F=[y]:=List.length_eq_one_iff.1 h1
  exact h y (List.mem_cons_self ..)
 ·rw[oh h1]
  obtain⟨Ks,Us,l⟩:=abO h
  refine PP.mk (us:=[40]::(aS [44] Us++[[41]])) (Ks:=Ks) l.pt (by constructor<;>intro e<;>first|exact absurd e (by decide)|exact l.lb) ?_ (aV rfl (bE (kF rfl l.ok) (by decide))) ⟨_,_,rfl,rfl⟩ ?_ (by unfold dB lab;simp)
  ·show glue _=glue (bF [40] [41] Ks)
   unfold bF
   rw[aQ,aQ,aN,aN,iO l.gl]
  ·rintro t i ⟨a1,a2⟩ hf
   obtain⟨F',h2,h3⟩:=oN l a2
   have hl:F'.length≠1:=by have:=congrArg List.length h2;simp at this;omega
   refine⟨nd 53 (t.pos i) 0 0 E0 F',bD h2,gP (Ev.to (j:=i+1+(aS [44] Us).length+1) ?_ (by simp only[List.length_cons,List.length_append,List.length_nil];omega))⟩
   have h4:Ev (fun _=>ret (jv 53 (t.pos i) F')) ⟨i+1+(aS [44] Us).length+1,0,0⟩ (nd 53 (t.pos i) 0 0 E0 F',⟨i+1+(aS [44] Us).length+1,0,0⟩):=by
    rw[oh hl];exact Ev.ret'
   unfold bN;exact evs
theorem BN {p:Int} {s:ByteArray} {n m:Int} (hs:nI s) (hn:(n=0∧m=0)∨(n=0∧m=1)∨(n=1∧m=0)∨(n=2∧m=0)):PP (nd 50 p n m s []):=by
 have hp:qD 3 s s []:=⟨rfl,hs,fun _ h=>(by cases h),by decide⟩
 have afl:(!(s.toList.contains 58))=true:=by
  rw[Lib.toList_data]
  have:=hs.ne.2
  simpa using this
 refine PP.mk (us:=(aC (decide (0<n)) [[114,101,102]]++aC (n==2||m==1) [[109,117,116]])++[s.data.toList]) (Ks:=[]) trivial (Gr.free (by unfold xV;omega)) ?_ ?_ ?_ ?_ (by unfold dB lab;simp)
 ·show _=glue (aC (decide (0<n)) [[114,101,102]]++(aC (n==2||m==1) [[109,117,116]]++[s.data.toList]))
  rw[List.append_assoc]
 ·refine bE ?_ (aV hs.2 iZ)
  rcases hn with⟨rfl,rfl⟩|⟨rfl,rfl⟩|⟨rfl,rfl⟩|⟨rfl,rfl⟩<;>decide
 ·rcases hn with⟨rfl,rfl⟩|⟨rfl,rfl⟩|⟨rfl,rfl⟩|⟨rfl,rfl⟩
  ·exact⟨_,_,rfl,by rw[hs.1];exact Bool.or_true _⟩
  ·exact⟨_,_,rfl,rfl⟩
  ·exact⟨_,_,rfl,rfl⟩
  ·exact⟨_,_,rfl,rfl⟩
 ·intro t i hat hf
  have hf':cu t (i+((aC (decide (0<n)) [[114,101,102]]++aC (n==2||m==1) [[109,117,116]])++[s.data.toList]).length) [[44],[41],[61,62]] []:=hf
  refine⟨nd 50 (t.pos i) n m s [],bD rfl,gP ?_⟩
  rcases hn with⟨rfl,rfl⟩|⟨rfl,rfl⟩|⟨rfl,rfl⟩|⟨rfl,rfl⟩
  ·have a1:dI t i s.data.toList:=hat.1
   have c0:cu t i [] [2]:=⟨_,a1,.inr (by rw[hs.1];rfl)⟩
   have k1:Ev (fun fu=>iq t fu 3) ⟨i,0,0⟩ (s,⟨i+1,0,0⟩):=qY hp (i:=i) ⟨a1,trivial⟩ (bQ hf' rfl)
   unfold bN
   exact evs
  ·obtain⟨a1,a2,-⟩:At t i [[109,117,116],s.data.toList]:=hat
   unfold bN
   exact evs
  ·obtain⟨a1,a2,-⟩:At t i [[114,101,102],s.data.toList]:=hat
   have c0:cu t (i+1) [] [2]:=⟨_,a2,.inr (by rw[hs.1];rfl)⟩
   unfold bN
   exact evs
  ·obtain⟨a1,a2,a3,-⟩:At t i [[114,101,102],[109,117,116],s.data.toList]:=hat
   unfold bN
   exact evs
theorem qD.col {most:Nat} {s n:ByteArray} {r:List ByteArray} (h:qD most s n r) (hr:r≠[]):(!(s.toList.contains 58))=false:=by
 rw[Lib.toList_data,h.eq,Fq]
 cases r with
 |nil=>exact absurd rfl hr
 |cons a r=>simp[pb]
theorem qD.aeg {most:Nat} {s n:ByteArray} {r:List ByteArray} (h:qD most s n r) (hc:(!(s.toList.contains 58))=true):r=[]∧s=n:=by
 cases r with
 |nil=>exact⟨rfl,h.eq⟩
 |cons a r=>
  rw[h.col (by simp)] at hc
  cases hc
theorem MJ {Ks:List Kd} (h:Ks≠[]):ql Ks=bF [40] [41] Ks:=by
 unfold ql
 rw[if_neg (by simpa using h)]
theorem MK {p:Int} {s n:ByteArray} {r:List ByteArray} {F:List (List Nr)} (hp:qD 3 s n r) (hr:r≠[]) (h:∀x∈F,PP x):PP (nd 54 p 0 0 s F):=by
 obtain⟨Ks,Us,l⟩:=abO h
 have hg:Gr 54 0 0 s (F.map bA):=by constructor<;>intro e<;>first|exact absurd e (by decide)|exact⟨hp.path,l.lb⟩
 have afl:=hp.col hr
 obtain⟨ws,hws⟩:∃ws:List Wd,ws=if F=[] then [] else [40]::(aS [44] Us++[[41]]):=⟨_,rfl⟩
 refine PP.mk (us:=pw n r++ws) (Ks:=Ks) l.pt hg ?_ ?_ ⟨_,_,rfl,by rw[hp.nm.1];exact Bool.or_true _⟩ ?_ (by unfold dB lab;simp)
 ·show glue _=glue (jQ s.data.toList::ql Ks)
  rw[←hp.glue,hws,aN,aN]
  congr 1
  by_cases h0:F=[]
  ·rw[if_pos h0]
   have:Ks=[]:=by
    have:=l.pt.len
    rw[h0] at this
    exact List.length_eq_zero_iff.1 this.symm
   rw[this];rfl
  ·rw[if_neg h0,MJ (l.pt.ne h0)]
   unfold bF
   rw[aQ,aQ,aN,aN,iO l.gl]
 ·refine bE hp.ok ?_
  rw[hws]
  by_cases h0:F=[]
  ·rw[if_pos h0];exact iZ
  ·rw[if_neg h0]
   exact aV rfl (bE (kF rfl l.ok) (by decide))
 ·intro t i hat hf
  obtain⟨a1,a2⟩:=hat.app
  have c0:cu t i [] [2]:=⟨_,a1.1,.inr (by rw[hp.nm.1];rfl)⟩
  have e0:i+(pw n r++ws).length=i+(pw n r).length+ws.length:=by rw[List.length_append];omega
  rw[e0] at hf⊢
  subst hws
  by_cases h0:F=[]
  ·rw[if_pos h0] at hf a2⊢
   have hf':cu t (i+(pw n r).length) [[44],[41],[61,62]] []:=hf
   have k1:=qY hp a1 (bQ hf' rfl)
   refine⟨nd 54 (t.pos i) 0 0 s [],?_,gP ?_⟩
   ·rw[h0];exact bD rfl
   ·unfold bN;exact evs
  ·rw[if_neg h0] at hf a2⊢
   obtain⟨a3,a4⟩:=a2
   have k1:=qY hp a1 (gY a3 rfl)
   obtain⟨F',h1,h2⟩:=oN l a4
   have c1:cu t (i+(pw n r).length+1) LP [1,2]:=by
    have hz:=l.rd
    cases F with
    |nil=>exact absurd rfl h0
    |cons x B=>
     cases Us with
     |nil=>exact hz.elim
     |cons u UB=>
      have:At t (i+(pw n r).length+1) (u++(jP [44] UB++[[41]])):=by rw[←List.append_assoc];exact a4
      exact this.app.1.head hz.1.2
   refine⟨nd 54 (t.pos i) 0 0 s F',bD h1,gP ?_⟩
   unfold bN;exact evs
section
variable {t:Tk} {T:GP (List Nr)} {fu:Nat}
abbrev QI (T:GP (List Nr)):Prop:=(∀i,wp T (fun x _=>PP x) i)∧Sy T
theorem Ll (hg:GT t) (hT:QI T) (i:Nat):wp (bN t T fu) (fun x _=>PP x) i:=by
 have sT:=hT.2
 unfold bN
 refine bM (aZ (fun _=>wp_cond (fun _=>wp_ret abM) (fun h=>by cases h)) (fun _=>wp_cond (fun h=>by cases h) (fun _=>?_)))
 refine aZ (fun _=>wp_cond (fun _=>jq (wp_cond (fun _=>vE (fq (wp_ret (abN (hg.nu _))))) (fun _=>qL aA))) (fun h=>by cases h)) (fun _=>wp_cond (fun h=>by cases h) (fun _=>?_))
 refine jq (wp_cond (fun _=>vE (fq (wp_ret (QH (hg.nu _))))) (fun _=>?_))
 refine bJ (bJ (wp_cond (fun _=>aZ (fun _=>wp_cond (fun _=>wp_ret (MI (.inr rfl))) (fun h=>by cases h)) (fun _=>wp_cond (fun h=>by cases h) (fun _=>aO aA fun _=>wp_ret (MI (.inl rfl))))) (fun _=>?_)))
 refine aZ (fun _=>wp_cond (fun _=>av (uN hT.1 hT.2 _) (fun _=>aA) fun F j hF=>wp_ret (abP hF)) (fun h=>by cases h)) (fun _=>wp_cond (fun h=>by cases h) (fun _=>?_))
 refine bJ (bJ (wp_cond (fun _=>?_) (fun _=>?_)))
 ·refine aZ (fun _=>wp_cond (fun _=>?_) (fun h=>by cases h)) (fun _=>wp_cond (fun h=>by cases h) (fun _=>?_))
  ·exact aZ (fun _=>wp_cond (fun _=>dF hg (fun _=>aA) fun s hs _=>wp_ret (BN hs (by simp))) (fun h=>by cases h)) (fun _=>wp_cond (fun h=>by cases h) (fun _=>dF hg (fun _=>aA) fun s hs _=>wp_ret (BN hs (by simp))))
  ·exact aO aA fun _=>dF hg (fun _=>aA) fun s hs _=>wp_ret (BN hs (by simp))
 ·refine av (nV hg (by decide) _) (fun _=>aA) ?_
  rintro s j ⟨⟨n,r,hp⟩,-,-⟩
  refine fF (wp_cond (fun hc=>?_) (fun hc=>?_))
  ·obtain⟨rfl,rfl⟩:=hp.aeg (by simpa using hc)
   exact wp_ret (BN hp.nm (by simp))
  ·have hr:r≠[]:=fun e=>by
    subst e
    have:=hp.nm.ne.2
    have e2:=hp.eq
    have e3:s=n:=e2
    subst e3
    rw[Lib.toList_data] at hc
    have h9:s.data.toList.contains 58=false:=by
     cases h:s.data.toList.contains 58
     ·rfl
     ·exact absurd (List.contains_iff_mem.1 h) this
    rw[h9] at hc
    exact absurd hc (by decide)
   refine bJ (wp_cond (fun _=>aO aA fun _=>bJ ?_) (fun _=>wp_ret (MK hp hr (fun _ h=>by cases h))))
   refine av (R:=fun _ _=>True) (wp_cond (fun _=>fun a r h1 h2=>trivial) (fun _=>wp_ret trivial)) (fun _=>aA) fun _ j2 _=>?_
   exact av (uN hT.1 hT.2 _) (fun _=>aA) fun F j hF=>wp_ret (MK hp hr hF)
end
def uU (t:Tk) (j:Nat) (ss:List ByteArray):Prop:=∀w∈ss,au t j 0 0 w=false
abbrev JX:List ByteArray:=[⟨#[42]⟩,⟨#[47]⟩,⟨#[37]⟩]
abbrev Oc:List ByteArray:=[⟨#[43]⟩,⟨#[45]⟩]
abbrev Od:List ByteArray:=[⟨#[61,61]⟩,⟨#[33,61]⟩,⟨#[60,61]⟩,⟨#[62,61]⟩,⟨#[60]⟩,⟨#[62]⟩]
abbrev afm:ByteArray:=⟨#[38,38]⟩
abbrev sOr:ByteArray:=⟨#[124,124]⟩
abbrev afn:ByteArray:=⟨#[61]⟩
abbrev Dw:List ByteArray:=[⟨#[45]⟩,⟨#[33]⟩,⟨#[42]⟩,⟨#[38]⟩,⟨#[38,38]⟩]
section
variable {t:Tk} {i j k:Nat} {u:Wd} {L:List Wd} {N:List Nat} {ss:List ByteArray} {w:ByteArray} {x l r:List Nr}
theorem kV (h:dI t j u) (e:ss.all (fun w=>!lT u w)=true):uU t j ss:=fun w hw=>by
 rw[wO h]
 have:=List.all_eq_true.1 e w hw
 simpa using this
theorem jI (h:cu t j L N) (e:(ss.all (fun w=>!(L.contains w.data.toList))&&N.all (fun q=>q !=5&&q !=3))=true):uU t j ss:=fun w hw=>by
 rw[Bool.and_eq_true] at e
 refine bQ h ?_
 rw[Bool.and_eq_true]
 exact⟨List.all_eq_true.1 e.1 w hw,e.2⟩
theorem QJ {ss:List ByteArray} (h:uU t j ss):(ss.find? (fun w=>au t j 0 0 w)).getD E0=E0:=by
 have:ss.find? (fun w=>au t j 0 0 w)=none:=by
  rw[List.find?_eq_none]
  intro w hw
  rw[h w hw]
  decide
 rw[this];rfl
theorem A9 (h:uU t j ss):Ev (fun _=>nZ t ss) ⟨j,0,0⟩ (E0,⟨j,0,0⟩):=by
 have e:(ss.find? (fun w=>au t j 0 0 w)).getD E0=E0:=QJ h
 refine Ev.of ?_
 show some ((ss.find? (fun w=>au t j 0 0 w)).getD E0,_)=_
 rw[e]
theorem wT (h:dI t j u) (e:(ss.find? (fun w=>lT u w))=some w):Ev (fun _=>nZ t ss) ⟨j,0,0⟩ (w,⟨j,0,0⟩):=by
 have h1:(fun w=>au t j 0 0 w)=(fun w=>lT u w):=by funext w;exact wO h
 refine Ev.of ?_
 show some ((ss.find? (fun w=>au t j 0 0 w)).getD E0,_)=_
 rw[h1,e];rfl
theorem JY {X:Nat→GP (List Nr)} (h:Ev X ⟨i,0,0⟩ (x,⟨j,0,0⟩)) (hn:uU t j ss):Ev (fun n=>mD t ss (X n) n) ⟨i,0,0⟩ (x,⟨j,0,0⟩):=by
 have h2:EvL (fun n=>rU t ss (X n)) x ⟨j,0,0⟩ (x,⟨j,0,0⟩):=by
  refine EvL.stop ?_
  have k1:=A9 hn
  unfold rU
  exact Ev.ak bT (Ev.yes rfl (Ev.ak k1 (Ev.yes rfl Ev.ret')))
 exact Ev.ak h h2.ev
theorem abQ {X:Nat→GP (List Nr)} (h1:Ev X ⟨i,0,0⟩ (l,⟨j,0,0⟩)) (hs:dI t j u) (e:(ss.find? (fun w=>lT u w))=some w) (e2:(w.size==0)=false) (h2:Ev X ⟨j+1,0,0⟩ (r,⟨k,0,0⟩)) (hn:uU t k ss):Ev (fun n=>mD t ss (X n) n) ⟨i,0,0⟩ (nd 29 (t.pos j) 0 0 w [l,r],⟨k,0,0⟩):=by
 have hw:lT u w=true:=by simpa using List.find?_some e
 have h3:EvL (fun n=>rU t ss (X n)) l ⟨j,0,0⟩ (nd 29 (t.pos j) 0 0 w [l,r],⟨k,0,0⟩):=by
  refine EvL.on (y:=nd 29 (t.pos j) 0 0 w [l,r]) (s2:=⟨k,0,0⟩) ?_ (EvL.stop ?_)
  ·unfold rU
   exact Ev.ak bT (Ev.yes rfl (Ev.ak (wT hs e) (Ev.no e2 (Ev.ak bL (Ev.seq (bP (fD hs hw)) (Ev.ak h2 Ev.ret'))))))
  ·unfold rU
   exact Ev.ak bT (Ev.yes rfl (Ev.ak (A9 hn) (Ev.yes rfl Ev.ret')))
 exact Ev.ak h1 h3.ev
theorem ch0 {q:Int} {X:Nat→GP (List Nr)} (h:Ev X ⟨i,0,0⟩ (x,⟨j,0,0⟩)) (hn:au t j 0 0 w=false):Ev (fun n=>oO t q w (X n) n) ⟨i,0,0⟩ (x,⟨j,0,0⟩):=by
 have h2:EvL (fun n=>uG t q w (X n)) x ⟨j,0,0⟩ (x,⟨j,0,0⟩):=by
  refine EvL.stop ?_
  unfold uG
  exact Ev.ak bT (Ev.ak aI (Ev.no (jf hn) Ev.ret'))
 exact Ev.ak h h2.ev
theorem ch1 {q:Int} {X:Nat→GP (List Nr)} (h1:Ev X ⟨i,0,0⟩ (l,⟨j,0,0⟩)) (hs:au t j 0 0 w=true) (h2:Ev X ⟨j+1,0,0⟩ (r,⟨k,0,0⟩)) (hn:au t k 0 0 w=false):Ev (fun n=>oO t q w (X n) n) ⟨i,0,0⟩ (nd q (t.pos j) 0 0 E0 [l,r],⟨k,0,0⟩):=by
 have h3:EvL (fun n=>uG t q w (X n)) l ⟨j,0,0⟩ (nd q (t.pos j) 0 0 E0 [l,r],⟨k,0,0⟩):=by
  refine EvL.on (y:=nd q (t.pos j) 0 0 E0 [l,r]) (s2:=⟨k,0,0⟩) ?_ (EvL.stop ?_)
  ·unfold uG
   exact Ev.ak bT (Ev.ak aI (Ev.yes (dR rfl hs) (Ev.ak bL (Ev.seq (bP hs) (Ev.ak h2 Ev.ret')))))
  ·unfold uG
   exact Ev.ak bT (Ev.ak aI (Ev.no (jf hn) Ev.ret'))
 exact Ev.ak h1 h3.ev
variable {U:Nat→GP (List Nr)}
theorem cmp0 (h:Ev (fun n=>kX t (U n) n) ⟨i,0,0⟩ (x,⟨j,0,0⟩)) (hn:uU t j Od):Ev (fun n=>pJ t (U n) n) ⟨i,0,0⟩ (x,⟨j,0,0⟩):=
 Ev.ak h (Ev.ak (A9 hn) (Ev.yes rfl Ev.ret'))
theorem afo (h1:Ev (fun n=>kX t (U n) n) ⟨i,0,0⟩ (l,⟨j,0,0⟩)) (hs:dI t j u) (e:(Od.find? (fun w=>lT u w))=some w) (e2:(w.size==0)=false) (h2:Ev (fun n=>kX t (U n) n) ⟨j+1,0,0⟩ (r,⟨k,0,0⟩)):Ev (fun n=>pJ t (U n) n) ⟨i,0,0⟩ (nd 29 (t.pos j) 0 0 w [l,r],⟨k,0,0⟩):=by
 have hw:lT u w=true:=by simpa using List.find?_some e
 exact Ev.ak h1 (Ev.ak (wT hs e) (Ev.no e2 (Ev.ak bL (Ev.seq (bP (fD hs hw)) (Ev.ak h2 Ev.ret')))))
theorem up_add (h:Ev U ⟨i,0,0⟩ (x,⟨j,0,0⟩)) (h1:uU t j JX) (h2:uU t j Oc):Ev (fun n=>kX t (U n) n) ⟨i,0,0⟩ (x,⟨j,0,0⟩):=JY (X:=fun n=>vH t (U n) n) (JY h h1) h2
theorem wU (h:Ev (fun n=>pJ t (U n) n) ⟨i,0,0⟩ (x,⟨j,0,0⟩)) (h4:au t j 0 0 afm=false):Ev (fun n=>qQ t (U n) n) ⟨i,0,0⟩ (x,⟨j,0,0⟩):=ch0 (X:=fun n=>pJ t (U n) n) h h4
theorem BO (h:Ev (fun n=>qQ t (U n) n) ⟨i,0,0⟩ (x,⟨j,0,0⟩)) (h4:au t j 0 0 sOr=false):Ev (fun n=>tC t (U n) n) ⟨i,0,0⟩ (x,⟨j,0,0⟩):=ch0 (X:=fun n=>qQ t (U n) n) h h4
theorem yL {E:Nat→GP (List Nr)} (h:Ev (fun n=>tC t (U n) n) ⟨i,0,0⟩ (x,⟨j,0,0⟩)) (h4:au t j 0 0 afn=false):Ev (fun n=>jN t (E n) (U n) n) ⟨i,0,0⟩ (x,⟨j,0,0⟩):=Ev.ak h (Ev.ak aI (Ev.no h4 Ev.ret'))
end
abbrev mE:Tk→Nat→GP (List Nr):=fun t n=>gG t n 1
abbrev mU:Tk→Nat→GP (List Nr):=fun t n=>gG t n 2
abbrev JZ:Tk→Nat→GP (List Nr):=fun t n=>gG t n 6
abbrev S1:List Wd:=[[59],[125],[41],[44],[93]]
abbrev S2:List Wd:=[[59],[125],[41],[44],[93],[123]]
def xI (t:Tk) (j:Nat):Prop:=cu t j S1 []
abbrev five:List Wd:=[[105,102],[109,97,116,99,104],[119,104,105,108,101],[108,111,111,112],[123]]
abbrev LE:List Wd:=[[105,102],[109,97,116,99,104],[119,104,105,108,101],[108,111,111,112],[123],[45],[33],[42],[38],[116,114,117,101],[102,97,108,115,101],[98,114,101,97,107],[110,101,120,116],[112,97,110,105,99],[114,101,116,117,114,110],[109,97,107,101],[102,110],[115,112,97,119,110],[40]]
abbrev LO:List Wd:=[[116,114,117,101],[102,97,108,115,101],[109,97,107,101],[40]]
section
variable {t:Tk} {i j:Nat} {x:List Nr}
theorem gE {s:Rs} {r:List Nr × Rs} (h:Ev (fun n=>jN t (gG t n 1) (gG t n 2) n) s r):Ev (mE t) s r:=Ev.up h (fun _=>rfl)
theorem gU {s:Rs} {r:List Nr × Rs} (h:Ev (fun n=>eG t (gG t n 2) (fK t (gG t n 1) (gG t n 6) n)) s r):Ev (mU t) s r:=Ev.up h (fun _=>rfl)
theorem tZ {s:Rs} {r:List Nr × Rs} (h:Ev (fun n=>aX t (gG t n 0) (gG t n 1) (gG t n 3) (gG t n 5) (gG t n 4) n) s r):Ev (JZ t) s r:=Ev.up h (fun _=>rfl)
theorem EA (h:Ev (mU t) ⟨i,0,0⟩ (x,⟨j,0,0⟩)) (hc:cu t j S2 []):Ev (mE t) ⟨i,0,0⟩ (x,⟨j,0,0⟩):=
 gE (yL (BO (wU (cmp0 (up_add h (jI hc rfl) (jI hc rfl)) (jI hc rfl)) (bQ hc rfl)) (bQ hc rfl)) (bQ hc rfl))
theorem s12 (hc:cu t j S1 []):cu t j S2 []:=hc.sub rfl
def Cy (x:List Nr) (os:List Wd):Prop:=∀(t:Tk) (i:Nat),At t i os→au t (i+os.length) 0 0 ⟨#[58,58]⟩=false→∃x',er x'=er x∧∀r,EvL (fun n=>eB t (gG t n 1) n) x' ⟨i+os.length,0,0⟩ r→Ev (fun n=>fK t (gG t n 1) (gG t n 6) n) ⟨i,0,0⟩ r
theorem GN {x:List Nr} (h1:au t j 0 0 ⟨#[40]⟩=false) (h2:au t j 0 0 ⟨#[46]⟩=false):EvL (fun n=>eB t (gG t n 1) n) x ⟨j,0,0⟩ (x,⟨j,0,0⟩):=by
 refine EvL.stop ?_
 unfold eB
 exact evs
theorem Cy.u {os:List Wd} (h:Cy x os) (hat:At t i os) (hd:cu t i LO [1,2]) (h0:au t (i+os.length) 0 0 ⟨#[58,58]⟩=false) (h1:au t (i+os.length) 0 0 ⟨#[40]⟩=false) (h2:au t (i+os.length) 0 0 ⟨#[46]⟩=false):∃x',er x'=er x∧Ev (mU t) ⟨i,0,0⟩ (x',⟨i+os.length,0,0⟩):=by
 obtain⟨x',e,hk⟩:=h t i hat h0
 have h3:=hk _ (GN h1 h2)
 exact⟨x',e,gU (Ev.ak bL (Ev.ak (A9 (jI hd rfl)) (Ev.yes rfl h3)))⟩
theorem Cy.e {os:List Wd} (h:Cy x os) (hat:At t i os) (hd:cu t i LO [1,2]) (hc:cu t (i+os.length) S2 []):∃x',er x'=er x∧Ev (mE t) ⟨i,0,0⟩ (x',⟨i+os.length,0,0⟩):=by
 obtain⟨x',e,h1⟩:=h.u hat hd (bQ hc rfl) (bQ hc rfl) (bQ hc rfl)
 exact⟨x',e,EA h1 hc⟩
theorem J2 {us:List Wd} (h:qC JZ (fun t j=>au t j 0 0 ⟨#[58,58]⟩=false) x us):Cy x us:=fun t i hat h0=>by
 obtain⟨x',e,h1⟩:=h t i hat h0
 exact⟨x',e,fun r hr=>Ev.ak h1 hr.ev⟩
theorem abR (h:Ev (JZ t) ⟨i,0,0⟩ (x,⟨j,0,0⟩)) (hd:uU t i Dw) (hc:cu t j S1 []):Ev (mE t) ⟨i,0,0⟩ (x,⟨j,0,0⟩):=
 EA (gU (Ev.ak bL (Ev.ak (A9 hd) (Ev.yes rfl (Ev.ak h (GN (bQ hc rfl) (bQ hc rfl)).ev))))) (s12 hc)
end
structure BX (x:List Nr) (K:Kd) (us os:List Wd):Prop where
 pt:Pt x K
 lb:dB (bA x)
 gl:glue us=glue K.t
 ok:∀u∈us,okW u=true
 hd:∃u r,us=u::r∧(LE.contains u||[1,2].contains (wk u))=true
 rd:qC mE xI x us
 al:∀u r,us=u::r→five.contains u=true→qC JZ xI x us
 yM:glue os=glue (gQ K)
 EB:∀u∈os,okW u=true
 Ba:∃u r,os=u::r∧(LO.contains u||[1,2].contains (wk u))=true
 EC:Cy x os
def PX (x:List Nr):Prop:=∃K us os,BX x K us os
theorem lo_le {us:List Wd} (h:∃u r,us=u::r∧(LO.contains u||[1,2].contains (wk u))=true):∃u r,us=u::r∧(LE.contains u||[1,2].contains (wk u))=true:=by
 obtain⟨u,r,h1,h2⟩:=h
 refine⟨u,r,h1,?_⟩
 rw[Bool.or_eq_true] at h2⊢
 rcases h2 with h2|h2
 ·refine .inl ?_
  simp only[List.contains_iff_mem,List.mem_cons,List.not_mem_nil,or_false] at h2⊢
  rcases h2 with h|h|h|h<;>simp[h]
 ·exact .inr h2
theorem PX.simple {x:List Nr} {K:Kd} {us:List Wd} (pt:Pt x K) (lb:dB (bA x)) (hk:nS K.k=true) (gl:glue us=glue K.t) (ok:∀u∈us,okW u=true) (hd:∃u r,us=u::r∧(LO.contains u||[1,2].contains (wk u))=true) (c:Cy x us):PX x:=by
 refine⟨K,us,us,pt,lb,gl,ok,lo_le hd,?_,?_,?_,ok,hd,c⟩
 ·intro t i hat hf
  exact c.e hat (hat.head hd) (s12 hf)
 ·rintro u r rfl h5
  exfalso
  obtain⟨v,q,e,h2⟩:=hd
  obtain⟨rfl,rfl⟩:=List.cons.inj e
  simp only[List.contains_iff_mem,List.mem_cons,List.not_mem_nil,or_false] at h5
  rcases h5 with rfl|rfl|rfl|rfl|rfl<;>exact absurd h2 (by decide)
 ·unfold gQ
  rw[if_pos hk]
  exact gl
theorem PX.other {x:List Nr} {K:Kd} {us:List Wd} (pt:Pt x K) (lb:dB (bA x)) (hk:nS K.k=false) (gl:glue us=glue K.t) (ok:∀u∈us,okW u=true) (hd:∃u r,us=u::r∧(LE.contains u||[1,2].contains (wk u))=true) (rd:qC mE xI x us) (al:∀u r,us=u::r→five.contains u=true→qC JZ xI x us):PX x:=by
 refine⟨K,us,[40]::(us++[[41]]),pt,lb,gl,ok,hd,rd,al,?_,aV rfl (bE ok (by decide)),⟨_,_,rfl,rfl⟩,?_⟩
 ·unfold gQ
  rw[if_neg (by rw[hk];decide)]
  simp only[aQ,aN,gl]
 ·refine J2 ?_
  rintro t i ⟨a1,a2⟩ hf
  obtain⟨a3,a4,-⟩:=a2.app
  obtain⟨x',e,h1⟩:=rd t (i+1) a3 (cu.of (L:=S1) (N:=[]) a4 rfl)
  have c1:=a3.head hd
  refine⟨x',e,tZ ?_⟩
  have h2:Ev (fun n=>gG t n 1) ⟨i+1,0,0⟩ (x',⟨i+1+us.length,0,0⟩):=h1
  have h3:EvL (fun n=>gH t (gG t n 1) ⟨#[41]⟩) [] ⟨i+1,0,0⟩ ([x'],⟨i+1+us.length+1,0,0⟩):=EvL.stop ((Fj (t:=t) (X:=fun n=>gG t n 1) (e:=⟨#[41]⟩)).last (o:=[]) h2 (fD a4 rfl))
  have h4:Ev (fun n=>fC t (gG t n 1) ⟨#[41]⟩ n) ⟨i+1,0,0⟩ ([x'],⟨i+1+us.length+1,0,0⟩):=Ev.ak (dn (bQ c1 rfl)) (Ev.no rfl h3.ev)
  have h5:Ev (fun _=>ret (jv 22 (t.pos i) [x'])) ⟨i+1+us.length+1,0,0⟩ (x',⟨i+([40]::(us++[[41]])).length,0,0⟩):=JG (by simp only[List.length_cons,List.length_append,List.length_nil];omega)
  unfold aX
  exact evs
end Go.Proofs.YtdplogkmkgekdaaGreatDoor.Bk
