/- Type parameters and lifetimes, counted. -/
import Derived.Test.YtagdihffmjopaaaGreatDoorMzg
import Derived.Test.YtagdihffmjopaaaGreatDoorApp
import Derived.Test.YtagdihffmjopaaaGreatDoorZOr
import Derived.Test.YtagdihffmjopaaaGreatDoorZPostfix
import Derived.Test.YtagdihffmjopaaaGreatDoorZWordC
import Derived.Test.YtagdihffmjopaaaGreatDoorZMake
import Derived.Test.YtagdihffmjopaaaGreatDoorZPatA
import Derived.Test.YtagdihffmjopaaaGreatDoorZResult
import Derived.Test.YtagdihffmjopaaaGreatDoorZTypfn
namespace Go.Proofs.YtagdihffmjopaaaGreatDoor
set_option linter.all false
open Go.RowKit
theorem isB_lt2 {t:Tk} {i:Nat} {k:Int} {s:ByteArray} (hg:t.Good) (h:isB t i k 1 s=true):i+2<t.len:=by
 simp[isB] at h
 obtain⟨_,h2,h3,_⟩:=h
 rcases Nat.lt_or_ge (i+2) t.len with h5|h5
 ·exact h5
 ·have e:i+1=t.len - 1:=by omega
  have hl:=hg.last
  rw[←e] at hl
  omega
set_option maxRecDepth 100000 in
set_option maxHeartbeats 1000000 in
theorem writtenZ (hT:∀N,tyQ 1 N):liQ 106 False fun ks=>∀x∈ks,noK x:=by
 intro w rb tb cap i t k a h
 have hl:=h.l
 go_enter Tryz.func106,Tryz.ntmps106
 have hi:(i:Int)<(t.len:Int):=by have:=h.lt;omega
 have hfew:(t.len:Int)≤6001:=by have:=h.good.few;omega
 have q:=Mz.start (wt:=1) h
 cases h1:isB t i k 0 ⟨#[58,58]⟩
 ·go_wp2_with fail
  refine q.lf (is41 · 0 (by decide) _) ?_
  clear q
  intro w1 q
  go_wp2_with fail
  go_ret
  exact Mz.post (d:=0) q (fun x=>x.elim) (by simp) (fun _ x hx=>by cases hx) (by omega)
 ·cases h2:isB t i k 1 ⟨#[60]⟩
  ·go_wp2_with fail
   refine q.lf (is41 · 0 (by decide) _) ?_
   clear q
   intro w2 q
   go_wp2_with fail
   refine q.lf (is41 · 1 (by decide) _) ?_
   clear q
   intro w3 q
   go_wp2_with fail
   go_ret
   exact Mz.post (d:=0) q (fun x=>x.elim) (by simp) (fun _ x hx=>by cases hx) (by omega)
  ·have hlt2:i+2<t.len:=isB_lt2 h.good h2
   have HK:Hid (k=0):=(isB_lt h.good h.lt h1).1
   go_wp2_with fail
   refine q.lf (is41 · 0 (by decide) _) ?_
   clear q
   intro w4 q
   go_wp2_with fail
   refine q.lf (is41 · 1 (by decide) _) ?_
   clear q
   intro w5 q
   have r1:=q.st.rd.r1
   have fr1:=q.st.rd.fz 1
   have lr:=q.st.rd.l
   go_wp2_with fail
   go_loopg [3] (ml t (i+2) k) (fun g v wr=>∃(vs:List (List Value)) (j:Nat) (kj aj:Int),g=ml t j kj∧Few 0 vs j kj∧(kj=0→(fun ks=>∀x∈ks,noK x) (vs.map labOf))∧Mz 1 w rb tb cap t i k False (-16) wr j kj aj [] [] v vs)
   case atStart=>exact⟨[],(i+2),k,a,rfl,⟨fun _=>by simp,by simp⟩,(fun e=>(fun x hx=>by cases hx)),((q.goI (j':=i+2) hlt2 (by omega)).up (fun x=>x.elim)).less (by omega)⟩
   case round=>
    clear r1 fr1 lr q
    obtain⟨vs,j,kj,aj,hgk,hF,hC0,q⟩:=hrel
    have HC:Hid (kj=0→(fun ks=>∀x∈ks,noK x) (vs.map labOf)):=hC0
    clear hC0
    have hj:=q.st.rd.lt
    have hposJ:(0:Int)≤(t.pos j:Int)∧(t.pos j:Int)≤7000:=by have:=h.good.posb j;omega
    have HG:Hid (gk=ml t j kj):=hgk
    clear hgk
    obtain⟨ao6,cp6,rfl⟩:=q.shape
    cases hk0:(kj==0)
    ·go_wp2_with fail
     refine q.lf ok21b ?_
     clear q
     intro w7 q
     go_wp2_with fail
     go_ret
     exact Mz.post (d:=0) q (fun x=>x.elim) hF.2 (fun e=>absurd e (by simpa using hk0)) (by omega)
    ·obtain rfl:kj=0:=by simpa using hk0
     have hb1:Hid (i≤j∧k=0):=⟨q.le,q.ok rfl⟩
     replace HC:Hid ((fun ks=>∀x∈ks,noK x) (vs.map labOf)):=HC.out rfl
     have hFl:vs.length≤6001:=by have:=hF.1 rfl;have:=h.good.few;omega
     replace q:Mz 1 w rb tb cap t j 0 False (16*((j:Int) - (i:Int))+(-16)) wr j 0 aj [] [] (.slice ao6 vs.length cp6) vs:=q.rebase.less (by omega)
     go_wp2_with fail
     refine q.lf ok21b ?_
     clear q
     intro w8 q
     go_wp2_with fail
     refine q.nd (hT _ · (bd_some _ _ _ 3)) ?_
     clear q
     intro w9 x9 i9 k9 a9 hc9 ok9 q
     go_wp2_with (at_builtin;refine q.ap (sz w9) (Nat.le_trans hFl (by decide)) ?_;clear q;intro w10 ao10 cp10 q)
     go_wp2_with fail
     refine q.et (eat42 · _) ?_
     clear q
     intro w11 b11 i11 hE11 q
     go_wp2_with fail
     ·go_wp2_with fail
      go_ret
      exact Mz.post (d:=0) (q.unbase (i':=i) (k':=k) (g':=False) (s':= -24) hb1.out.1 (fun _=>hb1.out.2) (fun x=>x.elim) (by omega)) (fun x=>x.elim) (by have h1:=hF.1 rfl;have h2:=h.good.few;simp only[List.length_append,List.length_cons,List.length_nil];omega) (fun e=>by rw[List.map_append];exact all_snoc HC.out (hc9 e).no) (by omega)
     ·go_wp2_with fail
      refine q.wn (want39 · _) ?_
      clear q
      intro w12 i12 k12 a12 ok12 q
      go_wp2_with fail
      go_roundg (ml t i12 k12)
      case measure=>rw[HG.out];exact ml_lt hj q.le (q.go trivial)
      case rel=>exact⟨(vs++[x9.t]),i12,k12,a12,rfl,Few.snoc (t:=t) hF rfl hj h.good (q.go trivial),(fun e=>by rw[List.map_append];exact all_snoc HC.out (hc9 (ok12.out e)).no),q.unbase (s':= -16) hb1.out.1 (fun _=>hb1.out.2) (fun x=>x.elim) (by omega)⟩
end Go.Proofs.YtagdihffmjopaaaGreatDoor
namespace Go.Proofs.YtagdihffmjopaaaGreatDoor
set_option linter.all false
open Go.RowKit
theorem resZ:noQ 1 82 False (-1) tyK:=resultZ typ_anyZ
theorem parZ:liQ 81 True fun ks=>∀x∈ks,x=12:=paramsZ typ_anyZ
theorem wriZ:liQ 106 False fun ks=>∀x∈ks,noK x:=writtenZ typ_anyZ
theorem pats_allZ:(N:Nat)→exZ 134 3 N∧exsZ 145 4 N
 |0=>⟨fun _ hN=>absurd hN.2 (by decide),fun _ hN=>absurd hN.2 (by decide)⟩
 |N+1=>
  let⟨h1,h2⟩:=pats_allZ N
  ⟨patternZ h2,patsZ h1⟩
structure ExAZ (N:Nat):Prop where
 expr:exZ 86 18 N
 or:exZ 109 17 N
 and:exZ 123 16 N
 cmp:exZ 135 15 N
 add:exZ 147 14 N
 mul:exZ 155 13 N
 unary:exZ 158 12 N
 pfix:exZ 159 11 N
 primary:exZ 85 10 N
 worded:exWZ N
 ifs:exKZ 118 8 N
 mat:exKZ 119 8 N
 make:exKZ 120 8 N
 closure:exKZ 121 8 N
 block:exZ 45 7 N
 lets:exZ 83 7 N
 exprs:exsZ 107 19 N
theorem ex_allZ:(N:Nat)→ExAZ N
 |0=>⟨fun _ hN=>absurd hN.2 (by decide),fun _ hN=>absurd hN.2 (by decide),fun _ hN=>absurd hN.2 (by decide),fun _ hN=>absurd hN.2 (by decide),fun _ hN=>absurd hN.2 (by decide),fun _ hN=>absurd hN.2 (by decide),fun _ hN=>absurd hN.2 (by decide),fun _ hN=>absurd hN.2 (by decide),fun _ hN=>absurd hN.2 (by decide),fun _ _ hN=>absurd hN.2 (by decide),fun _ hN=>absurd hN.2 (by decide),fun _ hN=>absurd hN.2 (by decide),fun _ hN=>absurd hN.2 (by decide),fun _ hN=>absurd hN.2 (by decide),fun _ hN=>absurd hN.2 (by decide),fun _ hN=>absurd hN.2 (by decide),fun _ hN=>absurd hN.2 (by decide)⟩
 |N+1=>
  let h:=ex_allZ N
  ⟨exprZ h.or h.expr,orZ h.and,andZ h.cmp,cmpZ h.add,addZ h.mul,mulZ h.unary,unaryZ h.pfix h.unary,postfixZ h.primary h.exprs,primaryZ wriZ h.exprs h.block h.worded,wordedZ h.expr h.block h.ifs h.mat h.make h.closure capsZ resZ,ifsZ h.expr h.block h.ifs,matchZ h.expr (pats_allZ N).1,makeZ wriZ h.expr,closureZ capsZ parZ resZ h.block,blockZ h.expr h.primary h.lets,letZ typ_anyZ h.expr,exprsZ h.expr⟩
theorem blkZ {w:World} {rb tb cap i:Nat} {t:Tk} {k a:Int} (h:Rd w rb tb cap t i k a):Calls Tryz.prog 45 #[.pointer (some ⟨rb,0,none⟩)] w (NodeZ 1 w rb tb cap t i k True 8 noK):=(ex_allZ _).block h (bd_some _ _ _ 7)
end Go.Proofs.YtagdihffmjopaaaGreatDoor
namespace Go.Proofs.YtagdihffmjopaaaGreatDoor
set_option linter.all false
open Go.RowKit
variable{wt:Nat}
theorem Mz.nodeOf {w W w':World} {rb tb cap i j:Nat} {t:Tk} {k kj aj:Int} {g:Prop} {s:Int} {L:List (Nat × Array Value)} {T:List (List Value)} {kv:Value} {vs:List (List Value)} (q:Mz wt w rb tb cap t i k g s W j kj aj L T kv vs) {must:Prop} {i':Nat} {k' a':Int} (hx:Nx W rb tb cap t j kj must w' i' k' a') {kind pos n m:Int} {name:ByteArray} {kv':Value} {vs':List (List Value)} (hn:NodeIn W.heap.size (k'=0) w' (nodeC kind pos n m name kv').toList) (hK:Kids W.heap.size (k'=0) w' kv' vs') {d:Int} (hz:k'=0→∀f,tot wt f w' vs'+d≤16*((i':Int) - (j:Int))):Mz wt w rb tb cap t i k g (s - (d - (wt:Int))) w' i' k' a' L ((nodeC kind pos n m name kv').toList::T) kv vs:=by
 refine q.node hx hn (fun e f=>?_)
 obtain⟨hr,h,ha⟩:=hK
 cases f with
 |zero=>
  have h0:=hz e 0
  have h2:nsy wt 0 w' (nodeC kind pos n m name kv').toList=0:=rfl
  have h3:=tot_nonneg wt 0 w' vs'
  rw[h2]
  omega
 |succ f=>
  have e1:nsy wt (f+1) w' (nodeC kind pos n m name kv').toList=wt+(vs'.map (nsy wt f w')).sum:=nsy_eq hr ha
  have e2:=hz e f
  rw[e1]
  unfold tot at e2
  omega
end Go.Proofs.YtagdihffmjopaaaGreatDoor
namespace Go.Proofs.YtagdihffmjopaaaGreatDoor
set_option linter.all false
open Go.RowKit
def bndK (lv:Bool) (ks:List Int):Prop:=∀x∈ks,(lv=true→x=19)∧(x=19∨x=18)
end Go.Proofs.YtagdihffmjopaaaGreatDoor
namespace Go.Proofs.YtagdihffmjopaaaGreatDoor
set_option linter.all false
open Go.RowKit
set_option maxRecDepth 100000 in
set_option maxHeartbeats 1000000 in
theorem boundsZ_true (hLi:noQ 1 102 True 8 fun x=>x=19) {w:World} {rb tb cap i:Nat} {t:Tk} {k a:Int} (h:Rd w rb tb cap t i k a):Calls Tryz.prog 103 #[.pointer (some ⟨rb,0,none⟩),.bool true] w (ListZ 1 w rb tb cap t i k False 0 (bndK true)):=by
 have hl:=h.l
 go_enter Tryz.func103,Tryz.ntmps103
 have q:=Mz.start (wt:=1) h
 go_wp2_with fail
 refine q.et (eat42 · _) ?_
 clear q
 intro w1 b1 i1 hE1 q
 go_wp2_with fail
 ·go_wp2_with fail
  go_ret
  exact Mz.post (d:=0) (q.up (g':=False) (fun x=>x.elim)) (fun x=>x.elim) (by simp) (fun _ x hx=>by cases hx) (by omega)
 ·obtain rfl:b1=true:=by have hb:= ‹(!b1)=false›;simpa using hb
  go_wp2_with fail
  go_loopg [5] (ml t i1 k) (fun g v wr=>∃(vs:List (List Value)) (j:Nat) (kj aj:Int),g=ml t j kj∧Few 0 vs j kj∧(kj=0→(bndK true) (vs.map labOf))∧Mz 1 w rb tb cap t i k False (0) wr j kj aj [] [] v vs)
  case atStart=>exact⟨[],i1,k,a,rfl,⟨fun _=>by simp,by simp⟩,(fun e=>(fun x hx=>by cases hx)),(q.up (fun x=>x.elim)).less (by omega)⟩
  case round=>
   clear q
   obtain⟨vs,j,kj,aj,hgk,hF,hC0,q⟩:=hrel
   have HC:Hid (kj=0→(bndK true) (vs.map labOf)):=hC0
   clear hC0
   have hj:=q.st.rd.lt
   have hposJ:(0:Int)≤(t.pos j:Int)∧(t.pos j:Int)≤7000:=by have:=h.good.posb j;omega
   have HG:Hid (gk=ml t j kj):=hgk
   clear hgk
   obtain⟨ao2,cp2,rfl⟩:=q.shape
   cases hk0:(kj==0)
   ·go_wp2_with fail
    refine q.lf ok21b ?_
    clear q
    intro w3 q
    go_wp2_with fail
    go_ret
    exact Mz.post (d:=0) q (fun x=>x.elim) hF.2 (fun e=>absurd e (by simpa using hk0)) (by omega)
   ·obtain rfl:kj=0:=by simpa using hk0
    have hb1:Hid (i≤j∧k=0):=⟨q.le,q.ok rfl⟩
    replace HC:Hid ((bndK true) (vs.map labOf)):=HC.out rfl
    have hFl:vs.length≤6001:=by have:=hF.1 rfl;have:=h.good.few;omega
    replace q:Mz 1 w rb tb cap t j 0 False (16*((j:Int) - (i:Int))+(0)) wr j 0 aj [] [] (.slice ao2 vs.length cp2) vs:=q.rebase.less (by omega)
    go_wp2_with fail
    refine q.lf ok21b ?_
    clear q
    intro w4 q
    go_wp2_with fail
    refine q.nd hLi ?_
    clear q
    intro w5 x5 i5 k5 a5 hc5 ok5 q
    go_wp2_with (at_builtin;refine q.ap (sz w5) (Nat.le_trans hFl (by decide)) ?_;clear q;intro w6 ao6 cp6 q)
    go_wp2_with fail
    refine q.et (eat42 · _) ?_
    clear q
    intro w7 b7 i7 hE7 q
    go_wp2_with fail
    ·go_wp2_with fail
     go_ret
     exact Mz.post (d:=0) (q.unbase (i':=i) (k':=k) (g':=False) (s':= -8) hb1.out.1 (fun _=>hb1.out.2) (fun x=>x.elim) (by omega)) (fun x=>x.elim) (by have h1:=hF.1 rfl;have h2:=h.good.few;simp only[List.length_append,List.length_cons,List.length_nil];omega) (fun e=>by rw[List.map_append];exact all_snoc (C:=fun x=>(true=true→x=19)∧(x=19∨x=18)) HC.out ⟨fun _=>hc5 e,.inl (hc5 e)⟩) (by omega)
    ·go_wp2_with fail
     go_roundg (ml t i7 k5)
     case measure=>rw[HG.out];exact ml_lt hj q.le (q.go trivial)
     case rel=>exact⟨(vs++[x5.t]),i7,k5,a5,rfl,Few.snoc (t:=t) hF rfl hj h.good (q.go trivial),(fun e=>by rw[List.map_append];exact all_snoc (C:=fun x=>(true=true→x=19)∧(x=19∨x=18)) HC.out ⟨fun _=>hc5 e,.inl (hc5 e)⟩),q.unbase (s':=0) hb1.out.1 (fun _=>hb1.out.2) (fun x=>x.elim) (by omega)⟩
set_option maxRecDepth 100000 in
set_option maxHeartbeats 1000000 in
theorem boundsZ_false (hLi:noQ 1 102 True 8 fun x=>x=19) {w:World} {rb tb cap i:Nat} {t:Tk} {k a:Int} (h:Rd w rb tb cap t i k a):Calls Tryz.prog 103 #[.pointer (some ⟨rb,0,none⟩),.bool false] w (ListZ 1 w rb tb cap t i k False 0 (bndK false)):=by
 have hl:=h.l
 go_enter Tryz.func103,Tryz.ntmps103
 have q:=Mz.start (wt:=1) h
 go_wp2_with fail
 refine q.et (eat42 · _) ?_
 clear q
 intro w1 b1 i1 hE1 q
 go_wp2_with fail
 ·go_wp2_with fail
  go_ret
  exact Mz.post (d:=0) (q.up (g':=False) (fun x=>x.elim)) (fun x=>x.elim) (by simp) (fun _ x hx=>by cases hx) (by omega)
 ·obtain rfl:b1=true:=by have hb:= ‹(!b1)=false›;simpa using hb
  go_wp2_with fail
  go_loopg [5] (ml t i1 k) (fun g v wr=>∃(vs:List (List Value)) (j:Nat) (kj aj:Int),g=ml t j kj∧Few 0 vs j kj∧(kj=0→(bndK false) (vs.map labOf))∧Mz 1 w rb tb cap t i k False (0) wr j kj aj [] [] v vs)
  case atStart=>exact⟨[],i1,k,a,rfl,⟨fun _=>by simp,by simp⟩,(fun e=>(fun x hx=>by cases hx)),(q.up (fun x=>x.elim)).less (by omega)⟩
  case round=>
   clear q
   obtain⟨vs,j,kj,aj,hgk,hF,hC0,q⟩:=hrel
   have HC:Hid (kj=0→(bndK false) (vs.map labOf)):=hC0
   clear hC0
   have hj:=q.st.rd.lt
   have hposJ:(0:Int)≤(t.pos j:Int)∧(t.pos j:Int)≤7000:=by have:=h.good.posb j;omega
   have HG:Hid (gk=ml t j kj):=hgk
   clear hgk
   obtain⟨ao2,cp2,rfl⟩:=q.shape
   cases hk0:(kj==0)
   ·go_wp2_with fail
    refine q.lf ok21b ?_
    clear q
    intro w3 q
    go_wp2_with fail
    go_ret
    exact Mz.post (d:=0) q (fun x=>x.elim) hF.2 (fun e=>absurd e (by simpa using hk0)) (by omega)
   ·obtain rfl:kj=0:=by simpa using hk0
    have hb1:Hid (i≤j∧k=0):=⟨q.le,q.ok rfl⟩
    replace HC:Hid ((bndK false) (vs.map labOf)):=HC.out rfl
    have hFl:vs.length≤6001:=by have:=hF.1 rfl;have:=h.good.few;omega
    replace q:Mz 1 w rb tb cap t j 0 False (16*((j:Int) - (i:Int))+(0)) wr j 0 aj [] [] (.slice ao2 vs.length cp2) vs:=q.rebase.less (by omega)
    go_wp2_with fail
    refine q.lf ok21b ?_
    clear q
    intro w4 q
    cases hq:kindB t j 0 0 4
    ·go_wp2_with fail
     refine q.lf (kind22 · 0 (by decide) 4) ?_
     clear q
     intro w5 q
     go_wp2_with fail
     refine q.lf (node20 · 18) ?_
     clear q
     intro w6 q
     go_wp2_with fail
     refine(q.ne' (sz w6) (nk 18 (t.pos j) nl)).nm (path80 · 2 (by decide) (by decide)) ?_
     clear q
     intro w7 s7 i7 k7 a7 hs7 ho7 ok7 q
     have F:=q.f1
     go_wp2_with (at_builtin;refine((q.p04 s7).lk 18 (t.pos j) 0 0 s7 hposJ hs7 (fun e=>Gr.of_path ⟨ho7 e,[],[],rfl,(fun _ hx=>by cases hx),(fun _ hx=>by cases hx)⟩)).ap (sz w7) (Nat.le_trans hFl (by decide)) ?_;clear q F;intro w8 ao8 cp8 q;have F:=q.f1)
     go_wp2_with fail
     refine q.et (eat42 · _) ?_
     clear q F
     intro w9 b9 i9 hE9 q
     have F:=q.f1
     go_wp2_with fail
     ·go_wp2_with fail
      go_ret
      exact Mz.post (d:=0) (q.unbase (i':=i) (k':=k) (g':=False) (s':= -15) hb1.out.1 (fun _=>hb1.out.2) (fun x=>x.elim) (by omega)) (fun x=>x.elim) (by have h1:=hF.1 rfl;have h2:=h.good.few;simp only[List.length_append,List.length_cons,List.length_nil];omega) (fun e=>by rw[List.map_append];exact all_snoc (C:=fun x=>(false=true→x=19)∧(x=19∨x=18)) HC.out ⟨fun h=>(by cases h),.inr rfl⟩) (by omega)
     ·go_wp2_with fail
      go_roundg (ml t i9 k7)
      case measure=>rw[HG.out];exact ml_lt hj q.pop.le (q.pop.go trivial)
      case rel=>exact⟨(vs++[(nodeC 18 (t.pos j) 0 0 s7 nl).toList]),i9,k7,a7,rfl,Few.snoc (t:=t) hF rfl hj h.good (q.pop.go trivial),(fun e=>by rw[List.map_append];exact all_snoc (C:=fun x=>(false=true→x=19)∧(x=19∨x=18)) HC.out ⟨fun h=>(by cases h),.inr rfl⟩),q.pop.unbase (s':=0) hb1.out.1 (fun _=>hb1.out.2) (fun x=>x.elim) (by omega)⟩
    ·go_wp2_with fail
     refine q.lf (kind22 · 0 (by decide) 4) ?_
     clear q
     intro w10 q
     go_wp2_with fail
     refine q.nd hLi ?_
     clear q
     intro w11 x11 i11 k11 a11 hc11 ok11 q
     go_wp2_with (at_builtin;refine q.ap (sz w11) (Nat.le_trans hFl (by decide)) ?_;clear q;intro w12 ao12 cp12 q)
     go_wp2_with fail
     refine q.et (eat42 · _) ?_
     clear q
     intro w13 b13 i13 hE13 q
     go_wp2_with fail
     ·go_wp2_with fail
      go_ret
      exact Mz.post (d:=0) (q.unbase (i':=i) (k':=k) (g':=False) (s':= -8) hb1.out.1 (fun _=>hb1.out.2) (fun x=>x.elim) (by omega)) (fun x=>x.elim) (by have h1:=hF.1 rfl;have h2:=h.good.few;simp only[List.length_append,List.length_cons,List.length_nil];omega) (fun e=>by rw[List.map_append];exact all_snoc (C:=fun x=>(false=true→x=19)∧(x=19∨x=18)) HC.out ⟨fun _=>hc11 e,.inl (hc11 e)⟩) (by omega)
     ·go_wp2_with fail
      go_roundg (ml t i13 k11)
      case measure=>rw[HG.out];exact ml_lt hj q.le (q.go trivial)
      case rel=>exact⟨(vs++[x11.t]),i13,k11,a11,rfl,Few.snoc (t:=t) hF rfl hj h.good (q.go trivial),(fun e=>by rw[List.map_append];exact all_snoc (C:=fun x=>(false=true→x=19)∧(x=19∨x=18)) HC.out ⟨fun _=>hc11 e,.inl (hc11 e)⟩),q.unbase (s':=0) hb1.out.1 (fun _=>hb1.out.2) (fun x=>x.elim) (by omega)⟩
def bndQ:Prop:=∀{w:World} {rb tb cap i:Nat} {t:Tk} {k a:Int},Rd w rb tb cap t i k a→∀lv,Calls Tryz.prog 103 #[.pointer (some ⟨rb,0,none⟩),.bool lv] w (ListZ 1 w rb tb cap t i k False 0 (bndK lv))
theorem boundsZ (hLi:noQ 1 102 True 8 fun x=>x=19):bndQ:=by
 intro w rb tb cap i t k a h lv
 cases lv
 ·exact boundsZ_false hLi h
 ·exact boundsZ_true hLi h
def gensQ:Prop:=∀{w:World} {rb tb cap i:Nat} {t:Tk} {k a:Int},Rd w rb tb cap t i k a→∀b:Bool,Calls Tryz.prog 77 #[.pointer (some ⟨rb,0,none⟩),.bool b] w (NodeZ 1 w rb tb cap t i k False (-1) (fun x=>x=9))
end Go.Proofs.YtagdihffmjopaaaGreatDoor
namespace Go.Proofs.YtagdihffmjopaaaGreatDoor
set_option linter.all false
open Go.RowKit
set_option maxRecDepth 100000 in
set_option maxHeartbeats 2000000 in
theorem gensZ_true (hLi:noQ 1 102 True 8 fun x=>x=19) (hBo:bndQ) {w:World} {rb tb cap i:Nat} {t:Tk} {k a:Int} (h:Rd w rb tb cap t i k a):Calls Tryz.prog 77 #[.pointer (some ⟨rb,0,none⟩),.bool true] w (NodeZ 1 w rb tb cap t i k False (-1) (fun x=>x=9)):=by
 have hl:=h.l
 have hposI:(0:Int)≤(t.pos i:Int)∧(t.pos i:Int)≤7000:=by have:=h.good.posb i;omega
 go_enter Tryz.func77,Tryz.ntmps77
 have hfd4:=fld46_4
 have q:=Mz.start (wt:=1) h
 go_wp2_with fail
 refine(q.ne' (sz w) (zeroC)).lf (node20 · 9) ?_
 clear q
 intro w1 q
 have F:=q.f1
 go_wp2_with fail
 refine(q.ne' (sz w1) (nk 9 (t.pos i) nl)).et (eat42 · _) ?_
 clear q F
 intro w2 b2 i2 hE2 q
 have F:=q.f2
 go_wp2_with fail
 ·go_wp2_with fail
  go_light
  exact Mz.retb (C:=fun x=>x=9) (d:= -1) Tryz.results77 rfl rfl (q.lk 9 (t.pos i) 0 0 ⟨#[]⟩ hposI (by decide) (fun _=>Gr.of_gens (fun x hx=>by cases hx))) 1 rfl (fun _=>rfl) (by omega) rfl
 ·obtain rfl:b2=true:=by have hb:= ‹(!b2)=false›;simpa using hb
  have hgo2:Hid (i<i2):=by have:=(hE2.yes rfl).1;show i<i2;omega
  go_wp2_with fail
  go_loopg [6] (ml t i2 k) (fun g u wr=>∃(v:Value) (vs:List (List Value)) (tyb:Bool) (j:Nat) (kj aj:Int),g=ml t j kj∧Few 0 vs j kj∧(u=.bool tyb∧(kj=0→∀x∈vs.map labOf,x=10∨x=11))∧Mz 1 w rb tb cap t i k True (0) wr j kj aj [(sz w1,nk 9 (t.pos i) v),(sz w,zeroC)] [] v vs)
  case atStart=>exact⟨nl,[],false,i2,k,a,rfl,⟨fun _=>by simp,by simp⟩,⟨rfl,fun _ x hx=>by cases hx⟩,((q.up (g':=True) (fun _ _=>hgo2.out)).less (by omega))⟩
  case round=>
   clear F q
   obtain⟨v,vs,tyb,j,kj,aj,hgk,hF,⟨rfl,HC⟩,q⟩:=hrel
   have hj:=q.st.rd.lt
   have hposJ:(0:Int)≤(t.pos j:Int)∧(t.pos j:Int)≤7000:=by have:=h.good.posb j;omega
   have HG:Hid (gk=ml t j kj):=hgk
   clear hgk
   obtain⟨ao3,cp3,rfl⟩:=q.shape
   have F:=q.f2
   cases hk0:(kj==0)
   ·go_wp2_with fail
    refine q.lf ok21b ?_
    clear q F
    intro w4 q
    have F:=q.f2
    go_wp2_with fail
    go_light
    exact Mz.retb (C:=fun x=>x=9) (d:= -1) Tryz.results77 rfl rfl ((q.fk 9 (t.pos i) (Nat.le_trans hF.2 (by decide)) hposI (fun e=>absurd e (by simpa using hk0))).up (g':=False) (fun x=>x.elim)) 1 rfl (fun _=>rfl) (by omega) rfl
   ·obtain rfl:kj=0:=by simpa using hk0
    have hb1:Hid (i≤j∧k=0∧i<j):=⟨q.le,q.ok rfl,q.go trivial rfl⟩
    replace HC:Hid (∀x∈vs.map labOf,x=10∨x=11):=HC rfl
    have hFl:vs.length≤6001:=by have:=hF.1 rfl;have:=h.good.few;omega
    replace q:=q.rebase
    go_wp2_with fail
    refine q.lf ok21b ?_
    clear q F
    intro w5 q
    have F:=q.f2
    go_wp2_with fail
    refine q.lf (node20 · 10) ?_
    clear q F
    intro w6 q
    have F:=q.f2
    cases hq:kindB t j 0 0 4
    ·go_wp2_with fail
     refine(q.ne' (sz w6) (nk 10 (t.pos j) nl)).lf (kind22 · 0 (by decide) 4) ?_
     clear q F
     intro w7 q
     have F:=q.f3
     go_wp2_with fail
     refine(q.p00 11).nm name40 ?_
     clear q F
     intro w8 s8 i8 k8 a8 hs8 ho8 ok8 q
     have F:=q.f3
     go_wp2_with fail
     refine(hBo (q.p04 s8).st.rd _).mono ?_
     rintro e w9 ⟨ao9,cp9,vs9,i9,k9,a9,rfl,hx9,hK9,hl9,hP9,hz9⟩
     have ok9:Hid (k9=0→k8=0):=hx9.ok
     replace q:=(q.p04 s8).nodeOf hx9 (hK9.node (Nat.le_trans hl9 (by decide)) (Nat.le_trans hs8 (by decide)) hposJ (kind:=11) (n:=0) (m:=0) (fun e=>Gr.of_gtype (fun x hx=>(hP9 e x hx).2))) hK9 hz9
     clear hx9 hK9 hz9
     replace F:=q.f3
     go_wp2_with (at_builtin;refine(q.p05 (.slice ao9 vs9.length cp9)).ap (sz w9) (Nat.le_trans hFl (by decide)) ?_;clear q F;intro w10 ao10 cp10 q;have F:=q.f3)
     go_wp2_with fail
     refine(q.p15 (.slice ao10 (vs.length+1) cp10)).et (eat42 · _) ?_
     clear q F
     intro w11 b11 i11 hE11 q
     have F:=q.f3
     go_wp2_with fail
     ·go_wp2_with fail
      go_light
      exact Mz.retb (C:=fun x=>x=9) (d:= -1) Tryz.results77 rfl rfl ((q.fk 9 (t.pos i) (by have:=hFl;simp;omega) hposI (fun e=>Gr.of_gens (hl:=by have:=hFl;simp;omega) ((fun e=>by rw[List.map_append];exact all_snoc HC.out (.inr rfl)) e))).unbase (i':=i) (k':=k) (g':=False) (s':= -14) hb1.out.1 (fun _=>hb1.out.2.1) (fun x=>x.elim) (by omega)) 2 rfl (fun _=>rfl) (by omega) rfl
     ·go_wp2_with fail
      refine q.wn (want39 · _) ?_
      clear q F
      intro w12 i12 k12 a12 ok12 q
      have F:=q.f3
      go_wp2_with fail
      replace q:=q.pop
      go_roundg (ml t i12 k12)
      case measure=>rw[HG.out];exact ml_lt hj q.le (q.go trivial)
      case rel=>exact⟨(.slice ao10 (vs.length+1) cp10),(vs++[(nodeC 11 (t.pos j) 0 0 s8 (.slice ao9 vs9.length cp9)).toList]),true,i12,k12,a12,rfl,Few.snoc (t:=t) hF rfl hj h.good (q.go trivial),⟨rfl,(fun e=>by rw[List.map_append];exact all_snoc HC.out (.inr rfl))⟩,q.unbase (s':=0) (g':=True) hb1.out.1 (fun _=>hb1.out.2.1) (fun _ _=>hb1.out.2.2) (by omega)⟩
    ·cases tyb
     ·go_wp2_with fail
      refine(q.ne' (sz w6) (nk 10 (t.pos j) nl)).lf (kind22 · 0 (by decide) 4) ?_
      clear q F
      intro w13 q
      have F:=q.f3
      go_wp2_with fail
      refine(hLi q.st.rd).mono ?_
      rintro e w14 ⟨q14,p14,n14,m14,s14,ko14,kl14,kc14,i14,k14,a14,rfl,hx14,hn14,hc14,hz14⟩
      have hnm14:=hn14.name
      replace q:=q.nxm hx14
      clear hx14 hn14 hc14 hz14
      replace F:=q.f3
      go_wp2_with fail
      refine(hBo (q.p04 s14).st.rd _).mono ?_
      rintro e w15 ⟨ao15,cp15,vs15,i15,k15,a15,rfl,hx15,hK15,hl15,hP15,hz15⟩
      have ok15:Hid (k15=0→k14=0):=hx15.ok
      replace q:=(q.p04 s14).nodeOf hx15 (hK15.node (Nat.le_trans hl15 (by decide)) hnm14 hposJ (kind:=10) (n:=0) (m:=0) (fun e=>Gr.of_glife (fun x hx=>(hP15 e x hx).1 rfl))) hK15 hz15
      clear hx15 hK15 hz15
      replace F:=q.f3
      go_wp2_with (at_builtin;refine(q.p05 (.slice ao15 vs15.length cp15)).ap (sz w15) (Nat.le_trans hFl (by decide)) ?_;clear q F;intro w16 ao16 cp16 q;have F:=q.f3)
      go_wp2_with fail
      refine(q.p15 (.slice ao16 (vs.length+1) cp16)).et (eat42 · _) ?_
      clear q F
      intro w17 b17 i17 hE17 q
      have F:=q.f3
      go_wp2_with fail
      ·go_wp2_with fail
       go_light
       exact Mz.retb (C:=fun x=>x=9) (d:= -1) Tryz.results77 rfl rfl ((q.fk 9 (t.pos i) (by have:=hFl;simp;omega) hposI (fun e=>Gr.of_gens (hl:=by have:=hFl;simp;omega) ((fun e=>by rw[List.map_append];exact all_snoc HC.out (.inl rfl)) e))).unbase (i':=i) (k':=k) (g':=False) (s':= -14) hb1.out.1 (fun _=>hb1.out.2.1) (fun x=>x.elim) (by omega)) 2 rfl (fun _=>rfl) (by omega) rfl
      ·go_wp2_with fail
       refine q.wn (want39 · _) ?_
       clear q F
       intro w18 i18 k18 a18 ok18 q
       have F:=q.f3
       go_wp2_with fail
       replace q:=q.pop
       go_roundg (ml t i18 k18)
       case measure=>rw[HG.out];exact ml_lt hj q.le (q.go trivial)
       case rel=>exact⟨(.slice ao16 (vs.length+1) cp16),(vs++[(nodeC 10 (t.pos j) 0 0 s14 (.slice ao15 vs15.length cp15)).toList]),false,i18,k18,a18,rfl,Few.snoc (t:=t) hF rfl hj h.good (q.go trivial),⟨rfl,(fun e=>by rw[List.map_append];exact all_snoc HC.out (.inl rfl))⟩,q.unbase (s':=0) (g':=True) hb1.out.1 (fun _=>hb1.out.2.1) (fun _ _=>hb1.out.2.2) (by omega)⟩
     ·go_wp2_with fail
      refine(q.ne' (sz w6) (nk 10 (t.pos j) nl)).lf (kind22 · 0 (by decide) 4) ?_
      clear q F
      intro w19 q
      have F:=q.f3
      go_wp2_with fail
      refine(q.p00 11).nm name40 ?_
      clear q F
      intro w20 s20 i20 k20 a20 hs20 ho20 ok20 q
      have F:=q.f3
      go_wp2_with fail
      refine(hBo (q.p04 s20).st.rd _).mono ?_
      rintro e w21 ⟨ao21,cp21,vs21,i21,k21,a21,rfl,hx21,hK21,hl21,hP21,hz21⟩
      have ok21:Hid (k21=0→k20=0):=hx21.ok
      replace q:=(q.p04 s20).nodeOf hx21 (hK21.node (Nat.le_trans hl21 (by decide)) (Nat.le_trans hs20 (by decide)) hposJ (kind:=11) (n:=0) (m:=0) (fun e=>Gr.of_gtype (fun x hx=>(hP21 e x hx).2))) hK21 hz21
      clear hx21 hK21 hz21
      replace F:=q.f3
      go_wp2_with (at_builtin;refine(q.p05 (.slice ao21 vs21.length cp21)).ap (sz w21) (Nat.le_trans hFl (by decide)) ?_;clear q F;intro w22 ao22 cp22 q;have F:=q.f3)
      go_wp2_with fail
      refine(q.p15 (.slice ao22 (vs.length+1) cp22)).et (eat42 · _) ?_
      clear q F
      intro w23 b23 i23 hE23 q
      have F:=q.f3
      go_wp2_with fail
      ·go_wp2_with fail
       go_light
       exact Mz.retb (C:=fun x=>x=9) (d:= -1) Tryz.results77 rfl rfl ((q.fk 9 (t.pos i) (by have:=hFl;simp;omega) hposI (fun e=>Gr.of_gens (hl:=by have:=hFl;simp;omega) ((fun e=>by rw[List.map_append];exact all_snoc HC.out (.inr rfl)) e))).unbase (i':=i) (k':=k) (g':=False) (s':= -14) hb1.out.1 (fun _=>hb1.out.2.1) (fun x=>x.elim) (by omega)) 2 rfl (fun _=>rfl) (by omega) rfl
      ·go_wp2_with fail
       refine q.wn (want39 · _) ?_
       clear q F
       intro w24 i24 k24 a24 ok24 q
       have F:=q.f3
       go_wp2_with fail
       replace q:=q.pop
       go_roundg (ml t i24 k24)
       case measure=>rw[HG.out];exact ml_lt hj q.le (q.go trivial)
       case rel=>exact⟨(.slice ao22 (vs.length+1) cp22),(vs++[(nodeC 11 (t.pos j) 0 0 s20 (.slice ao21 vs21.length cp21)).toList]),true,i24,k24,a24,rfl,Few.snoc (t:=t) hF rfl hj h.good (q.go trivial),⟨rfl,(fun e=>by rw[List.map_append];exact all_snoc HC.out (.inr rfl))⟩,q.unbase (s':=0) (g':=True) hb1.out.1 (fun _=>hb1.out.2.1) (fun _ _=>hb1.out.2.2) (by omega)⟩
end Go.Proofs.YtagdihffmjopaaaGreatDoor
