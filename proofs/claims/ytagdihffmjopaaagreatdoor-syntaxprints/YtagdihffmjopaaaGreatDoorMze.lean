/- Some of the trees that a call holds. -/
import Derived.Test.YtagdihffmjopaaaGreatDoorMz
namespace Go.Proofs.YtagdihffmjopaaaGreatDoor
set_option linter.all false
open Go.RowKit
variable{wt:Nat}
section
variable{w W w':World} {rb tb cap i j:Nat} {t:Tk} {k kj aj:Int} {g:Prop} {s:Int} {L:List (Nat × Array Value)} {T:List (List Value)} {kv:Value} {vs:List (List Value)}
theorem Mz.st (q:Mz wt w rb tb cap t i k g s W j kj aj L T kv vs):St w rb tb cap t W j kj aj:=q.mid.st
theorem Mz.le (q:Mz wt w rb tb cap t i k g s W j kj aj L T kv vs):i≤j:=q.mid.le
theorem Mz.ok (q:Mz wt w rb tb cap t i k g s W j kj aj L T kv vs):kj=0→k=0:=q.mid.ok
theorem Mz.go (q:Mz wt w rb tb cap t i k g s W j kj aj L T kv vs):g→kj=0→i<j:=q.mid.go
theorem Mz.at (q:Mz wt w rb tb cap t i k g s W j kj aj L T kv vs) (n:Nat) {b:Nat} {c:Array Value} (hn:L[n]? =some (b,c)):(∀o,W.cell? ⟨b,o,none⟩=c[o]?)∧(∀o,W.frozen? ⟨b,o,none⟩=false)∧b<W.heap.size∧b≠rb:=q.mid.at n hn
theorem Mz.ne (q:Mz wt w rb tb cap t i k g s W j kj aj L T kv vs) (n m:Nat) {b b':Nat} {c c':Array Value} (hn:L[n]? =some (b,c)) (hm:L[m]? =some (b',c')) (h:n≠m):b≠b'∧b'≠b:=q.mid.ne n m hn hm h
theorem Mz.shape (q:Mz wt w rb tb cap t i k g s W j kj aj L T kv vs):∃ao cp,kv=.slice ao vs.length cp:=q.mid.shape
theorem Mz.shapeT {ao:Option Addr} {cp:Nat} (q:Mz wt w rb tb cap t i k g s W j kj aj L T (.slice ao vs.length cp) vs) (h:1≤vs.length):∃gb,ao=some ⟨gb,0,none⟩:=q.mid.shapeT h
theorem Mz.bd {N r:Nat} (q:Mz wt w rb tb cap t i k True s W j kj aj L T kv vs) (HB:∀i' k' r',(k'=0→i<i')→r'<64→Bd N t i' k' r') (hr:r<64):Bd N t j kj r:=q.mid.bd HB hr
theorem Mz.first {ao:Option Addr} {cp:Nat} (q:Mz wt w rb tb cap t i k g s W j kj aj L T (.slice ao vs.length cp) vs) (h1:vs.length=1):∃gb,ao=some ⟨gb,0,none⟩∧gb<W.heap.size∧gb≠rb∧gb∉L.map adr∧∃kind pos n m name ko kl kc,vs=[(nodeC kind pos n m name (.slice ko kl kc)).toList]∧∀o,o<11→W.cell? ⟨gb,o,none⟩=(nodeC kind pos n m name (.slice ko kl kc))[o]? :=q.mid.first h1
theorem Mz.notin {b:Nat} (q:Mz wt w rb tb cap t i k g s W j kj aj L T kv vs) (hb:b∉L.map adr) (n:Nat) {b':Nat} {c:Array Value} (hn:L[n]? =some (b',c)):b≠b'∧b'≠b:=q.mid.notin hb n hn
theorem Mz.rebase (q:Mz wt w rb tb cap t i k g s W j kj aj L T kv vs):Mz wt w rb tb cap t j kj False (16*((j:Int) - (i:Int))+s) W j kj aj L T kv vs:=⟨q.mid.rebase,fun e f=>by have:=q.sz e f;omega⟩
theorem Mz.unbase {i':Nat} {k':Int} {g':Prop} {s':Int} (q:Mz wt w rb tb cap t i k g s W j kj aj L T kv vs) (h1:i'≤i) (h2:k=0→k'=0) (h3:g'→k=0→i'<i) (hs:s≤16*((i:Int) - (i':Int))+s'):Mz wt w rb tb cap t i' k' g' s' W j kj aj L T kv vs:=
 ⟨q.mid.unbase h1 h2 h3,fun e f=>by have:=q.sz e f;omega⟩
theorem Mz.leaf (q:Mz wt w rb tb cap t i k g s W j kj aj L T kv vs) {kind pos n m:Int} {name:ByteArray} (hn:name.size≤20000) (hp:0≤pos∧pos≤7000) (hG:kj=0→Gr kind n m name []):Mz wt w rb tb cap t i k g (s+(wt:Int)) W j kj aj L ((nodeC kind pos n m name (.slice none 0 0)).toList::T) kv vs:=
 ⟨q.mid.leaf hn hp hG,fun e f=>by
  have h0:=q.sz e f
  rw[tot_cons]
  cases f with
  |zero=>
   have h2:nsy wt 0 W (nodeC kind pos n m name (.slice none 0 0)).toList=0:=rfl
   rw[h2]
   omega
  |succ f=>
   have h2:nsy wt (f+1) W (nodeC kind pos n m name (.slice none 0 0)).toList=wt:=rfl
   rw[h2]
   omega⟩
theorem Mz.lit {us:List (List Value)} (q:Mz wt w rb tb cap t i k g s W j kj aj L (us++T) kv vs) (cs:Array Value) (hcs:cs.toList=us.flatten) (hl:us.length≤20000) (h11:∀x∈us,x.length=11) {ad c:Nat} (had:ad=W.heap.size) (hc:c=us.length)
 {kind pos n m:Int} {name:ByteArray} (hn:name.size≤20000) (hp:0≤pos∧pos≤7000) (hG:kj=0→Gr kind n m name (us.map labOf)):Mz wt w rb tb cap t i k g (s+(wt:Int)) (W.alloc (.cells cs 28)) j kj aj L ((nodeC kind pos n m name (.slice (some ⟨ad,0,none⟩) c c)).toList::T) kv vs:=
 ⟨q.mid.lit cs hcs hl h11 had hc hn hp hG,fun e f=>by
  subst had hc
  have q1:=q.alloc (.cells cs 28)
  have h0:=q1.sz e f
  rw[tot_append] at h0
  rw[tot_cons]
  cases f with
  |zero=>
   have h2:nsy wt 0 (W.alloc (.cells cs 28)) (nodeC kind pos n m name (.slice (some ⟨W.heap.size,0,none⟩) us.length us.length)).toList=0:=rfl
   have h3:=tot_nonneg wt 0 (W.alloc (.cells cs 28)) us
   rw[h2]
   omega
  |succ f=>
   obtain⟨h,ha⟩:=q1.mid.all
   have hsz:us.flatten.length=us.length*11:=by
    clear hcs hl q q1 hG h0 ha
    induction us with
    |nil=>rfl
    |cons x r ih=>simp only[List.flatten_cons,List.length_append,List.length_cons];rw[ih (fun y hy=>h11 y (List.mem_cons_of_mem _ hy)),h11 x (List.mem_cons_self ..)];omega
   have hrow:=World.ownsRow_lit (base:=0) (e:=28) (size:=11) W cs us.length (Nat.zero_le _) (by unfold maxLen;omega) (by rw[←Array.length_toList,hcs,hsz])
   rw[hcs] at hrow
   have e1:nsy wt (f+1) (W.alloc (.cells cs 28)) (nodeC kind pos n m name (.slice (some ⟨W.heap.size,0,none⟩) us.length us.length)).toList=wt+(us.map (nsy wt f (W.alloc (.cells cs 28)))).sum:=nsy_eq hrow (fun x hx=>ha x (.inr (List.mem_append.2 (.inl hx))))
   have e2:=nsy_mono wt f (W.alloc (.cells cs 28)) us
   rw[e1]
   unfold tot at h0⊢
   omega⟩
theorem Mid.tots_grown (q:Mid w rb tb cap t i k g W j kj aj L T kv vs) (hg:W.grownBy w' kv.ownBlock) (f:Nat):tot wt f w' vs=tot wt f W vs∧tot wt f w' T=tot wt f W T:=by
 obtain⟨h,ha⟩:=q.all
 have hs:Same (fun b=>Out w (L.map adr) kv b∧b<W.heap.size) W w':=Same.grown hg (fun b e hb=>hb.1.2.2 e)
 constructor
 ·unfold tot;rw[List.map_congr_left (fun x hx=>nsy_frame hs _ _ (isNode.low _ _ (ha x (.inl hx))) f)]
 ·unfold tot;rw[List.map_congr_left (fun x hx=>nsy_frame hs _ _ (isNode.low _ _ (ha x (.inr hx))) f)]
theorem Mz.run_app {us:List (List Value)} (q:Mz wt w rb tb cap t i k g s W j kj aj L (us++T) kv vs) (hv:vs.length≤19000) (hu:us.length≤6010) (ty:TypeId) {xv:Value} (hx:(xv=.slice none 0 0∧us=[])∨∃ad c,xv=.slice (some ad) us.length c∧∀j u,us.flatten[j]? =some u→W.cell? (ad.add j)=some u):
 ∃v' w',(Builtin.append_ #[22,22] ty #[kv,xv]).run Tryz.prog W=.ok v' w'∧∃ao cp,v'=.slice ao (vs.length+us.length) cp∧Mz wt w rb tb cap t i k g s w' j kj aj L T (.slice ao (vs.length+us.length) cp) (vs++us):=by
 obtain⟨i0,hi0,hz0,hz1,hz2⟩:=info_parts info46
 rcases hx with⟨rfl,rfl⟩|⟨ad,c,rfl,hc⟩
 ·refine⟨kv,W,run_append_owned_none (P:=Tryz.prog) (w:=W) w.heap.size 22 ty 28 i0 11 Tryz.underlying22 hi0 kv vs.length vs.flatten q.mid.row,?_⟩
  obtain⟨ao,cp,e⟩:=q.mid.shape
  refine⟨ao,cp,by simpa using e,?_⟩
  have q2:Mz wt w rb tb cap t i k g s W j kj aj L T kv (vs++[]):=by simpa using q
  rw[e] at q2
  simpa using q2
 ·obtain⟨h,ha⟩:=q.mid.all
  obtain⟨f1,f2⟩:=flat_ones (us:=us) (fun x hx=>isNode.ones _ _ (ha x (.inr (List.mem_append.2 (.inl hx)))))
  obtain⟨v',w',hr,h2,h3,_,h5⟩:=run_append_own_at (P:=Tryz.prog) W w.heap.size 22 ty 28 i0 _ 11 160 Tryz.underlying22 hi0 hz0 hz1 hz2 rfl (by decide) kv vs.length vs.flatten q.mid.row ad us.length c us.flatten f1 hc f2 (by unfold maxLen;omega) (by omega) q.mid.st.size
  have q1:=q.mid.app h2 h3 h5
  obtain⟨ao,cp,e⟩:=q1.shape
  rw[List.length_append] at e
  subst e
  refine⟨_,w',hr,ao,cp,rfl,q1,fun e f=>?_⟩
  have h6:=q.sz e f
  have h7:=q.mid.tots_grown (wt:=wt) h3 f
  rw[tot_append] at h6
  rw[tot_append,tot_append] at h7
  rw[tot_append,h7.1]
  omega
theorem Mz.run_app1 {kind pos n m:Int} {name:ByteArray} {ko:Option Addr} {kl kc:Nat} (q:Mz wt w rb tb cap t i k g s W j kj aj L ((nodeC kind pos n m name (.slice ko kl kc)).toList::T) kv vs) (hv:vs.length≤19000) (ty:TypeId) {ad:Nat} (had:ad=W.heap.size):
 ∃v' w',(Builtin.append_ #[22,22] ty #[kv,.slice (some ⟨ad,0,none⟩) 1 1]).run Tryz.prog (W.alloc (.cells (nodeC kind pos n m name (.slice ko kl kc)) 28))=.ok v' w'∧∃ao cp,v'=.slice ao (vs.length+1) cp∧Mz wt w rb tb cap t i k g s w' j kj aj L T (.slice ao (vs.length+1) cp) (vs++[(nodeC kind pos n m name (.slice ko kl kc)).toList]):=by
 subst had
 exact Mz.run_app (us:=[(nodeC kind pos n m name (.slice ko kl kc)).toList]) (q.alloc _) hv (by simp) ty (.inr ⟨_,_,rfl,by simpa using cells11_new W kind pos n m name (.slice ko kl kc) 28⟩)
theorem Mz.run_apps {us:List (List Value)} {ao:Option Addr} {cp B:Nat} {G:Prop} (q:Mz wt w rb tb cap t i k g s W j kj aj L (us++T) kv vs) (hK:Kids B G W (.slice ao us.length cp) us) (hv:vs.length≤19000) (hu:us.length≤6010) (ty:TypeId):
 ∃v' w',(Builtin.append_ #[22,22] ty #[kv,.slice ao us.length cp]).run Tryz.prog W=.ok v' w'∧∃ao cp,v'=.slice ao (vs.length+us.length) cp∧Mz wt w rb tb cap t i k g s w' j kj aj L T (.slice ao (vs.length+us.length) cp) (vs++us):=by
 refine q.run_app hv hu ty ?_
 rcases hK.row.2 with⟨h1,h2⟩|⟨b,c2,cur,h1,_⟩
 ·exact .inl ⟨by simpa using h1,List.eq_nil_of_length_eq_zero h2⟩
 ·obtain⟨rfl,_,rfl⟩:ao=some ⟨b,0,none⟩∧us.length=us.length∧cp=c2:=by simpa using h1
  exact .inr ⟨_,_,rfl,hK.row.cells (g:=b) rfl⟩
theorem Mz.retb {fn:Func} {r:Nat} (hf:fn.results=#[.cell r 28]) {act:Act} (hd:act.defers=[]) {b:Nat} (ht:act.tmps.getD r undef=.pointer (some ⟨b,0,none⟩)) {C:Int→Prop} {kind pos n m:Int} {name:ByteArray} {ko:Option Addr} {kl kc:Nat}
 (q:Mz wt w rb tb cap t i k g s W j kj aj L ((nodeC kind pos n m name (.slice ko kl kc)).toList::T) kv vs) (N:Nat) (hz:L[N]? =some (b,zeroC)) (hC:kj=0→C (labOf (nodeC kind pos n m name (.slice ko kl kc)).toList)) {d:Int} (hd':s+d≤0) {wf:World}
 (he:wf=Go.Proofs.YtagdihffmjopaaaGreatDoor.set11 W b (.int .i64 kind) (.int .i64 pos) (.int .i64 n) (.int .i64 m) (.string name) (.slice ko kl kc) (.int .i64 0) (.int .i64 0) (.slice none 0 0) (.slice none 0 0) (.slice none 0 0)):
 bodyPost Tryz.prog fn (NodeZ wt w rb tb cap t i k g d C) .ret act wf:=by
 subst he
 have q1:=q.put11 N hz (.int .i64 kind) (.int .i64 pos) (.int .i64 n) (.int .i64 m) (.string name) (.slice ko kl kc) (.int .i64 0) (.int .i64 0) (.slice none 0 0) (.slice none 0 0) (.slice none 0 0)
 have hB:Blk _ b _:=(q1.mid.blk N (b,_) (by rw[List.getElem?_set,if_pos rfl,if_pos (List.getElem?_eq_some_iff.1 hz).1])).2
 obtain⟨h,ha⟩:=q1.mid.all
 refine bodyPost_ret (results_node hf ht hB) hd ⟨kind,pos,n,m,name,ko,kl,kc,j,kj,aj,rfl,⟨q1.mid.st.rd,q1.mid.st.kp,q1.mid.le,q1.mid.ok,q1.mid.go⟩,⟨h,isNode.weaken (fun b hb=>hb.1) (fun x=>x) _ _ (ha _ (.inr (List.mem_cons_self ..)))⟩,hC,fun e f=>?_⟩
 have h1:=q1.sz e f
 have h2:=tot_nonneg wt f (set11 W b (.int .i64 kind) (.int .i64 pos) (.int .i64 n) (.int .i64 m) (.string name) (.slice ko kl kc) (.int .i64 0) (.int .i64 0) (.slice none 0 0) (.slice none 0 0) (.slice none 0 0)) vs
 have h3:=tot_nonneg wt f (set11 W b (.int .i64 kind) (.int .i64 pos) (.int .i64 n) (.int .i64 m) (.string name) (.slice ko kl kc) (.int .i64 0) (.int .i64 0) (.slice none 0 0) (.slice none 0 0) (.slice none 0 0)) T
 rw[tot_cons] at h1
 omega
theorem Mz.swapL {a b:Nat × Array Value} (q:Mz wt w rb tb cap t i k g s W j kj aj (a::b::L) T kv vs):Mz wt w rb tb cap t i k g s W j kj aj (b::a::L) T kv vs:=⟨q.mid.swapL,q.sz⟩
theorem Mz.park {gb cp:Nat} (q:Mz wt w rb tb cap t i k g s W j kj aj L T (.slice (some ⟨gb,0,none⟩) vs.length cp) vs):∃c,Rest c vs cp∧Mz wt w rb tb cap t i k g s W j kj aj ((gb,c)::L) (vs++T) (.slice none 0 0) []:=by
 obtain⟨c,h1,h2⟩:=q.mid.park
 exact⟨c,h1,h2,fun e f=>by have:=q.sz e f;rw[tot_append,tot_nil];omega⟩
theorem Mz.unpark {gb cp:Nat} {c:Array Value} (hR:Rest c vs cp) (q:Mz wt w rb tb cap t i k g s W j kj aj ((gb,c)::L) (vs++T) (.slice none 0 0) []):Mz wt w rb tb cap t i k g s W j kj aj L T (.slice (some ⟨gb,0,none⟩) vs.length cp) vs:=
 ⟨Mid.unpark hR q.mid,fun e f=>by have:=q.sz e f;rw[tot_append,tot_nil] at this;omega⟩
end
end Go.Proofs.YtagdihffmjopaaaGreatDoor
namespace Go.Proofs.YtagdihffmjopaaaGreatDoor
set_option linter.all false
open Go.RowKit
variable{wt:Nat}
def exZ (f r N:Nat):Prop:=∀{w:World} {rb tb cap i:Nat} {t:Tk} {k a:Int},Rd w rb tb cap t i k a→Bd N t i k r→Calls Tryz.prog f #[.pointer (some ⟨rb,0,none⟩)] w (NodeZ 1 w rb tb cap t i k True 8 noK)
def exsZ (f r N:Nat):Prop:=∀{w:World} {rb tb cap i:Nat} {t:Tk} {k a:Int},Rd w rb tb cap t i k a→Bd N t i k r→Calls Tryz.prog f #[.pointer (some ⟨rb,0,none⟩)] w (ListZ 1 w rb tb cap t i k True 0 fun ks=>∀x∈ks,noK x)
def exKZ (f r N:Nat):Prop:=∀{w:World} {rb tb cap i:Nat} {t:Tk} {a:Int},Rd w rb tb cap t i 0 a→Bd N t i 0 r→Calls Tryz.prog f #[.pointer (some ⟨rb,0,none⟩)] w (NodeZ 1 w rb tb cap t i 0 True 8 noK)
def tyQ (wt N:Nat):Prop:=∀{w:World} {rb tb cap i:Nat} {t:Tk} {k a:Int},Rd w rb tb cap t i k a→Bd N t i k 3→Calls Tryz.prog 79 #[.pointer (some ⟨rb,0,none⟩)] w (NodeZ wt w rb tb cap t i k True 8 tyK)
end Go.Proofs.YtagdihffmjopaaaGreatDoor
namespace Go.Proofs.YtagdihffmjopaaaGreatDoor
set_option linter.all false
open Go.RowKit
variable{wt:Nat}
theorem exKZ.at0 {f r N:Nat} (hI:exKZ f r N) {w:World} {rb tb cap i:Nat} {t:Tk} {k a:Int} (hk:k=0) (h:Rd w rb tb cap t i k a) (hN:Bd N t i k r):Calls Tryz.prog f #[.pointer (some ⟨rb,0,none⟩)] w (NodeZ 1 w rb tb cap t i k True 8 noK):=by
 subst hk
 exact hI h hN
def exWZ (N:Nat):Prop:=∀{w:World} {rb tb cap i:Nat} {t:Tk} {a:Int},t.kind i=3→Rd w rb tb cap t i 0 a→Bd N t i 0 9→Calls Tryz.prog 108 #[.pointer (some ⟨rb,0,none⟩)] w (NodeZ 1 w rb tb cap t i 0 True 8 noK)
theorem exWZ.at0 {N:Nat} (hI:exWZ N) {w:World} {rb tb cap i:Nat} {t:Tk} {k a:Int} (hk:k=0) (hw:t.kind i=3) (h:Rd w rb tb cap t i k a) (hN:Bd N t i k 9):Calls Tryz.prog 108 #[.pointer (some ⟨rb,0,none⟩)] w (NodeZ 1 w rb tb cap t i k True 8 noK):=by
 subst hk
 exact hI hw h hN
def liQ (f:Nat) (must:Prop) (C:List Int→Prop):Prop:=∀{w:World} {rb tb cap i:Nat} {t:Tk} {k a:Int},Rd w rb tb cap t i k a→Calls Tryz.prog f #[.pointer (some ⟨rb,0,none⟩)] w (ListZ 1 w rb tb cap t i k must 0 C)
def noQ (wt f:Nat) (must:Prop) (d:Int) (C:Int→Prop):Prop:=∀{w:World} {rb tb cap i:Nat} {t:Tk} {k a:Int},Rd w rb tb cap t i k a→Calls Tryz.prog f #[.pointer (some ⟨rb,0,none⟩)] w (NodeZ wt w rb tb cap t i k must d C)
theorem Mz.dead {w W:World} {rb tb cap i j:Nat} {t:Tk} {k kj aj:Int} {g:Prop} {s s':Int} {L:List (Nat × Array Value)} {T:List (List Value)} {kv:Value} {vs:List (List Value)} (q:Mz wt w rb tb cap t i k g s W j kj aj L T kv vs) (hk:kj≠0):Mz wt w rb tb cap t i k g s' W j kj aj L T kv vs:=⟨q.mid,fun e=>absurd e hk⟩
end Go.Proofs.YtagdihffmjopaaaGreatDoor
namespace Go.Proofs.YtagdihffmjopaaaGreatDoor
set_option linter.all false
open Go.RowKit
variable{wt:Nat}
theorem Mz.sub {w W:World} {rb tb cap i j:Nat} {t:Tk} {k kj aj:Int} {g:Prop} {s:Int} {L:List (Nat × Array Value)} {T T':List (List Value)} {kv:Value} {vs:List (List Value)} (q:Mz wt w rb tb cap t i k g s W j kj aj L T kv vs) (hT:∀x∈T',x∈T) (hz:∀f (X:World),tot wt f X T'≤tot wt f X T):Mz wt w rb tb cap t i k g s W j kj aj L T' kv vs:=
 ⟨q.mid.sub hT,fun e f=>by have h1:=q.sz e f;have h2:=hz f W;omega⟩
end Go.Proofs.YtagdihffmjopaaaGreatDoor
