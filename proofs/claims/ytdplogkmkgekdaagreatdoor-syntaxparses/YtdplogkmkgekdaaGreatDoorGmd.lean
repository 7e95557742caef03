/- The bodies of the grammar's loops; the end of a path, by a script. -/
import Derived.Test.YtdplogkmkgekdaaGreatDoorMfv
import Derived.Test.YtdplogkmkgekdaaGreatDoorPath
import Derived.Test.YtdplogkmkgekdaaGreatDoorZParams
import Derived.Test.YtdplogkmkgekdaaGreatDoorGmc
set_option linter.all false
set_option maxRecDepth 100000
set_option maxHeartbeats 4000000
namespace Go.Proofs.YtdplogkmkgekdaaGreatDoor
open Go.RowKit
variable {wt:Nat}
theorem bad64F {w:World} {rb tb cap i:Nat} {t:Tk} {k a:Int} (h:Rd w rb tb cap t i k a):
 Calls Tryz.prog 99 #[.pointer (some ⟨rb,0,none⟩)] w fun e w'=>e=.returned (.tuple #[])∧(∃k' a',k'≠0∧Rd w' rb tb cap t i k' a'∧Ev (fun _=>gBad t) ⟨i,k,a⟩ ((),⟨i,k',a'⟩))∧Kp w.heap.size rb w w':=by
 have r0:=h.r0
 have r1:=h.r1
 have r2:=h.r2
 have r3:=h.r3
 have hl:=h.l
 have hlt:=h.row.lt
 have f2:=h.fz 2
 have f3:=h.fz 3
 have hne:=h.ne
 have e1:=h.row.c1 i h.lt
 have hi:(i:Int)<(t.len:Int):=by have:=h.lt;omega
 cases hk:(k==0)
 ·go_enter Tryz.func99,Tryz.ntmps99
  go_wp2_with (go_at_call 18;refine(ok21 h).mono ?_;rintro e w1 ⟨rfl,rfl⟩)
  go_end0
  have hk':k≠0:=by simpa using hk
  exact⟨rfl,⟨k,a,hk',h,ev_bad ⟨rfl,fun e=>absurd e hk',fun _=>⟨rfl,rfl⟩⟩⟩,Kp.refl _ _ _⟩
 ·obtain rfl:k=0:=by simpa using hk
  go_enter Tryz.func99,Tryz.ntmps99
  go_wp2_with (go_at_call 18;refine(ok21 h).mono ?_;rintro e w1 ⟨rfl,rfl⟩)
  go_region
  go_end0
  exact⟨rfl,⟨4,t.pos i,by decide,(h.setF 4 (t.pos i)).drew,ev_bad ⟨rfl,fun _=>⟨rfl,rfl⟩,fun e=>absurd rfl e⟩⟩,((Kp.setCell (p:=⟨rb,3,none⟩) (Kp.setCell (p:=⟨rb,2,none⟩) (Kp.refl _ _ _) (.inr rfl) _) (.inr rfl) _)).drew⟩
theorem want39F {w:World} {rb tb cap i:Nat} {t:Tk} {k a:Int} (h:Rd w rb tb cap t i k a) (s:ByteArray):
 Calls Tryz.prog 42 #[.pointer (some ⟨rb,0,none⟩),.string s] w fun e w'=>e=.returned (.tuple #[])∧∃i' k' a',Nx w rb tb cap t i k True w' i' k' a'∧Ev (fun _=>gWant t s) ⟨i,k,a⟩ ((),⟨i',k',a'⟩):=by
 go_enter Tryz.func42,Tryz.ntmps42
 go_wp2_with (first|(go_at_call 45;refine(eat42 h s).mono ?_;rintro e w1 ⟨b,i1,rfl,hE,h1,hk1⟩)|(go_at_call 99;refine(bad64F h1).mono ?_;rintro e w2 ⟨rfl,⟨k2,a2,hk2,h2,hm⟩,hk2'⟩))
 ·go_end0
  have hb:b=false:=by simpa using ‹(!b)=true›
  exact⟨rfl,i1,k2,a2,⟨h2,hk1.trans (hk2'.mono hk1.size),hE.le,fun e=>absurd e hk2,fun _ e=>absurd e hk2⟩,Ev.bnd' (ev_eat hE) (Ev.no hb hm)⟩
 ·go_end0
  have hb:b=true:=by simpa using ‹(!b)=false›
  obtain⟨e1,e2⟩:=hE.yes hb
  exact⟨rfl,i1,k,a,⟨h1,hk1,by omega,fun _=>e2,fun _ _=>by omega⟩,Ev.bnd' (ev_eat hE) (Ev.yes hb Ev.ret')⟩
theorem name40F {w:World} {rb tb cap i:Nat} {t:Tk} {k a:Int} (h:Rd w rb tb cap t i k a):
 Calls Tryz.prog 43 #[.pointer (some ⟨rb,0,none⟩)] w fun e w'=>∃s,e=.returned (.string s)∧s.size≤6000∧∃i' k' a',Nx w rb tb cap t i k True w' i' k' a'∧(k'=0→nameOK s)∧Ev (fun _=>gName t) ⟨i,k,a⟩ (s,⟨i',k',a'⟩):=by
 have hi:(i:Int)<(t.len:Int):=by have:=h.lt;omega
 have hfew:(t.len:Int)≤6001:=by have:=h.good.few;omega
 have hfd:=fld103_2
 cases hb:kindB t i k 0 2
 ·have HB:Hid (kindB t i k 0 2=false):=hb
  go_enter Tryz.func43,Tryz.ntmps43
  go_wp2_with (first|(go_at_call 19;refine(kind22 h 0 (by omega) 2).mono ?_;rintro e w1 ⟨rfl,hb1⟩)|(go_at_call 99;refine(bad64F (h.below hb1)).mono ?_;rintro e w2 ⟨rfl,⟨k2,a2,hk2,h2,hm⟩,hk2'⟩))
  go_ret
  exact⟨⟨#[]⟩,rfl,by decide,i,k2,a2,⟨h2,(Kp.of_below hb1).trans (hk2'.mono hb1.size),Nat.le_refl _,fun e=>absurd e hk2,fun _ e=>absurd e hk2⟩,fun e=>absurd e hk2,Ev.bnd' ev_kind (Ev.no HB.out (Ev.seq hm Ev.ret'))⟩
 ·have HB:Hid (kindB t i k 0 2=true):=hb
  obtain⟨hk,hlt,hkind⟩:=kindB_lt h.good h.lt (by decide) hb
  have HK:Hid (k=0):=hk
  have HKi:Hid (t.kind i=2):=by show t.kind i=2;omega
  clear hk hkind
  go_enter Tryz.func43,Tryz.ntmps43
  go_wp2_with (first|(go_at_call 19;refine(kind22 h 0 (by omega) 2).mono ?_;rintro e w1 ⟨rfl,hb1⟩)|(go_at_call 41;refine(tok38 (h.below hb1)).mono ?_;rintro e w2 ⟨rfl,hb2⟩;have h2:=(h.below hb1).below hb2;have r1:=h2.r1;have hl1:=h2.l;have f1:=h2.fz 1))
  go_ret
  exact⟨t.text i,rfl,h.good.textb i,i+1,k,a,⟨h2.setI hlt,Kp.setCell (p:=⟨rb,1,none⟩) (Kp.of_below (hb1.trans (hb2.mono hb1.size))) (.inr rfl) _,by omega,fun e=>e,fun _ _=>by omega⟩,fun _=>h.good.name i HKi.out,Ev.bnd' ev_kind (Ev.yes HB.out (Ev.bnd' ev_text (Ev.seq ev_add Ev.ret')))⟩
section
variable {w W w':World} {rb tb cap i j:Nat} {t:Tk} {k a kj aj:Int} {g:Prop} {s:Int} {L:List (Nat × Array Value)} {T:List (List Value)} {kv:Value} {vs:List (List Value)} {Ft Fv:List (List Nr)}
theorem Mid.flats_grown (q:Mid w rb tb cap t i k g W j kj aj L T kv vs) (hg:W.grownBy w' kv.ownBlock) (f:Nat):vs.map (flat f w')=vs.map (flat f W)∧T.map (flat f w')=T.map (flat f W):=by
 obtain⟨h,ha⟩:=q.all
 have hs:Same (fun b=>Out w (L.map adr) kv b∧b<W.heap.size) W w':=Same.grown hg (fun b e hb=>hb.1.2.2 e)
 exact⟨List.map_congr_left (fun x hx=>flat_frame hs _ _ (isNode.low _ _ (ha x (.inl hx))) f),List.map_congr_left (fun x hx=>flat_frame hs _ _ (isNode.low _ _ (ha x (.inr hx))) f)⟩
theorem Mf.run_app {us:List (List Value)} {U:List (List Nr)} (q:Mf wt w rb tb cap t i k g s W j kj aj L (us++T) kv vs (U++Ft) Fv) (hU:U.length=us.length) (hv:vs.length≤19000) (hu:us.length≤6010) (ty:TypeId) {xv:Value} (hx:(xv=.slice none 0 0∧us=[])∨∃ad c,xv=.slice (some ad) us.length c∧∀j u,us.flatten[j]? =some u→W.cell? (ad.add j)=some u):
 ∃v' w',(Builtin.append_ #[22,22] ty #[kv,xv]).run Tryz.prog W=.ok v' w'∧∃ao cp,v'=.slice ao (vs.length+us.length) cp∧Mf wt w rb tb cap t i k g s w' j kj aj L T (.slice ao (vs.length+us.length) cp) (vs++us) Ft (Fv++U):=by
 obtain⟨i0,hi0,hz0,hz1,hz2⟩:=info_parts info46
 have hsp:=q.fT.split hU
 rcases hx with⟨rfl,rfl⟩|⟨ad,c,rfl,hc⟩
 ·obtain⟨v',w',hr,ao,cp,he,q'⟩:=q.z.run_app hv hu ty (.inl ⟨rfl,rfl⟩)
  obtain rfl:U=[]:=List.eq_nil_of_length_eq_zero hU
  have hr2:=run_append_owned_none (P:=Tryz.prog) (w:=W) w.heap.size 22 ty 28 i0 11 Tryz.underlying22 hi0 kv vs.length vs.flatten q.z.mid.row
  rw[hr] at hr2
  obtain⟨rfl,rfl⟩:v'=kv∧w'=W:=by simpa using hr2
  exact⟨v',w',hr,ao,cp,he,q',q.fT,by simpa using q.fv⟩
 ·obtain⟨h,ha⟩:=q.z.mid.all
  obtain⟨f1,f2⟩:=flat_ones (us:=us) (fun x hx=>isNode.ones _ _ (ha x (.inr (List.mem_append.2 (.inl hx)))))
  obtain⟨v',w',hr,h2,h3,_,h5⟩:=run_append_own_at (P:=Tryz.prog) W w.heap.size 22 ty 28 i0 _ 11 160 Tryz.underlying22 hi0 hz0 hz1 hz2 rfl (by decide) kv vs.length vs.flatten q.z.mid.row ad us.length c us.flatten f1 hc f2 (by unfold maxLen;omega) (by omega) q.z.mid.st.size
  obtain⟨v2,w2,hr',ao,cp,he,q'⟩:=q.z.run_app hv hu ty (.inr ⟨ad,c,rfl,hc⟩)
  rw[hr] at hr'
  obtain⟨rfl,rfl⟩:v'=v2∧w'=w2:=by simpa using hr'
  have e:=fun f=>q.z.mid.flats_grown h3 f
  have hT:Fl w' (us++T) (U++Ft):=q.fT.cong (fun f=>(e f).2)
  exact⟨v',w',hr,ao,cp,he,q',(hT.split hU).2,(q.fv.cong (fun f=>(e f).1)).app (hT.split hU).1⟩
theorem Mf.run_app1 {kind pos n m:Int} {name:ByteArray} {ko:Option Addr} {kl kc:Nat} {x:List Nr} (q:Mf wt w rb tb cap t i k g s W j kj aj L ((nodeC kind pos n m name (.slice ko kl kc)).toList::T) kv vs (x::Ft) Fv) (hv:vs.length≤19000) (ty:TypeId) {ad:Nat} (had:ad=W.heap.size):
 ∃v' w',(Builtin.append_ #[22,22] ty #[kv,.slice (some ⟨ad,0,none⟩) 1 1]).run Tryz.prog (W.alloc (.cells (nodeC kind pos n m name (.slice ko kl kc)) 28))=.ok v' w'∧∃ao cp,v'=.slice ao (vs.length+1) cp∧Mf wt w rb tb cap t i k g s w' j kj aj L T (.slice ao (vs.length+1) cp) (vs++[(nodeC kind pos n m name (.slice ko kl kc)).toList]) Ft (Fv++[x]):=by
 subst had
 exact Mf.run_app (us:=[(nodeC kind pos n m name (.slice ko kl kc)).toList]) (U:=[x]) (q.alloc _) rfl hv (by simp) ty (.inr ⟨_,_,rfl,by simpa using cells11_new W kind pos n m name (.slice ko kl kc) 28⟩)
theorem Mf.run_apps {us:List (List Value)} {U:List (List Nr)} {ao:Option Addr} {cp B:Nat} {G:Prop} (q:Mf wt w rb tb cap t i k g s W j kj aj L (us++T) kv vs (U++Ft) Fv) (hU:U.length=us.length) (hK:Kids B G W (.slice ao us.length cp) us) (hv:vs.length≤19000) (hu:us.length≤6010) (ty:TypeId):
 ∃v' w',(Builtin.append_ #[22,22] ty #[kv,.slice ao us.length cp]).run Tryz.prog W=.ok v' w'∧∃ao cp,v'=.slice ao (vs.length+us.length) cp∧Mf wt w rb tb cap t i k g s w' j kj aj L T (.slice ao (vs.length+us.length) cp) (vs++us) Ft (Fv++U):=by
 refine q.run_app hU hv hu ty ?_
 rcases hK.row.2 with⟨h1,h2⟩|⟨b,c2,cur,h1,_⟩
 ·exact .inl ⟨by simpa using h1,List.eq_nil_of_length_eq_zero h2⟩
 ·obtain⟨rfl,_,rfl⟩:ao=some ⟨b,0,none⟩∧us.length=us.length∧cp=c2:=by simpa using h1
  exact .inr ⟨_,_,rfl,hK.row.cells (g:=b) rfl⟩
theorem Mf.retb {fn:Func} {r:Nat} (hf:fn.results=#[.cell r 28]) {act:Act} (hd:act.defers=[]) {b:Nat} (ht:act.tmps.getD r undef=.pointer (some ⟨b,0,none⟩)) {C:Int→Prop} {kind pos n m:Int} {name:ByteArray} {ko:Option Addr} {kl kc:Nat} {x:List Nr} {mm:Nat→GP (List Nr)}
 (q:Mf wt w rb tb cap t i k g s W j kj aj L ((nodeC kind pos n m name (.slice ko kl kc)).toList::T) kv vs (x::Ft) Fv) (N:Nat) (hz:L[N]? =some (b,zeroC)) (hC:kj=0→C (labOf (nodeC kind pos n m name (.slice ko kl kc)).toList)) {d:Int} (hd':s+d≤0) {wf:World}
 (he:wf=Go.Proofs.YtdplogkmkgekdaaGreatDoor.set11 W b (.int .i64 kind) (.int .i64 pos) (.int .i64 n) (.int .i64 m) (.string name) (.slice ko kl kc) (.int .i64 0) (.int .i64 0) (.slice none 0 0) (.slice none 0 0) (.slice none 0 0)) (hm:Ev mm ⟨i,k,a⟩ (x,⟨j,kj,aj⟩)):
 bodyPost Tryz.prog fn (NodeF wt w rb tb cap t i k a g d C mm) .ret act wf:=by
 subst he
 have q1:=q.put11 N hz (.int .i64 kind) (.int .i64 pos) (.int .i64 n) (.int .i64 m) (.string name) (.slice ko kl kc) (.int .i64 0) (.int .i64 0) (.slice none 0 0) (.slice none 0 0) (.slice none 0 0)
 have hB:Blk _ b _:=(q1.z.mid.blk N (b,_) (by rw[List.getElem?_set,if_pos rfl,if_pos (List.getElem?_eq_some_iff.1 hz).1])).2
 obtain⟨h,ha⟩:=q1.z.mid.all
 refine bodyPost_ret (results_node hf ht hB) hd ⟨kind,pos,n,m,name,ko,kl,kc,j,kj,aj,rfl,⟨q1.st.rd,q1.st.kp,q1.le,q1.ok,q1.go⟩,⟨h,isNode.weaken (fun b hb=>hb.1) (fun x=>x) _ _ (ha _ (.inr (List.mem_cons_self ..)))⟩,hC,fun e f=>?_,x,q1.fT.head,hm⟩
 have h1:=q1.z.sz e f
 have h2:=tot_nonneg wt f (set11 W b (.int .i64 kind) (.int .i64 pos) (.int .i64 n) (.int .i64 m) (.string name) (.slice ko kl kc) (.int .i64 0) (.int .i64 0) (.slice none 0 0) (.slice none 0 0) (.slice none 0 0)) vs
 have h3:=tot_nonneg wt f (set11 W b (.int .i64 kind) (.int .i64 pos) (.int .i64 n) (.int .i64 m) (.string name) (.slice ko kl kc) (.int .i64 0) (.int .i64 0) (.slice none 0 0) (.slice none 0 0) (.slice none 0 0)) T
 rw[tot_cons] at h1
 omega
theorem Mf.post (q:Mf wt w rb tb cap t i k g s W j kj aj L T kv vs Ft Fv) {must:Prop} {d:Int} {C:List Int→Prop} {mm:Nat→GP (List (List Nr))} (hm:must→g) (hl:vs.length≤6002) (hC:kj=0→C (vs.map labOf)) (hs:s+d≤0) (he:Ev mm ⟨i,k,a⟩ (Fv,⟨j,kj,aj⟩)):ListF wt w rb tb cap t i k a must d C mm (.returned kv) W:=by
 obtain⟨ao,cp,rfl⟩:=q.shape
 refine⟨ao,cp,vs,j,kj,aj,rfl,⟨q.st.rd,q.st.kp,q.le,q.ok,fun m=>q.go (hm m)⟩,q.z.mid.kids,hl,hC,fun e f=>?_,Fv,q.fv,he⟩
 have h1:=q.z.sz e f
 have h2:=tot_nonneg wt f W T
 omega
variable {ops:Array Oper} {rest:List Oper} {p:Oper} {act:Act} {S:Exit→Act→World→Prop} {sv xo:Operand} {ko ro:Option Addr} {kl kc rl rc:Nat} {ki po n m:Int} {na:ByteArray} {Kk:Act→World→Prop} {Ee:Prop} {x:List Nr}
theorem Mf.ap (q:Mf wt w rb tb cap t i k g s W j kj aj L ((nodeC ki po n m na (.slice ko kl kc)).toList::T) (.slice ro rl rc) vs (x::Ft) Fv) (ad:Nat) (hv:vs.length≤19000) (K:∀w' ao cp,Mf wt w rb tb cap t i k g s w' j kj aj L T (.slice ao (rl+1) cp) (vs++[(nodeC ki po n m na (.slice ko kl kc)).toList]) Ft (Fv++[x])→wpList Tryz.prog ops S rest (act.put p.dst (.slice ao (rl+1) cp)) w') (hgd:p.guard=none:=by rfl) (ho:p.op=.call {callee:=.builtin .append,args:=#[sv,xo],argTypes:=#[22,22]}:=by rfl) (hs:act.eval sv=.slice ro rl rc:=by rfl) (hx:act.eval xo=sl ad 1:=by rfl) (had:ad=W.heap.size:=by simp):wpList Tryz.prog ops S (p::rest) act (W.alloc (.cells (nodeC ki po n m na (.slice ko kl kc)) 28)):=by
 obtain⟨ro',rc',e⟩:=q.shape
 obtain⟨rfl,rfl,rfl⟩:ro=ro'∧rl=vs.length∧rc=rc':=by simpa using e
 refine wp_run hgd ho hs hx (Mf.run_app1 q hv _ had) fun v' w' h=>?_
 obtain⟨ao,cp,rfl,q'⟩:=h
 exact K w' ao cp q'
theorem Mf.as (q:Mf wt w rb tb cap t i k g s W j kj aj L ((nodeC ki po n m na (.slice ko kl kc)).toList::T) (.slice ro rl rc) vs (x::Ft) Fv) (ad:Nat) (hv:vs.length≤19000) (K:∀w' ao cp,Mf wt w rb tb cap t i k g s w' j kj aj L T (.slice ao (rl+1) cp) (vs++[(nodeC ki po n m na (.slice ko kl kc)).toList]) Ft (Fv++[x])→Kk (act.put p.dst (.slice ao (rl+1) cp)) w') (hgd:p.guard=none:=by rfl) (ho:p.op=.call {callee:=.builtin .append,args:=#[sv,xo],argTypes:=#[22,22]}:=by rfl) (hs:act.eval sv=.slice ro rl rc:=by rfl) (hx:act.eval xo=sl ad 1:=by rfl) (had:ad=W.heap.size:=by simp):if Region.wanted p (yielded ops act.tmps)=true then Oper.wp Tryz.prog p act (W.alloc (.cells (nodeC ki po n m na (.slice ko kl kc)) 28)) Kk S else Ee:=by
 obtain⟨ro',rc',e⟩:=q.shape
 obtain⟨rfl,rfl,rfl⟩:ro=ro'∧rl=vs.length∧rc=rc':=by simpa using e
 refine step_run hgd ho hs hx (Mf.run_app1 q hv _ had) fun v' w' h=>?_
 obtain⟨ao,cp,rfl,q'⟩:=h
 exact K w' ao cp q'
theorem Mf.rt {fn:Func} {r:Nat} {mm:Nat→GP (List Nr)} (q:Mf wt w rb tb cap t i k g s W j kj aj L ((nodeC ki po n m na (.slice ko kl kc)).toList::T) kv vs (x::Ft) Fv) (hf:fn.results=#[.cell r 28]) (N:Nat) (hm:Ev mm ⟨i,k,a⟩ (x,⟨j,kj,aj⟩)) {wf:World} {b:Nat} (he:wf=set11 W b (.int .i64 ki) (.int .i64 po) (.int .i64 n) (.int .i64 m) (.string na) (.slice ko kl kc) (.int .i64 0) (.int .i64 0) nl nl nl:=by rfl) (hd:act.defers=[]:=by rfl) (ht:act.tmps.getD r undef=.pointer (some ⟨b,0,none⟩):=by rfl) (hz:L[N]? =some (b,zeroC):=by rfl) (hd':s+8≤0:=by omega) (hC:kj=0→noK (labOf (nodeC ki po n m na (.slice ko kl kc)).toList):=by exact fun _=>noK_lab (by unfold noK;decide)):bodyPost Tryz.prog fn (NodeF wt w rb tb cap t i k a g 8 noK mm) .ret act wf:=Mf.retb hf hd ht q N hz hC hd' he hm
def exF (f r N:Nat) (m:Tk→Nat→GP (List Nr)):Prop:=∀{w:World} {rb tb cap i:Nat} {t:Tk} {k a:Int},Rd w rb tb cap t i k a→Bd N t i k r→Calls Tryz.prog f #[.pointer (some ⟨rb,0,none⟩)] w (NodeF 1 w rb tb cap t i k a True 8 noK (m t))
def exKF (f r N:Nat) (m:Tk→Nat→GP (List Nr)):Prop:=∀{w:World} {rb tb cap i:Nat} {t:Tk} {a:Int},Rd w rb tb cap t i 0 a→Bd N t i 0 r→Calls Tryz.prog f #[.pointer (some ⟨rb,0,none⟩)] w (NodeF 1 w rb tb cap t i 0 a True 8 noK (m t))
def exsF (f r N:Nat) (m:Tk→Nat→GP (List (List Nr))):Prop:=∀{w:World} {rb tb cap i:Nat} {t:Tk} {k a:Int},Rd w rb tb cap t i k a→Bd N t i k r→Calls Tryz.prog f #[.pointer (some ⟨rb,0,none⟩)] w (ListF 1 w rb tb cap t i k a True 0 (fun ks=>∀x∈ks,noK x) (m t))
def tyF (wt N:Nat):Prop:=∀{w:World} {rb tb cap i:Nat} {t:Tk} {k a:Int},Rd w rb tb cap t i k a→Bd N t i k 3→Calls Tryz.prog 169 #[.pointer (some ⟨rb,0,none⟩)] w (NodeF wt w rb tb cap t i k a True 8 tyK (fun n=>gG t n 0))
theorem Mf.bd {N r:Nat} (q:Mf wt w rb tb cap t i k True s W j kj aj L T kv vs Ft Fv) (HB:∀i' k' r',(k'=0→i<i')→r'<64→Bd N t i' k' r') (hr:r<64):Bd N t j kj r:=q.z.bd HB hr
theorem wrap2 {n:Int} (h:n=0∨n=1):wrap64 (n+2)=n+2:=by
 rcases h with rfl|rfl<;>(unfold wrap64;decide)
theorem Mf.first {ao:Option Addr} {cp:Nat} (q:Mf wt w rb tb cap t i k g s W j kj aj L T (.slice ao vs.length cp) vs Ft Fv) (h1:vs.length=1):∃gb,ao=some ⟨gb,0,none⟩∧gb<W.heap.size∧gb≠rb∧gb∉L.map adr∧∃kind pos n m name ko kl kc,vs=[(nodeC kind pos n m name (.slice ko kl kc)).toList]∧∀o,o<11→W.cell? ⟨gb,o,none⟩=(nodeC kind pos n m name (.slice ko kl kc))[o]? :=q.z.first h1
theorem Mf.notin {b:Nat} (q:Mf wt w rb tb cap t i k g s W j kj aj L T kv vs Ft Fv) (hb:b∉L.map adr) (n:Nat) {b':Nat} {c:Array Value} (hn:L[n]? =some (b',c)):b≠b'∧b'≠b:=q.z.notin hb n hn
theorem Mf.one (q:Mf wt w rb tb cap t i k g s W j kj aj L T kv vs Ft Fv) (h1:vs.length=1):∃y,Fv=[y]:=List.length_eq_one_iff.1 (q.fv.len.trans h1)
theorem gTuple_ne {ki po:Int} {ks:List (List Nr)} (h:ks.length≠1):gTuple ki po ks=nd ki po 0 0 E0 ks:=by
 unfold gTuple
 split
 ·exact absurd rfl h
 ·rfl
def tysF (wt N:Nat):Prop:=∀{w:World} {rb tb cap i:Nat} {t:Tk} {k a:Int},Rd w rb tb cap t i k a→Bd N t i k 4→∀s,Calls Tryz.prog 170 #[.pointer (some ⟨rb,0,none⟩),.string s] w (ListF wt w rb tb cap t i k a True 0 (fun ks=>∀x∈ks,tyK x) (fun n=>gList t (gG t n 0) s n))
def refF (wt N:Nat):Prop:=∀{w:World} {rb tb cap i:Nat} {t:Tk} {k a:Int},Rd w rb tb cap t i k a→k=0→i+1<t.len→Bd N t i k 2→Calls Tryz.prog 206 #[.pointer (some ⟨rb,0,none⟩)] w (NodeF wt w rb tb cap t i k a True 8 tyK (fun n=>gRef t (gG t n 0)))
def argsF (wt N:Nat):Prop:=∀{w:World} {rb tb cap i:Nat} {t:Tk} {k a:Int},Rd w rb tb cap t i k a→Bd N t i k 4→Calls Tryz.prog 207 #[.pointer (some ⟨rb,0,none⟩)] w (ListF wt w rb tb cap t i k a True 0 argK (fun n=>gArgs t (gG t n 0) n))
end
end Go.Proofs.YtdplogkmkgekdaaGreatDoor
namespace Go.Proofs.YtdplogkmkgekdaaGreatDoor
section
variable (t:Tk)
def gRowB (x:GP (List Nr)) (e:ByteArray) (o:List (List Nr)):GP (Bool × (List (List Nr))):=bnd gOk (fun b=>cond b (bnd x (fun y=>bnd (gEat t e) (fun b2=>cond b2 (ret (false,o++[y])) (seq (gWant t ⟨#[44]⟩) (ret (true,o++[y])))))) (ret (false,o)))
def gArgsB (x:List (List Nr) × Bool):GP (Bool × (List (List Nr) × Bool)):=bnd (gKind t 0 4) (fun b=>cond b (bnd (gLife t) (fun y=>bnd (gEat t ⟨#[62]⟩) (fun b2=>cond b2 (ret (false,(x.1++[y],true))) (seq (gWant t ⟨#[44]⟩) (ret (true,(x.1++[y],false))))))) (ret (false,x)))
def gBoundsB (lives:Bool) (fu:Nat) (o:List (List Nr)):GP (Bool × (List (List Nr))):=bnd gOk (fun b1=>cond b1 (bnd (gKind t 0 4) (fun b2=>bnd (cond (lives||b2) (gLife t) (gPathNode t fu)) (fun y=>bnd (gEat t ⟨#[43]⟩) (fun b3=>cond b3 (ret (true,o++[y])) (ret (false,o++[y])))))) (ret (false,o)))
def gGensB (bounded:Bool) (fu:Nat) (x:List (List Nr) × Bool):GP (Bool × (List (List Nr) × Bool)):=bnd gOk (fun b1=>cond b1 (bnd (gAt t) (fun q=>bnd (gKind t 0 4) (fun b2=>cond (b2&&!x.2) (bnd (gLifeName t) (fun s=>bnd (cond bounded (gBounds t true fu) (ret [])) (fun ks=>bnd (gEat t ⟨#[62]⟩) (fun b3=>cond b3 (ret (false,(x.1++[nd 10 q 0 0 s ks],x.2))) (seq (gWant t ⟨#[44]⟩) (ret (true,(x.1++[nd 10 q 0 0 s ks],x.2)))))))) (bnd (gName t) (fun s=>bnd (cond bounded (gBounds t false fu) (ret [])) (fun ks=>bnd (gEat t ⟨#[62]⟩) (fun b3=>cond b3 (ret (false,(x.1++[nd 11 q 0 0 s ks],true))) (seq (gWant t ⟨#[44]⟩) (ret (true,(x.1++[nd 11 q 0 0 s ks],true))))))))))) (ret (false,x)))
def gChainB (k:Int) (w:ByteArray) (X:GP (List Nr)) (l:List Nr):GP (Bool × (List Nr)):=bnd gOk (fun b0=>bnd (gIs t 0 w) (fun b=>cond (b0&&b) (bnd (gAt t) (fun p=>seq (gWant t w) (bnd X (fun r=>ret (true,nd k p 0 0 E0 [l,r]))))) (ret (false,l))))
def gChainSB (ss:List ByteArray) (X:GP (List Nr)) (l:List Nr):GP (Bool × (List Nr)):=bnd gOk (fun b0=>cond b0 (bnd (gSign t ss) (fun w=>cond (w.size==0) (ret (false,l)) (bnd (gAt t) (fun p=>seq (gWant t w) (bnd X (fun r=>ret (true,nd 29 p 0 0 w [l,r]))))))) (ret (false,l)))
def gPostfixB (E:GP (List Nr)) (fu:Nat) (e:List Nr):GP (Bool × (List Nr)):=bnd gOk (fun b0=>cond b0 (bnd (gIs t 0 ⟨#[40]⟩) (fun b=>cond b (bnd (gAt t) (fun p=>seq (gWant t ⟨#[40]⟩) (bnd (gList t E ⟨#[41]⟩ fu) (fun ks=>ret (true,nd 24 p 0 0 E0 (e::ks)))))) (bnd (gIs t 0 ⟨#[46]⟩) (fun b2=>cond b2 (bnd (gAt t) (fun p=>seq (gWant t ⟨#[46]⟩) (bnd (gKind t 0 1) (fun b3=>cond b3 (bnd (gNum t) (fun n=>seq (gAdd 1) (ret (true,nd 25 p n 0 E0 [e])))) (bnd (gName t) (fun s=>ret (true,nd 25 p 0 0 s [e]))))))) (ret (false,e)))))) (ret (false,e)))
def gBlockB (L:GP (List Nr)) (E:GP (List Nr)) (P:GP (List Nr)) (x:List (List Nr) × Int):GP (Bool × (List (List Nr) × Int)):=bnd (gOk) (fun b15=>bnd (cond (b15) (gEat t ⟨#[125]⟩) (ret (true))) (fun b16=>cond (b16) (ret (false,x)) (bnd (gIs t 0 ⟨#[108,101,116]⟩) (fun b14=>cond (b14) (bnd (L) (fun y=>seq (gWant t ⟨#[59]⟩) (ret (true,(x.1++[y],x.2))))) (bnd (gIs t 0 ⟨#[105,102]⟩) (fun b7=>bnd (gIs t 0 ⟨#[109,97,116,99,104]⟩) (fun b8=>bnd (gIs t 0 ⟨#[119,104,105,108,101]⟩) (fun b9=>bnd (gIs t 0 ⟨#[108,111,111,112]⟩) (fun b10=>bnd (gIs t 0 ⟨#[123]⟩) (fun b11=>bnd (cond (b7||(b8||(b9||(b10||(b11))))) (P) (E)) (fun y=>bnd (gEat t ⟨#[59]⟩) (fun b13=>cond (b13) (ret (true,(x.1++[y],x.2))) (bnd (gIs t 0 ⟨#[125]⟩) (fun b12=>cond (b12) (ret (true,(x.1++[y],1))) (cond (b7||(b8||(b9||(b10||(b11))))) (ret (true,(x.1++[y],x.2))) (seq (gBad t) (ret (true,(x.1++[y],x.2)))))))))))))))))))
def gCapsB (o:List (List Nr)):GP (Bool × (List (List Nr))):=bnd (gOk) (fun b22=>cond (b22) (bnd (gAt t) (fun p=>bnd (bnd (gEat t ⟨#[38]⟩) (fun b21=>cond (b21) (bnd (gEat t ⟨#[109,117,116]⟩) (fun b20=>cond (b20) (ret ((2:Int))) (ret ((1:Int))))) (ret ((0:Int))))) (fun n=>bnd (gName t) (fun s=>bnd (gEat t ⟨#[93]⟩) (fun b23=>cond (b23) (ret (false,o++[nd 47 p n 0 s []])) (seq (gWant t ⟨#[44]⟩) (ret (true,o++[nd 47 p n 0 s []])))))))) (ret (false,o)))
def gParamsB (T:GP (List Nr)) (o:List (List Nr)):GP (Bool × (List (List Nr))):=bnd (gOk) (fun b25=>cond (b25) (bnd (gAt t) (fun p=>bnd (gMut t) (fun m=>bnd (gName t) (fun s=>seq (gWant t ⟨#[58]⟩) (bnd (T) (fun y=>bnd (gEat t ⟨#[41]⟩) (fun b26=>cond (b26) (ret (false,o++[nd 12 p 0 m s [y]])) (seq (gWant t ⟨#[44]⟩) (ret (true,o++[nd 12 p 0 m s [y]])))))))))) (ret (false,o)))
def gMatchB (E:GP (List Nr)) (Q:GP (List Nr)) (o:List (List Nr)):GP (Bool × (List (List Nr))):=bnd (gOk) (fun b31=>bnd (cond (b31) (gEat t ⟨#[125]⟩) (ret (true))) (fun b32=>cond (b32) (ret (false,o)) (bnd (gAt t) (fun q=>bnd (Q) (fun y=>seq (gWant t ⟨#[61,62]⟩) (bnd (E) (fun z=>bnd (gIs t 0 ⟨#[125]⟩) (fun b30=>cond (b30) (ret (true,o++[nd 35 q 0 0 E0 [y,z]])) (seq (gWant t ⟨#[44]⟩) (ret (true,o++[nd 35 q 0 0 E0 [y,z]])))))))))))
def gMakeB (E:GP (List Nr)) (o:List (List Nr)):GP (Bool × (List (List Nr))):=bnd (gOk) (fun b34=>bnd (cond (b34) (gEat t ⟨#[125]⟩) (ret (true))) (fun b35=>cond (b35) (ret (false,o)) (bnd (gAt t) (fun q=>bnd (gName t) (fun s2=>seq (gWant t ⟨#[58]⟩) (bnd (E) (fun z=>bnd (gIs t 0 ⟨#[125]⟩) (fun b33=>cond (b33) (ret (true,o++[nd 45 q 0 0 s2 [z]])) (seq (gWant t ⟨#[44]⟩) (ret (true,o++[nd 45 q 0 0 s2 [z]])))))))))))
def gStructB (T:GP (List Nr)) (o:List (List Nr)):GP (Bool × (List (List Nr))):=bnd (gOk) (fun b57=>bnd (cond (b57) (gEat t ⟨#[125]⟩) (ret (true))) (fun b58=>cond (b58) (ret (false,o)) (bnd (gAt t) (fun f=>bnd (bnd (gEat t ⟨#[112,117,98]⟩) (fun b55=>cond (b55) (ret ((1:Int))) (ret ((0:Int))))) (fun fm=>bnd (gName t) (fun fs=>seq (gWant t ⟨#[58]⟩) (bnd (T) (fun y=>bnd (gIs t 0 ⟨#[125]⟩) (fun b56=>cond (b56) (ret (true,o++[nd 5 f 0 fm fs [y]])) (seq (gWant t ⟨#[44]⟩) (ret (true,o++[nd 5 f 0 fm fs [y]]))))))))))))
def gEnumB (T:GP (List Nr)) (fu:Nat) (o:List (List Nr)):GP (Bool × (List (List Nr))):=bnd (gOk) (fun b61=>bnd (cond (b61) (gEat t ⟨#[125]⟩) (ret (true))) (fun b62=>cond (b62) (ret (false,o)) (bnd (gAt t) (fun q=>bnd (gName t) (fun vs=>bnd (bnd (gIs t 0 ⟨#[40]⟩) (fun b59=>cond (b59) (seq (gWant t ⟨#[40]⟩) (bnd (gIs t 0 ⟨#[41]⟩) (fun c=>seq (cond c (gBad t) (ret ())) (gList t T ⟨#[41]⟩ fu)))) (ret ([])))) (fun ks=>bnd (gIs t 0 ⟨#[125]⟩) (fun b60=>cond (b60) (ret (true,o++[nd 4 q 0 0 vs (ks.map (fun y=>nd 5 (match y with|[]=>0|z::_=>z.p) 0 0 E0 [y]))])) (seq (gWant t ⟨#[44]⟩) (ret (true,o++[nd 4 q 0 0 vs (ks.map (fun y=>nd 5 (match y with|[]=>0|z::_=>z.p) 0 0 E0 [y]))]))))))))))
def gImplB (T:GP (List Nr)) (B:GP (List Nr)) (fu:Nat) (o:List (List Nr)):GP (Bool × (List (List Nr))):=bnd (gOk) (fun b63=>bnd (cond (b63) (gEat t ⟨#[125]⟩) (ret (true))) (fun b64=>cond (b64) (ret (false,o)) (bnd (gHead t T false fu) (fun h=>bnd (B) (fun z=>ret (true,o++[nd 8 h.1 h.2.2.2 0 h.2.1 (h.2.2.1++[z])]))))))
def gItemB (T:GP (List Nr)) (fu:Nat) (o:List (List Nr)):GP (Bool × (List (List Nr))):=bnd (gOk) (fun b65=>bnd (cond (b65) (gEat t ⟨#[125]⟩) (ret (true))) (fun b66=>cond (b66) (ret (false,o)) (bnd (bnd (gHead t T false fu) (fun h=>ret (nd 8 h.1 h.2.2.2 0 h.2.1 h.2.2.1))) (fun y=>seq (gWant t ⟨#[59]⟩) (ret (true,o++[y]))))))
def gModuleB (o:List (List Nr)):GP (Bool × (List (List Nr))):=bnd (gOk) (fun b0=>bnd (gIs t 0 ⟨#[117,115,101]⟩) (fun b1=>cond (b0&&b1) (bnd (gAt t) (fun q=>seq (gWant t ⟨#[117,115,101]⟩) (bnd (gName t) (fun s1=>seq (gWant t ⟨#[58,58]⟩) (bnd (gName t) (fun s2=>seq (gWant t ⟨#[59]⟩) (ret (true,o++[nd 2 q 0 0 (s1++⟨#[58,58]⟩++s2) []])))))))) (ret (false,o))))
def gModuleB2 (T:GP (List Nr)) (B:GP (List Nr)) (fu:Nat) (o:List (List Nr)):GP (Bool × (List (List Nr))):=bnd (gOk) (fun b71=>bnd (cond (b71) (gEat t ⟨#[125]⟩) (ret (true))) (fun b72=>cond (b72) (ret (false,o)) (bnd (gItem t T B fu) (fun y=>ret (true,o++[y])))))
def gProgB (fu:Nat) (o:List (List Nr)):GP (Bool × (List (List Nr))):=bnd (gOk) (fun b0=>bnd (gKind t 0 0) (fun b1=>cond (b0&&!b1) (bnd (gModule t (gG t fu 0) (gG t fu 3) fu) (fun y=>ret (true,o++[y]))) (ret (false,o))))
end
theorem size0 (s:ByteArray):(s.size==0)=s.toList.isEmpty:=by rw[Lib.toList_data];cases h:s.data.toList<;>simp_all [←ByteArray.size_data,←Array.length_toList]
theorem or_l {a b:Bool} (h:a=true):(a||b)=true:=by rw[h];rfl
theorem or_r {a b:Bool} (h:b=true):(a||b)=true:=by rw[h];cases a<;>rfl
theorem or_n {a b:Bool} (h:a=false) (h':b=false):(a||b)=false:=by rw[h,h'];rfl
theorem and_y {a b:Bool} (h:a=true) (h':b=true):(a&&b)=true:=by rw[h,h'];rfl
theorem and_l {a b:Bool} (h:a=false):(a&&b)=false:=by rw[h];rfl
theorem and_r {a b:Bool} (h:b=false):(a&&b)=false:=by rw[h];cases a<;>rfl
theorem not_y {a:Bool} (h:a=true):(!a)=false:=by rw[h];rfl
theorem not_n {a:Bool} (h:a=false):(!a)=true:=by rw[h];rfl
theorem not_t {a:Bool} (h:(!a)=true):a=false:=by cases a<;>simp_all
theorem not_f {a:Bool} (h:(!a)=false):a=true:=by cases a<;>simp_all
theorem gTuple_ne' {ki po:Int} {ks:List (List Nr)} (h:ks.length≠1):gTuple ki po ks=nd ki po 0 0 E0 ks:=by
 unfold gTuple
 split
 ·exact absurd rfl h
 ·rfl
theorem evt {α:Type} {m:Nat→GP α} {s:Rs} {r:α × Rs} (h:Ev m s r:=by
 repeat' (first
  |with_reducible assumption
  |with_reducible exact Ev.ret'
  |with_reducible rfl
  |with_reducible refine Ev.bnd' ev_at ?_
  |with_reducible refine Ev.bnd' ev_is ?_
  |with_reducible refine Ev.bnd' ev_kind ?_
  |with_reducible refine Ev.bnd' ev_ok ?_
  |with_reducible refine Ev.bnd' ev_tk ?_
  |with_reducible refine Ev.bnd' ev_text ?_
  |with_reducible refine Ev.bnd' ev_num ?_
  |with_reducible refine Ev.seq ev_add ?_
  |with_reducible refine Ev.seq Ev.ret' ?_
  |with_reducible refine Ev.bnd' Ev.ret' ?_
  |with_reducible refine Ev.bnd' ‹_› ?_
  |with_reducible refine Ev.seq ‹_› ?_
  |with_reducible refine Ev.yes rfl ?_
  |with_reducible refine Ev.no rfl ?_
  |with_reducible refine Ev.yes ‹_› ?_
  |with_reducible refine Ev.no ‹_› ?_
  |with_reducible refine Ev.bnd' (ev_eno ‹_›) ?_
  |with_reducible refine Ev.bnd' (ev_eyes ‹_›) ?_
  |with_reducible refine Ev.seq (ev_wyes ‹_›) ?_
  |with_reducible refine Ev.yes (or_l ‹_›) ?_
  |with_reducible refine Ev.yes (and_y ‹_› ‹_›) ?_
  |with_reducible refine Ev.yes (or_r ‹_›) ?_
  |with_reducible refine Ev.yes (or_r (or_l ‹_›)) ?_
  |with_reducible refine Ev.yes (or_r (or_r (or_l ‹_›))) ?_
  |with_reducible refine Ev.yes (or_r (or_r (or_r (or_l ‹_›)))) ?_
  |with_reducible refine Ev.yes (or_r (or_r (or_r (or_r ‹_›)))) ?_
  |with_reducible refine Ev.yes (or_r (or_r (or_r ‹_›))) ?_
  |with_reducible refine Ev.yes (or_r (or_r ‹_›)) ?_
  |with_reducible refine Ev.yes (and_y ‹_› (not_n ‹_›)) ?_
  |with_reducible refine Ev.yes (and_y ‹_› (or_l ‹_›)) ?_
  |with_reducible refine Ev.yes (and_y ‹_› (or_r ‹_›)) ?_
  |with_reducible refine Ev.yes (not_n ‹_›) ?_
  |with_reducible refine Ev.yes ((size0 _).trans ‹_›) ?_
  |with_reducible refine Ev.yes (and_y rfl ‹_›) ?_
  |with_reducible refine Ev.yes (and_y rfl (not_n ‹_›)) ?_
  |with_reducible refine Ev.no (or_n ‹_› ‹_›) ?_
  |with_reducible refine Ev.no (and_l ‹_›) ?_
  |with_reducible refine Ev.no (and_r ‹_›) ?_
  |with_reducible refine Ev.no (or_n ‹_› (or_n ‹_› ‹_›)) ?_
  |with_reducible refine Ev.no (or_n ‹_› (or_n ‹_› (or_n ‹_› (or_n ‹_› ‹_›)))) ?_
  |with_reducible refine Ev.no (and_r (not_y ‹_›)) ?_
  |with_reducible refine Ev.no (and_r (or_n ‹_› ‹_›)) ?_
  |with_reducible refine Ev.no (not_y ‹_›) ?_
  |with_reducible refine Ev.no ((size0 _).trans ‹_›) ?_
  |with_reducible refine Ev.yes (and_y ‹_› rfl) ?_
  |with_reducible refine Ev.yes (Bool.true_or _) ?_
  |with_reducible refine Ev.no (or_n rfl ‹_›) ?_
  |with_reducible refine Ev.yes (not_f ‹_›) ?_
  |with_reducible refine Ev.no (not_t ‹_›) ?_
  |with_reducible refine Ev.yes (and_y rfl (not_f ‹_›)) ?_
  |with_reducible refine Ev.no (and_r rfl) ?_
  |with_reducible refine Ev.yes (beq_iff_eq.2 ‹_›) ?_
  |with_reducible refine Ev.yes (HOB.out.trans ‹_›) ?_
  |with_reducible refine Ev.no (HOB.out.trans ‹_›) ?_
  |with_reducible refine Ev.no (HOB.out.trans (not_t ‹_›)) ?_
  |with_reducible refine Ev.yes (HOB.out.trans (not_f ‹_›)) ?_
  |with_reducible refine Ev.yes (and_y ‹_› (HBB.out.trans ‹_›)) ?_
  |with_reducible refine Ev.no (and_r (HBB.out.trans ‹_›)) ?_
  |exact Ev.ret'
  |refine Ev.bnd (EvL.ev (by assumption)) ?_
  |exact EvL.ev (by assumption)
  |exact Ev.ret (fun _=>gTuple_ne' (by assumption))
  |exact Ev.ret (fun _=>if_pos (by assumption))
  |exact Ev.ret (fun _=>if_neg (by simp;assumption))
  |exact Ev.ret (fun _=> ‹_›)
  |with_reducible apply Ev.bnd'
  |with_reducible apply Ev.seq)):Ev m s r:=h
end Go.Proofs.YtdplogkmkgekdaaGreatDoor
