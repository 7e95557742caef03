/- The project's parser: a lifetime that may be there, how a function is called, what is one token. -/
import Derived.Test.YtdplogkmkgekdaaGreatDoorLxd
import Derived.Test.YtdplogkmkgekdaaGreatDoorGmd
set_option linter.all false
set_option maxRecDepth 100000
set_option maxHeartbeats 4000000
namespace Go.Proofs.YtdplogkmkgekdaaGreatDoor.Pj
open Go.RowKit
section
variable {w W w':World} {rb tb i j:Nat} {cap:Cp} {t:Tk} {g:Prop} {L:List (Nat × Array Value)} {T:List (List Value)} {kv:Value} {vs:List (List Value)} {Ft Fv:List (List Nr)}
theorem Mid.flats_grown (q:Mid w rb tb cap t i 0 g W j 0 0 L T kv vs) (hg:W.grownBy w' kv.ownBlock) (f:Nat):vs.map (flat f w')=vs.map (flat f W)∧T.map (flat f w')=T.map (flat f W):=by
 obtain⟨h,ha⟩:=q.all
 have hs:Same (fun b=>Out w (L.map adr) kv b∧b<W.heap.size) W w':=Same.grown hg (fun b e hb=>hb.1.2.2 e)
 exact⟨List.map_congr_left (fun x hx=>flat_frame hs _ _ (isNode.low _ _ (ha x (.inl hx))) f),List.map_congr_left (fun x hx=>flat_frame hs _ _ (isNode.low _ _ (ha x (.inr hx))) f)⟩
theorem Mf.run_app {us:List (List Value)} {U:List (List Nr)} (q:Mf w rb tb cap t i g W j L (us++T) kv vs (U++Ft) Fv) (hU:U.length=us.length) (hv:vs.length≤19000) (hu:us.length≤6010) (ty:TypeId) {xv:Value} (hx:(xv=.slice none 0 0∧us=[])∨∃ad c,xv=.slice (some ad) us.length c∧∀j u,us.flatten[j]? =some u→W.cell? (ad.add j)=some u):
 ∃v' w',(Builtin.append_ #[22,22] ty #[kv,xv]).run Tryz.prog W=.ok v' w'∧∃ao cp,v'=.slice ao (vs.length+us.length) cp∧Mf w rb tb cap t i g w' j L T (.slice ao (vs.length+us.length) cp) (vs++us) Ft (Fv++U):=by
 obtain⟨i0,hi0,hz0,hz1,hz2⟩:=info_parts info46
 have hsp:=q.fT.split hU
 rcases hx with⟨rfl,rfl⟩|⟨ad,c,rfl,hc⟩
 ·obtain⟨v',w',hr,ao,cp,he,q'⟩:=q.z.run_app hv hu ty (.inl ⟨rfl,rfl⟩)
  obtain rfl:U=[]:=List.eq_nil_of_length_eq_zero hU
  have hr2:=run_append_owned_none (P:=Tryz.prog) (w:=W) w.heap.size 22 ty 28 i0 11 Tryz.underlying22 hi0 kv vs.length vs.flatten q.z.row
  rw[hr] at hr2
  obtain⟨rfl,rfl⟩:v'=kv∧w'=W:=by simpa using hr2
  exact⟨v',w',hr,ao,cp,he,q',q.fT,by simpa using q.fv⟩
 ·obtain⟨h,ha⟩:=q.z.all
  obtain⟨f1,f2⟩:=flat_ones (us:=us) (fun x hx=>isNode.ones _ _ (ha x (.inr (List.mem_append.2 (.inl hx)))))
  obtain⟨v',w',hr,h2,h3,_,h5⟩:=run_append_own_at (P:=Tryz.prog) W w.heap.size 22 ty 28 i0 _ 11 160 Tryz.underlying22 hi0 hz0 hz1 hz2 rfl (by decide) kv vs.length vs.flatten q.z.row ad us.length c us.flatten f1 hc f2 (by unfold maxLen;omega) (by omega) q.z.st.size
  obtain⟨v2,w2,hr',ao,cp,he,q'⟩:=q.z.run_app hv hu ty (.inr ⟨ad,c,rfl,hc⟩)
  rw[hr] at hr'
  obtain⟨rfl,rfl⟩:v'=v2∧w'=w2:=by simpa using hr'
  have e:=fun f=>q.z.flats_grown h3 f
  have hT:Fl w' (us++T) (U++Ft):=q.fT.cong (fun f=>(e f).2)
  exact⟨v',w',hr,ao,cp,he,q',(hT.split hU).2,(q.fv.cong (fun f=>(e f).1)).app (hT.split hU).1⟩
theorem Mf.run_app1 {kind pos n m:Int} {name:ByteArray} {ko:Option Addr} {kl kc:Nat} {x:List Nr} (q:Mf w rb tb cap t i g W j L ((nodeC kind pos n m name (.slice ko kl kc)).toList::T) kv vs (x::Ft) Fv) (hv:vs.length≤19000) (ty:TypeId) {ad:Nat} (had:ad=W.heap.size):
 ∃v' w',(Builtin.append_ #[22,22] ty #[kv,.slice (some ⟨ad,0,none⟩) 1 1]).run Tryz.prog (W.alloc (.cells (nodeC kind pos n m name (.slice ko kl kc)) 28))=.ok v' w'∧∃ao cp,v'=.slice ao (vs.length+1) cp∧Mf w rb tb cap t i g w' j L T (.slice ao (vs.length+1) cp) (vs++[(nodeC kind pos n m name (.slice ko kl kc)).toList]) Ft (Fv++[x]):=by
 subst had
 exact Mf.run_app (us:=[(nodeC kind pos n m name (.slice ko kl kc)).toList]) (U:=[x]) (q.alloc _) rfl hv (by simp) ty (.inr ⟨_,_,rfl,by simpa using cells11_new W kind pos n m name (.slice ko kl kc) 28⟩)
theorem Mf.run_apps {us:List (List Value)} {U:List (List Nr)} {ao:Option Addr} {cp B:Nat} {G:Prop} (q:Mf w rb tb cap t i g W j L (us++T) kv vs (U++Ft) Fv) (hU:U.length=us.length) (hK:Kids B G W (.slice ao us.length cp) us) (hv:vs.length≤19000) (hu:us.length≤6010) (ty:TypeId):
 ∃v' w',(Builtin.append_ #[22,22] ty #[kv,.slice ao us.length cp]).run Tryz.prog W=.ok v' w'∧∃ao cp,v'=.slice ao (vs.length+us.length) cp∧Mf w rb tb cap t i g w' j L T (.slice ao (vs.length+us.length) cp) (vs++us) Ft (Fv++U):=by
 refine q.run_app hU hv hu ty ?_
 rcases hK.row.2 with⟨h1,h2⟩|⟨b,c2,cur,h1,_⟩
 ·exact .inl ⟨by simpa using h1,List.eq_nil_of_length_eq_zero h2⟩
 ·obtain⟨rfl,_,rfl⟩:ao=some ⟨b,0,none⟩∧us.length=us.length∧cp=c2:=by simpa using h1
  exact .inr ⟨_,_,rfl,hK.row.cells (g:=b) rfl⟩
theorem Mf.rtr {fn:Func} {r:Nat} (hf:fn.results=#[.cell r 28]) {act:Act} (hd:act.defers=[]) {b:Nat} (ht:act.tmps.getD r undef=.pointer (some ⟨b,0,none⟩)) {kind pos n m:Int} {name:ByteArray} {ko:Option Addr} {kl kc:Nat} {x:List Nr} {mm:Nat→GP (List Nr)}
 (q:Mf w rb tb cap t i g W j L ((nodeC kind pos n m name (.slice ko kl kc)).toList::T) kv vs (x::Ft) Fv) (N:Nat) (hz:L[N]? =some (b,zeroC)) {wf:World}
 (he:wf=Go.Proofs.YtdplogkmkgekdaaGreatDoor.set11 W b (.int .i64 kind) (.int .i64 pos) (.int .i64 n) (.int .i64 m) (.string name) (.slice ko kl kc) (.int .i64 0) (.int .i64 0) (.slice none 0 0) (.slice none 0 0) (.slice none 0 0)) (hm:Ev mm ⟨i,0,0⟩ (x,⟨j,0,0⟩)):
 bodyPost Tryz.prog fn (NodeP w rb tb cap t i g mm) .ret act wf:=by
 subst he
 have q1:=q.put11 N hz (.int .i64 kind) (.int .i64 pos) (.int .i64 n) (.int .i64 m) (.string name) (.slice ko kl kc) (.int .i64 0) (.int .i64 0) (.slice none 0 0) (.slice none 0 0) (.slice none 0 0)
 have hB:Blk _ b _:=(q1.z.blk N (b,_) (by rw[List.getElem?_set,if_pos rfl,if_pos (List.getElem?_eq_some_iff.1 hz).1])).2
 obtain⟨h,ha⟩:=q1.z.all
 exact bodyPost_ret (results_node hf ht hB) hd (.inl ⟨kind,pos,n,m,name,ko,kl,kc,j,rfl,⟨q1.st.rd,q1.st.kp,q1.le,fun e=>e,fun mu _=>q1.go mu⟩,⟨h,isNode.weaken (fun b hb=>hb.1) (fun x=>x) _ _ (ha _ (.inr (List.mem_cons_self ..)))⟩,x,q1.fT.head,hm⟩)
theorem Mf.post (q:Mf w rb tb cap t i g W j L T kv vs Ft Fv) {must:Prop} {mm:Nat→GP (List (List Nr))} (hm:must→g) (hl:vs.length≤j - i) (he:Ev mm ⟨i,0,0⟩ (Fv,⟨j,0,0⟩)):ListP w rb tb cap t i must mm (.returned kv) W:=by
 obtain⟨ao,cp,rfl⟩:=q.shape
 exact .inl ⟨ao,cp,vs,j,rfl,⟨q.st.rd,q.st.kp,q.le,fun e=>e,fun m _=>q.go (hm m)⟩,q.z.kids,hl,Fv,q.fv,he⟩
theorem Mf.rt {fn:Func} {r:Nat} {mm:Nat→GP (List Nr)} {ki po n m:Int} {na:ByteArray} {ko:Option Addr} {kl kc:Nat} {x:List Nr} {act:Act} (q:Mf w rb tb cap t i g W j L ((nodeC ki po n m na (.slice ko kl kc)).toList::T) kv vs (x::Ft) Fv) (hf:fn.results=#[.cell r 28]) (N:Nat) (hm:Ev mm ⟨i,0,0⟩ (x,⟨j,0,0⟩)) {wf:World} {b:Nat} (he:wf=Go.Proofs.YtdplogkmkgekdaaGreatDoor.set11 W b (.int .i64 ki) (.int .i64 po) (.int .i64 n) (.int .i64 m) (.string na) (.slice ko kl kc) (.int .i64 0) (.int .i64 0) nl nl nl:=by rfl) (hd:act.defers=[]:=by rfl) (ht:act.tmps.getD r undef=.pointer (some ⟨b,0,none⟩):=by rfl) (hz:L[N]? =some (b,zeroC):=by rfl):bodyPost Tryz.prog fn (NodeP w rb tb cap t i g mm) .ret act wf:=
 Mf.rtr hf hd ht q N hz he hm
variable {ops:Array Oper} {rest:List Oper} {p:Oper} {act:Act} {S:Exit→Act→World→Prop} {sv xo:Operand} {ko ro:Option Addr} {kl kc rl rc:Nat} {ki po n m:Int} {na:ByteArray} {Kk:Act→World→Prop} {Ee:Prop} {x:List Nr}
theorem Mf.ap (q:Mf w rb tb cap t i g W j L ((nodeC ki po n m na (.slice ko kl kc)).toList::T) (.slice ro rl rc) vs (x::Ft) Fv) (ad:Nat) (hv:vs.length≤19000) (K:∀w' ao cp,Mf w rb tb cap t i g w' j L T (.slice ao (rl+1) cp) (vs++[(nodeC ki po n m na (.slice ko kl kc)).toList]) Ft (Fv++[x])→wpList Tryz.prog ops S rest (act.put p.dst (.slice ao (rl+1) cp)) w') (hgd:p.guard=none:=by rfl) (ho:p.op=.call {callee:=.builtin .append,args:=#[sv,xo],argTypes:=#[22,22]}:=by rfl) (hs:act.eval sv=.slice ro rl rc:=by rfl) (hx:act.eval xo=sl ad 1:=by rfl) (had:ad=W.heap.size:=by simp):wpList Tryz.prog ops S (p::rest) act (W.alloc (.cells (nodeC ki po n m na (.slice ko kl kc)) 28)):=by
 obtain⟨ro',rc',e⟩:=q.shape
 obtain⟨rfl,rfl,rfl⟩:ro=ro'∧rl=vs.length∧rc=rc':=by simpa using e
 refine wp_run hgd ho hs hx (Mf.run_app1 q hv _ had) fun v' w' h=>?_
 obtain⟨ao,cp,rfl,q'⟩:=h
 exact K w' ao cp q'
theorem Mf.as (q:Mf w rb tb cap t i g W j L ((nodeC ki po n m na (.slice ko kl kc)).toList::T) (.slice ro rl rc) vs (x::Ft) Fv) (ad:Nat) (hv:vs.length≤19000) (K:∀w' ao cp,Mf w rb tb cap t i g w' j L T (.slice ao (rl+1) cp) (vs++[(nodeC ki po n m na (.slice ko kl kc)).toList]) Ft (Fv++[x])→Kk (act.put p.dst (.slice ao (rl+1) cp)) w') (hgd:p.guard=none:=by rfl) (ho:p.op=.call {callee:=.builtin .append,args:=#[sv,xo],argTypes:=#[22,22]}:=by rfl) (hs:act.eval sv=.slice ro rl rc:=by rfl) (hx:act.eval xo=sl ad 1:=by rfl) (had:ad=W.heap.size:=by simp):if Region.wanted p (yielded ops act.tmps)=true then Oper.wp Tryz.prog p act (W.alloc (.cells (nodeC ki po n m na (.slice ko kl kc)) 28)) Kk S else Ee:=by
 obtain⟨ro',rc',e⟩:=q.shape
 obtain⟨rfl,rfl,rfl⟩:ro=ro'∧rl=vs.length∧rc=rc':=by simpa using e
 refine step_run hgd ho hs hx (Mf.run_app1 q hv _ had) fun v' w' h=>?_
 obtain⟨ao,cp,rfl,q'⟩:=h
 exact K w' ao cp q'
theorem Mf.first {ao:Option Addr} {cp:Nat} (q:Mf w rb tb cap t i g W j L T (.slice ao vs.length cp) vs Ft Fv) (h1:vs.length=1):∃gb,ao=some ⟨gb,0,none⟩∧gb<W.heap.size∧gb≠rb∧gb∉L.map adr∧∃kind pos n m name ko kl kc,vs=[(nodeC kind pos n m name (.slice ko kl kc)).toList]∧∀o,o<11→W.cell? ⟨gb,o,none⟩=(nodeC kind pos n m name (.slice ko kl kc))[o]? :=q.z.first h1
theorem Mf.notin {b:Nat} (q:Mf w rb tb cap t i g W j L T kv vs Ft Fv) (hb:b∉L.map adr) (n:Nat) {b':Nat} {c:Array Value} (hn:L[n]? =some (b',c)):b≠b'∧b'≠b:=q.z.notin hb n hn
theorem Mf.one (q:Mf w rb tb cap t i g W j L T kv vs Ft Fv) (h1:vs.length=1):∃y,Fv=[y]:=List.length_eq_one_iff.1 (q.fv.len.trans h1)
theorem Mf.tk (q:Mf w rb tb cap t i g W j L T kv vs Ft Fv) (qk:Int) {Q:Ending→World→Prop} (hq:qk≠0) (KB:∀w',Kp W.heap.size rb W w'→Hid (kindB t j 0 0 qk=false)→Q (throwE (t.pos j)) w') (K:∀w',Hid (kindB t j 0 0 qk=true)→Mf w rb tb cap t i True w' (j+1) L T kv vs Ft Fv→Q (.returned (.agg #[.int .i64 (t.kind j),.int .i64 (t.pos j),.string (t.text j),.int .i64 (t.num j)])) w'):Calls Tryz.prog 161 #[.pointer (some ⟨rb,0,none⟩),.int .i64 qk] W Q:=(takeKindP q.st.rd qk hq).mono fun e w' p=>by
 rcases p with⟨rfl,hx,hb⟩|⟨rfl,hk,hb⟩
 ·exact K w' hb (q.nxm hx)
 ·exact KB w' hk hb
end
end Go.Proofs.YtdplogkmkgekdaaGreatDoor.Pj
namespace Go.Proofs.YtdplogkmkgekdaaGreatDoor.Pj
open Go.RowKit
theorem ask {s:ByteArray} (h:s∈askS:=by unfold askS;repeat(first|with_reducible exact List.Mem.head _|refine List.Mem.tail _ ?_)):s∈askS:=h
theorem Mf.wy {sx:ByteArray} {w W:World} {rb tb i j:Nat} {cap:Cp} {t:Tk} {g:Prop} {L:List (Nat × Array Value)} {T:List (List Value)} {kv:Value} {vs:List (List Value)} {X V:List (List Nr)} {f:Nat} {args:Array Value} {R:Value} {Q:Ending→World→Prop} (q:Mf w rb tb cap t i g W j L T kv vs X V) (h:Rd W rb tb cap t j 0 0→Calls Tryz.prog f args W fun e w'=>(e=.returned R∧Nx W rb tb cap t j 0 True w' (j+1) 0 0∧isB t j 0 0 sx=true)∨(e=throwE (t.pos j)∧Kp W.heap.size rb W w'∧isB t j 0 0 sx=false)) (hb:isB t j 0 0 sx=true) (K:∀w',Mf w rb tb cap t i True w' (j+1) L T kv vs X V→Q (.returned R) w'):Calls Tryz.prog f args W Q:=(h q.st.rd).mono fun e w' p=>by
 rcases p with⟨rfl,hx,hb⟩|⟨rfl,hk,hb2⟩
 ·exact K w' (q.nxm hx)
 ·rw[hb] at hb2
  exact absurd hb2 (by decide)
def gNumber (t:Tk) (ki:Int):GP (List Nr):=bnd (gAt t) (fun p=>bnd (gNum t) (fun n=>seq (gAdd 1) (ret (nd ki p n 0 E0 []))))
theorem numberP {w:World} {rb tb i:Nat} {cap:Cp} {t:Tk} (h:Rd w rb tb cap t i 0 0) (ki:Int) (hb:kindB t i 0 0 1=true):
 Calls Tryz.prog 162 #[.pointer (some ⟨rb,0,none⟩),.int .i64 ki] w (NodeP w rb tb cap t i True (fun _=>gNumber t ki)):=by
 have hl:=h.l
 have hposI:(0:Int)≤(t.pos i:Int)∧(t.pos i:Int)≤7000:=by have:=h.good.posb i;omega
 have HB:Hid (kindB t i 0 0 1=true):=hb
 clear hb
 have hfd:=fld103_3
 go_enter Tryz.func162,Tryz.ntmps162
 have q:=Mf.start h
 go_wp2_with fail
 refine(q.ne' (sz w) (zeroC)).lf (nodeP · ki) ?_
 clear q
 intro w1 q
 have F:=q.f1
 go_wp2_with fail
 refine(q.ne' (sz w1) (nk ki (t.pos i) nl)).tk 1 (by decide) (fun w2 hk hb=>?_) ?_
 ·exact absurd (HB.out.symm.trans hb.out) (by decide)
 clear q F
 intro w2 hb q
 have F:=q.f2
 go_wp2_with fail
 go_light
 exact Mf.rt ((q.p02 (t.num i)).lk ki (t.pos i) (t.num i) 0 ⟨#[]⟩ hposI (by decide)) Tryz.results162 1 (by unfold gNumber;exact evt)
theorem nameP2 {w:World} {rb tb i:Nat} {cap:Cp} {t:Tk} (h:Rd w rb tb cap t i 0 0):Calls Tryz.prog 88 #[.pointer (some ⟨rb,0,none⟩)] w fun e w'=>(∃x i',e=.returned (.string x)∧x.size≤20000∧Nx w rb tb cap t i 0 True w' i' 0 0∧Ev (fun _=>gName t) ⟨i,0,0⟩ (x,⟨i',0,0⟩))∨ThrP w rb ⟨i,0,0⟩ (fun _=>gName t) e w':=(nameP h).mono fun e w' p=>by
 rcases p with⟨x,i',h1,h2,h3,_,h4⟩|p
 ·exact .inl ⟨x,i',h1,by omega,h3,h4⟩
 ·exact .inr p
def gRefMut (t:Tk) (p:Int):GP (List Nr):=bnd (gEat t ⟨#[114,101,102]⟩) (fun b38=>cond (b38) (bnd (gEat t ⟨#[109,117,116]⟩) (fun x=>cond x (bnd (gName t) (fun s=>ret (nd 50 p 2 0 s []))) (bnd (gName t) (fun s=>ret (nd 50 p 1 0 s []))))) (seq (gWant t ⟨#[109,117,116]⟩) (bnd (gName t) (fun s=>ret (nd 50 p 0 1 s [])))))
def gNeg (t:Tk) (p:Int):GP (List Nr):=bnd (gKind t 0 1) (fun b36=>cond (b36) (bnd (gNum t) (fun n=>seq (gAdd 1) (ret (nd 51 p (-n) 0 E0 [])))) (seq (gBad t) (ret (nd 51 p 0 0 E0 []))))
theorem mutP {w:World} {rb tb i:Nat} {cap:Cp} {t:Tk} (h:Rd w rb tb cap t i 0 0) (hb:isB t i 0 0 ⟨#[114,101,102]⟩=false):
 Calls Tryz.prog 84 #[.pointer (some ⟨rb,0,none⟩)] w (NodeP w rb tb cap t i True (fun _=>gRefMut t (t.pos i))):=by
 have hl:=h.l
 have hposI:(0:Int)≤(t.pos i:Int)∧(t.pos i:Int)≤7000:=by have:=h.good.posb i;omega
 go_enter Tryz.func84,Tryz.ntmps84
 have q:=Mf.start h
 go_wp2_with fail
 refine(q.ne' (sz w) (zeroC)).lf (nodeP · 50) ?_
 clear q
 intro w1 q
 have F:=q.f1
 go_wp2_with fail
 refine(q.ne' (sz w1) (nk 50 (t.pos i) nl)).wn (mustP · _ (ask)) (fun w' hk hw=>⟨rfl,.inr ((q.ne' (sz w1) (nk 50 (t.pos i) nl)).thr hk (by unfold gRefMut;exact wrt))⟩) ?_
 clear q F
 intro w2 m2 q
 have F:=q.f2
 go_wp2_with fail
 refine(q.p03 1).nm (nameP2 ·) (fun w' p hk hw=>⟨rfl,.inr ((q.p03 1).thr hk (by unfold gRefMut;exact wrt))⟩) ?_
 clear q F
 intro w3 s3 i3 hs3 hl3 m3 q
 have F:=q.f2
 go_wp2_with fail
 go_light
 exact Mf.rt ((q.p04 s3).lk 50 (t.pos i) 0 1 s3 hposI hs3) Tryz.results84 1 (by unfold gRefMut;exact evt)
theorem refP {w:World} {rb tb i:Nat} {cap:Cp} {t:Tk} (h:Rd w rb tb cap t i 0 0) (hb:isB t i 0 0 ⟨#[114,101,102]⟩=true):
 Calls Tryz.prog 83 #[.pointer (some ⟨rb,0,none⟩)] w (NodeP w rb tb cap t i True (fun _=>gRefMut t (t.pos i))):=by
 have hl:=h.l
 have hposI:(0:Int)≤(t.pos i:Int)∧(t.pos i:Int)≤7000:=by have:=h.good.posb i;omega
 have HB:Hid (isB t i 0 0 ⟨#[114,101,102]⟩=true):=hb
 clear hb
 go_enter Tryz.func83,Tryz.ntmps83
 have q:=Mf.start h
 go_wp2_with fail
 refine(q.ne' (sz w) (zeroC)).lf (nodeP · 50) ?_
 clear q
 intro w1 q
 have F:=q.f1
 go_wp2_with fail
 refine(q.ne' (sz w1) (nk 50 (t.pos i) nl)).wy (mustP · _ (ask)) HB.out ?_
 clear q F
 intro w2 q
 have F:=q.f2
 have HE:=ev_eyes (a:=0) HB.out
 go_wp2_with fail
 refine(q.p02 1).et (skipP · _ (ask)) ?_
 clear q F
 intro w3 b3 i3 hE3 m3 q
 have F:=q.f2
 go_wp2_with fail
 ·go_wp2_with fail
  refine(q.p02 2).nm (nameP2 ·) (fun w' p hk hw=>⟨rfl,.inr ((q.p02 2).thr hk (by unfold gRefMut;exact wrt))⟩) ?_
  clear q F
  intro w4 s4 i4 hs4 hl4 m4 q
  have F:=q.f2
  go_wp2_with fail
  go_light
  exact Mf.rt ((q.p04 s4).lk 50 (t.pos i) 2 0 s4 hposI hs4) Tryz.results83 1 (by unfold gRefMut;exact evt)
 ·go_wp2_with fail
  refine q.nm (nameP2 ·) (fun w' p hk hw=>⟨rfl,.inr (q.thr hk (by unfold gRefMut;exact wrt))⟩) ?_
  clear q F
  intro w5 s4 i4 hs4 hl4 m4 q
  have F:=q.f2
  go_wp2_with fail
  go_light
  exact Mf.rt ((q.p04 s4).lk 50 (t.pos i) 1 0 s4 hposI hs4) Tryz.results83 1 (by unfold gRefMut;exact evt)
theorem negP {w:World} {rb tb i:Nat} {cap:Cp} {t:Tk} (h:Rd w rb tb cap t i 0 0) (hb:isB t i 0 0 ⟨#[45]⟩=true):
 Calls Tryz.prog 82 #[.pointer (some ⟨rb,0,none⟩)] w (NodeP w rb tb cap t i True (fun _=>seq (gAdd 1) (gNeg t (t.pos i)))):=by
 have hl:=h.l
 have hposI:(0:Int)≤(t.pos i:Int)∧(t.pos i:Int)≤7000:=by have:=h.good.posb i;omega
 have HB:Hid (isB t i 0 0 ⟨#[45]⟩=true):=hb
 clear hb
 have hfd:=fld103_3
 have hnum:∀j,wrap64 (-(t.num j:Int))= -(t.num j:Int):=fun j=>by have:=h.good.numb j;unfold wrap64;omega
 go_enter Tryz.func82,Tryz.ntmps82
 have q:=Mf.start h
 go_wp2_with fail
 refine(q.ne' (sz w) (zeroC)).lf (nodeP · 51) ?_
 clear q
 intro w1 q
 have F:=q.f1
 go_wp2_with fail
 refine(q.ne' (sz w1) (nk 51 (t.pos i) nl)).wy (mustP · _ (ask)) HB.out ?_
 clear q F
 intro w2 q
 have F:=q.f2
 go_wp2_with fail
 refine q.tk 1 (by decide) (fun w' hk hb=>⟨rfl,.inr (q.thr hk (by have hb:=hb.out;unfold gNeg;exact wrt))⟩) ?_
 clear q F
 intro w3 hb3 q
 have F:=q.f2
 have hb3:=hb3.out
 go_wp2_with fail
 go_light
 exact Mf.rt ((q.p02 (-(t.num (i+1)))).lk 51 (t.pos i) (-(t.num (i+1))) 0 ⟨#[]⟩ hposI (by decide)) Tryz.results82 1 (by unfold gNeg;exact evt)
theorem lifeP {w:World} {rb tb i:Nat} {cap:Cp} {t:Tk} (h:Rd w rb tb cap t i 0 0):
 Calls Tryz.prog 195 #[.pointer (some ⟨rb,0,none⟩)] w (NodeP w rb tb cap t i True (fun _=>gLife t)):=by
 have hl:=h.l
 have hposI:(0:Int)≤(t.pos i:Int)∧(t.pos i:Int)≤7000:=by have:=h.good.posb i;omega
 have hfd:=fld103_2
 go_enter Tryz.func195,Tryz.ntmps195
 have q:=Mf.start h
 go_wp2_with fail
 refine(q.ne' (sz w) (zeroC)).lf (nodeP · 19) ?_
 clear q
 intro w1 q
 have F:=q.f1
 go_wp2_with fail
 refine(q.ne' (sz w1) (nk 19 (t.pos i) nl)).tk 4 (by decide) (fun w' hk hb=>⟨rfl,.inr ((q.ne' (sz w1) (nk 19 (t.pos i) nl)).thr hk (by have hb:=hb.out;unfold gLife;exact wrt))⟩) ?_
 clear q F
 intro w2 hb2 q
 have F:=q.f2
 have hs:=h.good.textb i
 have hb2:=hb2.out
 go_wp2_with fail
 go_light
 exact Mf.rt ((q.p04 (t.text i)).lk 19 (t.pos i) 0 0 (t.text i) hposI (by omega)) Tryz.results195 1 (by unfold gLife;exact evt)
end Go.Proofs.YtdplogkmkgekdaaGreatDoor.Pj
namespace Go.Proofs.YtdplogkmkgekdaaGreatDoor.Pj
open Go.RowKit
def StrP (w:World) (rb tb:Nat) (cap:Cp) (t:Tk) (i:Nat) (m:Nat→GP ByteArray) (e:Ending) (w':World):Prop:=∃x i',e=.returned (.string x)∧x.size≤20000∧Nx w rb tb cap t i 0 False w' i' 0 0∧Ev m ⟨i,0,0⟩ (x,⟨i',0,0⟩)
def IntP (w:World) (rb tb:Nat) (cap:Cp) (t:Tk) (i:Nat) (m:Nat→GP Int) (e:Ending) (w':World):Prop:=∃(x:Int) (i':Nat),e=.returned (.int .i64 x)∧Nx w rb tb cap t i 0 False w' i' 0 0∧Ev m ⟨i,0,0⟩ (x,⟨i',0,0⟩)
theorem Mf.sv {w W:World} {rb tb i j:Nat} {cap:Cp} {t:Tk} {g:Prop} {L:List (Nat × Array Value)} {T:List (List Value)} {kv:Value} {vs:List (List Value)} {X V:List (List Nr)} {f:Nat} {args:Array Value} {Q:Ending→World→Prop} {ms:Nat→GP ByteArray} (q:Mf w rb tb cap t i g W j L T kv vs X V) (h:Rd W rb tb cap t j 0 0→Calls Tryz.prog f args W (StrP W rb tb cap t j ms)) (K:∀w' x i',x.size≤20000→Hid (j≤i')→Ev ms ⟨j,0,0⟩ (x,⟨i',0,0⟩)→Mf w rb tb cap t i g w' i' L T kv vs X V→Q (.returned (.string x)) w'):Calls Tryz.prog f args W Q:=(h q.st.rd).mono fun e w' p=>by
 obtain⟨x,i',rfl,hs,hx,hm⟩:=p
 exact K w' x i' hs hx.le hm (q.nx hx)
theorem Mf.iv {w W:World} {rb tb i j:Nat} {cap:Cp} {t:Tk} {g:Prop} {L:List (Nat × Array Value)} {T:List (List Value)} {kv:Value} {vs:List (List Value)} {X V:List (List Nr)} {f:Nat} {args:Array Value} {Q:Ending→World→Prop} {ms:Nat→GP Int} (q:Mf w rb tb cap t i g W j L T kv vs X V) (h:Rd W rb tb cap t j 0 0→Calls Tryz.prog f args W (IntP W rb tb cap t j ms)) (K:∀w' (x:Int) i',Hid (j≤i')→Ev ms ⟨j,0,0⟩ (x,⟨i',0,0⟩)→Mf w rb tb cap t i g w' i' L T kv vs X V→Q (.returned (.int .i64 x)) w'):Calls Tryz.prog f args W Q:=(h q.st.rd).mono fun e w' p=>by
 obtain⟨x,i',rfl,hx,hm⟩:=p
 exact K w' x i' hx.le hm (q.nx hx)
def gMaybe (t:Tk):GP ByteArray:=bnd (gKind t 0 4) (fun k=>cond k (gLifeName t) (ret E0))
theorem maybeLifeP {w:World} {rb tb i:Nat} {cap:Cp} {t:Tk} (h:Rd w rb tb cap t i 0 0):
 Calls Tryz.prog 146 #[.pointer (some ⟨rb,0,none⟩)] w (StrP w rb tb cap t i (fun _=>cond (kindB t i 0 0 4) (gLifeName t) (ret E0))):=by
 have hfd:=fld67_0
 have hfd2:=fld103_2
 have hs:=h.good.textb i
 cases hb:kindB t i 0 0 4
 ·have hk0:((t.kind i:Int)==4)=false:=(kindB_eq h.lt 4).symm.trans hb
  go_enter Tryz.func146,Tryz.ntmps146
  go_wp2_with (go_at_call 38;refine(tokP h).mono ?_;rintro e w1 ⟨rfl,hb1⟩)
  go_ret
  exact⟨_,i,rfl,by decide,Nx.below h hb1,Ev.ret'⟩
 ·have hk0:((t.kind i:Int)==4)=true:=(kindB_eq h.lt 4).symm.trans hb
  have HB:Hid (kindB t i 0 0 4=true):=hb
  have hL:=kindB_lt h.good h.lt (by decide) hb
  go_enter Tryz.func146,Tryz.ntmps146
  go_wp2_with (first|(go_at_call 38;refine(tokP h).mono ?_;rintro e w1 ⟨rfl,hb1⟩)|(go_at_call 145;refine(takeP (h.below hb1) hL).mono ?_;rintro e w2 ⟨rfl,hx⟩))
  go_ret
  have hx0:Nx w rb tb cap t i 0 False w2 (i+1) 0 0:=⟨hx.rd,(Kp.of_below hb1).trans (hx.kp.mono hb1.size),hx.le,fun e=>e,fun x=>x.elim⟩
  have hl:Ev (fun _=>gLife t) ⟨i,0,0⟩ (nd 19 (t.pos i) 0 0 (t.text i) [],⟨i+1,0,0⟩):=by
   have hb:=HB.out
   unfold gLife
   exact evt
  exact⟨_,i+1,rfl,by omega,hx0,Ev.bnd' hl Ev.ret'⟩
theorem fnKindP {w:World} {rb tb i:Nat} {cap:Cp} {t:Tk} (h:Rd w rb tb cap t i 0 0):
 Calls Tryz.prog 147 #[.pointer (some ⟨rb,0,none⟩)] w (IntP w rb tb cap t i (fun _=>gMutOnce t)):=by
 go_enter Tryz.func147,Tryz.ntmps147
 go_wp2_with fail
 refine(skipP h _ (ask)).mono ?_
 rintro e w1 ⟨b1,i1,rfl,hE1,h1,hk1⟩
 have m1:=ev_eat (a:=0) hE1
 have l1:=hE1.le
 clear hE1
 cases b1
 ·go_wp2_with fail
  refine(skipP h1 _ (ask)).mono ?_
  rintro e w2 ⟨b2,i2,rfl,hE2,h2,hk2⟩
  have m2:=ev_eat (a:=0) hE2
  have l2:=hE2.le
  clear hE2
  have hx:Nx w rb tb cap t i 0 False w2 i2 0 0:=⟨h2,hk1.trans (hk2.mono hk1.size),by omega,fun e=>e,fun x=>x.elim⟩
  cases b2
  ·go_wp2_with fail
   go_ret
   exact⟨0,i2,rfl,hx,Ev.bnd' m1 (Ev.no rfl (Ev.bnd' m2 (Ev.no rfl Ev.ret')))⟩
  ·go_wp2_with fail
   go_ret
   exact⟨2,i2,rfl,hx,Ev.bnd' m1 (Ev.no rfl (Ev.bnd' m2 (Ev.yes rfl Ev.ret')))⟩
 ·go_wp2_with fail
  go_ret
  exact⟨1,i1,rfl,⟨h1,hk1,l1,fun e=>e,fun x=>x.elim⟩,Ev.bnd' m1 (Ev.yes rfl Ev.ret')⟩
theorem bareP {w:World} {rb tb i:Nat} {cap:Cp} {t:Tk} (h:Rd w rb tb cap t i 0 0) {b1 b2:Nat} {bk bn:Int} (h1:b1<rb) (h2:b2<rb) (hc1:w.heap[b1]? =some (.cells #[.int .i64 bk] 3 (0,0))) (hc2:w.heap[b2]? =some (.cells #[.int .i64 bn] 3 (0,0))) (hi1:i+1<t.len):
 Calls Tryz.prog 144 #[.pointer (some ⟨rb,0,none⟩),.pointer (some ⟨b1,0,none⟩),.pointer (some ⟨b2,0,none⟩)] w (NodeP w rb tb cap t i True (fun _=>seq (gAdd 1) (ret (nd bk (t.pos i) bn 0 E0 [])))):=by
 have hl:=h.l
 have hposI:(0:Int)≤(t.pos i:Int)∧(t.pos i:Int)≤7000:=by have:=h.good.posb i;omega
 have cc1:w.cell? ⟨b1,0,none⟩=some (.int .i64 bk):=cell_of_row w b1 0 _ 3 (0,0) hc1
 have HC2:Hid (w.heap[b2]? =some (.cells #[.int .i64 bn] 3 (0,0))):=hc2
 have HL:Hid (i+1<t.len):=hi1
 clear hc1 hc2 hi1
 have n1:b1≠w.heap.size:=by omega
 have n2:b2≠w.heap.size:=by omega
 have n3:w.heap.size≠b1:=by omega
 have l1:b1<w.heap.size:=by omega
 have l2:b2<w.heap.size:=by omega
 go_enter Tryz.func144,Tryz.ntmps144
 have q:=Mf.start h
 go_wp2_with fail
 refine(q.ne' (sz w) (zeroC)).lf (nodeP · bk) ?_
 clear q
 intro w1 q
 have F:=q.f1
 have hc2:w1.heap[b2]? =some (.cells #[.int .i64 bn] 3 (0,0)):=(q.st.kp.block b2 (by omega) (by omega)).trans HC2.out
 have cc2:w1.cell? ⟨b2,0,none⟩=some (.int .i64 bn):=cell_of_row w1 b2 0 _ 3 (0,0) hc2
 have n4:b2≠w1.heap.size:=by have:=(Array.getElem?_eq_some_iff.1 hc2).1;omega
 have n5:w1.heap.size≠b2:=fun e=>n4 e.symm
 have l3:b2<w1.heap.size:=(Array.getElem?_eq_some_iff.1 hc2).1
 clear hc2
 go_wp2_with fail
 refine(takeP ((q.ne' (sz w1) (nodeC bk (t.pos i) bn 0 ⟨#[]⟩ nl)).st.rd) HL.out).mono ?_
 rintro e w2 ⟨rfl,hx⟩
 replace q:=(q.ne' (sz w1) (nodeC bk (t.pos i) bn 0 ⟨#[]⟩ nl)).nxm hx
 replace F:=q.f2
 clear hx
 go_wp2_with fail
 go_light
 exact Mf.rt (q.lk bk (t.pos i) bn 0 ⟨#[]⟩ hposI (by decide)) Tryz.results144 1 evt
end Go.Proofs.YtdplogkmkgekdaaGreatDoor.Pj
