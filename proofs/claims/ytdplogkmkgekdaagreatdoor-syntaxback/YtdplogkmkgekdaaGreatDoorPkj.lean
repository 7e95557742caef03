/- The project's parser: paths. -/
import Derived.Test.YtdplogkmkgekdaaGreatDoorPkg
import Derived.Test.YtdplogkmkgekdaaGreatDoorFPath
import Derived.Test.YtdplogkmkgekdaaGreatDoorTypes
import Derived.Test.YtdplogkmkgekdaaGreatDoorPkb
set_option linter.all false
set_option maxRecDepth 100000
set_option maxHeartbeats 4000000
namespace Go.Proofs.YtdplogkmkgekdaaGreatDoor.Pj
open Go.RowKit
section
variable {w W w':World} {rb tb i j:Nat} {cap:Cp} {t:Tk} {g:Prop} {L:List (Nat × Array Value)} {T:List (List Value)} {kv:Value} {vs:List (List Value)} {Ft Fv:List (List Nr)}
theorem Mid.Lc (q:Mid w rb tb cap t i 0 g W j 0 0 L T kv vs) (hg:W.grownBy w' kv.ownBlock) (f:Nat):vs.map (flat f w')=vs.map (flat f W)∧T.map (flat f w')=T.map (flat f W):=by
 obtain⟨h,ha⟩:=q.all
 have hs:Same (fun b=>Out w (L.map oH) kv b∧b<W.heap.size) W w':=Same.grown hg (fun b e hb=>hb.1.2.2 e)
 exact⟨List.map_congr_left (fun x hx=>lY hs _ _ (isNode.low _ _ (ha x (.inl hx))) f),List.map_congr_left (fun x hx=>lY hs _ _ (isNode.low _ _ (ha x (.inr hx))) f)⟩
theorem Mf.vY {us:List (List Value)} {U:List (List Nr)} (q:Mf w rb tb cap t i g W j L (us++T) kv vs (U++Ft) Fv) (hU:U.length=us.length) (hv:vs.length≤19000) (hu:us.length≤6010) (ty:TypeId) {xv:Value} (hx:(xv=.slice none 0 0∧us=[])∨∃ad c,xv=.slice (some ad) us.length c∧∀j u,us.flatten[j]? =some u→W.cell? (ad.add j)=some u):
 ∃v' w',(Builtin.append_ #[22,22] ty #[kv,xv]).run Tryz.prog W=.ok v' w'∧∃ao cp,v'=.slice ao (vs.length+us.length) cp∧Mf w rb tb cap t i g w' j L T (.slice ao (vs.length+us.length) cp) (vs++us) Ft (Fv++U):=by
 obtain⟨i0,hi0,hz0,hz1,hz2⟩:=info_parts OB
 have hsp:=q.fT.split hU
 rcases hx with⟨rfl,rfl⟩|⟨ad,c,rfl,hc⟩
 ·obtain⟨v',w',hr,ao,cp,he,q'⟩:=q.z.vY hv hu ty (.inl ⟨rfl,rfl⟩)
  obtain rfl:U=[]:=List.eq_nil_of_length_eq_zero hU
  have hr2:=run_append_owned_none (P:=Tryz.prog) (w:=W) w.heap.size 22 ty 28 i0 11 Tryz.underlying22 hi0 kv vs.length vs.flatten q.z.row
  rw[hr] at hr2
  obtain⟨rfl,rfl⟩:v'=kv∧w'=W:=by simpa using hr2
  exact⟨v',w',hr,ao,cp,he,q',q.fT,by simpa using q.fv⟩
 ·obtain⟨h,ha⟩:=q.z.all
  obtain⟨f1,f2⟩:=FT (us:=us) (fun x hx=>isNode.ones _ _ (ha x (.inr (List.mem_append.2 (.inl hx)))))
  obtain⟨v',w',hr,h2,h3,_,h5⟩:=run_append_own_at (P:=Tryz.prog) W w.heap.size 22 ty 28 i0 _ 11 160 Tryz.underlying22 hi0 hz0 hz1 hz2 rfl (by decide) kv vs.length vs.flatten q.z.row ad us.length c us.flatten f1 hc f2 (by unfold maxLen;omega) (by omega) q.z.st.size
  obtain⟨v2,w2,hr',ao,cp,he,q'⟩:=q.z.vY hv hu ty (.inr ⟨ad,c,rfl,hc⟩)
  rw[hr] at hr'
  obtain⟨rfl,rfl⟩:v'=v2∧w'=w2:=by simpa using hr'
  have e:=fun f=>q.z.Lc h3 f
  have hT:Fl w' (us++T) (U++Ft):=q.fT.CU (fun f=>(e f).2)
  exact⟨v',w',hr,ao,cp,he,q',(hT.split hU).2,(q.fv.CU (fun f=>(e f).1)).app (hT.split hU).1⟩
theorem Mf.IL {kind pos n m:Int} {name:ByteArray} {ko:Option Addr} {kl kc:Nat} {x:List Nr} (q:Mf w rb tb cap t i g W j L ((ah kind pos n m name (.slice ko kl kc)).toList::T) kv vs (x::Ft) Fv) (hv:vs.length≤19000) (ty:TypeId) {ad:Nat} (had:ad=W.heap.size):
 ∃v' w',(Builtin.append_ #[22,22] ty #[kv,.slice (some ⟨ad,0,none⟩) 1 1]).run Tryz.prog (W.alloc (.cells (ah kind pos n m name (.slice ko kl kc)) 28))=.ok v' w'∧∃ao cp,v'=.slice ao (vs.length+1) cp∧Mf w rb tb cap t i g w' j L T (.slice ao (vs.length+1) cp) (vs++[(ah kind pos n m name (.slice ko kl kc)).toList]) Ft (Fv++[x]):=by
 subst had
 exact Mf.vY (us:=[(ah kind pos n m name (.slice ko kl kc)).toList]) (U:=[x]) (q.alloc _) rfl hv (by simp) ty (.inr ⟨_,_,rfl,by simpa using KU W kind pos n m name (.slice ko kl kc) 28⟩)
theorem Mf.IQ {us:List (List Value)} {U:List (List Nr)} {ao:Option Addr} {cp B:Nat} {G:Prop} (q:Mf w rb tb cap t i g W j L (us++T) kv vs (U++Ft) Fv) (hU:U.length=us.length) (hK:Kids B G W (.slice ao us.length cp) us) (hv:vs.length≤19000) (hu:us.length≤6010) (ty:TypeId):
 ∃v' w',(Builtin.append_ #[22,22] ty #[kv,.slice ao us.length cp]).run Tryz.prog W=.ok v' w'∧∃ao cp,v'=.slice ao (vs.length+us.length) cp∧Mf w rb tb cap t i g w' j L T (.slice ao (vs.length+us.length) cp) (vs++us) Ft (Fv++U):=by
 refine q.vY hU hv hu ty ?_
 rcases hK.row.2 with⟨h1,h2⟩|⟨b,c2,cur,h1,_⟩
 ·exact .inl ⟨by simpa using h1,List.eq_nil_of_length_eq_zero h2⟩
 ·obtain⟨rfl,_,rfl⟩:ao=some ⟨b,0,none⟩∧us.length=us.length∧cp=c2:=by simpa using h1
  exact .inr ⟨_,_,rfl,hK.row.cells (g:=b) rfl⟩
theorem Mf.rtr {fn:Func} {r:Nat} (hf:fn.results=#[.cell r 28]) {act:Act} (hd:act.defers=[]) {b:Nat} (ht:act.tmps.getD r undef=.pointer (some ⟨b,0,none⟩)) {kind pos n m:Int} {name:ByteArray} {ko:Option Addr} {kl kc:Nat} {x:List Nr} {mm:Nat→GP (List Nr)}
 (q:Mf w rb tb cap t i g W j L ((ah kind pos n m name (.slice ko kl kc)).toList::T) kv vs (x::Ft) Fv) (N:Nat) (hz:L[N]? =some (b,aJ)) {wf:World}
 (he:wf=Go.Proofs.YtdplogkmkgekdaaGreatDoor.bC W b (.int .i64 kind) (.int .i64 pos) (.int .i64 n) (.int .i64 m) (.string name) (.slice ko kl kc) (.int .i64 0) (.int .i64 0) (.slice none 0 0) (.slice none 0 0) (.slice none 0 0)) (hm:Ev mm ⟨i,0,0⟩ (x,⟨j,0,0⟩)):
 bodyPost Tryz.prog fn (aP w rb tb cap t i g mm) .ret act wf:=by
 subst he
 have q1:=q.zw N hz (.int .i64 kind) (.int .i64 pos) (.int .i64 n) (.int .i64 m) (.string name) (.slice ko kl kc) (.int .i64 0) (.int .i64 0) (.slice none 0 0) (.slice none 0 0) (.slice none 0 0)
 have hB:bW _ b _:=(q1.z.blk N (b,_) (by rw[List.getElem?_set,if_pos rfl,if_pos (List.getElem?_eq_some_iff.1 hz).1])).2
 obtain⟨h,ha⟩:=q1.z.all
 exact bodyPost_ret (wz hf ht hB) hd (.inl ⟨kind,pos,n,m,name,ko,kl,kc,j,rfl,⟨q1.st.rd,q1.st.kp,q1.le,fun e=>e,fun mu _=>q1.go mu⟩,⟨h,isNode.weaken (fun b hb=>hb.1) (fun x=>x) _ _ (ha _ (.inr (List.mem_cons_self ..)))⟩,x,q1.fT.head,hm⟩)
theorem Mf.post (q:Mf w rb tb cap t i g W j L T kv vs Ft Fv) {must:Prop} {mm:Nat→GP (List (List Nr))} (hm:must→g) (hl:vs.length≤j - i) (he:Ev mm ⟨i,0,0⟩ (Fv,⟨j,0,0⟩)):rO w rb tb cap t i must mm (.returned kv) W:=by
 obtain⟨ao,cp,rfl⟩:=q.shape
 exact .inl ⟨ao,cp,vs,j,rfl,⟨q.st.rd,q.st.kp,q.le,fun e=>e,fun m _=>q.go (hm m)⟩,q.z.kids,hl,Fv,q.fv,he⟩
theorem Mf.rt {fn:Func} {r:Nat} {mm:Nat→GP (List Nr)} {ki po n m:Int} {na:ByteArray} {ko:Option Addr} {kl kc:Nat} {x:List Nr} {act:Act} (q:Mf w rb tb cap t i g W j L ((ah ki po n m na (.slice ko kl kc)).toList::T) kv vs (x::Ft) Fv) (hf:fn.results=#[.cell r 28]) (N:Nat) (hm:Ev mm ⟨i,0,0⟩ (x,⟨j,0,0⟩)) {wf:World} {b:Nat} (he:wf=Go.Proofs.YtdplogkmkgekdaaGreatDoor.bC W b (.int .i64 ki) (.int .i64 po) (.int .i64 n) (.int .i64 m) (.string na) (.slice ko kl kc) (.int .i64 0) (.int .i64 0) nl nl nl:=by rfl) (hd:act.defers=[]:=by rfl) (ht:act.tmps.getD r undef=.pointer (some ⟨b,0,none⟩):=by rfl) (hz:L[N]? =some (b,aJ):=by rfl):bodyPost Tryz.prog fn (aP w rb tb cap t i g mm) .ret act wf:=
 Mf.rtr hf hd ht q N hz he hm
variable {ops:Array Oper} {rest:List Oper} {p:Oper} {act:Act} {S:Exit→Act→World→Prop} {sv xo:Operand} {ko ro:Option Addr} {kl kc rl rc:Nat} {ki po n m:Int} {na:ByteArray} {Kk:Act→World→Prop} {Ee:Prop} {x:List Nr}
theorem Mf.ap (q:Mf w rb tb cap t i g W j L ((ah ki po n m na (.slice ko kl kc)).toList::T) (.slice ro rl rc) vs (x::Ft) Fv) (ad:Nat) (hv:vs.length≤19000) (K:∀w' ao cp,Mf w rb tb cap t i g w' j L T (.slice ao (rl+1) cp) (vs++[(ah ki po n m na (.slice ko kl kc)).toList]) Ft (Fv++[x])→wpList Tryz.prog ops S rest (act.put p.dst (.slice ao (rl+1) cp)) w') (hgd:p.guard=none:=by rfl) (ho:p.op=.call {callee:=.builtin .append,args:=#[sv,xo],argTypes:=#[22,22]}:=by rfl) (hs:act.eval sv=.slice ro rl rc:=by rfl) (hx:act.eval xo=sl ad 1:=by rfl) (had:ad=W.heap.size:=by simp):wpList Tryz.prog ops S (p::rest) act (W.alloc (.cells (ah ki po n m na (.slice ko kl kc)) 28)):=by
 obtain⟨ro',rc',e⟩:=q.shape
 obtain⟨rfl,rfl,rfl⟩:ro=ro'∧rl=vs.length∧rc=rc':=by simpa using e
 refine OC hgd ho hs hx (Mf.IL q hv _ had) fun v' w' h=>?_
 obtain⟨ao,cp,rfl,q'⟩:=h
 exact K w' ao cp q'
theorem Mf.as (q:Mf w rb tb cap t i g W j L ((ah ki po n m na (.slice ko kl kc)).toList::T) (.slice ro rl rc) vs (x::Ft) Fv) (ad:Nat) (hv:vs.length≤19000) (K:∀w' ao cp,Mf w rb tb cap t i g w' j L T (.slice ao (rl+1) cp) (vs++[(ah ki po n m na (.slice ko kl kc)).toList]) Ft (Fv++[x])→Kk (act.put p.dst (.slice ao (rl+1) cp)) w') (hgd:p.guard=none:=by rfl) (ho:p.op=.call {callee:=.builtin .append,args:=#[sv,xo],argTypes:=#[22,22]}:=by rfl) (hs:act.eval sv=.slice ro rl rc:=by rfl) (hx:act.eval xo=sl ad 1:=by rfl) (had:ad=W.heap.size:=by simp):if Region.wanted p (yielded ops act.tmps)=true then Oper.wp Tryz.prog p act (W.alloc (.cells (ah ki po n m na (.slice ko kl kc)) 28)) Kk S else Ee:=by
 obtain⟨ro',rc',e⟩:=q.shape
 obtain⟨rfl,rfl,rfl⟩:ro=ro'∧rl=vs.length∧rc=rc':=by simpa using e
 refine CQ hgd ho hs hx (Mf.IL q hv _ had) fun v' w' h=>?_
 obtain⟨ao,cp,rfl,q'⟩:=h
 exact K w' ao cp q'
theorem Mf.first {ao:Option Addr} {cp:Nat} (q:Mf w rb tb cap t i g W j L T (.slice ao vs.length cp) vs Ft Fv) (h1:vs.length=1):∃gb,ao=some ⟨gb,0,none⟩∧gb<W.heap.size∧gb≠rb∧gb∉L.map oH∧∃kind pos n m name ko kl kc,vs=[(ah kind pos n m name (.slice ko kl kc)).toList]∧∀o,o<11→W.cell? ⟨gb,o,none⟩=(ah kind pos n m name (.slice ko kl kc))[o]? :=q.z.first h1
theorem Mf.Hr {b:Nat} (q:Mf w rb tb cap t i g W j L T kv vs Ft Fv) (hb:b∉L.map oH) (n:Nat) {b':Nat} {c:Array Value} (hn:L[n]? =some (b',c)):b≠b'∧b'≠b:=q.z.Hr hb n hn
theorem Mf.one (q:Mf w rb tb cap t i g W j L T kv vs Ft Fv) (h1:vs.length=1):∃y,Fv=[y]:=List.length_eq_one_iff.1 (q.fv.len.trans h1)
theorem Mf.tk (q:Mf w rb tb cap t i g W j L T kv vs Ft Fv) (qk:Int) {Q:Ending→World→Prop} (hq:qk≠0) (KB:∀w',Kp W.heap.size rb W w'→Hid (bf t j 0 0 qk=false)→Q (iQ (t.pos j)) w') (K:∀w',Hid (bf t j 0 0 qk=true)→Mf w rb tb cap t i True w' (j+1) L T kv vs Ft Fv→Q (.returned (.agg #[.int .i64 (t.kind j),.int .i64 (t.pos j),.string (t.text j),.int .i64 (t.num j)])) w'):Calls Tryz.prog 161 #[.pointer (some ⟨rb,0,none⟩),.int .i64 qk] W Q:=(F8 q.st.rd qk hq).mono fun e w' p=>by
 rcases p with⟨rfl,hx,hb⟩|⟨rfl,hk,hb⟩
 ·exact K w' hb (q.yh hx)
 ·exact KB w' hk hb
end
section
variable {w:World} {rb tb i:Nat} {cap:Cp} {t:Tk}
theorem ask {s:ByteArray} (h:s∈gL:=by unfold gL;repeat(first|with_reducible exact List.Mem.head _|refine List.Mem.tail _ ?_)):s∈gL:=h
theorem Mf.wy {sx:ByteArray} {w W:World} {rb tb i j:Nat} {cap:Cp} {t:Tk} {g:Prop} {L:List (Nat × Array Value)} {T:List (List Value)} {kv:Value} {vs:List (List Value)} {X V:List (List Nr)} {f:Nat} {args:Array Value} {R:Value} {Q:Ending→World→Prop} (q:Mf w rb tb cap t i g W j L T kv vs X V) (h:Rd W rb tb cap t j 0 0→Calls Tryz.prog f args W fun e w'=>(e=.returned R∧Nx W rb tb cap t j 0 True w' (j+1) 0 0∧au t j 0 0 sx=true)∨(e=iQ (t.pos j)∧Kp W.heap.size rb W w'∧au t j 0 0 sx=false)) (hb:au t j 0 0 sx=true) (K:∀w',Mf w rb tb cap t i True w' (j+1) L T kv vs X V→Q (.returned R) w'):Calls Tryz.prog f args W Q:=(h q.st.rd).mono fun e w' p=>by
 rcases p with⟨rfl,hx,hb⟩|⟨rfl,hk,hb2⟩
 ·exact K w' (q.yh hx)
 ·rw[hb] at hb2
  exact absurd hb2 (by decide)
def LX (t:Tk) (ki:Int):GP (List Nr):=bnd (dh t) (fun p=>bnd (qh t) (fun n=>seq (dK 1) (ret (nd ki p n 0 E0 []))))
theorem LY (h:Rd w rb tb cap t i 0 0) (ki:Int) (hb:bf t i 0 0 1=true):
 Calls Tryz.prog 162 #[.pointer (some ⟨rb,0,none⟩),.int .i64 ki] w (aP w rb tb cap t i True (fun _=>LX t ki)):=by
 have hl:=h.l
 have aL:=h.eP
 have HB:=@aG _ @hb
 clear hb
 have jT:=CP
 go_enter Tryz.func162,Tryz.ntmps162
 have q:=Mf.start h
 go_wp2_with fail
 refine(q.ne' (sz w) (aJ)).lf (dx · ki) ?_
 clear q
 intro w1 q
 have F:=q.f1
 go_wp2_with fail
 refine(q.ne' (sz w1) (nk ki (t.pos i) nl)).tk 1 (by decide) (fun w2 hk hb=>?_) ?_
 ·exact absurd (HB.out.symm.trans hb.out) (by decide)
 clear q F
 intro w2 hb q
 have F:=q.f2
 go_wp2_with fail
 go_light
 exact Mf.rt ((q.pV (t.num i)).lk ki (t.pos i) (t.num i) 0 ⟨#[]⟩ aL (by decide)) Tryz.results162 1 (by unfold LX;exact bS)
theorem kD (h:Rd w rb tb cap t i 0 0):Calls Tryz.prog 88 #[.pointer (some ⟨rb,0,none⟩)] w fun e w'=>(∃x i',e=.returned (.string x)∧x.size≤20000∧Nx w rb tb cap t i 0 True w' i' 0 0∧Ev (fun _=>bG t) ⟨i,0,0⟩ (x,⟨i',0,0⟩))∨tK w rb ⟨i,0,0⟩ (fun _=>bG t) e w':=(nameP h).mono fun e w' p=>by
 rcases p with⟨x,i',h1,h2,h3,_,h4⟩|p
 ·exact .inl ⟨x,i',h1,by omega,h3,h4⟩
 ·exact .inr p
def mF (t:Tk) (p:Int):GP (List Nr):=bnd (aY t ⟨#[114,101,102]⟩) (fun YZ=>cond (YZ) (bnd (aY t ⟨#[109,117,116]⟩) (fun x=>cond x (bnd (bG t) (fun s=>ret (nd 50 p 2 0 s []))) (bnd (bG t) (fun s=>ret (nd 50 p 1 0 s []))))) (seq (aM t ⟨#[109,117,116]⟩) (bnd (bG t) (fun s=>ret (nd 50 p 0 1 s [])))))
def Dh (t:Tk) (p:Int):GP (List Nr):=bnd (fB t 0 1) (fun YX=>cond (YX) (bnd (qh t) (fun n=>seq (dK 1) (ret (nd 51 p (-n) 0 E0 [])))) (seq (jB t) (ret (nd 51 p 0 0 E0 []))))
theorem aeS (h:Rd w rb tb cap t i 0 0) (hb:au t i 0 0 ⟨#[114,101,102]⟩=false):
 Calls Tryz.prog 84 #[.pointer (some ⟨rb,0,none⟩)] w (aP w rb tb cap t i True (fun _=>mF t (t.pos i))):=by
 have hl:=h.l
 have aL:=h.eP
 go_enter Tryz.func84,Tryz.ntmps84
 have q:=Mf.start h
 go_wp2_with fail
 refine(q.ne' (sz w) (aJ)).lf (dx · 50) ?_
 clear q
 intro w1 q
 have F:=q.f1
 go_wp2_with fail
 refine(q.ne' (sz w1) (nk 50 (t.pos i) nl)).wn (dw · _ (ask)) (fun w' hk hw=>⟨rfl,.inr ((q.ne' (sz w1) (nk 50 (t.pos i) nl)).aR hk (by unfold mF;exact wrt))⟩) ?_
 clear q F
 intro w2 m2 q
 have F:=q.f2
 go_wp2_with fail
 refine(q.Cn 1).nm (kD ·) (fun w' p hk hw=>⟨rfl,.inr ((q.Cn 1).aR hk (by unfold mF;exact wrt))⟩) ?_
 clear q F
 intro w3 s3 i3 hs3 hl3 m3 q
 have F:=q.f2
 go_wp2_with fail
 go_light
 exact Mf.rt ((q.jm s3).lk 50 (t.pos i) 0 1 s3 aL hs3) Tryz.results84 1 (by unfold mF;exact bS)
theorem aeT (h:Rd w rb tb cap t i 0 0) (hb:au t i 0 0 ⟨#[114,101,102]⟩=true):
 Calls Tryz.prog 83 #[.pointer (some ⟨rb,0,none⟩)] w (aP w rb tb cap t i True (fun _=>mF t (t.pos i))):=by
 have hl:=h.l
 have aL:=h.eP
 have HB:=@aG _ @hb
 clear hb
 go_enter Tryz.func83,Tryz.ntmps83
 have q:=Mf.start h
 go_wp2_with fail
 refine(q.ne' (sz w) (aJ)).lf (dx · 50) ?_
 clear q
 intro w1 q
 have F:=q.f1
 go_wp2_with fail
 refine(q.ne' (sz w1) (nk 50 (t.pos i) nl)).wy (dw · _ (ask)) HB.out ?_
 clear q F
 intro w2 q
 have F:=q.f2
 have HE:=iV (a:=0) HB.out
 go_wp2_with fail
 refine(q.pV 1).et (cO · _ (ask)) ?_
 clear q F
 intro w3 b3 i3 eu m3 q
 have F:=q.f2
 go_wp2_with fail
 ·go_wp2_with fail
  refine(q.pV 2).nm (kD ·) (fun w' p hk hw=>⟨rfl,.inr ((q.pV 2).aR hk (by unfold mF;exact wrt))⟩) ?_
  clear q F
  intro w4 s4 i4 hs4 hl4 m4 q
  have F:=q.f2
  go_wp2_with fail
  go_light
  exact Mf.rt ((q.jm s4).lk 50 (t.pos i) 2 0 s4 aL hs4) Tryz.results83 1 (by unfold mF;exact bS)
 ·go_wp2_with fail
  refine q.nm (kD ·) (fun w' p hk hw=>⟨rfl,.inr (q.aR hk (by unfold mF;exact wrt))⟩) ?_
  clear q F
  intro w5 s4 i4 hs4 hl4 m4 q
  have F:=q.f2
  go_wp2_with fail
  go_light
  exact Mf.rt ((q.jm s4).lk 50 (t.pos i) 1 0 s4 aL hs4) Tryz.results83 1 (by unfold mF;exact bS)
theorem aeU (h:Rd w rb tb cap t i 0 0) (hb:au t i 0 0 ⟨#[45]⟩=true):
 Calls Tryz.prog 82 #[.pointer (some ⟨rb,0,none⟩)] w (aP w rb tb cap t i True (fun _=>seq (dK 1) (Dh t (t.pos i)))):=by
 have hl:=h.l
 have aL:=h.eP
 have HB:=@aG _ @hb
 clear hb
 have jT:=CP
 have E8:∀j,wrap64 (-(t.num j:Int))= -(t.num j:Int):=fun j=>by have:=h.good.Rp j;unfold wrap64;omega
 go_enter Tryz.func82,Tryz.ntmps82
 have q:=Mf.start h
 go_wp2_with fail
 refine(q.ne' (sz w) (aJ)).lf (dx · 51) ?_
 clear q
 intro w1 q
 have F:=q.f1
 go_wp2_with fail
 refine(q.ne' (sz w1) (nk 51 (t.pos i) nl)).wy (dw · _ (ask)) HB.out ?_
 clear q F
 intro w2 q
 have F:=q.f2
 go_wp2_with fail
 refine q.tk 1 (by decide) (fun w' hk hb=>⟨rfl,.inr (q.aR hk (by have hb:=hb.out;unfold Dh;exact wrt))⟩) ?_
 clear q F
 intro w3 hb3 q
 have F:=q.f2
 have hb3:=hb3.out
 go_wp2_with fail
 go_light
 exact Mf.rt ((q.pV (-(t.num (i+1)))).lk 51 (t.pos i) (-(t.num (i+1))) 0 ⟨#[]⟩ aL (by decide)) Tryz.results82 1 (by unfold Dh;exact bS)
theorem Nv (h:Rd w rb tb cap t i 0 0):
 Calls Tryz.prog 195 #[.pointer (some ⟨rb,0,none⟩)] w (aP w rb tb cap t i True (fun _=>iR t)):=by
 have hl:=h.l
 have aL:=h.eP
 have jT:=eX
 go_enter Tryz.func195,Tryz.ntmps195
 have q:=Mf.start h
 go_wp2_with fail
 refine(q.ne' (sz w) (aJ)).lf (dx · 19) ?_
 clear q
 intro w1 q
 have F:=q.f1
 go_wp2_with fail
 refine(q.ne' (sz w1) (nk 19 (t.pos i) nl)).tk 4 (by decide) (fun w' hk hb=>⟨rfl,.inr ((q.ne' (sz w1) (nk 19 (t.pos i) nl)).aR hk (by have hb:=hb.out;unfold iR;exact wrt))⟩) ?_
 clear q F
 intro w2 hb2 q
 have F:=q.f2
 have hs:=h.good.nK i
 have hb2:=hb2.out
 go_wp2_with fail
 go_light
 exact Mf.rt ((q.jm (t.text i)).lk 19 (t.pos i) 0 0 (t.text i) aL (by omega)) Tryz.results195 1 (by unfold iR;exact bS)
end
section
variable {w:World} {rb tb i:Nat} {cap:Cp} {t:Tk}
def aaL (w:World) (rb tb:Nat) (cap:Cp) (t:Tk) (i:Nat) (m:Nat→GP ByteArray) (e:Ending) (w':World):Prop:=∃x i',e=.returned (.string x)∧x.size≤20000∧Nx w rb tb cap t i 0 False w' i' 0 0∧Ev m ⟨i,0,0⟩ (x,⟨i',0,0⟩)
def aaM (w:World) (rb tb:Nat) (cap:Cp) (t:Tk) (i:Nat) (m:Nat→GP Int) (e:Ending) (w':World):Prop:=∃(x:Int) (i':Nat),e=.returned (.int .i64 x)∧Nx w rb tb cap t i 0 False w' i' 0 0∧Ev m ⟨i,0,0⟩ (x,⟨i',0,0⟩)
theorem Mf.sv {w W:World} {rb tb i j:Nat} {cap:Cp} {t:Tk} {g:Prop} {L:List (Nat × Array Value)} {T:List (List Value)} {kv:Value} {vs:List (List Value)} {X V:List (List Nr)} {f:Nat} {args:Array Value} {Q:Ending→World→Prop} {ms:Nat→GP ByteArray} (q:Mf w rb tb cap t i g W j L T kv vs X V) (h:Rd W rb tb cap t j 0 0→Calls Tryz.prog f args W (aaL W rb tb cap t j ms)) (K:∀w' x i',x.size≤20000→Hid (j≤i')→Ev ms ⟨j,0,0⟩ (x,⟨i',0,0⟩)→Mf w rb tb cap t i g w' i' L T kv vs X V→Q (.returned (.string x)) w'):Calls Tryz.prog f args W Q:=(h q.st.rd).mono fun e w' p=>by
 obtain⟨x,i',rfl,hs,hx,hm⟩:=p
 exact K w' x i' hs hx.le hm (q.nx hx)
theorem Mf.iv {w W:World} {rb tb i j:Nat} {cap:Cp} {t:Tk} {g:Prop} {L:List (Nat × Array Value)} {T:List (List Value)} {kv:Value} {vs:List (List Value)} {X V:List (List Nr)} {f:Nat} {args:Array Value} {Q:Ending→World→Prop} {ms:Nat→GP Int} (q:Mf w rb tb cap t i g W j L T kv vs X V) (h:Rd W rb tb cap t j 0 0→Calls Tryz.prog f args W (aaM W rb tb cap t j ms)) (K:∀w' (x:Int) i',Hid (j≤i')→Ev ms ⟨j,0,0⟩ (x,⟨i',0,0⟩)→Mf w rb tb cap t i g w' i' L T kv vs X V→Q (.returned (.int .i64 x)) w'):Calls Tryz.prog f args W Q:=(h q.st.rd).mono fun e w' p=>by
 obtain⟨x,i',rfl,hx,hm⟩:=p
 exact K w' x i' hx.le hm (q.nx hx)
theorem Ea (h:Rd w rb tb cap t i 0 0):
 Calls Tryz.prog 146 #[.pointer (some ⟨rb,0,none⟩)] w (aaL w rb tb cap t i (fun _=>cond (bf t i 0 0 4) (dW t) (ret E0))):=by
 have jT:=nT
 have Aq:=eX
 have hs:=h.good.nK i
 cases hb:bf t i 0 0 4
 ·have hk0:((t.kind i:Int)==4)=false:=(fQ h.lt 4).symm.trans hb
  go_enter Tryz.func146,Tryz.ntmps146
  go_wp2_with (go_at_call 38;refine(jD h).mono ?_;rintro e w1 ⟨rfl,hb1⟩)
  go_ret
  exact⟨_,i,rfl,by decide,Nx.below h hb1,Ev.ret'⟩
 ·have hk0:((t.kind i:Int)==4)=true:=(fQ h.lt 4).symm.trans hb
  have HB:=@aG _ @hb
  have hL:=Df h.good h.lt (by decide) hb
  go_enter Tryz.func146,Tryz.ntmps146
  go_wp2_with (first|(go_at_call 38;refine(jD h).mono ?_;rintro e w1 ⟨rfl,hb1⟩)|(go_at_call 145;refine(BF (h.below hb1) hL).mono ?_;rintro e w2 ⟨rfl,hx⟩))
  go_ret
  have hx0:Nx w rb tb cap t i 0 False w2 (i+1) 0 0:=⟨hx.rd,(Kp.of_below hb1).trans (hx.kp.mono hb1.size),hx.le,fun e=>e,fun x=>x.elim⟩
  have hl:Ev (fun _=>iR t) ⟨i,0,0⟩ (nd 19 (t.pos i) 0 0 (t.text i) [],⟨i+1,0,0⟩):=by
   have hb:=HB.out
   unfold iR
   exact bS
  exact⟨_,i+1,rfl,by omega,hx0,Ev.ak hl Ev.ret'⟩
theorem LZ (h:Rd w rb tb cap t i 0 0):
 Calls Tryz.prog 147 #[.pointer (some ⟨rb,0,none⟩)] w (aaM w rb tb cap t i (fun _=>jR t)):=by
 go_enter Tryz.func147,Tryz.ntmps147
 go_wp2_with fail
 refine(cO h _ (ask)).mono ?_
 rintro e w1 ⟨b1,i1,rfl,hE1,h1,hk1⟩
 have m1:=Ii (a:=0) hE1
 have l1:=hE1.le
 clear hE1
 cases b1
 ·go_wp2_with fail
  refine(cO h1 _ (ask)).mono ?_
  rintro e w2 ⟨b2,i2,rfl,hE2,h2,hk2⟩
  have m2:=Ii (a:=0) hE2
  have l2:=hE2.le
  clear hE2
  have hx:Nx w rb tb cap t i 0 False w2 i2 0 0:=⟨h2,hk1.trans (hk2.mono hk1.size),by omega,fun e=>e,fun x=>x.elim⟩
  cases b2
  ·go_wp2_with fail
   go_ret
   exact⟨0,i2,rfl,hx,Ev.ak m1 (Ev.no rfl (Ev.ak m2 (Ev.no rfl Ev.ret')))⟩
  ·go_wp2_with fail
   go_ret
   exact⟨2,i2,rfl,hx,Ev.ak m1 (Ev.no rfl (Ev.ak m2 (Ev.yes rfl Ev.ret')))⟩
 ·go_wp2_with fail
  go_ret
  exact⟨1,i1,rfl,⟨h1,hk1,l1,fun e=>e,fun x=>x.elim⟩,Ev.ak m1 (Ev.yes rfl Ev.ret')⟩
theorem uS (h:Rd w rb tb cap t i 0 0) {b1 b2:Nat} {bk bn:Int} (h1:b1<rb) (h2:b2<rb) (hc1:w.heap[b1]? =some (.cells #[.int .i64 bk] 3 (0,0))) (hc2:w.heap[b2]? =some (.cells #[.int .i64 bn] 3 (0,0))) (hi1:i+1<t.len):
 Calls Tryz.prog 144 #[.pointer (some ⟨rb,0,none⟩),.pointer (some ⟨b1,0,none⟩),.pointer (some ⟨b2,0,none⟩)] w (aP w rb tb cap t i True (fun _=>seq (dK 1) (ret (nd bk (t.pos i) bn 0 E0 [])))):=by
 have hl:=h.l
 have aL:=h.eP
 have cc1:w.cell? ⟨b1,0,none⟩=some (.int .i64 bk):=cell_of_row w b1 0 _ 3 (0,0) hc1
 have HC2:=@aG _ @hc2
 have HL:=@aG _ @hi1
 clear hc1 hc2 hi1
 have n1:b1≠w.heap.size:=by omega
 have n2:b2≠w.heap.size:=by omega
 have n3:w.heap.size≠b1:=by omega
 have l1:b1<w.heap.size:=by omega
 have l2:b2<w.heap.size:=by omega
 go_enter Tryz.func144,Tryz.ntmps144
 have q:=Mf.start h
 go_wp2_with fail
 refine(q.ne' (sz w) (aJ)).lf (dx · bk) ?_
 clear q
 intro w1 q
 have F:=q.f1
 have hc2:w1.heap[b2]? =some (.cells #[.int .i64 bn] 3 (0,0)):=(q.st.kp.block b2 (by omega) (by omega)).trans HC2.out
 have cc2:w1.cell? ⟨b2,0,none⟩=some (.int .i64 bn):=cell_of_row w1 b2 0 _ 3 (0,0) hc2
 have n4:b2≠w1.heap.size:=by have:=(Array.getElem?_eq_some_iff.1 hc2).1;omega
 have n5:w1.heap.size≠b2:=fun e=>n4 e.symm
 have l3:b2<w1.heap.size:=(Array.getElem?_eq_some_iff.1 hc2).1
 clear hc2
 go_wp2_with fail
 refine(BF ((q.ne' (sz w1) (ah bk (t.pos i) bn 0 ⟨#[]⟩ nl)).st.rd) HL.out).mono ?_
 rintro e w2 ⟨rfl,hx⟩
 replace q:=(q.ne' (sz w1) (ah bk (t.pos i) bn 0 ⟨#[]⟩ nl)).yh hx
 replace F:=q.f2
 clear hx
 go_wp2_with fail
 go_light
 exact Mf.rt (q.lk bk (t.pos i) bn 0 ⟨#[]⟩ aL (by decide)) Tryz.results144 1 bS
end
structure Uv (w:World) (rb tb:Nat) (cap:Cp) (t:Tk) (i:Nat) (most:Nat) (wr:World) (s:ByteArray) (n:Nat) (j:Nat):Prop where
 nx:Nx w rb tb cap t i 0 True wr j 0 0
 le:n≤most
 size:s.size≤6002*n
 ok:∃ns,ns≠[]∧ns.length=n∧(∀n∈ns,n≠[]∧(58:UInt8)∉n)∧s.toList=tq ns
theorem F9 {t:Tk} {i:Nat} (hi:i+1<t.len) (q:Int):bf t i 0 1 q=((t.kind (i+1):Int)==q):=by
 unfold bf
 simp[hi]
theorem ads {t:Tk} {most n j:Nat} {s:ByteArray} {p:Int} (h1:au t j 0 0 ⟨#[58,58]⟩=true) (h2:bf t j 0 1 2=true) (h3:n≠most) (h:Wr (fun _=>bG t) ⟨j+1,0,0⟩ p):Wr (fun _=>lq t most (s,n,false)) ⟨j,0,0⟩ p:=
 Wr.snd aI (Wr.snd dz (Wr.yes (by rw[h1,h2];rfl) (Wr.no (by simpa using h3) (Wr.o8 iJ (Wr.fst h (fun _ _=>Sy.ret))))))
theorem aaN {t:Tk} {n j:Nat} {s:ByteArray} (h1:au t j 0 0 ⟨#[58,58]⟩=true) (h2:bf t j 0 1 2=true):Wr (fun _=>lq t n (s,n,false)) ⟨j,0,0⟩ (t.pos j):=
 Wr.snd aI (Wr.snd dz (Wr.yes (by rw[h1,h2];rfl) (Wr.yes (by simp) (Wr.sq u7 (fun _=>Sy.ret)))))
theorem Uw {t:Tk} {most:Nat} (x:ByteArray × Nat × Bool):Sy (lq t most x):=by
 unfold lq
 exact aA
theorem RQ {t:Tk} {most i:Nat} {s:ByteArray} {r:Rs} {p:Int} (h1:Ev (fun _=>bG t) ⟨i,0,0⟩ (s,r)) (h2:bZ (fun _=>lq t most) (s,1,false) r p):Wr (fun fu=>iq t fu most) ⟨i,0,0⟩ p:=by
 refine Wr.snd h1 ?_
 exact Wr.fst (x:=fun fu=>loop (lq t most) fu (s,1,false)) h2.wr (fun _ _=>Sy.ret)
theorem Ux {w:World} {rb tb i:Nat} {cap:Cp} {t:Tk} (h:Rd w rb tb cap t i 0 0) (most:Nat) (hm1:1≤most) (hm:most≤3):
 Calls Tryz.prog 154 #[.pointer (some ⟨rb,0,none⟩),.int .i64 most] w fun e w'=>(∃s i',e=.returned (.string s)∧s.size≤20000∧Nx w rb tb cap t i 0 True w' i' 0 0∧pU most s∧Ev (fun fu=>iq t fu most) ⟨i,0,0⟩ (s,⟨i',0,0⟩))∨tK w rb ⟨i,0,0⟩ (fun fu=>iq t fu most) e w':=by
 have oC:(t.len:Int)≤6001:=by have:=h.good.few;omega
 have jT:=nT
 have HN:Hid (∀s (r:Rs) p,Ev (fun _=>bG t) ⟨i,0,0⟩ (s,r)→bZ (fun _=>lq t most) (s,1,false) r p→Wr (fun fu=>iq t fu most) ⟨i,0,0⟩ p):=fun s r p h1 h2=>RQ h1 h2
 go_enter Tryz.func154,Tryz.ntmps154
 go_wp2_with (go_at_call 88;refine(nameP h).mono ?_;rintro e w1 (⟨s1,i1,rfl,hs1,hx1,ho1,m1⟩|⟨p1,rfl,hk1,m1⟩))
 rotate_left
 ·exact⟨rfl,.inr ⟨p1,rfl,hk1,Wr.fst m1 (fun _ _=>aA)⟩⟩
 go_loopg [5,6] (t.len - i1) (fun g v q wr=>∃(s:ByteArray) (n j:Nat),g=t.len - j∧v=.string s∧q=.int .i64 n∧Uv w rb tb cap t i most wr s n j∧Hid ((∀r,EvL (fun _=>lq t most) (s,n,false) ⟨j,0,0⟩ r→Ev (fun fu=>iq t fu most) ⟨i,0,0⟩ (r.1.1,r.2))∧∀p,bZ (fun _=>lq t most) (s,n,false) ⟨j,0,0⟩ p→Wr (fun fu=>iq t fu most) ⟨i,0,0⟩ p))
 case atStart=>exact⟨s1,1,i1,rfl,rfl,rfl,⟨hx1,hm1,by omega,⟨[s1.toList],by simp,rfl,by simpa[wu] using ho1,rfl⟩⟩,fun r hr=>Ev.ak m1 (Ev.bnd hr.ev Ev.ret'),fun p hp=>HN.out _ _ _ m1 hp⟩
 case round=>
  obtain⟨s,n,j,eD,rfl,rfl,hR,HM⟩:=hrel
  have HG:=@aG _ @eD
  clear eD
  have hj:=hR.nx.rd.lt
  have hn:=hR.le
  have hsz:=hR.size
  have HP:=@aG _ @hR
  have hrd:=hR.nx.rd
  have HO:Hid (pU most s):=by obtain⟨ns,h1,h2,h3,h4⟩:=hR.ok;exact⟨ns,h1,by omega,h3,h4⟩
  cases hb:au t j 0 0 ⟨#[58,58]⟩
  ·have HB:=@aG _ @hb
   go_wp2_with (go_at_call 89;refine(iX hrd _ (ask)).mono ?_;rintro e w3 ⟨rfl,hb3⟩)
   go_ret
   have e3:=HP.out.nx
   exact .inl ⟨s,j,rfl,by omega,⟨e3.rd.below hb3,e3.kp.trans ((Kp.of_below hb3).mono e3.kp.size),e3.le,e3.ok,e3.go⟩,HO.out,HM.out.1 _ (EvL.stop (Nk (by rw[HB.out];rfl)))⟩
  ·have HB:=@aG _ @hb
   have hlt:=(iY h.good hj hb).2
   cases hq:bf t j 0 1 2
   ·have HQ:=@aG _ @hq
    have hk0:((t.kind (j+1):Int)==2)=false:=(F9 hlt 2).symm.trans hq
    go_wp2_with (first|(go_at_call 89;refine(iX hrd _ (ask)).mono ?_;rintro e w3 ⟨rfl,hb3⟩)|(go_at_call 166;refine(kS (hrd.below hb3) hlt).mono ?_;rintro e w4 ⟨rfl,hb4⟩))
    go_ret
    have e3:=HP.out.nx
    exact .inl ⟨s,j,rfl,by omega,⟨(e3.rd.below hb3).below hb4,e3.kp.trans ((Kp.of_below (hb3.trans (hb4.mono hb3.size))).mono e3.kp.size),e3.le,e3.ok,e3.go⟩,HO.out,HM.out.1 _ (EvL.stop (Nk (by rw[HQ.out];simp)))⟩
   ·have HQ:=@aG _ @hq
    have hk0:((t.kind (j+1):Int)==2)=true:=(F9 hlt 2).symm.trans hq
    by_cases hnm:n=most
    ·subst hnm
     go_wp2_with (first|(go_at_call 89;refine(iX hrd _ (ask)).mono ?_;rintro e w3 ⟨rfl,hb3⟩)|(go_at_call 166;refine(kS (hrd.below hb3) hlt).mono ?_;rintro e w4 ⟨rfl,hb4⟩;have h4:=(hrd.below hb3).below hb4)|(go_at_call 164;refine(D9 h4).mono ?_;rintro e w5 ⟨rfl,hb5⟩))
     have Ar:=hb3.trans (hb4.mono hb3.size)
     have adt:=Ar.trans (hb5.mono Ar.size)
     have e3:=HP.out.nx
     exact⟨rfl,.inr ⟨_,rfl,e3.kp.trans ((Kp.of_below adt).mono e3.kp.size),HM.out.2 _ (bZ.here (aaN HB.out HQ.out) (fun _ y=>Uw y))⟩⟩
    ·have hnm':((n:Int)==(most:Int))=false:=by simp;omega
     have HNM:=@aG _ @hnm
     go_wp2_with (first|(go_at_call 89;refine(iX hrd _ (ask)).mono ?_;rintro e w3 ⟨rfl,hb3⟩)|(go_at_call 166;refine(kS (hrd.below hb3) hlt).mono ?_;rintro e w4 ⟨rfl,hb4⟩;have h4:=(hrd.below hb3).below hb4)|(go_at_call 145;refine(BF h4 hlt).mono ?_;rintro e w5 ⟨rfl,hx5⟩)|(go_at_call 88;refine(nameP hx5.rd).mono ?_;rintro e w6 (⟨s6,i6,rfl,hs6,hx6,ho6,m6⟩|⟨p6,rfl,hk6,m6⟩)))
     ·have Ar:=hb3.trans (hb4.mono hb3.size)
      have e3:=HP.out.nx
      have hkp:Kp w.heap.size rb w w5:=(e3.kp.trans ((Kp.of_below Ar).mono e3.kp.size)).trans (hx5.kp.mono (Nat.le_trans e3.kp.size Ar.size))
      have hP:Uv w rb tb cap t i most w6 (s++(⟨#[58,58]⟩++s6)) (n+1) i6:=by
       refine⟨⟨hx6.rd,hkp.trans (hx6.kp.mono hkp.size),?_,fun e=>e,fun _ _=>?_⟩,by omega,?_,?_⟩
       ·have:=e3.le;have:=hx6.le;omega
       ·have:=e3.le;have:=hx6.le;omega
       ·rw[uQ,uQ];show s.size+(2+s6.size)≤_;omega
       ·obtain⟨ns,h1,h2,h3,h4⟩:=HP.out.ok
        refine⟨ns++[s6.toList],by simp,by simp[h2],fun x hx=>?_,?_⟩
        ·rcases List.mem_append.1 hx with hx|hx
         ·exact h3 x hx
         ·obtain rfl:x=s6.toList:=by simpa using hx
          exact ho6
        ·rw[Ca,Ca,Ni ns _ h1,h4]
         rw[show(⟨#[58,58]⟩:ByteArray).toList=[58,58] by rw[Lib.toList_data]]
         simp
      have hms:t.len - i6<gk:=by
       rw[HG.out]
       have:=hx6.le
       have:=hx6.rd.lt
       omega
      have hon:=adb (s:=s) (f:=false) HB.out HQ.out HNM.out m6
      rw[ByteArray.append_assoc] at hon
      go_roundg (t.len - i6)
      case measure=>exact hms
      case rel=>exact⟨_,n+1,i6,rfl,rfl,by go_num,hP,fun r hr=>HM.out.1 r (EvL.on hon hr),fun p hp=>HM.out.2 p (bZ.on hon hp)⟩
     ·have Ar:=hb3.trans (hb4.mono hb3.size)
      have e3:=HP.out.nx
      have hkp:Kp w.heap.size rb w w5:=(e3.kp.trans ((Kp.of_below Ar).mono e3.kp.size)).trans (hx5.kp.mono (Nat.le_trans e3.kp.size Ar.size))
      exact⟨rfl,.inr ⟨p6,rfl,hkp.trans (hk6.mono hkp.size),HM.out.2 _ (bZ.here (ads HB.out HQ.out HNM.out m6) (fun _ y=>Uw y))⟩⟩
end Go.Proofs.YtdplogkmkgekdaaGreatDoor.Pj
