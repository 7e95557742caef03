/- The project's parser, whole. -/
import Derived.Test.YtdplogkmkgekdaaGreatDoorPlb
import Derived.Test.YtdplogkmkgekdaaGreatDoorPll
import Derived.Test.YtdplogkmkgekdaaGreatDoorPlg
import Derived.Test.YtdplogkmkgekdaaGreatDoorPkzo
import Derived.Test.YtdplogkmkgekdaaGreatDoorPkzy
import Derived.Test.YtdplogkmkgekdaaGreatDoorPlj
set_option linter.all false
set_option maxRecDepth 100000
set_option maxHeartbeats 4000000
namespace Go.Proofs.YtdplogkmkgekdaaGreatDoor.Pj
open Go.RowKit
def gStat (t:Tk) (LS E P:GP (List Nr)):GP (List Nr × Bool):=bnd (gIs t 0 ⟨#[108,101,116]⟩) (fun b14=>cond b14 (bnd LS (fun y=>ret (y,false))) (bnd (gIs t 0 ⟨#[105,102]⟩) (fun b7=>bnd (gIs t 0 ⟨#[109,97,116,99,104]⟩) (fun b8=>bnd (gIs t 0 ⟨#[119,104,105,108,101]⟩) (fun b9=>bnd (gIs t 0 ⟨#[108,111,111,112]⟩) (fun b10=>bnd (gIs t 0 ⟨#[123]⟩) (fun b11=>bnd (cond (b7||(b8||(b9||(b10||b11)))) P E) (fun y=>bnd (gEat t ⟨#[59]⟩) (fun b13=>cond b13 (ret (y,false)) (bnd (gIs t 0 ⟨#[125]⟩) (fun b12=>cond b12 (ret (y,true)) (cond (b7||(b8||(b9||(b10||b11)))) (ret (y,false)) (seq (gBad t) (ret (y,false)))))))))))))))
def gBlockC (t:Tk) (LS E P:GP (List Nr)) (x:List (List Nr) × Int):GP (Bool × (List (List Nr) × Int)):=bnd gOk (fun b15=>bnd (cond b15 (gEat t ⟨#[125]⟩) (ret true)) (fun b16=>cond b16 (ret (false,x)) (bnd (gStat t LS E P) (fun r=>ret (true,(x.1++[r.1],if r.2=true then 1 else x.2))))))
theorem blockB_is {t:Tk} {T E P:GP (List Nr)} {x:List (List Nr) × Int}:gBlockB t (gLet t T E) E P x=gBlockC t (gLetS t T E) E P x:=by
 unfold gBlockB gBlockC gStat
 rw[←letS]
 unfold seq
 simp only[bnd_assoc,ret_bnd,cond_bnd]
 rfl
theorem st_gStat {t:Tk} {LS E P:GP (List Nr)} (h1:Sy LS) (h2:Sy E) (h3:Sy P):Sy (gStat t LS E P):=by
 unfold gStat
 exact syt
theorem st_gLetS {t:Tk} {T E:GP (List Nr)} (h1:Sy T) (h2:Sy E):Sy (gLetS t T E):=by
 unfold gLetS
 exact syt
@[go_sem] theorem neq_func (fn:Fn) (a b:Array Value) (w:World):(binOp .neq 92 (.func fn a b) .nilFunc).run Tryz.prog w=.ok (.bool true) w:=by kernel_rfl
@[go_sem] theorem neq_nil (w:World):(binOp .neq 92 .nilFunc .nilFunc).run Tryz.prog w=.ok (.bool false) w:=by kernel_rfl
def StatR (w:World) (rb tb:Nat) (cap:Cp) (t:Tk) (i:Nat) (m:Nat→GP (List Nr × Bool)) (e:Ending) (w':World):Prop:=
 ∃(kind pos n m':Int) (name:ByteArray) (ko:Option Addr) (kl kc:Nat) (i':Nat) (b:Bool),e=.returned (.tuple #[.agg (nodeC kind pos n m' name (.slice ko kl kc)),.bool b])∧Nx w rb tb cap t i 0 True w' i' 0 0∧NodeIn w.heap.size False w' (nodeC kind pos n m' name (.slice ko kl kc)).toList∧∃x,Fl w' [(nodeC kind pos n m' name (.slice ko kl kc)).toList] [x]∧Ev m ⟨i,0,0⟩ ((x,b),⟨i',0,0⟩)
def StatP (w:World) (rb tb:Nat) (cap:Cp) (t:Tk) (i:Nat) (m:Nat→GP (List Nr × Bool)) (e:Ending) (w':World):Prop:=StatR w rb tb cap t i m e w'∨ThrP w rb ⟨i,0,0⟩ m e w'
theorem ev_want_eat {t:Tk} {s:ByteArray} {i j:Nat} (h:Ev (fun _=>gWant t s) ⟨i,0,0⟩ ((),⟨j,0,0⟩)):Ev (fun _=>gEat t s) ⟨i,0,0⟩ (true,⟨j,0,0⟩):=by
 cases hb:isB t i 0 0 s
 ·exact absurd (show(0:Int)=4 from((wr_want hb).ev h).1) (by decide)
 ·have e:j=i+1:=by
   have h1:=congrArg (fun r=>r.2.i) (h.one (ev_wyes hb))
   exact h1
  subst e
  exact ev_eyes hb
theorem results_node2 {fn:Func} {r s:Nat} (hf:fn.results=#[.cell r 28,.tmp s]) {tmps:Array Value} {b:Nat} {bv:Bool} (ht:tmps.getD r undef=.pointer (some ⟨b,0,none⟩)) (hs:tmps.getD s undef=.bool bv) {W:World} {c0 c1 c2 c3 c4 c5 c6 c7 c8 c9 c10:Value} (hB:Blk W b #[c0,c1,c2,c3,c4,c5,c6,c7,c8,c9,c10]):
 (results fn tmps).run Tryz.prog W=.ok (.tuple #[.agg #[c0,c1,c2,c3,c4,c5,c6,c7,c8,c9,c10],.bool bv]) W:=by
 have hc:∀o,W.cell? ⟨b,o,none⟩=(#[c0,c1,c2,c3,c4,c5,c6,c7,c8,c9,c10]:Array Value)[o]? :=fun o=>cell_of_row W b o _ 28 (0,0) hB
 have ht':tmps[r]?.getD undef=.pointer (some ⟨b,0,none⟩):=by simpa using ht
 have hs':tmps[s]?.getD undef=.bool bv:=by simpa using hs
 simp[results,hf,ht',hs',go_sem,hc]
theorem Mf.rt2 {w W:World} {rb tb i j:Nat} {cap:Cp} {t:Tk} {L:List (Nat × Array Value)} {T:List (List Value)} {kv:Value} {vs:List (List Value)} {Ft Fv:List (List Nr)} {fn:Func} {r s:Nat} {mm:Nat→GP (List Nr × Bool)} {ki po n m:Int} {na:ByteArray} {ko:Option Addr} {kl kc:Nat} {x:List Nr} {act:Act} {bv:Bool} (q:Mf w rb tb cap t i True W j L ((nodeC ki po n m na (.slice ko kl kc)).toList::T) kv vs (x::Ft) Fv) (hf:fn.results=#[.cell r 28,.tmp s]) (N:Nat) (hm:Ev mm ⟨i,0,0⟩ ((x,bv),⟨j,0,0⟩)) {wf:World} {b:Nat} (he:wf=Go.Proofs.YtdplogkmkgekdaaGreatDoor.set11 W b (.int .i64 ki) (.int .i64 po) (.int .i64 n) (.int .i64 m) (.string na) (.slice ko kl kc) (.int .i64 0) (.int .i64 0) nl nl nl:=by rfl) (hd:act.defers=[]:=by rfl) (ht:act.tmps.getD r undef=.pointer (some ⟨b,0,none⟩):=by rfl) (hs:act.tmps.getD s undef=.bool bv:=by rfl) (hz:L[N]? =some (b,zeroC):=by rfl):bodyPost Tryz.prog fn (StatP w rb tb cap t i mm) .ret act wf:=by
 subst he
 have q1:=q.put11 N hz (.int .i64 ki) (.int .i64 po) (.int .i64 n) (.int .i64 m) (.string na) (.slice ko kl kc) (.int .i64 0) (.int .i64 0) (.slice none 0 0) (.slice none 0 0) (.slice none 0 0)
 have hB:Blk _ b _:=(q1.z.blk N (b,_) (by rw[List.getElem?_set,if_pos rfl,if_pos (List.getElem?_eq_some_iff.1 hz).1])).2
 obtain⟨h,ha⟩:=q1.z.all
 exact bodyPost_ret (results_node2 hf ht hs hB) hd (.inl ⟨ki,po,n,m,na,ko,kl,kc,j,bv,rfl,⟨q1.st.rd,q1.st.kp,q1.le,fun e=>e,fun mu _=>q1.go mu⟩,⟨h,isNode.weaken (fun b hb=>hb.1) (fun x=>x) _ _ (ha _ (.inr (List.mem_cons_self ..)))⟩,x,q1.fT.head,hm⟩)
theorem Mf.sd {w W:World} {rb tb i j:Nat} {cap:Cp} {t:Tk} {g:Prop} {L:List (Nat × Array Value)} {T:List (List Value)} {kv:Value} {vs:List (List Value)} {X V:List (List Nr)} {f:Nat} {args:Array Value} {Q:Ending→World→Prop} {mm:Nat→GP (List Nr × Bool)} (q:Mf w rb tb cap t i g W j L T kv vs X V) (h:Rd W rb tb cap t j 0 0→Calls Tryz.prog f args W (StatP W rb tb cap t j mm)) (KB:∀w' p,Kp W.heap.size rb W w'→Wr mm ⟨j,0,0⟩ (p:Nat)→Q (throwE p) w') (K:∀w' (x:Nf) (b:Bool) i' (y:List Nr),Hid (j<i')→Ev mm ⟨j,0,0⟩ ((y,b),⟨i',0,0⟩)→Mf w rb tb cap t i True w' i' L (x.t::T) kv vs (y::X) V→Q (.returned (.tuple #[.agg x.a,.bool b])) w'):Calls Tryz.prog f args W Q:=(h q.st.rd).mono fun e w' p=>by
 rcases p with⟨x1,x2,x3,x4,x5,x6,x7,x8,i',b,rfl,hx,hn,y,hy,hm⟩|⟨p,rfl,hk,hw⟩
 ·exact K w' ⟨x1,x2,x3,x4,x5,x6,x7,x8⟩ b i' y (hx.go trivial rfl) hm (q.nodem hx hn hy)
 ·exact KB w' p hk hw
theorem alone_yes {t:Tk} {i:Nat} {e:Ent} (h:firstB t i esAlone=some e):(isB t i 0 0 ⟨#[105,102]⟩||(isB t i 0 0 ⟨#[109,97,116,99,104]⟩||(isB t i 0 0 ⟨#[119,104,105,108,101]⟩||(isB t i 0 0 ⟨#[108,111,111,112]⟩||isB t i 0 0 ⟨#[123]⟩))))=true:=by
 have hb:=firstB_is h
 have hm:=firstB_mem h
 simp only[esAlone,List.mem_cons,List.not_mem_nil,or_false] at hm
 rcases hm with rfl|rfl|rfl|rfl|rfl
 ·exact or_l hb
 ·exact or_r (or_l hb)
 ·exact or_r (or_r (or_l hb))
 ·exact or_r (or_r (or_r (or_l hb)))
 ·exact or_r (or_r (or_r (or_r hb)))
theorem alone_no {t:Tk} {i:Nat} (h:firstB t i esAlone=none):(isB t i 0 0 ⟨#[105,102]⟩||(isB t i 0 0 ⟨#[109,97,116,99,104]⟩||(isB t i 0 0 ⟨#[119,104,105,108,101]⟩||(isB t i 0 0 ⟨#[108,111,111,112]⟩||isB t i 0 0 ⟨#[123]⟩))))=false:=by
 have n0:isB t i 0 0 ⟨#[105,102]⟩=false:=firstB_none h _ (List.getElem_mem (n:=0) (by decide))
 have n1:isB t i 0 0 ⟨#[109,97,116,99,104]⟩=false:=firstB_none h _ (List.getElem_mem (n:=1) (by decide))
 have n2:isB t i 0 0 ⟨#[119,104,105,108,101]⟩=false:=firstB_none h _ (List.getElem_mem (n:=2) (by decide))
 have n3:isB t i 0 0 ⟨#[108,111,111,112]⟩=false:=firstB_none h _ (List.getElem_mem (n:=3) (by decide))
 have n4:isB t i 0 0 ⟨#[123]⟩=false:=firstB_none h _ (List.getElem_mem (n:=4) (by decide))
 rw[n0,n1,n2,n3,n4]
 rfl
theorem first_app {t:Tk} {i:Nat} {e:Ent} {es es2:List Ent} (h:firstB t i es=some e):firstB t i (es++es2)=some e:=by
 unfold firstB at h⊢
 rw[List.find?_append,h]
 rfl
theorem statL {N:Nat} (hT:rdP 70 N (fun t n=>gG t n 0)) (hE1:rdP 81 N (fun t n=>gG t n 1)) (hLet:∀{w:World} {rb tb i:Nat} {cap:Cp} {t:Tk},Rd w rb tb cap t i 0 0→t.len - i≤N→isB t i 0 0 ⟨#[108,101,116]⟩=true→Calls Tryz.prog 198 #[.pointer (some ⟨rb,0,none⟩)] w (NodeP w rb tb cap t i True (fun n=>gLetS t (gG t n 0) (gG t n 1)))) (hA:∀{w:World} {rb tb i:Nat} {cap:Cp} {t:Tk} {e:Ent} {ts:Array Value},Rd w rb tb cap t i 0 0→t.len - i≤N→firstB t i esAlone=some e→EntC w cap.bd e ts→Calls Tryz.prog e.fn (#[.pointer (some ⟨rb,0,none⟩)]++ts) w (NodeP w rb tb cap t i True (fun n=>gG t n 6))) {w:World} {rb tb i:Nat} {cap:Cp} {t:Tk} (h:Rd w rb tb cap t i 0 0) (hN:t.len - i≤N) (hb:isB t i 0 0 ⟨#[108,101,116]⟩=true):
 Calls Tryz.prog 153 #[.pointer (some ⟨rb,0,none⟩)] w (StatP w rb tb cap t i (fun n=>gStat t (gLetS t (gG t n 0) (gG t n 1)) (gG t n 1) (gG t n 6))):=by
 have hl:=h.l
 have HB:=Hid_nx hb
 clear hb
 have hbb:=HB.out
 go_enter Tryz.func153,Tryz.ntmps153
 have q:=Mf.start h
 go_wp2_with fail
 refine(q.ne' (sz w) (zeroC)).lf (isP · _ (ask)) ?_
 clear q
 intro w1 q
 have F:=q.f1
 go_wp2_with fail
 refine q.nd (fun hr=>hLet hr hN HB.out) (fun w' p hk hw=>⟨rfl,.inr (q.thr hk (by have k:=HB.out;unfold gStat;exact wrt))⟩) ?_
 clear q F
 intro w2 x2 i2 y2 hl2 m2 q
 have F:=q.f1
 go_wp2_with fail
 go_light
 exact Mf.rt2 q Tryz.results153 0 (by have k:=HB.out;unfold gStat;exact evt)
theorem statE {N:Nat} (hT:rdP 70 N (fun t n=>gG t n 0)) (hE1:rdP 81 N (fun t n=>gG t n 1)) (hLet:∀{w:World} {rb tb i:Nat} {cap:Cp} {t:Tk},Rd w rb tb cap t i 0 0→t.len - i≤N→isB t i 0 0 ⟨#[108,101,116]⟩=true→Calls Tryz.prog 198 #[.pointer (some ⟨rb,0,none⟩)] w (NodeP w rb tb cap t i True (fun n=>gLetS t (gG t n 0) (gG t n 1)))) (hA:∀{w:World} {rb tb i:Nat} {cap:Cp} {t:Tk} {e:Ent} {ts:Array Value},Rd w rb tb cap t i 0 0→t.len - i≤N→firstB t i esAlone=some e→EntC w cap.bd e ts→Calls Tryz.prog e.fn (#[.pointer (some ⟨rb,0,none⟩)]++ts) w (NodeP w rb tb cap t i True (fun n=>gG t n 6))) {w:World} {rb tb i:Nat} {cap:Cp} {t:Tk} (h:Rd w rb tb cap t i 0 0) (hN:t.len - i≤N) (hb:isB t i 0 0 ⟨#[108,101,116]⟩=false) (hf:firstB t i esAlone=none):
 Calls Tryz.prog 153 #[.pointer (some ⟨rb,0,none⟩)] w (StatP w rb tb cap t i (fun n=>gStat t (gLetS t (gG t n 0) (gG t n 1)) (gG t n 1) (gG t n 6))):=by
 have hl:=h.l
 have HB:=Hid_nx hb
 have HF:=Hid_nx (alone_no hf)
 have HF2:=Hid_nx hf
 clear hb hf
 have hbb:=HB.out
 go_enter Tryz.func153,Tryz.ntmps153
 have q:=Mf.start h
 go_wp2_with fail
 refine(q.ne' (sz w) (zeroC)).lf (isP · _ (ask)) ?_
 clear q
 intro w1 q
 have F:=q.f1
 have r4:=q.st.rd.r4
 go_wp2_with fail
 refine(begunP (q.alloc (.cells #[.slice (some ⟨cap.a3,0,none⟩) 5 5] 72)).st.rd (tabs1 (by have:=q.st.rd.bl;have:=q.st.rd.l;omega) q.st.rd.t3 ask_esAlone (by decide) rfl) rfl (by show 1≤2;decide)).mono ?_
 rintro e w2 ⟨v,rfl,hv,hb2⟩
 have e1:([(cap.a3,esAlone)]:List (Nat × List Ent)).flatMap (·.2)=esAlone:=by simp
 rw[e1] at hv
 obtain rfl:v=.nilFunc:=by
  rcases hv with⟨en,he,_⟩|⟨_,hv⟩
  ·rw[HF2.out] at he;exact absurd he (by simp)
  ·exact hv
 replace q:=(q.alloc (.cells #[.slice (some ⟨cap.a3,0,none⟩) 5 5] 72)).below hb2
 clear hv hb2 e1 r4 F
 have F:=q.f1
 go_wp2_with fail
 refine q.nd (fun hr=>hE1 hr hN) (fun w' p hk hw=>⟨rfl,.inr (q.thr hk (by have k:=HB.out;have k2:=HF.out;unfold gStat;exact Wr.snd ev_is (Wr.no k (Wr.snd ev_is (Wr.snd ev_is (Wr.snd ev_is (Wr.snd ev_is (Wr.snd ev_is (Wr.fst (Wr.no k2 hw) (fun _ _=>syt))))))))))⟩) ?_
 clear q F
 intro w3 x3 i3 y3 hl3 m3 q
 have F:=q.f1
 have HPRE:Hid ((∀r,Ev (fun _=>bnd (gEat t ⟨#[59]⟩) (fun b13=>cond b13 (ret (y3,false)) (bnd (gIs t 0 ⟨#[125]⟩) (fun b12=>cond b12 (ret (y3,true)) (seq (gBad t) (ret (y3,false))))))) ⟨i3,0,0⟩ r→Ev (fun n=>gStat t (gLetS t (gG t n 0) (gG t n 1)) (gG t n 1) (gG t n 6)) ⟨i,0,0⟩ r)∧∀p,Wr (fun _=>bnd (gEat t ⟨#[59]⟩) (fun b13=>cond b13 (ret (y3,false)) (bnd (gIs t 0 ⟨#[125]⟩) (fun b12=>cond b12 (ret (y3,true)) (seq (gBad t) (ret (y3,false))))))) ⟨i3,0,0⟩ p→Wr (fun n=>gStat t (gLetS t (gG t n 0) (gG t n 1)) (gG t n 1) (gG t n 6)) ⟨i,0,0⟩ p):=by
  have k:=HB.out
  have k2:=HF.out
  refine⟨fun r hr=>?_,fun p hp=>?_⟩
  ·unfold gStat
   refine Ev.bnd' ev_is (Ev.no k (Ev.bnd' ev_is (Ev.bnd' ev_is (Ev.bnd' ev_is (Ev.bnd' ev_is (Ev.bnd' ev_is (Ev.bnd' (Ev.no k2 m3) ?_)))))))
   rw[k2]
   exact hr
  ·unfold gStat
   refine Wr.snd ev_is (Wr.no k (Wr.snd ev_is (Wr.snd ev_is (Wr.snd ev_is (Wr.snd ev_is (Wr.snd ev_is (Wr.snd (Ev.no k2 m3) ?_)))))))
   rw[k2]
   exact hp
 go_wp2_with fail
 refine(q.ne' (sz w3) x3.a).lf (isP · _ (ask)) ?_
 clear q F
 intro w4 q
 have F:=q.f2
 cases hc:isB t i3 0 0 ⟨#[125]⟩
 ·have HC:=Hid_nx hc
  go_wp2_with fail
  refine q.wn (mustP · _ (ask)) (fun w' hk hw=>⟨rfl,.inr (q.thr hk (HPRE.out.2 _ (by have k3:=HC.out;exact Wr.snd (ev_eno (by cases hs:isB t i3 0 0 ⟨#[59]⟩;rfl;exact absurd (show(0:Int)=4 from(hw.ev (ev_wyes hs)).1) (by decide))) (Wr.no rfl (Wr.snd ev_is (Wr.no k3 (Wr.sq wr_bad (fun _=>Sy.ret))))))))⟩) ?_
  clear q F
  intro w5 m5 q
  have F:=q.f2
  go_wp2_with fail
  go_light
  exact Mf.rt2 q Tryz.results153 1 (HPRE.out.1 _ (Ev.bnd' (ev_want_eat m5) (Ev.yes rfl Ev.ret')))
 ·have HC:=Hid_nx hc
  go_wp2_with fail
  go_light
  exact Mf.rt2 q Tryz.results153 1 (HPRE.out.1 _ (by have k3:=HC.out;have k4:=isB_ne k3 (b:=⟨#[59]⟩) (lit);exact evt))
theorem statA {N:Nat} (hT:rdP 70 N (fun t n=>gG t n 0)) (hE1:rdP 81 N (fun t n=>gG t n 1)) (hLet:∀{w:World} {rb tb i:Nat} {cap:Cp} {t:Tk},Rd w rb tb cap t i 0 0→t.len - i≤N→isB t i 0 0 ⟨#[108,101,116]⟩=true→Calls Tryz.prog 198 #[.pointer (some ⟨rb,0,none⟩)] w (NodeP w rb tb cap t i True (fun n=>gLetS t (gG t n 0) (gG t n 1)))) (hA:∀{w:World} {rb tb i:Nat} {cap:Cp} {t:Tk} {e:Ent} {ts:Array Value},Rd w rb tb cap t i 0 0→t.len - i≤N→firstB t i esAlone=some e→EntC w cap.bd e ts→Calls Tryz.prog e.fn (#[.pointer (some ⟨rb,0,none⟩)]++ts) w (NodeP w rb tb cap t i True (fun n=>gG t n 6))) {w:World} {rb tb i:Nat} {cap:Cp} {t:Tk} (h:Rd w rb tb cap t i 0 0) (hN:t.len - i≤N) (hb:isB t i 0 0 ⟨#[108,101,116]⟩=false) {e0:Ent} (hf:firstB t i esAlone=some e0):
 Calls Tryz.prog 153 #[.pointer (some ⟨rb,0,none⟩)] w (StatP w rb tb cap t i (fun n=>gStat t (gLetS t (gG t n 0) (gG t n 1)) (gG t n 1) (gG t n 6))):=by
 have hl:=h.l
 have HB:=Hid_nx hb
 have HF:=Hid_nx (alone_yes hf)
 have HF2:=Hid_nx hf
 clear hb hf
 have hbb:=HB.out
 go_enter Tryz.func153,Tryz.ntmps153
 have q:=Mf.start h
 go_wp2_with fail
 refine(q.ne' (sz w) (zeroC)).lf (isP · _ (ask)) ?_
 clear q
 intro w1 q
 have F:=q.f1
 have r4:=q.st.rd.r4
 go_wp2_with fail
 refine(begunP (q.alloc (.cells #[.slice (some ⟨cap.a3,0,none⟩) 5 5] 72)).st.rd (tabs1 (by have:=q.st.rd.bl;have:=q.st.rd.l;omega) q.st.rd.t3 ask_esAlone (by decide) rfl) rfl (by show 1≤2;decide)).mono ?_
 rintro e w2 ⟨v,rfl,hv,hb2⟩
 have e1:([(cap.a3,esAlone)]:List (Nat × List Ent)).flatMap (·.2)=esAlone:=by simp
 rw[e1] at hv
 obtain⟨en,he,hv⟩:∃e,firstB t i esAlone=some e∧EntV w2 cap.bd e v:=by
  rcases hv with hv|⟨hv,_⟩
  ·exact hv
  ·rw[HF2.out] at hv;exact absurd hv (by simp)
 obtain⟨ts,rfl,hc⟩:=hv.parts
 replace q:=(q.alloc (.cells #[.slice (some ⟨cap.a3,0,none⟩) 5 5] 72)).below hb2
 have HE:=Hid_nx he
 have HC:=Hid_nx hc
 clear hv hb2 e1 r4 F he hc
 have F:=q.f1
 have hin:∀args w,(callFunc en.fn args).run Tryz.prog w=.ok (.enter en.fn args) w:=ein_esAlone en (firstB_mem HE.out)
 go_wp2_with fail
 refine q.nd (fun hr=>hA hr hN HE.out HC.out) (fun w' p hk hw=>⟨rfl,.inr (q.thr hk (by have k:=HB.out;have k2:=HF.out;unfold gStat;exact Wr.snd ev_is (Wr.no k (Wr.snd ev_is (Wr.snd ev_is (Wr.snd ev_is (Wr.snd ev_is (Wr.snd ev_is (Wr.fst (Wr.yes k2 hw) (fun _ _=>syt))))))))))⟩) ?_
 clear q F
 intro w3 x3 i3 y3 hl3 m3 q
 have F:=q.f1
 have HPRE:Hid (∀r,Ev (fun _=>bnd (gEat t ⟨#[59]⟩) (fun b13=>cond b13 (ret (y3,false)) (bnd (gIs t 0 ⟨#[125]⟩) (fun b12=>cond b12 (ret (y3,true)) (ret (y3,false)))))) ⟨i3,0,0⟩ r→Ev (fun n=>gStat t (gLetS t (gG t n 0) (gG t n 1)) (gG t n 1) (gG t n 6)) ⟨i,0,0⟩ r):=by
  have k:=HB.out
  have k2:=HF.out
  intro r hr
  unfold gStat
  refine Ev.bnd' ev_is (Ev.no k (Ev.bnd' ev_is (Ev.bnd' ev_is (Ev.bnd' ev_is (Ev.bnd' ev_is (Ev.bnd' ev_is (Ev.bnd' (Ev.yes k2 m3) ?_)))))))
  rw[k2]
  exact hr
 cases hs:isB t i3 0 0 ⟨#[59]⟩
 ·have HS:=Hid_nx hs
  go_wp2_with fail
  go_region_law (first|(go_simp;refine q.lf (isP · _ (ask)) ?_;clear q F;intro w5 q;have F:=q.f2)|(replace q:=(q.ne' (sz w3) x3.a).drew;go_simp;refine q.et (skipP · _ (ask)) ?_;clear q F;intro w4 b4 i4 hE4 m4 q;have F:=q.f2;obtain rfl:b4=false:=hE4.is_.trans HS.out;obtain rfl:i3=i4:=(hE4.no rfl).symm;clear hE4))
  all_goals
   go_wp2_with fail
   go_light
   exact Mf.rt2 (bv:=isB t i3 0 0 ⟨#[125]⟩) q Tryz.results153 1 (HPRE.out _ (by cases hc:isB t i3 0 0 ⟨#[125]⟩<;>exact evt))
 ·have HS:=Hid_nx hs
  go_wp2_with fail
  first|go_region_law (replace q:=(q.ne' (sz w3) x3.a).drew;go_simp;refine q.et (skipP · _ (ask)) ?_;clear q F;intro w4 b4 i4 hE4 m4 q;have F:=q.f2;obtain rfl:b4=true:=hE4.is_.trans HS.out;clear hE4)|fail
  all_goals
   go_wp2_with fail
   go_light
   exact Mf.rt2 q Tryz.results153 1 (HPRE.out _ (by exact evt))
theorem statP {N:Nat} (hT:rdP 70 N (fun t n=>gG t n 0)) (hE1:rdP 81 N (fun t n=>gG t n 1)) (hLet:∀{w:World} {rb tb i:Nat} {cap:Cp} {t:Tk},Rd w rb tb cap t i 0 0→t.len - i≤N→isB t i 0 0 ⟨#[108,101,116]⟩=true→Calls Tryz.prog 198 #[.pointer (some ⟨rb,0,none⟩)] w (NodeP w rb tb cap t i True (fun n=>gLetS t (gG t n 0) (gG t n 1)))) (hA:∀{w:World} {rb tb i:Nat} {cap:Cp} {t:Tk} {e:Ent} {ts:Array Value},Rd w rb tb cap t i 0 0→t.len - i≤N→firstB t i esAlone=some e→EntC w cap.bd e ts→Calls Tryz.prog e.fn (#[.pointer (some ⟨rb,0,none⟩)]++ts) w (NodeP w rb tb cap t i True (fun n=>gG t n 6))) {w:World} {rb tb i:Nat} {cap:Cp} {t:Tk} (h:Rd w rb tb cap t i 0 0) (hN:t.len - i≤N):
 Calls Tryz.prog 153 #[.pointer (some ⟨rb,0,none⟩)] w (StatP w rb tb cap t i (fun n=>gStat t (gLetS t (gG t n 0) (gG t n 1)) (gG t n 1) (gG t n 6))):=by
 cases hb:isB t i 0 0 ⟨#[108,101,116]⟩
 ·cases hf:firstB t i esAlone with
  |none=>exact statE hT hE1 hLet hA h hN hb hf
  |some e=>exact statA hT hE1 hLet hA h hN hb hf
 ·exact statL hT hE1 hLet hA h hN hb
theorem blockT {N:Nat} (hT:rdP 70 N (fun t n=>gG t n 0)) (hE1:rdP 81 N (fun t n=>gG t n 1)) (hLet:∀{w:World} {rb tb i:Nat} {cap:Cp} {t:Tk},Rd w rb tb cap t i 0 0→t.len - i≤N→isB t i 0 0 ⟨#[108,101,116]⟩=true→Calls Tryz.prog 198 #[.pointer (some ⟨rb,0,none⟩)] w (NodeP w rb tb cap t i True (fun n=>gLetS t (gG t n 0) (gG t n 1)))) (hA:∀{w:World} {rb tb i:Nat} {cap:Cp} {t:Tk} {e:Ent} {ts:Array Value},Rd w rb tb cap t i 0 0→t.len - i≤N→firstB t i esAlone=some e→EntC w cap.bd e ts→Calls Tryz.prog e.fn (#[.pointer (some ⟨rb,0,none⟩)]++ts) w (NodeP w rb tb cap t i True (fun n=>gG t n 6))) {w:World} {rb tb i:Nat} {cap:Cp} {t:Tk} (h:Rd w rb tb cap t i 0 0) (hN:t.len - i≤N+1):
 Calls Tryz.prog 75 #[.pointer (some ⟨rb,0,none⟩)] w (NodeP w rb tb cap t i True (fun n=>gBlock t (gLet t (gG t n 0) (gG t n 1)) (gG t n 1) (gG t n 6) n)):=by
 have hl:=h.l
 have hposI:(0:Int)≤(t.pos i:Int)∧(t.pos i:Int)≤7000:=by have:=h.good.posb i;omega
 have HST:Hid (∀{w:World} {j:Nat},Rd w rb tb cap t j 0 0→t.len - j≤N→Calls Tryz.prog 153 #[.pointer (some ⟨rb,0,none⟩)] w (StatP w rb tb cap t j (fun n=>gStat t (gLetS t (gG t n 0) (gG t n 1)) (gG t n 1) (gG t n 6)))):=fun hr hn=>statP hT hE1 hLet hA hr hn
 have HS:Hid (∀n x,Sy (gBlockC t (gLetS t (gG t n 0) (gG t n 1)) (gG t n 1) (gG t n 6) x)):=fun n x=>by
  have h1:Sy (gStat t (gLetS t (gG t n 0) (gG t n 1)) (gG t n 1) (gG t n 6)):=st_gStat (st_gLetS (gG_st _ _ _) (gG_st _ _ _)) (gG_st _ _ _) (gG_st _ _ _)
  unfold gBlockC
  exact syt
 go_enter Tryz.func75,Tryz.ntmps75
 have q:=Mf.start h
 go_wp2_with fail
 refine(q.ne' (sz w) (zeroC)).lf (nodeP · 42) ?_
 clear q
 intro w1 q
 have F:=q.f1
 go_wp2_with fail
 refine(q.ne' (sz w1) (nk 42 (t.pos i) nl)).wn (mustP · _ (ask)) (fun w' hk hw=>⟨rfl,.inr ((q.ne' (sz w1) (nk 42 (t.pos i) nl)).thr hk (by unfold gBlock;exact wrt))⟩) ?_
 clear q F
 intro w2 m2 q
 have F:=q.f2
 have HE:Hid (∀r:(List (List Nr) × Int) × Rs,EvL (fun n=>gBlockC t (gLetS t (gG t n 0) (gG t n 1)) (gG t n 1) (gG t n 6)) ([],0) ⟨i+1,0,0⟩ r→Ev (fun n=>gBlock t (gLet t (gG t n 0) (gG t n 1)) (gG t n 1) (gG t n 6) n) ⟨i,0,0⟩ (nd 42 (t.pos i:Int) r.1.2 0 E0 r.1.1,r.2)):=fun r hr=>by
  have hr2:EvL (fun n=>gBlockB t (gLet t (gG t n 0) (gG t n 1)) (gG t n 1) (gG t n 6)) ([],0) ⟨i+1,0,0⟩ r:=by
   rw[show(fun n=>gBlockB t (gLet t (gG t n 0) (gG t n 1)) (gG t n 1) (gG t n 6))=(fun n=>gBlockC t (gLetS t (gG t n 0) (gG t n 1)) (gG t n 1) (gG t n 6)) from funext fun n=>funext fun x=>blockB_is]
   exact hr
  unfold gBlock
  exact evt
 have HW:Hid (∀p,WrL (fun n=>gBlockC t (gLetS t (gG t n 0) (gG t n 1)) (gG t n 1) (gG t n 6)) ([],0) ⟨i+1,0,0⟩ p→Wr (fun n=>gBlock t (gLet t (gG t n 0) (gG t n 1)) (gG t n 1) (gG t n 6) n) ⟨i,0,0⟩ p):=fun p hp=>by
  have hp2:WrL (fun n=>gBlockB t (gLet t (gG t n 0) (gG t n 1)) (gG t n 1) (gG t n 6)) ([],0) ⟨i+1,0,0⟩ p:=by
   rw[show(fun n=>gBlockB t (gLet t (gG t n 0) (gG t n 1)) (gG t n 1) (gG t n 6))=(fun n=>gBlockC t (gLetS t (gG t n 0) (gG t n 1)) (gG t n 1) (gG t n 6)) from funext fun n=>funext fun x=>blockB_is]
   exact hp
  unfold gBlock
  exact wrt
 go_wp2_with fail
 go_loopg [4,5] (t.len - (i+1)) (fun g _ _ wr=>∃(v:Value) (vs:List (List Value)) (nn:Int) (j:Nat) (V:List (List Nr)),g=t.len - j∧Hid (vs.length≤j)∧Mf w rb tb cap t i True wr j [(sz w1,nodeC 42 (t.pos i) nn 0 ⟨#[]⟩ v),(sz w,zeroC)] [] v vs [] V∧Hid ((∀r,EvL (fun n=>gBlockC t (gLetS t (gG t n 0) (gG t n 1)) (gG t n 1) (gG t n 6)) (V,nn) ⟨j,0,0⟩ r→EvL (fun n=>gBlockC t (gLetS t (gG t n 0) (gG t n 1)) (gG t n 1) (gG t n 6)) ([],0) ⟨i+1,0,0⟩ r)∧∀p,WrL (fun n=>gBlockC t (gLetS t (gG t n 0) (gG t n 1)) (gG t n 1) (gG t n 6)) (V,nn) ⟨j,0,0⟩ p→WrL (fun n=>gBlockC t (gLetS t (gG t n 0) (gG t n 1)) (gG t n 1) (gG t n 6)) ([],0) ⟨i+1,0,0⟩ p))
 case atStart=>exact⟨nl,[],0,i+1,[],rfl,Nat.zero_le _,q,⟨fun r h=>h,fun p h=>h⟩⟩
 case round=>
  clear F q
  obtain⟨v,vs,nn,j,V,hgk,HL,q,HM⟩:=hrel
  have HG:Hid (gk=t.len - j):=hgk
  clear hgk
  have hjl:=q.st.rd.lt
  have hij:=q.go trivial
  have HVL:Hid (vs.length≤6001):=by show vs.length≤6001;have:=HL.out;have:=h.good.few;omega
  obtain⟨ao3,cp3,rfl⟩:=q.shape
  have F:=q.f2
  go_wp2_with fail
  refine q.et (skipP · _ (ask)) ?_
  clear q F
  intro w4 b4 i4 hE4 m4 q
  have F:=q.f2
  cases b4
  ·obtain rfl:j=i4:=(hE4.no rfl).symm
   clear hE4
   go_wp2_with fail
   refine q.sd (fun hr=>HST.out hr (by omega)) (fun w' p hk hw=>⟨rfl,.inr (q.thr hk (HW.out _ (HM.out.2 _ (WrL.here (by unfold gBlockC;exact wrt) HS.out))))⟩) ?_
   clear q F
   intro w5 x5 b5 i5 y5 hl5 m5 q
   have F:=q.f2
   have hl5:=hl5.out
   have M5:=Hid_nx m5
   have M4:=Hid_nx m4
   clear m4 m5
   go_wp2_with (at_builtin;refine(q.ne' (sz w5) x5.a).ap (sz w5+1) (Nat.le_trans HVL.out (by decide)) ?_;clear q F;intro w6 ao6 cp6 q;have F:=q.f3)
   ·have hi5:=q.st.rd.lt
    have hb5:b5=true:= ‹_›
    subst hb5
    replace q:=((q.p15 (.slice ao6 (vs.length+1) cp6)).p12 1).pop
    go_roundg (t.len - i5)
    case measure=>rw[HG.out];omega
    case rel=>exact⟨_,_,1,i5,_,rfl,(by show(vs++_).length≤i5;have:=HL.out;simp;omega),q,⟨fun r hr=>HM.out.1 r (EvL.on (by have m4:=M4.out;have m5:=M5.out;unfold gBlockC;exact Ev.bnd' ev_ok (Ev.bnd' (Ev.yes rfl m4) (Ev.no rfl (Ev.bnd' m5 Ev.ret')))) hr),fun p hp=>HM.out.2 p (WrL.on (by have m4:=M4.out;have m5:=M5.out;unfold gBlockC;exact Ev.bnd' ev_ok (Ev.bnd' (Ev.yes rfl m4) (Ev.no rfl (Ev.bnd' m5 Ev.ret')))) hp)⟩⟩
   ·have hi5:=q.st.rd.lt
    have hb5:b5=false:= ‹_›
    subst hb5
    replace q:=(q.p15 (.slice ao6 (vs.length+1) cp6)).pop
    go_roundg (t.len - i5)
    case measure=>rw[HG.out];omega
    case rel=>exact⟨_,_,nn,i5,_,rfl,(by show(vs++_).length≤i5;have:=HL.out;simp;omega),q,⟨fun r hr=>HM.out.1 r (EvL.on (by have m4:=M4.out;have m5:=M5.out;unfold gBlockC;exact Ev.bnd' ev_ok (Ev.bnd' (Ev.yes rfl m4) (Ev.no rfl (Ev.bnd' m5 Ev.ret')))) hr),fun p hp=>HM.out.2 p (WrL.on (by have m4:=M4.out;have m5:=M5.out;unfold gBlockC;exact Ev.bnd' ev_ok (Ev.bnd' (Ev.yes rfl m4) (Ev.no rfl (Ev.bnd' m5 Ev.ret')))) hp)⟩⟩
  ·clear hE4
   have M4:=Hid_nx m4
   clear m4
   go_wp2_with fail
   go_light
   exact Mf.rt (q.fo 42 (t.pos i) nn 0 ⟨#[]⟩ (Nat.le_trans HVL.out (by decide)) hposI) Tryz.results75 1 (HE.out ((_,_),_) (HM.out.1 _ (EvL.stop (by have m4:=M4.out;unfold gBlockC;exact Ev.bnd' ev_ok (Ev.bnd' (Ev.yes rfl m4) (Ev.yes rfl Ev.ret'))))))
theorem blockP {N:Nat} (hT:rdP 70 N (fun t n=>gG t n 0)) (hE1:rdP 81 N (fun t n=>gG t n 1)) (hLet:∀{w:World} {rb tb i:Nat} {cap:Cp} {t:Tk},Rd w rb tb cap t i 0 0→t.len - i≤N→isB t i 0 0 ⟨#[108,101,116]⟩=true→Calls Tryz.prog 198 #[.pointer (some ⟨rb,0,none⟩)] w (NodeP w rb tb cap t i True (fun n=>gLetS t (gG t n 0) (gG t n 1)))) (hA:∀{w:World} {rb tb i:Nat} {cap:Cp} {t:Tk} {e:Ent} {ts:Array Value},Rd w rb tb cap t i 0 0→t.len - i≤N→firstB t i esAlone=some e→EntC w cap.bd e ts→Calls Tryz.prog e.fn (#[.pointer (some ⟨rb,0,none⟩)]++ts) w (NodeP w rb tb cap t i True (fun n=>gG t n 6))):rdP 75 (N+1) (fun t n=>gG t n 3):=fun h hN=>(blockT hT hE1 hLet hA h hN).mono fun e w' p=>p.to (fun r hr=>hr.up (fun _=>rfl)) (fun p hw=>hw.up (fun _=>rfl))
end Go.Proofs.YtdplogkmkgekdaaGreatDoor.Pj
namespace Go.Proofs.YtdplogkmkgekdaaGreatDoor.Pj
open Go.RowKit
theorem rdP.down {f N:Nat} {m:Tk→Nat→GP (List Nr)} (h:rdP f (N+1) m):rdP f N m:=fun h1 h2=>h h1 (by omega)
theorem rdP.zero {f:Nat} {m:Tk→Nat→GP (List Nr)}:rdP f 0 m:=fun h1 h2=>absurd h1.lt (by omega)
structure AllP (N:Nat):Prop where
 T:rdP 70 N (fun t n=>gG t n 0)
 E:rdP 81 N (fun t n=>gG t n 1)
 U:rdP 201 N (fun t n=>gG t n 2)
 B:rdP 75 N (fun t n=>gG t n 3)
 J:rdIf N
 Q:rdP 86 N (fun t n=>gG t n 5)
theorem allA {N:Nat} (a:AllP N) {w:World} {rb tb i:Nat} {cap:Cp} {t:Tk} {e:Ent} {ts:Array Value} (h:Rd w rb tb cap t i 0 0) (hN:t.len - i≤N) (he:firstB t i esAlone=some e) (hc:EntC w cap.bd e ts):Calls Tryz.prog e.fn (#[.pointer (some ⟨rb,0,none⟩)]++ts) w (NodeP w rb tb cap t i True (fun n=>gG t n 6)):=by
 match N,a,hN with
 |0,_,hN=>exact absurd h.lt (by omega)
 |M+1,a,hN=>
  have T:rdP 70 M (fun t n=>gG t n 0):=fun h1 h2=>a.T h1 (by omega)
  have E:rdP 81 M (fun t n=>gG t n 1):=fun h1 h2=>a.E h1 (by omega)
  have Q:rdP 86 M (fun t n=>gG t n 5):=fun h1 h2=>a.Q h1 (by omega)
  have B:rdP 75 M (fun t n=>gG t n 3):=fun h1 h2=>a.B h1 (by omega)
  exact(exprD T E Q B a.J a.B h hN (first_app he) hc).mono fun e w' p=>p.to (fun r hr=>hr.up (fun _=>rfl)) (fun p hw=>hw.up (fun _=>rfl))
theorem letP {N:Nat} (hT:rdP 70 N (fun t n=>gG t n 0)) (hE:rdP 81 N (fun t n=>gG t n 1)) {w:World} {rb tb i:Nat} {cap:Cp} {t:Tk} (h:Rd w rb tb cap t i 0 0) (hN:t.len - i≤N) (hb:isB t i 0 0 ⟨#[108,101,116]⟩=true):Calls Tryz.prog 198 #[.pointer (some ⟨rb,0,none⟩)] w (NodeP w rb tb cap t i True (fun n=>gLetS t (gG t n 0) (gG t n 1))):=by
 cases hm:isB t (i+1) 0 0 ⟨#[109,117,116]⟩
 ·exact letP0 hT hE h (by omega) hm hb
 ·exact letP1 hT hE h (by omega) hm hb
def gCmpB (t:Tk) (X:GP (List Nr)) (l:List Nr):GP (Bool × List Nr):=bnd (gSign t [⟨#[61,61]⟩,⟨#[33,61]⟩,⟨#[60,61]⟩,⟨#[62,61]⟩,⟨#[60]⟩,⟨#[62]⟩]) (fun w=>cond (w.size==0) (ret (false,l)) (bnd (gAt t) (fun p=>seq (gWant t w) (bnd X (fun r=>ret (true,nd 29 p 0 0 w [l,r]))))))
theorem chainLikeC {t:Tk} {X:Nat→GP (List Nr)} (hX:∀n,Sy (X n)):ChainLike t 29 [⟨#[61,61]⟩,⟨#[33,61]⟩,⟨#[60,61]⟩,⟨#[62,61]⟩,⟨#[60]⟩,⟨#[62]⟩] X (fun n=>gCmpB t (X n)) where
 c0 h:=Ev.bnd' (ev_nosgn h) (Ev.yes rfl Ev.ret')
 c1 h h1:=Ev.bnd' (ev_sgn h) (Ev.no ((by decide:∀s∈([⟨#[61,61]⟩,⟨#[33,61]⟩,⟨#[60,61]⟩,⟨#[62,61]⟩,⟨#[60]⟩,⟨#[62]⟩]:List ByteArray),(s.size==0)=false) _ (opB_yes h).2.2) (Ev.bnd' ev_at (Ev.seq (ev_wyes (opB_yes h).2.1) (Ev.bnd' h1 Ev.ret'))))
 c2 h h1:=Wr.snd (ev_sgn h) (Wr.no ((by decide:∀s∈([⟨#[61,61]⟩,⟨#[33,61]⟩,⟨#[60,61]⟩,⟨#[62,61]⟩,⟨#[60]⟩,⟨#[62]⟩]:List ByteArray),(s.size==0)=false) _ (opB_yes h).2.2) (Wr.snd ev_at (Wr.sqd (ev_wyes (opB_yes h).2.1) (Wr.fst h1 (fun _ _=>Sy.ret)))))
 sy n l:=by
  unfold gCmpB
  have:=hX n
  exact syt
theorem gCmp_is {t:Tk} {U:GP (List Nr)} {fu:Nat}:gCmp t U fu=bnd (gAddE t U fu) (fun l=>bnd (gCmpB t (gAddE t U fu) l) (fun r=>ret r.2)):=by
 unfold gCmp gCmpB seq
 simp only[bnd_assoc,cond_bnd,ret_bnd]
theorem opsP {N:Nat} (hU:rdP 201 N (fun t n=>gG t n 2)):opRd 2 N (fun t n=>gOrE t (gG t n 2) n):=by
 have c6:opRd 6 N (fun t n=>gMul t (gG t n 2) n):=chain6 (chain7 hU) (fun t=>chainLikeS (fun n=>gG_st _ _ _) (by decide))
 have c5:opRd 5 N (fun t n=>gAddE t (gG t n 2) n):=chain5 c6 (fun t=>chainLikeS (fun n=>by exact syt) (by decide))
 have c4:opRd 4 N (fun t n=>gCmp t (gG t n 2) n):=by
  rw[show(fun(t:Tk) (n:Nat)=>gCmp t (gG t n 2) n)=(fun(t:Tk) (n:Nat)=>bnd (gAddE t (gG t n 2) n) (fun l=>bnd (gCmpB t (gAddE t (gG t n 2) n) l) (fun r=>ret r.2))) from funext fun t=>funext fun n=>gCmp_is]
  exact chain4 (B:=fun t n=>gCmpB t (gAddE t (gG t n 2) n)) c5 (fun t=>chainLikeC (fun n=>by exact syt))
 have c3:opRd 3 N (fun t n=>gAndE t (gG t n 2) n):=chain3 c4 (fun t=>chainLike (fun n=>by exact syt) (by decide))
 have c2:opRd 2 N (fun t n=>gOrE t (gG t n 2) n):=chain2 c3 (fun t=>chainLike (fun n=>by exact syt) (by decide))
 intro w rb tb i cap t h1 h2
 exact c2 h1 h2
theorem allP:(N:Nat)→AllP N
 |0=>⟨fun h1 h2=>absurd h1.lt (by omega),fun h1 h2=>absurd h1.lt (by omega),fun h1 h2=>absurd h1.lt (by omega),fun h1 h2=>absurd h1.lt (by omega),fun h1 h2 _=>absurd h1.lt (by omega),fun h1 h2=>absurd h1.lt (by omega)⟩
 |N+1=>by
  have a:=allP N
  have B1:rdP 75 (N+1) (fun t n=>gG t n 3):=blockP a.T a.E (fun h hN hb=>letP a.T a.E h hN hb) (fun h hN he hc=>allA a h hN he hc)
  have J1:rdIf (N+1):=fun h hN hb=>(ifP a.E a.B a.J h hN hb).mono fun e w' p=>p.to (fun r hr=>hr.up (fun _=>rfl)) (fun p hw=>hw.up (fun _=>rfl))
  have X1:rdP 239 (N+1) (fun t n=>gG t n 6):=thingP a.T a.E a.Q a.B J1 B1
  have U1:rdP 201 (N+1) (fun t n=>gG t n 2):=prefixedP a.U (fun h hN=>extendedP a.E X1 h hN)
  have E1:rdP 81 (N+1) (fun t n=>gG t n 1):=fun h hN=>(expressionP a.E (fun h hN=>opsP U1 h hN) h hN).mono fun e w' p=>p.to (fun r hr=>hr.up (fun _=>rfl)) (fun p hw=>hw.up (fun _=>rfl))
  exact⟨anyTypeP a.T,E1,U1,B1,J1,patternP a.Q⟩
theorem progP {w:World} {rb tb i:Nat} {cap:Cp} {t:Tk} (h:Rd w rb tb cap t i 0 0):Calls Tryz.prog 14 #[.pointer (some ⟨rb,0,none⟩)] w (NodeP w rb tb cap t i False (fun n=>gProg t n)):=programP (fun N=>(allP N).T) (fun N=>(allP N).B) h
end Go.Proofs.YtdplogkmkgekdaaGreatDoor.Pj
