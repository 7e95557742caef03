/- The project's parser: type parameters with bounds. -/
import Derived.Test.YtdplogkmkgekdaaGreatDoorPkzc
set_option linter.all false
set_option maxRecDepth 100000
set_option maxHeartbeats 4000000
namespace Go.Proofs.YtdplogkmkgekdaaGreatDoor.Pj
open Go.RowKit
theorem returnP {N:Nat} (hE:rdP 81 N (fun t n=>gG t n 1)) {w:World} {rb tb i:Nat} {cap:Cp} {t:Tk} (h:Rd w rb tb cap t i 0 0) (hN:t.len - i≤N+1) (hb:isB t i 0 0 ⟨#[114,101,116,117,114,110]⟩=true):
 Calls Tryz.prog 76 #[.pointer (some ⟨rb,0,none⟩)] w (NodeP w rb tb cap t i True (fun n=>seq (gAdd 1) (bnd (gIs t 0 ⟨#[59]⟩) (fun b48=>bnd (gIs t 0 ⟨#[125]⟩) (fun b49=>bnd (gIs t 0 ⟨#[41]⟩) (fun b50=>bnd (gIs t 0 ⟨#[44]⟩) (fun b51=>bnd (gIs t 0 ⟨#[93]⟩) (fun b52=>cond (b48||(b49||(b50||(b51||(b52))))) (ret (nd 40 (t.pos i) 0 0 E0 [])) (bnd (gG t n 1) (fun y=>ret (nd 40 (t.pos i) 0 0 E0 [y]))))))))))):=by
 have hl:=h.l
 have hposI:(0:Int)≤(t.pos i:Int)∧(t.pos i:Int)≤7000:=by have:=h.good.posb i;omega
 have HB:=Hid_nx hb
 clear hb
 have hfd:=fld103_2
 go_enter Tryz.func76,Tryz.ntmps76
 have q:=Mf.start h
 go_wp2_with fail
 refine(q.ne' (sz w) (zeroC)).lf (nodeP · 40) ?_
 clear q
 intro w1 q
 have F:=q.f1
 go_wp2_with fail
 refine(q.ne' (sz w1) (nk 40 (t.pos i) nl)).wy (mustP · _ (ask)) HB.out ?_
 clear q F
 intro w2 q
 have F:=q.f2
 go_wp2_with fail
 refine q.lf (tokP ·) ?_
 clear q F
 intro w3 q
 have F:=q.f2
 have E59:Hid (isB t (i+1) 0 0 ⟨#[59]⟩=((t.text (i+1)).toList==[59])):=by show _=_;rw[isB_text q.st.rd.cl q.st.rd.lt (ask),Lib.toList_data,Lib.toList_data];first|done|rfl
 have E125:Hid (isB t (i+1) 0 0 ⟨#[125]⟩=((t.text (i+1)).toList==[125])):=by show _=_;rw[isB_text q.st.rd.cl q.st.rd.lt (ask),Lib.toList_data,Lib.toList_data];first|done|rfl
 have E41:Hid (isB t (i+1) 0 0 ⟨#[41]⟩=((t.text (i+1)).toList==[41])):=by show _=_;rw[isB_text q.st.rd.cl q.st.rd.lt (ask),Lib.toList_data,Lib.toList_data];first|done|rfl
 have E44:Hid (isB t (i+1) 0 0 ⟨#[44]⟩=((t.text (i+1)).toList==[44])):=by show _=_;rw[isB_text q.st.rd.cl q.st.rd.lt (ask),Lib.toList_data,Lib.toList_data];first|done|rfl
 have E93:Hid (isB t (i+1) 0 0 ⟨#[93]⟩=((t.text (i+1)).toList==[93])):=by show _=_;rw[isB_text q.st.rd.cl q.st.rd.lt (ask),Lib.toList_data,Lib.toList_data];first|done|rfl
 cases e59:((t.text (i+1)).toList==[59])
 rotate_left
 ·have f59:=E59.out.trans e59
  go_wp2_with fail
  go_light
  exact Mf.rt (q.lk 40 (t.pos i) 0 0 ⟨#[]⟩ hposI) Tryz.results76 1 (by exact evt)
 have f59:=E59.out.trans e59
 cases e125:((t.text (i+1)).toList==[125])
 rotate_left
 ·have f125:=E125.out.trans e125
  go_wp2_with fail
  go_light
  exact Mf.rt (q.lk 40 (t.pos i) 0 0 ⟨#[]⟩ hposI) Tryz.results76 1 (by exact evt)
 have f125:=E125.out.trans e125
 cases e41:((t.text (i+1)).toList==[41])
 rotate_left
 ·have f41:=E41.out.trans e41
  go_wp2_with fail
  go_light
  exact Mf.rt (q.lk 40 (t.pos i) 0 0 ⟨#[]⟩ hposI) Tryz.results76 1 (by exact evt)
 have f41:=E41.out.trans e41
 cases e44:((t.text (i+1)).toList==[44])
 rotate_left
 ·have f44:=E44.out.trans e44
  go_wp2_with fail
  go_light
  exact Mf.rt (q.lk 40 (t.pos i) 0 0 ⟨#[]⟩ hposI) Tryz.results76 1 (by exact evt)
 have f44:=E44.out.trans e44
 cases e93:((t.text (i+1)).toList==[93])
 rotate_left
 ·have f93:=E93.out.trans e93
  go_wp2_with fail
  go_light
  exact Mf.rt (q.lk 40 (t.pos i) 0 0 ⟨#[]⟩ hposI) Tryz.results76 1 (by exact evt)
 have f93:=E93.out.trans e93
 go_wp2_with fail
 refine q.nd (fun hr=>hE hr (by have:=hr.lt;have:=q.go trivial;omega)) (fun w' p hk hw=>⟨rfl,.inr (q.thr hk (by exact wrt))⟩) ?_
 clear q F
 intro w4 x5 i5 y5 hl5 m5 q
 have F:=q.f2
 go_wp2_with fail
 go_light
 refine Mf.rt ((q.p05 (sl (sz w4) 1)).l1 (sz w4) 40 (t.pos i) 0 0 ⟨#[]⟩ hposI) Tryz.results76 1 (by exact evt) ?_
 simp[set11,World.setCell_alloc_past,F,Nat.lt_succ_of_lt]
theorem isB1_text {t:Tk} {i:Nat} (hc:Clean t) (hi:i+1<t.len) {s:ByteArray} (hs:s∈askS):isB t i 0 1 s=((t.text (i+1)).toList==s.toList):=by
 unfold isB
 have h1:decide (i+1<t.len)=true:=by simpa using hi
 rw[h1]
 rcases hc (i+1) with h|h
 ·have h2:(t.kind (i+1)==5||t.kind (i+1)==3)=true:=by rcases h with⟨h,_⟩|h<;>simp[h]
  rw[h2]
  rfl
 ·have h2:((t.text (i+1)).toList==s.toList)=false:=by simpa using h s hs
  rw[h2]
  simp
theorem isB_shift {t:Tk} {i:Nat} {s:ByteArray}:isB t i 0 1 s=isB t (i+1) 0 0 s:=rfl
theorem typesP {N:Nat} (hT:rdP 70 N (fun t n=>gG t n 0)) {w:World} {rb tb i:Nat} {cap:Cp} {t:Tk} (h:Rd w rb tb cap t i 0 0) (hN:t.len - i≤N+1):
 Calls Tryz.prog 155 #[.pointer (some ⟨rb,0,none⟩)] w (ListP w rb tb cap t i False (fun n=>gWritten t (gG t n 0) n)):=by
 have hl:=h.l
 have hposI:(0:Int)≤(t.pos i:Int)∧(t.pos i:Int)≤7000:=by have:=h.good.posb i;omega
 have hfd:=fld103_2
 have hgo:=h.good
 cases hc:isB t i 0 0 ⟨#[58,58]⟩
 ·go_enter Tryz.func155,Tryz.ntmps155
  have q:=Mf.start h
  go_wp2_with fail
  refine q.lf (isP · _ (ask)) ?_
  clear q
  intro w1 q
  have hc2:isB t i 0 0 ⟨#[58,58]⟩=false:=hc
  go_wp2_with fail
  go_ret
  exact q.post (fun x=>x) (Nat.zero_le _) (by unfold gWritten;exact evt)
 ·have HC:=Hid_nx hc
  have hlt:=(isB_lt h.good h.lt hc).2
  have E60:isB t i 0 1 ⟨#[60]⟩=((t.text (i+1)).toList==[60]):=by rw[isB1_text h.cl hlt (ask),Lib.toList_data,Lib.toList_data];first|done|rfl
  cases hd:((t.text (i+1)).toList==[60])
  ·have HD:=Hid_nx (E60.trans hd)
   clear E60
   go_enter Tryz.func155,Tryz.ntmps155
   have q:=Mf.start h
   go_wp2_with fail
   refine q.lf (isP · _ (ask)) ?_
   clear q
   intro w2 q
   go_wp2_with fail
   refine q.lf (behindP · hlt) ?_
   clear q
   intro w3 q
   have hc2:=HC.out
   have hd2:=HD.out
   go_wp2_with fail
   go_ret
   exact q.post (fun x=>x) (Nat.zero_le _) (by unfold gWritten;exact evt)
  ·have HD:=Hid_nx (E60.trans hd)
   clear E60
   go_enter Tryz.func155,Tryz.ntmps155
   have q:=Mf.start h
   go_wp2_with fail
   refine q.lf (isP · _ (ask)) ?_
   clear q
   intro w4 q
   go_wp2_with fail
   refine q.lf (behindP · hlt) ?_
   clear q
   intro w5 q
   go_wp2_with fail
   refine q.wy (mustP · _ (ask)) HC.out ?_
   clear q
   intro w6 q
   go_wp2_with fail
   refine q.wy (mustP · _ (ask)) HD.out ?_
   clear q
   intro w7 q
   go_wp2_with fail
   refine q.lf (fun _=>someP _) ?_
   clear q
   intro w8 q
   go_wp2_with fail
   refine q.li (fun hr=>listP hr (mm:=fun n=>gRow t (gG t n 0) ⟨#[62]⟩ n []) (ask) (fun _=>ask) (fun _=>lit) ein70 (rowLike (t:=t) (en:=⟨#[62]⟩) (fun n=>gG_st _ _ _) |>.sm (lit) (lit)).1 (rowLike (t:=t) (en:=⟨#[62]⟩) (fun n=>gG_st _ _ _) |>.sm (lit) (lit)).2 (fun{w' j} hr' hj=>(by have h1:=hr'.lt;simpa using hT hr' (by omega)))) (fun w' p hk hw=>⟨rfl,.inr (q.thr hk (by have hc2:=HC.out;have hd2:=HD.out;unfold gWritten;exact Wr.snd ev_is (Wr.snd ev_is (Wr.yes (and_y hc2 hd2) (Wr.sqd ev_add hw)))))⟩) ?_
   clear q
   intro w9 ao5 cp5 vs5 i5 V5 hl5 m5 q
   have hc2:=HC.out
   have hd2:=HD.out
   go_wp2_with fail
   go_ret
   exact q.post (fun x=>x.elim) (by have:=hl5.out.2;have:=q.go trivial;omega) (by unfold gWritten;exact Ev.bnd' ev_is (Ev.bnd' ev_is (Ev.yes (and_y hc2 hd2) (Ev.seq ev_add m5))))
end Go.Proofs.YtdplogkmkgekdaaGreatDoor.Pj
namespace Go.Proofs.YtdplogkmkgekdaaGreatDoor.Pj
open Go.RowKit
theorem boundsP {lives:Bool} {w:World} {rb tb i:Nat} {cap:Cp} {t:Tk} (h:Rd w rb tb cap t i 0 0) {k:Nat} {fi ca:Array Value} (hin:Ein k) (HX:∀{w' j},Rd w' rb tb cap t j 0 0→Calls Tryz.prog k (fi++ca) w' (NodeP w' rb tb cap t j True (fun n=>gBoundX t lives n))):
 Calls Tryz.prog 219 #[.pointer (some ⟨rb,0,none⟩),.func (.func k) fi ca] w (ListP w rb tb cap t i False (fun n=>gBounds t lives n)):=by
 have hl:=h.l
 have hposI:(0:Int)≤(t.pos i:Int)∧(t.pos i:Int)≤7000:=by have:=h.good.posb i;omega
 have HX:Hid (∀{w' j},Rd w' rb tb cap t j 0 0→Calls Tryz.prog k (fi++ca) w' (NodeP w' rb tb cap t j True (fun n=>gBoundX t lives n))):=HX
 have HI:=Hid_nx hin
 clear hin
 go_enter Tryz.func219,Tryz.ntmps219
 have q:=Mf.start h
 go_wp2_with fail
 refine q.et (skipP · _ (ask)) ?_
 clear q
 intro w1 b1 i1 hE1 m1 q
 go_wp2_with fail
 ·have e2:b1=false:=by simpa using ‹(!b1)=true›
  rw[e2] at m1
  go_wp2_with fail
  go_ret
  exact q.post (fun x=>x.elim) (by simp) (by unfold gBounds;exact Ev.bnd' m1 (Ev.no rfl Ev.ret'))
 ·have e2:b1=true:=by simpa using ‹(!b1)=false›
  have hgt:=(hE1.yes e2).1
  rw[e2] at m1
  go_wp2_with fail
  refine q.li (fun hr=>listP hr (mm:=fun n=>loop (gBoundsB t lives n) n []) (ask) (fun e=>absurd e (lit)) (fun e=>by rcases e with e|e<;>exact absurd e (by decide)) HI.out (fun F j h=>((bounds_run (lit) h).1 F j rfl).ev) (fun p h=>((bounds_run (lit) h).2 p rfl).wr) (fun{w' j} hr' hj=>HX.out hr')) (fun w' p hk hw=>⟨rfl,.inr (q.thr hk (by unfold gBounds;exact Wr.snd m1 (Wr.yes rfl hw)))⟩) ?_
  clear q
  intro w2 ao2 cp2 vs2 i2 V2 hl2 m2 q
  go_wp2_with fail
  go_ret
  exact q.post (fun x=>x.elim) (by have:=hl2.out.2;omega) (by unfold gBounds;exact Ev.bnd' m1 (Ev.yes rfl m2))
end Go.Proofs.YtdplogkmkgekdaaGreatDoor.Pj
namespace Go.Proofs.YtdplogkmkgekdaaGreatDoor.Pj
open Go.RowKit
def gLetS (t:Tk) (T E:GP (List Nr)):GP (List Nr):=bnd (gAt t) (fun p=>seq (gWant t ⟨#[108,101,116]⟩) (bnd (gMut t) (fun m=>bnd (gName t) (fun s=>bnd (gEat t ⟨#[58]⟩) (fun b19=>cond (b19) (bnd (T) (fun y=>bnd (gEat t ⟨#[61]⟩) (fun b17=>cond (b17) (bnd (E) (fun z=>seq (gWant t ⟨#[59]⟩) (ret (nd 43 p 3 m s [y,z])))) (seq (gWant t ⟨#[59]⟩) (ret (nd 43 p 1 m s [y])))))) (bnd (gEat t ⟨#[61]⟩) (fun b18=>cond (b18) (bnd (E) (fun z=>seq (gWant t ⟨#[59]⟩) (ret (nd 43 p 2 m s [z])))) (seq (gWant t ⟨#[59]⟩) (ret (nd 43 p 0 m s []))))))))))
theorem letS {t:Tk} {T E:GP (List Nr)}:bnd (gLet t T E) (fun y=>seq (gWant t ⟨#[59]⟩) (ret y))=gLetS t T E:=by
 unfold gLet gLetS seq
 simp only[bnd_assoc,ret_bnd,cond_bnd]
end Go.Proofs.YtdplogkmkgekdaaGreatDoor.Pj
namespace Go.Proofs.YtdplogkmkgekdaaGreatDoor.Pj
open Go.RowKit
section
variable {w W w':World} {rb tb i j:Nat} {cap:Cp} {t:Tk} {g:Prop} {L:List (Nat × Array Value)} {T:List (List Value)} {kv:Value} {vs:List (List Value)} {Ft Fv X V:List (List Nr)}
theorem Mf.lh {f:Nat} {args:Array Value} {Q:Ending→World→Prop} {must:Prop} {ml:Nat→GP (List (List Nr))} (q:Mf w rb tb cap t i g W j L T kv vs X V) (h:Rd W rb tb cap t j 0 0→Calls Tryz.prog f args W (ListP W rb tb cap t j must ml)) (KB:∀w' p,Kp W.heap.size rb W w'→Wr ml ⟨j,0,0⟩ (p:Nat)→Q (throwE p) w') (K:∀w' ao cp us i' F,Hid (j≤i'∧us.length≤i' - j∧(must→j<i'))→Hid (F.length=us.length)→Hid (Kids W.heap.size False w' (.slice ao us.length cp) us)→Ev ml ⟨j,0,0⟩ (F,⟨i',0,0⟩)→Mf w rb tb cap t i g w' i' L (us++T) kv vs (F++X) V→Q (.returned (.slice ao us.length cp)) w'):Calls Tryz.prog f args W Q:=(h q.st.rd).mono fun e w' p=>by
 rcases p with⟨ao,cp,vs',i',rfl,hx,hK,hl,F,hF,hm⟩|⟨p,rfl,hk,hw⟩
 ·exact K w' ao cp vs' i' F ⟨hx.le,hl,fun m=>hx.go m rfl⟩ hF.len hK hm (q.holds hx hK hF)
 ·exact KB w' p hk hw
variable {ops:Array Oper} {rest:List Oper} {p:Oper} {act:Act} {S:Exit→Act→World→Prop} {sv xo:Operand} {ko ro:Option Addr} {kc rl rc:Nat} {Kk:Act→World→Prop} {Ee:Prop} {us:List (List Value)} {U:List (List Nr)} {B:Nat} {G:Prop}
theorem Mf.aps (q:Mf w rb tb cap t i g W j L (us++T) (.slice ro rl rc) vs (U++Ft) Fv) (hU:Hid (U.length=us.length)) (hK:Hid (Kids B G W (.slice ko us.length kc) us)) (hv:vs.length≤19000) (hu:us.length≤6010) (K:∀w' ao cp,Mf w rb tb cap t i g w' j L T (.slice ao (rl+us.length) cp) (vs++us) Ft (Fv++U)→Kk (act.put p.dst (.slice ao (rl+us.length) cp)) w') (hgd:p.guard=none:=by rfl) (ho:p.op=.call {callee:=.builtin .append,args:=#[sv,xo],argTypes:=#[22,22]}:=by rfl) (hs:act.eval sv=.slice ro rl rc:=by rfl) (hx:act.eval xo=.slice ko us.length kc:=by rfl):if Region.wanted p (yielded ops act.tmps)=true then Oper.wp Tryz.prog p act W Kk S else Ee:=by
 obtain⟨ro',rc',e⟩:=q.shape
 obtain⟨rfl,rfl,rfl⟩:ro=ro'∧rl=vs.length∧rc=rc':=by simpa using e
 refine step_run hgd ho hs hx (Mf.run_apps q hU.out hK.out hv hu _) fun v' w' h=>?_
 obtain⟨ao,cp,rfl,q'⟩:=h
 exact K w' ao cp q'
theorem Mf.apl (q:Mf w rb tb cap t i g W j L (us++T) (.slice ro rl rc) vs (U++Ft) Fv) (hU:Hid (U.length=us.length)) (hK:Hid (Kids B G W (.slice ko us.length kc) us)) (hv:vs.length≤19000) (hu:us.length≤6010) (K:∀w' ao cp,Mf w rb tb cap t i g w' j L T (.slice ao (rl+us.length) cp) (vs++us) Ft (Fv++U)→wpList Tryz.prog ops S rest (act.put p.dst (.slice ao (rl+us.length) cp)) w') (hgd:p.guard=none:=by rfl) (ho:p.op=.call {callee:=.builtin .append,args:=#[sv,xo],argTypes:=#[22,22]}:=by rfl) (hs:act.eval sv=.slice ro rl rc:=by rfl) (hx:act.eval xo=.slice ko us.length kc:=by rfl):wpList Tryz.prog ops S (p::rest) act W:=by
 obtain⟨ro',rc',e⟩:=q.shape
 obtain⟨rfl,rfl,rfl⟩:ro=ro'∧rl=vs.length∧rc=rc':=by simpa using e
 refine wp_run hgd ho hs hx (Mf.run_apps q hU.out hK.out hv hu _) fun v' w' h=>?_
 obtain⟨ao,cp,rfl,q'⟩:=h
 exact K w' ao cp q'
end
section
variable {t:Tk}
theorem loose_step {X:GP (List Nr)} {en:ByteArray} {o0 o:List (List Nr)}:gLooseB t X en (o0++o)=bnd (gLooseB t X en o) (fun r=>ret (r.1,o0++r.2)):=by
 unfold gLooseB seq
 simp only[bnd_assoc,ret_bnd,cond_bnd,List.append_assoc]
theorem loose_pre {X:GP (List Nr)} {en:ByteArray} {o0:List (List Nr)}:∀(n:Nat) (o:List (List Nr)),loop (gLooseB t X en) n (o0++o)=bnd (loop (gLooseB t X en) n o) (fun r=>ret (o0++r))
 |0,o=>by funext s;rfl
 |n+1,o=>by
  show bnd (gLooseB t X en (o0++o)) (fun r=>cond r.1 (loop (gLooseB t X en) n r.2) (ret r.2))=bnd (bnd (gLooseB t X en o) (fun r=>cond r.1 (loop (gLooseB t X en) n r.2) (ret r.2))) (fun r=>ret (o0++r))
  rw[loose_step,bnd_assoc,bnd_assoc]
  congr 1
  funext r
  rw[ret_bnd]
  cases r.1
  ·rfl
  ·exact loose_pre n r.2
theorem loose_one {X:GP (List Nr)} {en:ByteArray} {o0:List (List Nr)} {n:Nat}:loop (gLooseB t X en) n o0=bnd (loop (gLooseB t X en) n []) (fun r=>ret (o0++r)):=by
 have:=loose_pre (t:=t) (X:=X) (en:=en) (o0:=o0) n []
 rwa [List.append_nil] at this
theorem loose_run {X:Nat→GP (List Nr)} (hX:∀n,Sy (X n)) {i:Nat}:(∀F j,PRun t X ⟨#[44]⟩ ⟨#[125]⟩ true true i (.inl (F,j))→Ev (fun n=>loop (gLooseB t (X n) ⟨#[125]⟩) n []) ⟨i,0,0⟩ (F,⟨j,0,0⟩))∧∀p,PRun t X ⟨#[44]⟩ ⟨#[125]⟩ true true i (.inr p)→Wr (fun n=>loop (gLooseB t (X n) ⟨#[125]⟩) n []) ⟨i,0,0⟩ p:=
 ⟨fun F j h=>(((looseLike hX).run (lit) (lit) [] h).1 F j rfl).ev,fun p h=>(((looseLike hX).run (lit) (lit) [] h).2 p rfl).wr⟩
def gMatch2 (t:Tk) (E Q:GP (List Nr)) (fu:Nat):GP (List Nr):=bnd (gAt t) (fun p=>seq (gWant t ⟨#[109,97,116,99,104]⟩) (bnd E (fun c=>seq (gWant t ⟨#[123]⟩) (bnd (loop (gLooseB t (gArm t E Q) ⟨#[125]⟩) fu []) (fun r=>ret (nd 34 p 0 0 E0 ([c]++r)))))))
theorem gMatch_is {E Q:GP (List Nr)} {fu:Nat}:gMatch t E Q fu=gMatch2 t E Q fu:=by
 have e:∀(c:List Nr) (k:List (List Nr)→GP (List Nr)),bnd (loop (gLooseB t (gArm t E Q) ⟨#[125]⟩) fu []) (fun r=>k ([c]++r))=bnd (loop (gMatchB t E Q) fu [c]) k:=by
  intro c k
  rw[show gMatchB t E Q=gLooseB t (gArm t E Q) ⟨#[125]⟩ from funext fun o=>match_loose,loose_one (o0:=[c]),bnd_assoc]
  rfl
 have e2:∀(p:Int) (c:List Nr),bnd (loop (gLooseB t (gArm t E Q) ⟨#[125]⟩) fu []) (fun r=>ret (nd 34 p 0 0 E0 ([c]++r)))=bnd (loop (gMatchB t E Q) fu [c]) (fun r=>ret (nd 34 p 0 0 E0 r)):=fun p c=>e c (fun r=>ret (nd 34 p 0 0 E0 r))
 unfold gMatch2
 simp only[e2]
 rfl
def gMake2 (t:Tk) (T E:GP (List Nr)) (fu:Nat):GP (List Nr):=bnd (gAt t) (fun p=>seq (gWant t ⟨#[109,97,107,101]⟩) (bnd (gPath t fu 2) (fun s=>bnd (gWritten t T fu) (fun w=>seq (gWant t ⟨#[123]⟩) (bnd (loop (gLooseB t (gInit t E) ⟨#[125]⟩) fu []) (fun r=>ret (nd 44 p 0 (w.length:Int) s (w++r))))))))
theorem gMake_is {T E:GP (List Nr)} {fu:Nat}:gMake t T E fu=gMake2 t T E fu:=by
 have e:∀(c:List (List Nr)) (k:List (List Nr)→GP (List Nr)),bnd (loop (gLooseB t (gInit t E) ⟨#[125]⟩) fu []) (fun r=>k (c++r))=bnd (loop (gMakeB t E) fu c) k:=by
  intro c k
  rw[show gMakeB t E=gLooseB t (gInit t E) ⟨#[125]⟩ from funext fun o=>make_loose,loose_one (o0:=c),bnd_assoc]
  rfl
 have e2:∀(p:Int) (s:ByteArray) (w:List (List Nr)),bnd (loop (gLooseB t (gInit t E) ⟨#[125]⟩) fu []) (fun r=>ret (nd 44 p 0 (w.length:Int) s (w++r)))=bnd (loop (gMakeB t E) fu w) (fun r=>ret (nd 44 p 0 (w.length:Int) s r)):=fun p s w=>e w (fun r=>ret (nd 44 p 0 (w.length:Int) s r))
 unfold gMake2
 simp only[e2]
 rfl
def gStruct2 (t:Tk) (T:GP (List Nr)) (p m:Int) (fu:Nat):GP (List Nr):=bnd (gName t) (fun s=>bnd (gGens t false fu) (fun g=>bnd (gAt t) (fun q=>seq (gWant t ⟨#[123]⟩) (bnd (loop (gLooseB t (gTyped t T 5 ⟨#[112,117,98]⟩) ⟨#[125]⟩) fu []) (fun r=>ret (nd 3 p 0 m s [g,nd 4 q 0 0 E0 r]))))))
theorem gStruct_is {T:GP (List Nr)} {p m:Int} {fu:Nat}:gStruct t T p m fu=gStruct2 t T p m fu:=by
 unfold gStruct2
 rw[show gLooseB t (gTyped t T 5 ⟨#[112,117,98]⟩) ⟨#[125]⟩=gStructB t T from funext fun o=>struct_loose.symm]
 rfl
def hp (y:List Nr):Int:=match y with
 |[]=>0
 |z::_=>z.p
def pf (y:List Nr):List Nr:=nd 5 (hp y) 0 0 E0 [y]
def gPart (T:GP (List Nr)):GP (List Nr):=bnd T (fun y=>ret (pf y))
def gVar (t:Tk) (T:GP (List Nr)) (fu:Nat):GP (List Nr):=bnd (gAt t) (fun q=>bnd (gName t) (fun vs=>bnd (bnd (gIs t 0 ⟨#[40]⟩) (fun b59=>cond b59 (seq (gWant t ⟨#[40]⟩) (bnd (gIs t 0 ⟨#[41]⟩) (fun c=>seq (cond c (gBad t) (ret ())) (gList t T ⟨#[41]⟩ fu)))) (ret []))) (fun ks=>ret (nd 4 q 0 0 vs (ks.map pf)))))
theorem st_gVar {T:GP (List Nr)} {fu:Nat} (h:Sy T):Sy (gVar t T fu):=by
 unfold gVar
 exact syt
theorem enum_loose {T:GP (List Nr)} {fu:Nat} {o:List (List Nr)}:gEnumB t T fu o=gLooseB t (gVar t T fu) ⟨#[125]⟩ o:=by
 unfold gEnumB gLooseB gVar seq
 simp only[bnd_assoc,ret_bnd,cond_bnd]
 rfl
def gEnum2 (t:Tk) (T:GP (List Nr)) (p m:Int) (fu:Nat):GP (List Nr):=bnd (gName t) (fun s=>bnd (gGens t false fu) (fun g=>seq (gWant t ⟨#[123]⟩) (bnd (loop (gLooseB t (gVar t T fu) ⟨#[125]⟩) fu []) (fun r=>ret (nd 3 p 1 m s ([g]++r))))))
theorem gEnum_is {T:GP (List Nr)} {p m:Int} {fu:Nat}:gEnum t T p m fu=gEnum2 t T p m fu:=by
 have e:∀(c:List Nr) (k:List (List Nr)→GP (List Nr)),bnd (loop (gLooseB t (gVar t T fu) ⟨#[125]⟩) fu []) (fun r=>k ([c]++r))=bnd (loop (gEnumB t T fu) fu [c]) k:=by
  intro c k
  rw[show gEnumB t T fu=gLooseB t (gVar t T fu) ⟨#[125]⟩ from funext fun o=>enum_loose,loose_one (o0:=[c]),bnd_assoc]
  rfl
 have e2:∀(s:ByteArray) (c:List Nr),bnd (loop (gLooseB t (gVar t T fu) ⟨#[125]⟩) fu []) (fun r=>ret (nd 3 p 1 m s ([c]++r)))=bnd (loop (gEnumB t T fu) fu [c]) (fun r=>ret (nd 3 p 1 m s r)):=fun s c=>e c (fun r=>ret (nd 3 p 1 m s r))
 unfold gEnum2
 simp only[e2]
 rfl
end
end Go.Proofs.YtdplogkmkgekdaaGreatDoor.Pj
namespace Go.Proofs.YtdplogkmkgekdaaGreatDoor.Pj
open Go.RowKit
theorem nameP6 {w:World} {rb tb i:Nat} {cap:Cp} {t:Tk} (h:Rd w rb tb cap t i 0 0):Calls Tryz.prog 88 #[.pointer (some ⟨rb,0,none⟩)] w fun e w'=>(∃x i',e=.returned (.string x)∧x.size≤6000∧Nx w rb tb cap t i 0 True w' i' 0 0∧Ev (fun _=>gName t) ⟨i,0,0⟩ (x,⟨i',0,0⟩))∨ThrP w rb ⟨i,0,0⟩ (fun _=>gName t) e w':=(nameP h).mono fun e w' p=>by
 rcases p with⟨x,i',h1,h2,h3,_,h4⟩|p
 ·exact .inl ⟨x,i',h1,h2,h3,h4⟩
 ·exact .inr p
def gUse (t:Tk):GP (List Nr):=bnd (gAt t) (fun q=>seq (gWant t ⟨#[117,115,101]⟩) (bnd (gName t) (fun s1=>seq (gWant t ⟨#[58,58]⟩) (bnd (gName t) (fun s2=>seq (gWant t ⟨#[59]⟩) (ret (nd 2 q 0 0 (s1++⟨#[58,58]⟩++s2) [])))))))
theorem useP {w:World} {rb tb i:Nat} {cap:Cp} {t:Tk} (h:Rd w rb tb cap t i 0 0) (hb:isB t i 0 0 ⟨#[117,115,101]⟩=true):
 Calls Tryz.prog 90 #[.pointer (some ⟨rb,0,none⟩)] w (NodeP w rb tb cap t i True (fun _=>gUse t)):=by
 have hl:=h.l
 have hposI:(0:Int)≤(t.pos i:Int)∧(t.pos i:Int)≤7000:=by have:=h.good.posb i;omega
 have HB:=Hid_nx hb
 clear hb
 have hb:=HB.out
 go_enter Tryz.func90,Tryz.ntmps90
 have q:=Mf.start h
 go_wp2_with fail
 refine(q.ne' (sz w) (zeroC)).lf (nodeP · 2) ?_
 clear q
 intro w1 q
 have F:=q.f1
 go_wp2_with fail
 refine(q.ne' (sz w1) (nk 2 (t.pos i) nl)).wy (mustP · _ (ask)) HB.out ?_
 clear q F
 intro w2 q
 have F:=q.f2
 go_wp2_with fail
 refine q.nm (nameP6 ·) (fun w' p hk hw=>⟨rfl,.inr (q.thr hk (by unfold gUse;exact wrt))⟩) ?_
 clear q F
 intro w3 s3 i3 hs3 hl3 m3 q
 have F:=q.f2
 go_wp2_with fail
 refine(q.p04 s3).wn (mustP · _ (ask)) (fun w' hk hw=>⟨rfl,.inr ((q.p04 s3).thr hk (by unfold gUse;exact wrt))⟩) ?_
 clear q F
 intro w4 m4 q
 have F:=q.f2
 go_wp2_with fail
 go_region_law (replace q:=q.drew;go_simp;refine q.nm (nameP6 ·) (fun w' p hk hw=>⟨rfl,.inr (q.thr hk (by unfold gUse;exact wrt))⟩) ?_;clear q F;intro w5 s5 i5 hs5 hl5 m5 q;have F:=q.f2;have c5:¬9223372036854775807<2+s5.size:=(by omega);have c6:¬9223372036854775807<s3.size+(2+s5.size):=(by omega))
 all_goals
  have hsz:(s3++(⟨#[58,58]⟩++s5):ByteArray).size≤20000:=by rw[append_size,append_size];show s3.size+(2+s5.size)≤_;omega
  have hap:s3++⟨#[58,58]⟩++s5=s3++(⟨#[58,58]⟩++s5):=ByteArray.append_assoc
  clear c5 c6
  generalize hSS:s3++(⟨#[58,58]⟩++s5)=SS at hsz hap⊢
  have HAP:=Hid_nx hap
  clear hap hSS
  go_wp2_with fail
  refine(q.p04 SS).wn (mustP · _ (ask)) (fun w' hk hw=>⟨rfl,.inr ((q.p04 SS).thr hk (by unfold gUse;exact wrt))⟩) ?_
  clear q F
  intro w6 m6 q
  have F:=q.f2
  go_wp2_with fail
  go_light
  exact Mf.rt (q.lk 2 (t.pos i) 0 0 SS hposI hsz) Tryz.results90 1 (by rw[←HAP.out];unfold gUse;exact evt)
end Go.Proofs.YtdplogkmkgekdaaGreatDoor.Pj
namespace Go.Proofs.YtdplogkmkgekdaaGreatDoor.Pj
open Go.RowKit
theorem Mf.rte {w W:World} {rb tb i j:Nat} {cap:Cp} {t:Tk} {g:Prop} {L:List (Nat × Array Value)} {T:List (List Value)} {kv:Value} {vs:List (List Value)} {X V:List (List Nr)} {fn:Func} {r:Nat} {act:Act} {ki po n m:Int} {na:ByteArray} {Q:Ending→World→Prop} (q:Mf w rb tb cap t i g W j L T kv vs X V) (hf:fn.results=#[.cell r 28]) (N:Nat) (hQ:∀w',Nx w rb tb cap t i 0 g w' j 0 0→Q (.returned (.agg (nodeC ki po n m na nl))) w') {wf:World} {b:Nat} (he:wf=Go.Proofs.YtdplogkmkgekdaaGreatDoor.set11 W b (.int .i64 ki) (.int .i64 po) (.int .i64 n) (.int .i64 m) (.string na) nl (.int .i64 0) (.int .i64 0) nl nl nl:=by rfl) (hd:act.defers=[]:=by rfl) (ht:act.tmps.getD r undef=.pointer (some ⟨b,0,none⟩):=by rfl) (hz:L[N]? =some (b,zeroC):=by rfl):bodyPost Tryz.prog fn Q .ret act wf:=by
 subst he
 have q1:=q.put11 N hz (.int .i64 ki) (.int .i64 po) (.int .i64 n) (.int .i64 m) (.string na) nl (.int .i64 0) (.int .i64 0) nl nl nl
 have hB:Blk _ b _:=(q1.z.blk N (b,_) (by rw[List.getElem?_set,if_pos rfl,if_pos (List.getElem?_eq_some_iff.1 hz).1])).2
 exact bodyPost_ret (results_node hf ht hB) hd (hQ _ ⟨q1.st.rd,q1.st.kp,q1.le,fun e=>e,fun mu _=>q1.go mu⟩)
theorem typeGenP {w:World} {rb tb i:Nat} {cap:Cp} {t:Tk} (h:Rd w rb tb cap t i 0 0):
 Calls Tryz.prog 189 #[.pointer (some ⟨rb,0,none⟩)] w fun e w'=>(∃s i',e=.returned (.agg (nodeC 11 (t.pos i) 0 0 s nl))∧s.size≤20000∧Nx w rb tb cap t i 0 True w' i' 0 0∧Ev (fun _=>gName t) ⟨i,0,0⟩ (s,⟨i',0,0⟩))∨ThrP w rb ⟨i,0,0⟩ (fun _=>gName t) e w':=by
 have hl:=h.l
 go_enter Tryz.func189,Tryz.ntmps189
 have q:=Mf.start h
 go_wp2_with fail
 refine(q.ne' (sz w) (zeroC)).lf (nodeP · 11) ?_
 clear q
 intro w1 q
 have F:=q.f1
 go_wp2_with fail
 refine(q.ne' (sz w1) (nk 11 (t.pos i) nl)).nm (nameP2 ·) (fun w' p hk hw=>⟨rfl,.inr ((q.ne' (sz w1) (nk 11 (t.pos i) nl)).thr hk hw)⟩) ?_
 clear q F
 intro w2 s2 i2 hs2 hl2 m2 q
 have F:=q.f2
 go_wp2_with fail
 go_light
 exact(q.p04 s2).rte Tryz.results189 1 (fun w' hx=>.inl ⟨s2,i2,rfl,hs2,hx,m2⟩)
theorem lifeGenP {w:World} {rb tb i:Nat} {cap:Cp} {t:Tk} (h:Rd w rb tb cap t i 0 0):
 Calls Tryz.prog 188 #[.pointer (some ⟨rb,0,none⟩)] w fun e w'=>(e=.returned (.agg (nodeC 10 (t.pos i) 0 0 (t.text i) nl))∧Nx w rb tb cap t i 0 True w' (i+1) 0 0∧kindB t i 0 0 4=true)∨(e=throwE (t.pos i)∧Kp w.heap.size rb w w'∧kindB t i 0 0 4=false):=by
 have hl:=h.l
 have hfd:=fld103_2
 go_enter Tryz.func188,Tryz.ntmps188
 have q:=Mf.start h
 go_wp2_with fail
 refine(q.ne' (sz w) (zeroC)).lf (nodeP · 10) ?_
 clear q
 intro w1 q
 have F:=q.f1
 go_wp2_with fail
 refine(q.ne' (sz w1) (nk 10 (t.pos i) nl)).tk 4 (by decide) (fun w' hk hb=>⟨rfl,.inr ⟨rfl,(q.ne' (sz w1) (nk 10 (t.pos i) nl)).st.kp.trans (hk.mono (q.ne' (sz w1) (nk 10 (t.pos i) nl)).st.size),hb.out⟩⟩) ?_
 clear q F
 intro w2 hb2 q
 have F:=q.f2
 go_wp2_with fail
 go_light
 exact(q.p04 (t.text i)).rte Tryz.results188 1 (fun w' hx=>.inl ⟨rfl,hx,hb2.out⟩)
end Go.Proofs.YtdplogkmkgekdaaGreatDoor.Pj
namespace Go.Proofs.YtdplogkmkgekdaaGreatDoor.Pj
open Go.RowKit
def gLentE (t:Tk) (U:GP (List Nr)) (at_:Int):GP (List Nr):=bnd (gMut t) (fun n=>bnd U (fun y=>ret (nd 27 at_ n 0 E0 [y])))
theorem Mf.tak {w W:World} {rb tb i j:Nat} {cap:Cp} {t:Tk} {g:Prop} {L:List (Nat × Array Value)} {T:List (List Value)} {kv:Value} {vs:List (List Value)} {X V:List (List Nr)} {Q:Ending→World→Prop} (q:Mf w rb tb cap t i g W j L T kv vs X V) (hj:j+1<t.len) (K:∀w',Mf w rb tb cap t i True w' (j+1) L T kv vs X V→Q (.returned (.agg #[.int .i64 (t.kind j),.int .i64 (t.pos j),.string (t.text j),.int .i64 (t.num j)])) w'):Calls Tryz.prog 145 #[.pointer (some ⟨rb,0,none⟩)] W Q:=(takeP q.st.rd hj).mono fun e w' p=>by
 obtain⟨rfl,hx⟩:=p
 exact K w' (q.nxm hx)
theorem lentE {N:Nat} (hU:rdP 201 N (fun t n=>gG t n 2)) {w:World} {rb tb i:Nat} {cap:Cp} {t:Tk} (h:Rd w rb tb cap t i 0 0) (hN:t.len - i≤N) {at_:Int} (hat:0≤at_∧at_≤7000):
 Calls Tryz.prog 221 #[.pointer (some ⟨rb,0,none⟩),.int .i64 at_] w (NodeP w rb tb cap t i True (fun n=>gLentE t (gG t n 2) at_)):=by
 have hl:=h.l
 have hposI:(0:Int)≤(t.pos i:Int)∧(t.pos i:Int)≤7000:=by have:=h.good.posb i;omega
 go_enter Tryz.func221,Tryz.ntmps221
 have q:=Mf.start h
 go_wp2_with fail
 refine((q.ne' (sz w) (zeroC)).ne' (sz w+1) (nodeC 27 at_ 0 0 ⟨#[]⟩ nl)).et (skipP · _ (ask)) ?_
 clear q
 intro w1 b1 i1 hE1 m1 q
 have F:=q.f2
 go_wp2_with fail
 ·go_wp2_with fail
  refine(q.p02 1).nd (fun hr=>hU hr (by have:=hr.lt;have:=q.le;omega)) (fun w' p hk hw=>⟨rfl,.inr ((q.p02 1).thr hk (by unfold gLentE;unfold gMut;exact wrt))⟩) ?_
  clear q F
  intro w2 x3 i3 y3 hl3 m3 q
  have F:=q.f2
  go_wp2_with fail
  go_light
  refine Mf.rt ((q.p05 (sl (sz w2) 1)).l1 (sz w2) 27 at_ 1 0 ⟨#[]⟩ hat) Tryz.results221 1 (by unfold gLentE;unfold gMut;exact evt) ?_
  simp[set11,World.setCell_alloc_past,F,Nat.lt_succ_of_lt]
 ·go_wp2_with fail
  refine q.nd (fun hr=>hU hr (by have:=hr.lt;have:=q.le;omega)) (fun w' p hk hw=>⟨rfl,.inr (q.thr hk (by unfold gLentE;unfold gMut;exact wrt))⟩) ?_
  clear q F
  intro w3 x3 i3 y3 hl3 m3 q
  have F:=q.f2
  go_wp2_with fail
  go_light
  refine Mf.rt ((q.p05 (sl (sz w3) 1)).l1 (sz w3) 27 at_ 0 0 ⟨#[]⟩ hat) Tryz.results221 1 (by unfold gLentE;unfold gMut;exact evt) ?_
  simp[set11,World.setCell_alloc_past,F,Nat.lt_succ_of_lt]
theorem expressionP {N:Nat} (hE:rdP 81 N (fun t n=>gG t n 1)) (hO:∀{w:World} {rb tb i:Nat} {cap:Cp} {t:Tk},Rd w rb tb cap t i 0 0→t.len - i≤N+1→Calls Tryz.prog 160 #[.pointer (some ⟨rb,0,none⟩),.int .i64 2] w (NodeP w rb tb cap t i True (fun n=>gOrE t (gG t n 2) n))) {w:World} {rb tb i:Nat} {cap:Cp} {t:Tk} (h:Rd w rb tb cap t i 0 0) (hN:t.len - i≤N+1):
 Calls Tryz.prog 81 #[.pointer (some ⟨rb,0,none⟩)] w (NodeP w rb tb cap t i True (fun n=>gExpr t (gG t n 1) (gG t n 2) n)):=by
 have hl:=h.l
 have hposI:(0:Int)≤(t.pos i:Int)∧(t.pos i:Int)≤7000:=by have:=h.good.posb i;omega
 go_enter Tryz.func81,Tryz.ntmps81
 have q:=Mf.start h
 go_wp2_with fail
 refine(q.ne' (sz w) (zeroC)).nd (fun hr=>hO hr hN) (fun w' p hk hw=>⟨rfl,.inr ((q.ne' (sz w) (zeroC)).thr hk (by unfold gExpr;exact wrt))⟩) ?_
 clear q
 intro w1 x1 i1 y1 hl1 m1 q
 have F:=q.f1
 go_wp2_with fail
 refine(q.ne' (sz w1) (x1.a)).lf (isP · _ (ask)) ?_
 clear q F
 intro w2 q
 have F:=q.f2
 have hposJ:(0:Int)≤(t.pos i1:Int)∧(t.pos i1:Int)≤7000:=by have:=h.good.posb i1;omega
 go_wp2_with fail
 ·go_wp2_with fail
  go_light
  exact Mf.rt (q) Tryz.results81 1 (by unfold gExpr;exact evt)
 ·have hbe:isB t i1 0 0 ⟨#[61]⟩=true:=by simpa using ‹(!isB t i1 0 0 ⟨#[61]⟩)=false›
  go_wp2_with fail
  refine q.lf (nodeP · 32) ?_
  clear q F
  intro w3 q
  have F:=q.f2
  go_wp2_with fail
  refine(q.ne' (sz w3) (nk 32 (t.pos i1) nl)).tak (isB_lt h.good q.st.rd.lt hbe).2 ?_
  clear q F
  intro w4 q
  have F:=q.f3
  go_wp2_with fail
  go_region_law (replace q:=q.drew;go_simp;refine q.nd (fun hr=>hE hr (by have:=hr.lt;have:=q.go trivial;omega)) (fun w' p hk hw=>⟨rfl,.inr (q.thr hk (by unfold gExpr;exact wrt))⟩) ?_;clear q F;intro w5 x4 i4 y4 hl4 m4 q;have F:=q.f3)
  all_goals
   go_wp2_with fail
   go_light
   refine Mf.rt (((q.swap).p05 (sl (sz w5) 2)).l2 (sz w5) 32 (t.pos i1) 0 0 ⟨#[]⟩ hposJ) Tryz.results81 2 (by unfold gExpr;exact evt) ?_
   simp[set11,World.setCell_alloc_past,F,Nat.lt_succ_of_lt]
end Go.Proofs.YtdplogkmkgekdaaGreatDoor.Pj
namespace Go.Proofs.YtdplogkmkgekdaaGreatDoor.Pj
open Go.RowKit
def gBoundType (t:Tk) (fu:Nat):GP (List Nr):=bnd (gAt t) (fun q=>bnd (gName t) (fun s=>bnd (gBounds t false fu) (fun ks=>ret (nd 11 q 0 0 s ks))))
theorem boundTypeGenP {w:World} {rb tb i:Nat} {cap:Cp} {t:Tk} (h:Rd w rb tb cap t i 0 0):
 Calls Tryz.prog 194 #[.pointer (some ⟨rb,0,none⟩)] w (NodeP w rb tb cap t i True (fun n=>gBoundType t n)):=by
 have hl:=h.l
 have hposI:(0:Int)≤(t.pos i:Int)∧(t.pos i:Int)≤7000:=by have:=h.good.posb i;omega
 go_enter Tryz.func194,Tryz.ntmps194
 have q:=Mf.start h
 go_wp2_with fail
 refine(typeGenP (q.ne' (sz w) (zeroC)).st.rd).mono ?_
 rintro e w1 (⟨s1,i1,rfl,hs1,hx1,m1⟩|⟨p,rfl,hk,hw⟩)
 rotate_left
 ·exact⟨rfl,.inr ((q.ne' (sz w) (zeroC)).thr hk (by unfold gBoundType;exact wrt))⟩
 replace q:=(q.ne' (sz w) (zeroC)).nxm hx1
 clear hx1
 have F:=q.f1
 go_wp2_with fail
 refine(q.ne' (sz w1) (nodeC 11 (t.pos i) 0 0 s1 nl)).ln (fun hr=>boundsP (lives:=false) hr (k:=220) (fi:=#[.pointer (some ⟨rb,0,none⟩)]) (ca:=#[]) ein220 (fun{w' j} hr'=>by simpa using boundP hr')) (fun w' p hk hw=>⟨rfl,.inr ((q.ne' (sz w1) (nodeC 11 (t.pos i) 0 0 s1 nl)).thr hk (by unfold gBoundType;exact wrt))⟩) ?_
 clear q F
 intro w2 ao2 cp2 vs2 i2 V2 hl2 m2 q
 have F:=q.f2
 have hl3:vs2.length≤6001:=by have:=hl2.out.2;have:=q.st.rd.lt;have:=h.good.few;omega
 go_wp2_with fail
 go_light
 exact Mf.rt ((q.p05 (.slice ao2 vs2.length cp2)).fo 11 (t.pos i) 0 0 s1 (by omega) hposI hs1) Tryz.results194 1 (by unfold gBoundType;exact evt)
end Go.Proofs.YtdplogkmkgekdaaGreatDoor.Pj
