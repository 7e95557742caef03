/- The project's parser: what has signs ahead. -/
import Derived.Test.YtdplogkmkgekdaaGreatDoorPkztc
import Derived.Test.YtdplogkmkgekdaaGreatDoorPkzw
set_option linter.all false
set_option maxRecDepth 100000
set_option maxHeartbeats 4000000
namespace Go.Proofs.YtdplogkmkgekdaaGreatDoor.Pj
open Go.RowKit
theorem sq_assoc {α β γ:Type} {x:GP α} {y:GP β} {f:β→GP γ}:bnd (seq x y) f=seq x (bnd y f):=by
 unfold seq
 rw[bnd_assoc]
theorem patsD {N:Nat} (hQ:rdP 86 N (fun t n=>gG t n 5)) {w:World} {rb tb i:Nat} {cap:Cp} {t:Tk} (h:Rd w rb tb cap t i 0 0) (hN:t.len - i≤N+1) {e:Ent} {ts:Array Value} (he:firstB t i esPats=some e) (hc:EntC w cap.bd e ts):Calls Tryz.prog e.fn (#[.pointer (some ⟨rb,0,none⟩)]++ts) w (NodeP w rb tb cap t i True (fun n=>gPattern t (gG t n 5) n)):=by
 have hb:=firstB_is he
 have hm:=firstB_mem he
 have hlt:=(isB_lt h.good h.lt hb).2
 clear he
 have hk1:kindB t i 0 0 1=false:=isB_kind hb (by decide) (by decide)
 simp only[esPats,List.mem_cons,List.not_mem_nil,or_false] at hm
 rcases hm with rfl|rfl|rfl|rfl|rfl|rfl|rfl
 ·replace hb:isB t i 0 0 ⟨#[95]⟩=true:=hb
  obtain⟨b1,b2,l1,l2,rfl,c1,c2⟩:=hc.bare rfl
  refine(bareP h (by have:=h.bl;omega) (by have:=h.bl;omega) c1 c2 hlt).mono fun e w' p=>p.to (fun r hr=>?_) (fun p hw=>?_)
  all_goals
   have n1:=isB_ne hb (b:=⟨#[45]⟩) (lit)
   have n2:=isB_ne hb (b:=⟨#[116,114,117,101]⟩) (lit)
   have n3:=isB_ne hb (b:=⟨#[102,97,108,115,101]⟩) (lit)
   have n4:=isB_ne hb (b:=⟨#[40]⟩) (lit)
   have n5:=isB_ne hb (b:=⟨#[114,101,102]⟩) (lit)
   have n6:=isB_ne hb (b:=⟨#[109,117,116]⟩) (lit)
  ·replace hr:=Ev.cg (m':=fun _=>ret (nd 49 (t.pos i) 0 0 E0 [])) (s':=⟨i+1,0,0⟩) hr (fun n=>rfl)
   unfold gPattern
   exact evt
  ·replace hw:=Wr.cg (m':=fun _=>ret (nd 49 (t.pos i) 0 0 E0 [])) (s':=⟨i+1,0,0⟩) hw (fun n=>rfl)
   unfold gPattern
   exact wrt
 ·replace hb:isB t i 0 0 ⟨#[116,114,117,101]⟩=true:=hb
  obtain⟨b1,b2,l1,l2,rfl,c1,c2⟩:=hc.bare rfl
  refine(bareP h (by have:=h.bl;omega) (by have:=h.bl;omega) c1 c2 hlt).mono fun e w' p=>p.to (fun r hr=>?_) (fun p hw=>?_)
  all_goals
   have n0:=isB_ne hb (b:=⟨#[95]⟩) (lit)
   have n1:=isB_ne hb (b:=⟨#[45]⟩) (lit)
   have n3:=isB_ne hb (b:=⟨#[102,97,108,115,101]⟩) (lit)
   have n4:=isB_ne hb (b:=⟨#[40]⟩) (lit)
   have n5:=isB_ne hb (b:=⟨#[114,101,102]⟩) (lit)
   have n6:=isB_ne hb (b:=⟨#[109,117,116]⟩) (lit)
  ·replace hr:=Ev.cg (m':=fun _=>ret (nd 52 (t.pos i) 1 0 E0 [])) (s':=⟨i+1,0,0⟩) hr (fun n=>rfl)
   unfold gPattern
   exact evt
  ·replace hw:=Wr.cg (m':=fun _=>ret (nd 52 (t.pos i) 1 0 E0 [])) (s':=⟨i+1,0,0⟩) hw (fun n=>rfl)
   unfold gPattern
   exact wrt
 ·replace hb:isB t i 0 0 ⟨#[102,97,108,115,101]⟩=true:=hb
  obtain⟨b1,b2,l1,l2,rfl,c1,c2⟩:=hc.bare rfl
  refine(bareP h (by have:=h.bl;omega) (by have:=h.bl;omega) c1 c2 hlt).mono fun e w' p=>p.to (fun r hr=>?_) (fun p hw=>?_)
  all_goals
   have n0:=isB_ne hb (b:=⟨#[95]⟩) (lit)
   have n1:=isB_ne hb (b:=⟨#[45]⟩) (lit)
   have n2:=isB_ne hb (b:=⟨#[116,114,117,101]⟩) (lit)
   have n4:=isB_ne hb (b:=⟨#[40]⟩) (lit)
   have n5:=isB_ne hb (b:=⟨#[114,101,102]⟩) (lit)
   have n6:=isB_ne hb (b:=⟨#[109,117,116]⟩) (lit)
  ·replace hr:=Ev.cg (m':=fun _=>ret (nd 52 (t.pos i) 0 0 E0 [])) (s':=⟨i+1,0,0⟩) hr (fun n=>rfl)
   unfold gPattern
   exact evt
  ·replace hw:=Wr.cg (m':=fun _=>ret (nd 52 (t.pos i) 0 0 E0 [])) (s':=⟨i+1,0,0⟩) hw (fun n=>rfl)
   unfold gPattern
   exact wrt
 ·replace hb:isB t i 0 0 ⟨#[45]⟩=true:=hb
  obtain rfl:=hc.plain (by decide)
  refine(negP h hb).mono fun e w' p=>p.to (fun r hr=>?_) (fun p hw=>?_)
  all_goals
   have n0:=isB_ne hb (b:=⟨#[95]⟩) (lit)
   have n2:=isB_ne hb (b:=⟨#[116,114,117,101]⟩) (lit)
   have n3:=isB_ne hb (b:=⟨#[102,97,108,115,101]⟩) (lit)
   have n4:=isB_ne hb (b:=⟨#[40]⟩) (lit)
   have n5:=isB_ne hb (b:=⟨#[114,101,102]⟩) (lit)
   have n6:=isB_ne hb (b:=⟨#[109,117,116]⟩) (lit)
  ·replace hr:=Ev.cg (m':=fun n=>gNeg t (t.pos i)) (s':=⟨i+1,0,0⟩) hr (fun n=>rfl)
   unfold gNeg at hr
   unfold gPattern
   exact evt
  ·replace hw:=Wr.cg (m':=fun n=>gNeg t (t.pos i)) (s':=⟨i+1,0,0⟩) hw (fun n=>rfl)
   unfold gNeg at hw
   unfold gPattern
   exact wrt
 ·replace hb:isB t i 0 0 ⟨#[114,101,102]⟩=true:=hb
  obtain rfl:=hc.plain (by decide)
  refine(refP h hb).mono fun e w' p=>p.to (fun r hr=>?_) (fun p hw=>?_)
  all_goals
   have n0:=isB_ne hb (b:=⟨#[95]⟩) (lit)
   have n1:=isB_ne hb (b:=⟨#[45]⟩) (lit)
   have n2:=isB_ne hb (b:=⟨#[116,114,117,101]⟩) (lit)
   have n3:=isB_ne hb (b:=⟨#[102,97,108,115,101]⟩) (lit)
   have n4:=isB_ne hb (b:=⟨#[40]⟩) (lit)
   have n6:=isB_ne hb (b:=⟨#[109,117,116]⟩) (lit)
  ·skip
   unfold gRefMut at hr
   unfold gPattern
   exact evt
  ·skip
   unfold gRefMut at hw
   unfold gPattern
   exact wrt
 ·replace hb:isB t i 0 0 ⟨#[109,117,116]⟩=true:=hb
  obtain rfl:=hc.plain (by decide)
  refine(mutP h (isB_ne hb (lit))).mono fun e w' p=>p.to (fun r hr=>?_) (fun p hw=>?_)
  all_goals
   have n0:=isB_ne hb (b:=⟨#[95]⟩) (lit)
   have n1:=isB_ne hb (b:=⟨#[45]⟩) (lit)
   have n2:=isB_ne hb (b:=⟨#[116,114,117,101]⟩) (lit)
   have n3:=isB_ne hb (b:=⟨#[102,97,108,115,101]⟩) (lit)
   have n4:=isB_ne hb (b:=⟨#[40]⟩) (lit)
   have n5:=isB_ne hb (b:=⟨#[114,101,102]⟩) (lit)
  ·skip
   unfold gRefMut at hr
   unfold gPattern
   exact evt
  ·skip
   unfold gRefMut at hw
   unfold gPattern
   exact wrt
 ·replace hb:isB t i 0 0 ⟨#[40]⟩=true:=hb
  obtain rfl:=hc.plain (by decide)
  refine(tupleQ hQ h hN hb).mono fun e w' p=>p.to (fun r hr=>?_) (fun p hw=>?_)
  all_goals
   have n0:=isB_ne hb (b:=⟨#[95]⟩) (lit)
   have n1:=isB_ne hb (b:=⟨#[45]⟩) (lit)
   have n2:=isB_ne hb (b:=⟨#[116,114,117,101]⟩) (lit)
   have n3:=isB_ne hb (b:=⟨#[102,97,108,115,101]⟩) (lit)
   have n5:=isB_ne hb (b:=⟨#[114,101,102]⟩) (lit)
   have n6:=isB_ne hb (b:=⟨#[109,117,116]⟩) (lit)
  ·replace hr:=Ev.cg (m':=fun n=>bnd (gList t (gG t n 5) ⟨#[41]⟩ n) (fun ks=>ret (gTuple 53 (t.pos i) ks))) (s':=⟨i+1,0,0⟩) hr (fun n=>rfl)
   unfold gPattern
   exact evt
  ·replace hw:=Wr.cg (m':=fun n=>bnd (gList t (gG t n 5) ⟨#[41]⟩ n) (fun ks=>ret (gTuple 53 (t.pos i) ks))) (s':=⟨i+1,0,0⟩) hw (fun n=>rfl)
   unfold gPattern
   exact wrt
theorem patT {N:Nat} (hQ:rdP 86 N (fun t n=>gG t n 5)) {w:World} {rb tb i:Nat} {cap:Cp} {t:Tk} (h:Rd w rb tb cap t i 0 0) (hN:t.len - i≤N+1):
 Calls Tryz.prog 86 #[.pointer (some ⟨rb,0,none⟩)] w (NodeP w rb tb cap t i True (fun n=>gPattern t (gG t n 5) n)):=by
 have hl:=h.l
 have hposI:(0:Int)≤(t.pos i:Int)∧(t.pos i:Int)≤7000:=by have:=h.good.posb i;omega
 have hfd:=fld67_0
 cases hk1:kindB t i 0 0 1
 ·have HK1:=Hid_nx hk1
  have hk10:((t.kind i:Int)==1)=false:=(kindB_eq h.lt 1).symm.trans hk1
  clear hk1
  cases hk:kindB t i 0 0 2
  ·have hk0:((t.kind i:Int)==2)=false:=(kindB_eq h.lt 2).symm.trans hk
   have HK:=Hid_nx hk
   clear hk
   go_enter Tryz.func86,Tryz.ntmps86
   have q:=Mf.start h
   go_wp2_with fail
   refine(q.ne' (sz w) (zeroC)).lf (tokP ·) ?_
   clear q
   intro w1 q
   have F:=q.f1
   have r6:=q.st.rd.r6
   go_wp2_with fail
   refine(q.alloc (.cells #[.slice (some ⟨cap.a5,0,none⟩) 7 7] 72)).nd (fun _=>read1P q.st.rd q.st.rd.t5 ask_esPats (by decide) rfl ein_esPats (fun e w' ts he hc hr=>patsD hQ hr hN he hc) (fun hn=>(by have n0:isB t i 0 0 ⟨#[95]⟩=false:=firstB_none hn _ (List.getElem_mem (n:=0) (by decide));have n1:isB t i 0 0 ⟨#[116,114,117,101]⟩=false:=firstB_none hn _ (List.getElem_mem (n:=1) (by decide));have n2:isB t i 0 0 ⟨#[102,97,108,115,101]⟩=false:=firstB_none hn _ (List.getElem_mem (n:=2) (by decide));have n3:isB t i 0 0 ⟨#[45]⟩=false:=firstB_none hn _ (List.getElem_mem (n:=3) (by decide));have n4:isB t i 0 0 ⟨#[114,101,102]⟩=false:=firstB_none hn _ (List.getElem_mem (n:=4) (by decide));have n5:isB t i 0 0 ⟨#[109,117,116]⟩=false:=firstB_none hn _ (List.getElem_mem (n:=5) (by decide));have n6:isB t i 0 0 ⟨#[40]⟩=false:=firstB_none hn _ (List.getElem_mem (n:=6) (by decide));have hk1:=HK1.out;have hw:=wr_noPath (most:=3) HK.out;unfold gPattern;exact wrt))) (fun w' p hk hw=>⟨rfl,.inr (Mf.thr (q.alloc _) hk hw)⟩) ?_
   clear q F r6
   intro w2 x5 i5 y5 hl5 m5 q
   have F:=q.f1
   go_wp2_with fail
   go_light
   exact Mf.rt (q) Tryz.results86 0 (m5)
  ·have hk0:((t.kind i:Int)==2)=true:=(kindB_eq h.lt 2).symm.trans hk
   have HK:=Hid_nx hk
   clear hk
   go_enter Tryz.func86,Tryz.ntmps86
   have q:=Mf.start h
   go_wp2_with fail
   refine(q.ne' (sz w) (zeroC)).lf (tokP ·) ?_
   clear q
   intro w3 q
   have F:=q.f1
   go_wp2_with fail
   refine q.nd (fun hr=>pathPatternP hQ hr hN) (fun w' p hk hw=>⟨rfl,.inr (q.thr hk (by
   have n0:isB t i 0 0 ⟨#[95]⟩=false:=isB_k HK.out (by decide) (by decide)
   have n1:isB t i 0 0 ⟨#[45]⟩=false:=isB_k HK.out (by decide) (by decide)
   have n2:isB t i 0 0 ⟨#[116,114,117,101]⟩=false:=isB_k HK.out (by decide) (by decide)
   have n3:isB t i 0 0 ⟨#[102,97,108,115,101]⟩=false:=isB_k HK.out (by decide) (by decide)
   have n4:isB t i 0 0 ⟨#[40]⟩=false:=isB_k HK.out (by decide) (by decide)
   have n5:isB t i 0 0 ⟨#[114,101,102]⟩=false:=isB_k HK.out (by decide) (by decide)
   have n6:isB t i 0 0 ⟨#[109,117,116]⟩=false:=isB_k HK.out (by decide) (by decide)
   have hk1:=HK1.out
   unfold gPatP gSome at hw
   unfold gPattern
   simp only[bnd_assoc,sq_assoc] at hw
   exact wrt))⟩) ?_
   clear q F
   intro w4 x5 i5 y5 hl5 m5 q
   have F:=q.f1
   go_wp2_with fail
   go_light
   exact Mf.rt (q) Tryz.results86 0 (by
   have n0:isB t i 0 0 ⟨#[95]⟩=false:=isB_k HK.out (by decide) (by decide)
   have n1:isB t i 0 0 ⟨#[45]⟩=false:=isB_k HK.out (by decide) (by decide)
   have n2:isB t i 0 0 ⟨#[116,114,117,101]⟩=false:=isB_k HK.out (by decide) (by decide)
   have n3:isB t i 0 0 ⟨#[102,97,108,115,101]⟩=false:=isB_k HK.out (by decide) (by decide)
   have n4:isB t i 0 0 ⟨#[40]⟩=false:=isB_k HK.out (by decide) (by decide)
   have n5:isB t i 0 0 ⟨#[114,101,102]⟩=false:=isB_k HK.out (by decide) (by decide)
   have n6:isB t i 0 0 ⟨#[109,117,116]⟩=false:=isB_k HK.out (by decide) (by decide)
   have hk1:=HK1.out
   unfold gPatP gSome at m5
   unfold gPattern
   simp only[bnd_assoc,sq_assoc] at m5
   exact evt)
 ·have hk0:((t.kind i:Int)==1)=true:=(kindB_eq h.lt 1).symm.trans hk1
  have HK:=Hid_nx hk1
  clear hk1
  go_enter Tryz.func86,Tryz.ntmps86
  have q:=Mf.start h
  go_wp2_with fail
  refine(q.ne' (sz w) (zeroC)).lf (tokP ·) ?_
  clear q
  intro w5 q
  have F:=q.f1
  go_wp2_with fail
  refine q.nd (fun hr=>numberP hr 51 HK.out) (fun w' p hk hw=>⟨rfl,.inr (q.thr hk (by
   have n0:isB t i 0 0 ⟨#[95]⟩=false:=isB_k HK.out (by decide) (by decide)
   have n1:isB t i 0 0 ⟨#[45]⟩=false:=isB_k HK.out (by decide) (by decide)
   have n2:isB t i 0 0 ⟨#[116,114,117,101]⟩=false:=isB_k HK.out (by decide) (by decide)
   have n3:isB t i 0 0 ⟨#[102,97,108,115,101]⟩=false:=isB_k HK.out (by decide) (by decide)
   have n4:isB t i 0 0 ⟨#[40]⟩=false:=isB_k HK.out (by decide) (by decide)
   have n5:isB t i 0 0 ⟨#[114,101,102]⟩=false:=isB_k HK.out (by decide) (by decide)
   have n6:isB t i 0 0 ⟨#[109,117,116]⟩=false:=isB_k HK.out (by decide) (by decide)
   have hk1:=HK.out
   replace hw:=Wr.cg (m':=fun _=>bnd (gNum t) (fun n=>seq (gAdd 1) (ret (nd 51 (t.pos i) n 0 E0 [])))) (s':=⟨i,0,0⟩) hw (fun n=>rfl)
   unfold gPattern
   exact wrt))⟩) ?_
  clear q F
  intro w6 x5 i5 y5 hl5 m5 q
  have F:=q.f1
  go_wp2_with fail
  go_light
  exact Mf.rt (q) Tryz.results86 0 (by
   have n0:isB t i 0 0 ⟨#[95]⟩=false:=isB_k HK.out (by decide) (by decide)
   have n1:isB t i 0 0 ⟨#[45]⟩=false:=isB_k HK.out (by decide) (by decide)
   have n2:isB t i 0 0 ⟨#[116,114,117,101]⟩=false:=isB_k HK.out (by decide) (by decide)
   have n3:isB t i 0 0 ⟨#[102,97,108,115,101]⟩=false:=isB_k HK.out (by decide) (by decide)
   have n4:isB t i 0 0 ⟨#[40]⟩=false:=isB_k HK.out (by decide) (by decide)
   have n5:isB t i 0 0 ⟨#[114,101,102]⟩=false:=isB_k HK.out (by decide) (by decide)
   have n6:isB t i 0 0 ⟨#[109,117,116]⟩=false:=isB_k HK.out (by decide) (by decide)
   have hk1:=HK.out
   replace m5:=Ev.cg (m':=fun _=>bnd (gNum t) (fun n=>seq (gAdd 1) (ret (nd 51 (t.pos i) n 0 E0 [])))) (s':=⟨i,0,0⟩) m5 (fun n=>rfl)
   unfold gPattern
   exact evt)
theorem patternP {N:Nat} (hQ:rdP 86 N (fun t n=>gG t n 5)):rdP 86 (N+1) (fun t n=>gG t n 5):=fun h hN=>(patT hQ h hN).mono fun e w' p=>p.to (fun r hr=>hr.up (fun _=>rfl)) (fun p hw=>hw.up (fun _=>rfl))
end Go.Proofs.YtdplogkmkgekdaaGreatDoor.Pj
namespace Go.Proofs.YtdplogkmkgekdaaGreatDoor.Pj
open Go.RowKit
theorem lit0 {p:Prop} (h:p:=by first|rfl|decide|(simp only[Lib.toList_data];decide)):p:=h
theorem ev_sig {t:Tk} {i:Nat} {ss:List ByteArray} {s:ByteArray} (h:(ss.find? (fun w=>isB t i 0 0 w))=some s):Ev (fun _=>gSign t ss) ⟨i,0,0⟩ (s,⟨i,0,0⟩):=Ev.of (by
 unfold gSign
 show some ((ss.find? (fun w=>isB t i 0 0 w)).getD E0,_)=_
 rw[h]
 rfl)
theorem ev_nosig {t:Tk} {i:Nat} {ss:List ByteArray} (h:(ss.find? (fun w=>isB t i 0 0 w))=none):Ev (fun _=>gSign t ss) ⟨i,0,0⟩ (E0,⟨i,0,0⟩):=Ev.of (by
 unfold gSign
 show some ((ss.find? (fun w=>isB t i 0 0 w)).getD E0,_)=_
 rw[h]
 rfl)
theorem prefixed0 {N:Nat} (hU:rdP 201 N (fun t n=>gG t n 2)) {w:World} {rb tb i:Nat} {cap:Cp} {t:Tk} (h:Rd w rb tb cap t i 0 0) (hN:t.len - i≤N+1) (h0:isB t i 0 0 ⟨#[45]⟩=true):
 Calls Tryz.prog 201 #[.pointer (some ⟨rb,0,none⟩)] w (NodeP w rb tb cap t i True (fun n=>gUnary t (gG t n 2) (gPostfix t (gG t n 1) (gG t n 6) n))):=by
 have hl:=h.l
 have hposI:(0:Int)≤(t.pos i:Int)∧(t.pos i:Int)≤7000:=by have:=h.good.posb i;omega
 have K0:=Hid_nx h0
 have HB:=Hid_nx h0
 have HS:Hid ((([⟨#[45]⟩,⟨#[33]⟩,⟨#[42]⟩,⟨#[38]⟩,⟨#[38,38]⟩]:List ByteArray).find? (fun w=>isB t i 0 0 w))=some ⟨#[45]⟩):=by show _=_;simp only[List.find?,h0]
 have hj1:i+1<t.len:=(isB_lt h.good h.lt HB.out).2
 have hfd:=fld103_2
 have htx:=h.good.textb i
 go_enter Tryz.func201,Tryz.ntmps201
 have q:=Mf.start h
 go_wp2_with fail
 refine(q.ne' (sz w) (zeroC)).lf (nodeP · 28) ?_
 clear q
 intro w1 q
 have F:=q.f1
 go_wp2_with fail
 refine(q.ne' (sz w1) (nk 28 (t.pos i) nl)).lf (isP · _ (ask)) ?_
 clear q F
 intro w2 q
 have F:=q.f2
 go_wp2_with fail
 refine q.tak hj1 ?_
 clear q F
 intro w3 q
 have F:=q.f2
 go_wp2_with fail
 refine(q.p04 (t.text i)).nd (fun hr=>hU hr (by have:=hr.lt;omega)) (fun w' p hk hw=>⟨rfl,.inr ((q.p04 (t.text i)).thr hk (by unfold gUnary;exact Wr.snd ev_at (Wr.snd (ev_sig HS.out) (Wr.no (lit0) (Wr.sqd (ev_wyes HB.out) (Wr.yes (or_l (lit0)) (Wr.fst hw (fun _ _=>Sy.ret))))))))⟩) ?_
 clear q F
 intro w4 x5 i5 y5 hl5 m5 q
 have F:=q.f2
 have etx:=isB_eq HB.out
 have HTX:=Hid_nx etx
 clear etx
 go_wp2_with fail
 go_light
 refine Mf.rt ((q.p05 (sl (sz w4) 1)).l1 (sz w4) 28 (t.pos i) 0 0 (t.text i) hposI (by omega)) Tryz.results201 1 (by rw[HTX.out];unfold gUnary;exact Ev.bnd' ev_at (Ev.bnd' (ev_sig HS.out) (Ev.no (lit0) (Ev.seq (ev_wyes HB.out) (Ev.yes (or_l (lit0)) (Ev.bnd' m5 Ev.ret')))))) ?_
 simp[set11,World.setCell_alloc_past,F,Nat.lt_succ_of_lt]
theorem prefixed1 {N:Nat} (hU:rdP 201 N (fun t n=>gG t n 2)) {w:World} {rb tb i:Nat} {cap:Cp} {t:Tk} (h:Rd w rb tb cap t i 0 0) (hN:t.len - i≤N+1) (h0:isB t i 0 0 ⟨#[45]⟩=false) (h1:isB t i 0 0 ⟨#[33]⟩=true):
 Calls Tryz.prog 201 #[.pointer (some ⟨rb,0,none⟩)] w (NodeP w rb tb cap t i True (fun n=>gUnary t (gG t n 2) (gPostfix t (gG t n 1) (gG t n 6) n))):=by
 have hl:=h.l
 have hposI:(0:Int)≤(t.pos i:Int)∧(t.pos i:Int)≤7000:=by have:=h.good.posb i;omega
 have K0:=Hid_nx h0
 have K1:=Hid_nx h1
 have HB:=Hid_nx h1
 have HS:Hid ((([⟨#[45]⟩,⟨#[33]⟩,⟨#[42]⟩,⟨#[38]⟩,⟨#[38,38]⟩]:List ByteArray).find? (fun w=>isB t i 0 0 w))=some ⟨#[33]⟩):=by show _=_;simp only[List.find?,h0,h1]
 have hj1:i+1<t.len:=(isB_lt h.good h.lt HB.out).2
 have hfd:=fld103_2
 have htx:=h.good.textb i
 go_enter Tryz.func201,Tryz.ntmps201
 have q:=Mf.start h
 go_wp2_with fail
 refine(q.ne' (sz w) (zeroC)).lf (nodeP · 28) ?_
 clear q
 intro w1 q
 have F:=q.f1
 go_wp2_with fail
 refine(q.ne' (sz w1) (nk 28 (t.pos i) nl)).lf (isP · _ (ask)) ?_
 clear q F
 intro w2 q
 have F:=q.f2
 go_wp2_with fail
 refine q.lf (isP · _ (ask)) ?_
 clear q F
 intro w3 q
 have F:=q.f2
 go_wp2_with fail
 refine q.tak hj1 ?_
 clear q F
 intro w4 q
 have F:=q.f2
 go_wp2_with fail
 refine(q.p04 (t.text i)).nd (fun hr=>hU hr (by have:=hr.lt;omega)) (fun w' p hk hw=>⟨rfl,.inr ((q.p04 (t.text i)).thr hk (by unfold gUnary;exact Wr.snd ev_at (Wr.snd (ev_sig HS.out) (Wr.no (lit0) (Wr.sqd (ev_wyes HB.out) (Wr.yes (or_r (lit0)) (Wr.fst hw (fun _ _=>Sy.ret))))))))⟩) ?_
 clear q F
 intro w5 x5 i5 y5 hl5 m5 q
 have F:=q.f2
 have etx:=isB_eq HB.out
 have HTX:=Hid_nx etx
 clear etx
 go_wp2_with fail
 go_light
 refine Mf.rt ((q.p05 (sl (sz w5) 1)).l1 (sz w5) 28 (t.pos i) 0 0 (t.text i) hposI (by omega)) Tryz.results201 1 (by rw[HTX.out];unfold gUnary;exact Ev.bnd' ev_at (Ev.bnd' (ev_sig HS.out) (Ev.no (lit0) (Ev.seq (ev_wyes HB.out) (Ev.yes (or_r (lit0)) (Ev.bnd' m5 Ev.ret')))))) ?_
 simp[set11,World.setCell_alloc_past,F,Nat.lt_succ_of_lt]
theorem prefixed2 {N:Nat} (hU:rdP 201 N (fun t n=>gG t n 2)) {w:World} {rb tb i:Nat} {cap:Cp} {t:Tk} (h:Rd w rb tb cap t i 0 0) (hN:t.len - i≤N+1) (h0:isB t i 0 0 ⟨#[45]⟩=false) (h1:isB t i 0 0 ⟨#[33]⟩=false) (h2:isB t i 0 0 ⟨#[42]⟩=true):
 Calls Tryz.prog 201 #[.pointer (some ⟨rb,0,none⟩)] w (NodeP w rb tb cap t i True (fun n=>gUnary t (gG t n 2) (gPostfix t (gG t n 1) (gG t n 6) n))):=by
 have hl:=h.l
 have hposI:(0:Int)≤(t.pos i:Int)∧(t.pos i:Int)≤7000:=by have:=h.good.posb i;omega
 have K0:=Hid_nx h0
 have K1:=Hid_nx h1
 have K2:=Hid_nx h2
 have HB:=Hid_nx h2
 have HS:Hid ((([⟨#[45]⟩,⟨#[33]⟩,⟨#[42]⟩,⟨#[38]⟩,⟨#[38,38]⟩]:List ByteArray).find? (fun w=>isB t i 0 0 w))=some ⟨#[42]⟩):=by show _=_;simp only[List.find?,h0,h1,h2]
 clear h2
 have hj1:i+1<t.len:=(isB_lt h.good h.lt HB.out).2
 have hfd:=fld103_2
 have htx:=h.good.textb i
 go_enter Tryz.func201,Tryz.ntmps201
 have q:=Mf.start h
 go_wp2_with fail
 refine(q.ne' (sz w) (zeroC)).lf (nodeP · 28) ?_
 clear q
 intro w1 q
 have F:=q.f1
 go_wp2_with fail
 refine(q.ne' (sz w1) (nk 28 (t.pos i) nl)).lf (isP · _ (ask)) ?_
 clear q F
 intro w2 q
 have F:=q.f2
 go_wp2_with fail
 refine q.lf (isP · _ (ask)) ?_
 clear q F
 intro w3 q
 have F:=q.f2
 go_wp2_with fail
 refine q.et (skipP · _ (ask)) ?_
 clear q F
 intro w4 b2 i2 hE2 m2 q
 have F:=q.f2
 obtain rfl:b2=true:=hE2.is_.trans K2.out
 obtain rfl:=(hE2.yes rfl).1
 go_wp2_with fail
 refine(q.p00 26).nd (fun hr=>hU hr (by have:=hr.lt;omega)) (fun w' p hk hw=>⟨rfl,.inr ((q.p00 26).thr hk (by unfold gUnary;exact Wr.snd ev_at (Wr.snd (ev_sig HS.out) (Wr.no (lit0) (Wr.sqd (ev_wyes HB.out) (Wr.no (or_n (lit0) (lit0)) (Wr.yes (lit0) (Wr.fst hw (fun _ _=>Sy.ret)))))))))⟩) ?_
 clear q F
 intro w5 x5 i5 y5 hl5 m5 q
 have F:=q.f2
 go_wp2_with fail
 go_light
 refine Mf.rt ((q.p05 (sl (sz w5) 1)).l1 (sz w5) 26 (t.pos i) 0 0 ⟨#[]⟩ hposI) Tryz.results201 1 (by unfold gUnary;exact Ev.bnd' ev_at (Ev.bnd' (ev_sig HS.out) (Ev.no (lit0) (Ev.seq (ev_wyes HB.out) (Ev.no (or_n (lit0) (lit0)) (Ev.yes (lit0) (Ev.bnd' m5 Ev.ret'))))))) ?_
 simp[set11,World.setCell_alloc_past,F,Nat.lt_succ_of_lt]
theorem prefixed3 {N:Nat} (hU:rdP 201 N (fun t n=>gG t n 2)) {w:World} {rb tb i:Nat} {cap:Cp} {t:Tk} (h:Rd w rb tb cap t i 0 0) (hN:t.len - i≤N+1) (h0:isB t i 0 0 ⟨#[45]⟩=false) (h1:isB t i 0 0 ⟨#[33]⟩=false) (h2:isB t i 0 0 ⟨#[42]⟩=false) (h3:isB t i 0 0 ⟨#[38]⟩=true):
 Calls Tryz.prog 201 #[.pointer (some ⟨rb,0,none⟩)] w (NodeP w rb tb cap t i True (fun n=>gUnary t (gG t n 2) (gPostfix t (gG t n 1) (gG t n 6) n))):=by
 have hl:=h.l
 have hposI:(0:Int)≤(t.pos i:Int)∧(t.pos i:Int)≤7000:=by have:=h.good.posb i;omega
 have K0:=Hid_nx h0
 have K1:=Hid_nx h1
 have K2:=Hid_nx h2
 have K3:=Hid_nx h3
 have HB:=Hid_nx h3
 have HS:Hid ((([⟨#[45]⟩,⟨#[33]⟩,⟨#[42]⟩,⟨#[38]⟩,⟨#[38,38]⟩]:List ByteArray).find? (fun w=>isB t i 0 0 w))=some ⟨#[38]⟩):=by show _=_;simp only[List.find?,h0,h1,h2,h3]
 clear h2 h3
 have hj1:i+1<t.len:=(isB_lt h.good h.lt HB.out).2
 have hfd:=fld103_2
 have htx:=h.good.textb i
 go_enter Tryz.func201,Tryz.ntmps201
 have q:=Mf.start h
 go_wp2_with fail
 refine(q.ne' (sz w) (zeroC)).lf (nodeP · 28) ?_
 clear q
 intro w1 q
 have F:=q.f1
 go_wp2_with fail
 refine(q.ne' (sz w1) (nk 28 (t.pos i) nl)).lf (isP · _ (ask)) ?_
 clear q F
 intro w2 q
 have F:=q.f2
 go_wp2_with fail
 refine q.lf (isP · _ (ask)) ?_
 clear q F
 intro w3 q
 have F:=q.f2
 go_wp2_with fail
 refine q.et (skipP · _ (ask)) ?_
 clear q F
 intro w4 b2 i2 hE2 m2 q
 have F:=q.f2
 obtain rfl:b2=false:=hE2.is_.trans K2.out
 obtain rfl:i=i2:=(hE2.no rfl).symm
 go_wp2_with fail
 refine q.et (skipP · _ (ask)) ?_
 clear q F
 intro w5 b3 i3 hE3 m3 q
 have F:=q.f2
 obtain rfl:b3=true:=hE3.is_.trans K3.out
 obtain rfl:=(hE3.yes rfl).1
 go_wp2_with fail
 refine q.nd (fun hr=>lentE hU hr (by have:=hr.lt;omega) hposI) (fun w' p hk hw=>⟨rfl,.inr (q.thr hk (by unfold gLentE at hw;unfold gUnary;exact Wr.snd ev_at (Wr.snd (ev_sig HS.out) (Wr.no (lit0) (Wr.sqd (ev_wyes HB.out) (Wr.no (or_n (lit0) (lit0)) (Wr.no (lit0) (Wr.yes (lit0) (hw)))))))))⟩) ?_
 clear q F
 intro w6 x5 i5 y5 hl5 m5 q
 have F:=q.f2
 go_wp2_with fail
 go_light
 exact Mf.rt (q) Tryz.results201 1 (by unfold gLentE at m5;unfold gUnary;exact Ev.bnd' ev_at (Ev.bnd' (ev_sig HS.out) (Ev.no (lit0) (Ev.seq (ev_wyes HB.out) (Ev.no (or_n (lit0) (lit0)) (Ev.no (lit0) (Ev.yes (lit0) (m5))))))))
theorem prefixed4 {N:Nat} (hU:rdP 201 N (fun t n=>gG t n 2)) {w:World} {rb tb i:Nat} {cap:Cp} {t:Tk} (h:Rd w rb tb cap t i 0 0) (hN:t.len - i≤N+1) (h0:isB t i 0 0 ⟨#[45]⟩=false) (h1:isB t i 0 0 ⟨#[33]⟩=false) (h2:isB t i 0 0 ⟨#[42]⟩=false) (h3:isB t i 0 0 ⟨#[38]⟩=false) (h4:isB t i 0 0 ⟨#[38,38]⟩=true):
 Calls Tryz.prog 201 #[.pointer (some ⟨rb,0,none⟩)] w (NodeP w rb tb cap t i True (fun n=>gUnary t (gG t n 2) (gPostfix t (gG t n 1) (gG t n 6) n))):=by
 have hl:=h.l
 have hposI:(0:Int)≤(t.pos i:Int)∧(t.pos i:Int)≤7000:=by have:=h.good.posb i;omega
 have K0:=Hid_nx h0
 have K1:=Hid_nx h1
 have K2:=Hid_nx h2
 have K3:=Hid_nx h3
 have K4:=Hid_nx h4
 have HB:=Hid_nx h4
 have HS:Hid ((([⟨#[45]⟩,⟨#[33]⟩,⟨#[42]⟩,⟨#[38]⟩,⟨#[38,38]⟩]:List ByteArray).find? (fun w=>isB t i 0 0 w))=some ⟨#[38,38]⟩):=by show _=_;simp only[List.find?,h0,h1,h2,h3,h4]
 clear h2 h3 h4
 have hj1:i+1<t.len:=(isB_lt h.good h.lt HB.out).2
 have hfd:=fld103_2
 have htx:=h.good.textb i
 go_enter Tryz.func201,Tryz.ntmps201
 have q:=Mf.start h
 go_wp2_with fail
 refine(q.ne' (sz w) (zeroC)).lf (nodeP · 28) ?_
 clear q
 intro w1 q
 have F:=q.f1
 go_wp2_with fail
 refine(q.ne' (sz w1) (nk 28 (t.pos i) nl)).lf (isP · _ (ask)) ?_
 clear q F
 intro w2 q
 have F:=q.f2
 go_wp2_with fail
 refine q.lf (isP · _ (ask)) ?_
 clear q F
 intro w3 q
 have F:=q.f2
 go_wp2_with fail
 refine q.et (skipP · _ (ask)) ?_
 clear q F
 intro w4 b2 i2 hE2 m2 q
 have F:=q.f2
 obtain rfl:b2=false:=hE2.is_.trans K2.out
 obtain rfl:i=i2:=(hE2.no rfl).symm
 go_wp2_with fail
 refine q.et (skipP · _ (ask)) ?_
 clear q F
 intro w5 b3 i3 hE3 m3 q
 have F:=q.f2
 obtain rfl:b3=false:=hE3.is_.trans K3.out
 obtain rfl:i=i3:=(hE3.no rfl).symm
 go_wp2_with fail
 refine q.et (skipP · _ (ask)) ?_
 clear q F
 intro w6 b4 i4 hE4 m4 q
 have F:=q.f2
 obtain rfl:b4=true:=hE4.is_.trans K4.out
 obtain rfl:=(hE4.yes rfl).1
 have hposJ:(0:Int)≤(t.pos i:Int)+1∧(t.pos i:Int)+1≤7000:=by have:=h.good.posb i;omega
 go_wp2_with fail
 refine(q.p00 27).nd (fun hr=>lentE hU hr (by have:=hr.lt;omega) hposJ) (fun w' p hk hw=>⟨rfl,.inr ((q.p00 27).thr hk (by
  have hw2:Wr (fun n=>bnd (gLentE t (gG t n 2) ((t.pos i:Int)+1)) (fun y=>ret (nd 27 (t.pos i) 0 0 E0 [y]))) ⟨i+1,0,0⟩ p:=Wr.fst hw (fun _ _=>Sy.ret)
  unfold gLentE at hw2
  simp only[bnd_assoc,ret_bnd] at hw2
  unfold gUnary
  exact Wr.snd ev_at (Wr.snd (ev_sig HS.out) (Wr.no (lit0) (Wr.sqd (ev_wyes HB.out) (Wr.no (or_n (lit0) (lit0)) (Wr.no (lit0) (Wr.no (lit0) (hw2)))))))))⟩) ?_
 clear q F
 intro w7 x5 i5 y5 hl5 m5 q
 have F:=q.f2
 go_wp2_with fail
 go_light
 refine Mf.rt ((q.p05 (sl (sz w7) 1)).l1 (sz w7) 27 (t.pos i) 0 0 ⟨#[]⟩ hposI) Tryz.results201 1 (by
  have m6:Ev (fun n=>bnd (gLentE t (gG t n 2) ((t.pos i:Int)+1)) (fun y=>ret (nd 27 (t.pos i) 0 0 E0 [y]))) ⟨i+1,0,0⟩ _:=Ev.bnd' m5 Ev.ret'
  unfold gLentE at m6
  simp only[bnd_assoc,ret_bnd] at m6
  unfold gUnary
  exact Ev.bnd' ev_at (Ev.bnd' (ev_sig HS.out) (Ev.no (lit0) (Ev.seq (ev_wyes HB.out) (Ev.no (or_n (lit0) (lit0)) (Ev.no (lit0) (Ev.no (lit0) (m6)))))))) ?_
 simp[set11,World.setCell_alloc_past,F,Nat.lt_succ_of_lt]
theorem prefixed5 {N:Nat} (hU:rdP 201 N (fun t n=>gG t n 2)) (hX:∀{w:World} {rb tb i:Nat} {cap:Cp} {t:Tk},Rd w rb tb cap t i 0 0→t.len - i≤N+1→Calls Tryz.prog 222 #[.pointer (some ⟨rb,0,none⟩)] w (NodeP w rb tb cap t i True (fun n=>gPostfix t (gG t n 1) (gG t n 6) n))) {w:World} {rb tb i:Nat} {cap:Cp} {t:Tk} (h:Rd w rb tb cap t i 0 0) (hN:t.len - i≤N+1) (h0:isB t i 0 0 ⟨#[45]⟩=false) (h1:isB t i 0 0 ⟨#[33]⟩=false) (h2:isB t i 0 0 ⟨#[42]⟩=false) (h3:isB t i 0 0 ⟨#[38]⟩=false) (h4:isB t i 0 0 ⟨#[38,38]⟩=false):
 Calls Tryz.prog 201 #[.pointer (some ⟨rb,0,none⟩)] w (NodeP w rb tb cap t i True (fun n=>gUnary t (gG t n 2) (gPostfix t (gG t n 1) (gG t n 6) n))):=by
 have hl:=h.l
 have hposI:(0:Int)≤(t.pos i:Int)∧(t.pos i:Int)≤7000:=by have:=h.good.posb i;omega
 have K0:=Hid_nx h0
 have K1:=Hid_nx h1
 have K2:=Hid_nx h2
 have K3:=Hid_nx h3
 have K4:=Hid_nx h4
 have HS:Hid ((([⟨#[45]⟩,⟨#[33]⟩,⟨#[42]⟩,⟨#[38]⟩,⟨#[38,38]⟩]:List ByteArray).find? (fun w=>isB t i 0 0 w))=none):=by show _=_;simp only[List.find?,h0,h1,h2,h3,h4]
 clear h2 h3 h4
 skip
 have hfd:=fld103_2
 have htx:=h.good.textb i
 go_enter Tryz.func201,Tryz.ntmps201
 have q:=Mf.start h
 go_wp2_with fail
 refine(q.ne' (sz w) (zeroC)).lf (nodeP · 28) ?_
 clear q
 intro w1 q
 have F:=q.f1
 go_wp2_with fail
 refine(q.ne' (sz w1) (nk 28 (t.pos i) nl)).lf (isP · _ (ask)) ?_
 clear q F
 intro w2 q
 have F:=q.f2
 go_wp2_with fail
 refine q.lf (isP · _ (ask)) ?_
 clear q F
 intro w3 q
 have F:=q.f2
 go_wp2_with fail
 refine q.et (skipP · _ (ask)) ?_
 clear q F
 intro w4 b2 i2 hE2 m2 q
 have F:=q.f2
 obtain rfl:b2=false:=hE2.is_.trans K2.out
 obtain rfl:i=i2:=(hE2.no rfl).symm
 go_wp2_with fail
 refine q.et (skipP · _ (ask)) ?_
 clear q F
 intro w5 b3 i3 hE3 m3 q
 have F:=q.f2
 obtain rfl:b3=false:=hE3.is_.trans K3.out
 obtain rfl:i=i3:=(hE3.no rfl).symm
 go_wp2_with fail
 refine q.et (skipP · _ (ask)) ?_
 clear q F
 intro w6 b4 i4 hE4 m4 q
 have F:=q.f2
 obtain rfl:b4=false:=hE4.is_.trans K4.out
 obtain rfl:i=i4:=(hE4.no rfl).symm
 go_wp2_with fail
 refine q.nd (fun hr=>hX hr hN) (fun w' p hk hw=>⟨rfl,.inr (q.thr hk (by unfold gUnary;exact Wr.snd ev_at (Wr.snd (ev_nosig HS.out) (Wr.yes rfl hw))))⟩) ?_
 clear q F
 intro w7 x5 i5 y5 hl5 m5 q
 have F:=q.f2
 go_wp2_with fail
 go_light
 exact Mf.rt (q) Tryz.results201 1 (by unfold gUnary;exact Ev.bnd' ev_at (Ev.bnd' (ev_nosig HS.out) (Ev.yes rfl m5)))
theorem prefixedP {N:Nat} (hU:rdP 201 N (fun t n=>gG t n 2)) (hX:∀{w:World} {rb tb i:Nat} {cap:Cp} {t:Tk},Rd w rb tb cap t i 0 0→t.len - i≤N+1→Calls Tryz.prog 222 #[.pointer (some ⟨rb,0,none⟩)] w (NodeP w rb tb cap t i True (fun n=>gPostfix t (gG t n 1) (gG t n 6) n))):rdP 201 (N+1) (fun t n=>gG t n 2):=by
 intro w rb tb i cap t h hN
 have key:Calls Tryz.prog 201 #[.pointer (some ⟨rb,0,none⟩)] w (NodeP w rb tb cap t i True (fun n=>gUnary t (gG t n 2) (gPostfix t (gG t n 1) (gG t n 6) n))):=by
  cases h0:isB t i 0 0 ⟨#[45]⟩
  ·cases h1:isB t i 0 0 ⟨#[33]⟩
   ·cases h2:isB t i 0 0 ⟨#[42]⟩
    ·cases h3:isB t i 0 0 ⟨#[38]⟩
     ·cases h4:isB t i 0 0 ⟨#[38,38]⟩
      ·exact prefixed5 hU hX h hN h0 h1 h2 h3 h4
      ·exact prefixed4 hU h hN h0 h1 h2 h3 h4
     ·exact prefixed3 hU h hN h0 h1 h2 h3
    ·exact prefixed2 hU h hN h0 h1 h2
   ·exact prefixed1 hU h hN h0 h1
  ·exact prefixed0 hU h hN h0
 exact key.mono fun e w' p=>p.to (fun r hr=>hr.up (fun _=>rfl)) (fun p hw=>hw.up (fun _=>rfl))
end Go.Proofs.YtdplogkmkgekdaaGreatDoor.Pj
