/- The project's parser: statements, blocks. -/
import Derived.Test.YtdplogkmkgekdaaGreatDoorPlf
import Derived.Test.YtdplogkmkgekdaaGreatDoorPla
import Derived.Test.YtdplogkmkgekdaaGreatDoorTypes
import Derived.Test.YtdplogkmkgekdaaGreatDoorPkb
import Derived.Test.YtdplogkmkgekdaaGreatDoorPlfa
set_option linter.all false
set_option maxRecDepth 100000
set_option maxHeartbeats 4000000
namespace Go.Proofs.YtdplogkmkgekdaaGreatDoor.Pj
open Go.RowKit
section
variable {w:World} {rb tb i:Nat} {cap:Cp} {t:Tk}
theorem XK (hT:∀N,bH 70 N (fun t n=>gG t n 0)) (hB:∀N,bH 75 N (fun t n=>gG t n 3)) {w:World} {rb tb i:Nat} {cap:Cp} {t:Tk} (h:Rd w rb tb cap t i 0 0):
 Calls Tryz.prog 39 #[.pointer (some ⟨rb,0,none⟩)] w (aP w rb tb cap t i True (fun n=>je t (gG t n 0) (gG t n 3) n)):=by
 have hl:=h.l
 have aL:=h.eP
 have Qr:Hid (∀x,Sy (fO t x)):=fun x=>by unfold fO;exact aA
 have HS2:Hid (∀n x,Sy (fV t (gG t n 0) (gG t n 3) n x)):=fun n x=>by unfold fV;exact aA
 go_enter Tryz.func39,Tryz.ntmps39
 have q:=Mf.start h
 go_wp2_with fail
 refine(q.ne' (sz w) (aJ)).lf (dx · 1) ?_
 clear q
 intro w1 q
 have F:=q.f1
 go_wp2_with fail
 refine(q.ne' (sz w1) (nk 1 (t.pos i) nl)).wn (dw · _ (List.mem_cons_self ..)) (fun w' hk hw=>⟨rfl,.inr ((q.ne' (sz w1) (nk 1 (t.pos i) nl)).aR hk (by unfold je;exact wrt))⟩) ?_
 clear q F
 intro w2 m2 q
 have F:=q.f2
 go_wp2_with fail
 refine q.nm (kD ·) (fun w' p hk hw=>⟨rfl,.inr (q.aR hk (by unfold je;exact wrt))⟩) ?_
 clear q F
 intro w3 s3 i3 hs3 hl3 m3 q
 have F:=q.f2
 go_wp2_with fail
 refine(q.jm s3).wn (dw · _ (ask)) (fun w' hk hw=>⟨rfl,.inr ((q.jm s3).aR hk (by unfold je;exact wrt))⟩) ?_
 clear q F
 intro w4 m4 q
 have F:=q.f2
 have HE:Hid (∀us i5 r,EvL (fun _=>fO t) [] ⟨i3+1,0,0⟩ (us,⟨i5,0,0⟩)→EvL (fun n=>fV t (gG t n 0) (gG t n 3) n) us ⟨i5,0,0⟩ r→Ev (fun n=>je t (gG t n 0) (gG t n 3) n) ⟨i,0,0⟩ (nd 1 (t.pos i:Int) 0 0 s3 r.1,r.2)):=fun us i5 r h1 h2=>by have h1:=h1.ev;have h2:=h2.ev;unfold je;exact bS
 have HW1:Hid (∀p,bZ (fun _=>fO t) [] ⟨i3+1,0,0⟩ p→Wr (fun n=>je t (gG t n 0) (gG t n 3) n) ⟨i,0,0⟩ p):=fun p hp=>by unfold je;exact wrt
 have HW2:Hid (∀us i5 p,EvL (fun _=>fO t) [] ⟨i3+1,0,0⟩ (us,⟨i5,0,0⟩)→bZ (fun n=>fV t (gG t n 0) (gG t n 3) n) us ⟨i5,0,0⟩ p→Wr (fun n=>je t (gG t n 0) (gG t n 3) n) ⟨i,0,0⟩ p):=fun us i5 p h1 hp=>by have h1:=h1.ev;unfold je;exact wrt
 go_wp2_with fail
 go_loopg [] (t.len - (i3+1)) (fun g wr=>∃(v:Value) (vs:List (List Value)) (j:Nat) (V:List (List Nr)),g=t.len - j∧Hid (vs.length≤j)∧Mf w rb tb cap t i True wr j [(sz w1,ah 1 (t.pos i) 0 0 s3 v),(sz w,aJ)] [] v vs [] V∧Hid ((∀r,EvL (fun _=>fO t) V ⟨j,0,0⟩ r→EvL (fun _=>fO t) [] ⟨i3+1,0,0⟩ r)∧∀p,bZ (fun _=>fO t) V ⟨j,0,0⟩ p→bZ (fun _=>fO t) [] ⟨i3+1,0,0⟩ p))
 case atStart=>exact⟨nl,[],i3+1,[],rfl,Nat.zero_le _,q,⟨fun r h=>h,fun p h=>h⟩⟩
 case round=>
  clear F q
  obtain⟨v,vs,j,V,eD,HL,q,HM⟩:=hrel
  have HG:=@aG _ @eD
  clear eD
  have hjl:=q.st.rd.lt
  have hij:=q.go trivial
  have tV:Hid (vs.length≤6001):=by show vs.length≤6001;have:=HL.out;have:=h.good.few;omega
  obtain⟨Ay,Az,rfl⟩:=q.shape
  have F:=q.f2
  cases hu:au t j 0 0 ⟨#[117,115,101]⟩
  ·have HU:=aD hu
   go_wp2_with fail
   refine q.lf (iX · _ (ask)) ?_
   clear q F
   intro w5 q
   have F:=q.f2
   have HD:Hid (EvL (fun _=>fO t) [] ⟨i3+1,0,0⟩ (V,⟨j,0,0⟩)):=HM.out.1 _ (EvL.stop (by have k:=HU.out;unfold fO;exact bS))
   go_wp2_with fail
   clear hu HU HM
   go_loopg [] (t.len - j) (fun g wr=>∃(v:Value) (us:List (List Value)) (m:Nat) (U:List (List Nr)),g=t.len - m∧Hid (us.length≤m)∧Mf w rb tb cap t i True wr m [(sz w1,ah 1 (t.pos i) 0 0 s3 v),(sz w,aJ)] [] v us [] U∧Hid ((∀r,EvL (fun n=>fV t (gG t n 0) (gG t n 3) n) U ⟨m,0,0⟩ r→EvL (fun n=>fV t (gG t n 0) (gG t n 3) n) V ⟨j,0,0⟩ r)∧∀p,bZ (fun n=>fV t (gG t n 0) (gG t n 3) n) U ⟨m,0,0⟩ p→bZ (fun n=>fV t (gG t n 0) (gG t n 3) n) V ⟨j,0,0⟩ p))
   case atStart=>exact⟨_,vs,j,V,rfl,HL.out,q,⟨fun r h=>h,fun p h=>h⟩⟩
   case round=>
    clear F q
    obtain⟨v,us,m,U,eD,HL2,q,II⟩:=hrel
    have HG2:=@aG _ @eD
    clear eD
    have hjl:=q.st.rd.lt
    have hij:=q.go trivial
    have abz:Hid (us.length≤6001):=by show us.length≤6001;have:=HL2.out;have:=h.good.few;omega
    obtain⟨zY,yj,rfl⟩:=q.shape
    have F:=q.f2
    go_wp2_with fail
    refine q.et (cO · _ (ask)) ?_
    clear q F
    intro w6 b6 i6 hE6 m6 q
    have F:=q.f2
    cases b6
    ·obtain rfl:m=i6:=(hE6.no rfl).symm
     clear hE6
     go_wp2_with fail
     go_region_law (first|(refine q.as (sz w7) (Nat.le_trans abz.out (by decide)) ?_;clear q F;intro w8 ao8 cp8 q;have F:=q.f2)|(replace q:=q.drew;go_simp;refine q.nd (fun hr=>ad2 hT hB hr) (fun w' p hk hw=>⟨rfl,.inr (q.aR hk (HW2.out _ _ _ HD.out (II.out.2 _ (bZ.here (by unfold fV;exact Wr.snd bT (Wr.snd (Ev.yes rfl m6) (Wr.no rfl (Wr.fst hw (fun _ _=>Sy.ret))))) HS2.out))))⟩) ?_;clear q F;intro w7 x7 i7 y7 zZ m7 q;have F:=q.f2))
     all_goals
      have MB:Hid (Ev (fun n=>fV t (gG t n 0) (gG t n 3) n U) ⟨m,0,0⟩ ((true,U++[y7]),⟨i7,0,0⟩)):=by
       show Ev _ _ _
       unfold fV
       exact Ev.ak bT (Ev.ak (Ev.yes rfl m6) (Ev.no rfl (Ev.ak m7 Ev.ret')))
      clear m6 m7
      have zZ:=zZ.out
      have hi7:=q.st.rd.lt
      replace q:=q.fE (.slice ao8 (us.length+1) cp8)
      go_wp2_with fail
      go_roundg (t.len - i7)
      case measure=>rw[HG2.out];omega
      case rel=>exact⟨_,_,i7,_,rfl,(by show(us++_).length≤i7;have:=HL2.out;simp;omega),q,⟨fun r hr=>II.out.1 r (EvL.on MB.out hr),fun p hp=>II.out.2 p (bZ.on MB.out hp)⟩⟩
    ·clear hE6
     have M6:=aD m6
     clear m6
     go_wp2_with fail
     go_light
     exact Mf.rt (q.fo 1 (t.pos i) 0 0 s3 (Nat.le_trans abz.out (by decide)) aL hs3) Tryz.results39 1 (HE.out _ _ _ HD.out (II.out.1 _ (EvL.stop (by have m6:=M6.out;unfold fV;exact Ev.ak bT (Ev.ak (Ev.yes rfl m6) (Ev.yes rfl Ev.ret'))))))
  ·have HU:=aD hu
   go_wp2_with fail
   refine q.lf (iX · _ (ask)) ?_
   clear q F
   intro w5 q
   have F:=q.f2
   go_wp2_with fail
   go_region_law (first|(refine q.as (sz w6) (Nat.le_trans tV.out (by decide)) ?_;clear q F;intro w7 yt yu q;have F:=q.f2)|(replace q:=q.drew;go_simp;refine q.nd (fun hr=>ae0 hr HU.out) (fun w' p hk hw=>⟨rfl,.inr (q.aR hk (HW1.out _ (HM.out.2 _ (bZ.here (by have k:=HU.out;unfold r9 at hw;have hw2:=Wr.fst (f:=fun _ y=>ret (true,V++[y])) hw (fun _ _=>Sy.ret);unfold seq at hw2;simp only[bU,gB] at hw2;unfold fO;unfold seq;exact Wr.snd bT (Wr.snd aI (Wr.yes (dR rfl k) hw2))) (fun _=>Qr.out)))))⟩) ?_;clear q F;intro w6 x6 i6 y6 mq m6 q;have F:=q.f2))
   all_goals
    have MB:Hid (Ev (fun(_:Nat)=>fO t V) ⟨j,0,0⟩ ((true,V++[y6]),⟨i6,0,0⟩)):=by
     show Ev _ _ _
     have k:=HU.out
     unfold r9 at m6
     have m7:=Ev.ak (f:=fun _ y=>ret (true,V++[y])) m6 Ev.ret'
     unfold seq at m7
     simp only[bU,gB] at m7
     unfold fO seq
     exact Ev.ak bT (Ev.ak aI (Ev.yes (dR rfl k) m7))
    clear m6 hu
    have mq:=mq.out
    have PD:=q.st.rd.lt
    replace q:=q.fE (.slice yt (vs.length+1) yu)
    go_wp2_with fail
    go_roundg (t.len - i6)
    case measure=>rw[HG.out];omega
    case rel=>exact⟨_,_,i6,_,rfl,(by show(vs++_).length≤i6;have:=HL.out;simp;omega),q,⟨fun r hr=>HM.out.1 r (EvL.on MB.out hr),fun p hp=>HM.out.2 p (bZ.on MB.out hp)⟩⟩
theorem Sq (hT:∀N,bH 70 N (fun t n=>gG t n 0)) (hB:∀N,bH 75 N (fun t n=>gG t n 3)) {w:World} {rb tb i:Nat} {cap:Cp} {t:Tk} (h:Rd w rb tb cap t i 0 0):
 Calls Tryz.prog 14 #[.pointer (some ⟨rb,0,none⟩)] w (aP w rb tb cap t i False (fun n=>lF t n)):=by
 have hl:=h.l
 have aL:=h.eP
 have HS:Hid (∀n x,Sy (jK t n x)):=fun n x=>by unfold jK;exact aA
 have jT:=nT
 go_enter Tryz.func14,Tryz.ntmps14
 have q:=Mf.start h
 go_wp2_with fail
 refine(q.ne' (sz w) (aJ)).lf (dx · 0) ?_
 clear q
 intro w1 q
 have F:=q.f1
 have HE:Hid (∀r,EvL (fun n=>jK t n) [] ⟨i,0,0⟩ r→Ev (fun n=>lF t n) ⟨i,0,0⟩ (nd 0 (t.pos i:Int) 0 0 E0 r.1,r.2)):=fun r hr=>by have hr:=hr.ev;unfold lF;exact bS
 have HW:Hid (∀p,bZ (fun n=>jK t n) [] ⟨i,0,0⟩ p→Wr (fun n=>lF t n) ⟨i,0,0⟩ p):=fun p hp=>by unfold lF;exact wrt
 have q0:=q.ne' (sz w1) (nk 0 (t.pos i) nl)
 clear q F
 have q:=q0
 clear q0
 have F:=q.f2
 go_wp2_with fail
 go_loopg [] (t.len - i) (fun g wr=>∃(v:Value) (vs:List (List Value)) (j:Nat) (V:List (List Nr)),g=t.len - j∧Hid (vs.length≤j)∧Mf w rb tb cap t i False wr j [(sz w1,ah 0 (t.pos i) 0 0 ⟨#[]⟩ v),(sz w,aJ)] [] v vs [] V∧Hid ((∀r,EvL (fun n=>jK t n) V ⟨j,0,0⟩ r→EvL (fun n=>jK t n) [] ⟨i,0,0⟩ r)∧∀p,bZ (fun n=>jK t n) V ⟨j,0,0⟩ p→bZ (fun n=>jK t n) [] ⟨i,0,0⟩ p))
 case atStart=>exact⟨nl,[],i,[],rfl,Nat.zero_le _,q,⟨fun r h=>h,fun p h=>h⟩⟩
 case round=>
  clear F q
  obtain⟨v,vs,j,V,eD,HL,q,HM⟩:=hrel
  have HG:=@aG _ @eD
  clear eD
  have hjl:=q.st.rd.lt
  have hij:=q.le
  have tV:Hid (vs.length≤6001):=by show vs.length≤6001;have:=HL.out;have:=h.good.few;omega
  obtain⟨Ay,Az,rfl⟩:=q.shape
  have F:=q.f2
  cases hu:bf t j 0 0 0
  ·have HU:=aD hu
   have hk0:((t.kind j:Int)==0)=false:=(fQ hjl 0).symm.trans hu
   go_wp2_with fail
   refine q.lf (jD ·) ?_
   clear q F
   intro w5 q
   have F:=q.f2
   go_wp2_with fail
   go_region_law (first|(refine q.as (sz w6) (Nat.le_trans tV.out (by decide)) ?_;clear q F;intro w7 yt yu q;have F:=q.f2)|(replace q:=q.drew;go_simp;refine q.nd (fun hr=>XK hT hB hr) (fun w' p hk hw=>⟨rfl,.inr (q.aR hk (HW.out _ (HM.out.2 _ (bZ.here (by have k:=HU.out;unfold jK;exact Wr.snd bT (Wr.snd dz (Wr.yes (dR rfl (uR k)) (Wr.fst hw (fun _ _=>Sy.ret))))) HS.out))))⟩) ?_;clear q F;intro w6 x6 i6 y6 mq m6 q;have F:=q.f2))
   all_goals
    have MB:Hid (Ev (fun n=>jK t n V) ⟨j,0,0⟩ ((true,V++[y6]),⟨i6,0,0⟩)):=by
     show Ev _ _ _
     have k:=HU.out
     unfold jK
     exact Ev.ak bT (Ev.ak dz (Ev.yes (dR rfl (uR k)) (Ev.ak m6 Ev.ret')))
    clear m6 hu hk0
    have mq:=mq.out
    have PD:=q.st.rd.lt
    replace q:=(q.fE (.slice yt (vs.length+1) yu)).up (g':=False) (fun x=>x.elim)
    go_wp2_with fail
    go_roundg (t.len - i6)
    case measure=>rw[HG.out];omega
    case rel=>exact⟨_,_,i6,_,rfl,(by show(vs++_).length≤i6;have:=HL.out;simp;omega),q,⟨fun r hr=>HM.out.1 r (EvL.on MB.out hr),fun p hp=>HM.out.2 p (bZ.on MB.out hp)⟩⟩
  ·have HU:=aD hu
   have hk0:((t.kind j:Int)==0)=true:=(fQ hjl 0).symm.trans hu
   go_wp2_with fail
   refine q.lf (jD ·) ?_
   clear q F
   intro w5 q
   have F:=q.f2
   go_wp2_with fail
   go_light
   exact Mf.rt (q.fo 0 (t.pos i) 0 0 ⟨#[]⟩ (Nat.le_trans tV.out (by decide)) aL) Tryz.results14 1 (HE.out _ (HM.out.1 _ (EvL.stop (by have k:=HU.out;unfold jK;exact Ev.ak bT (Ev.ak dz (Ev.no (jf (vT k)) Ev.ret'))))))
end
section
variable {w:World} {rb tb i:Nat} {cap:Cp} {t:Tk}
def lI (t:Tk) (LS E P:GP (List Nr)):GP (List Nr × Bool):=bnd (bY t 0 ⟨#[108,101,116]⟩) (fun b14=>cond b14 (bnd LS (fun y=>ret (y,false))) (bnd (bY t 0 ⟨#[105,102]⟩) (fun b7=>bnd (bY t 0 ⟨#[109,97,116,99,104]⟩) (fun b8=>bnd (bY t 0 ⟨#[119,104,105,108,101]⟩) (fun b9=>bnd (bY t 0 ⟨#[108,111,111,112]⟩) (fun b10=>bnd (bY t 0 ⟨#[123]⟩) (fun b11=>bnd (cond (b7||(b8||(b9||(b10||b11)))) P E) (fun y=>bnd (aY t ⟨#[59]⟩) (fun b13=>cond b13 (ret (y,false)) (bnd (bY t 0 ⟨#[125]⟩) (fun b12=>cond b12 (ret (y,true)) (cond (b7||(b8||(b9||(b10||b11)))) (ret (y,false)) (seq (jB t) (ret (y,false)))))))))))))))
def jH (t:Tk) (LS E P:GP (List Nr)) (x:List (List Nr) × Int):GP (Bool × (List (List Nr) × Int)):=bnd gN (fun b15=>bnd (cond b15 (aY t ⟨#[125]⟩) (ret true)) (fun b16=>cond b16 (ret (false,x)) (bnd (lI t LS E P) (fun r=>ret (true,(x.1++[r.1],if r.2=true then 1 else x.2))))))
theorem Gx {t:Tk} {T E P:GP (List Nr)} {x:List (List Nr) × Int}:oQ t (kL t T E) E P x=jH t (eF t T E) E P x:=by
 unfold oQ jH lI
 rw[←aeZ]
 unfold seq
 simp only[bU,gB,rY]
 rfl
theorem Sr {t:Tk} {LS E P:GP (List Nr)} (h1:Sy LS) (h2:Sy E) (h3:Sy P):Sy (lI t LS E P):=by
 unfold lI
 exact aA
theorem Sv {t:Tk} {T E:GP (List Nr)} (h1:Sy T) (h2:Sy E):Sy (eF t T E):=by
 unfold eF
 exact aA
@[go_sem] theorem neq_func (fn:Fn) (a b:Array Value) (w:World):(binOp .neq 92 (.func fn a b) .nilFunc).run Tryz.prog w=.ok (.bool true) w:=by kernel_rfl
@[go_sem] theorem neq_nil (w:World):(binOp .neq 92 .nilFunc .nilFunc).run Tryz.prog w=.ok (.bool false) w:=by kernel_rfl
def ad3 (w:World) (rb tb:Nat) (cap:Cp) (t:Tk) (i:Nat) (m:Nat→GP (List Nr × Bool)) (e:Ending) (w':World):Prop:=
 ∃(kind pos n m':Int) (name:ByteArray) (ko:Option Addr) (kl kc:Nat) (i':Nat) (b:Bool),e=.returned (.tuple #[.agg (ah kind pos n m' name (.slice ko kl kc)),.bool b])∧Nx w rb tb cap t i 0 True w' i' 0 0∧kJ w.heap.size False w' (ah kind pos n m' name (.slice ko kl kc)).toList∧∃x,Fl w' [(ah kind pos n m' name (.slice ko kl kc)).toList] [x]∧Ev m ⟨i,0,0⟩ ((x,b),⟨i',0,0⟩)
def zG (w:World) (rb tb:Nat) (cap:Cp) (t:Tk) (i:Nat) (m:Nat→GP (List Nr × Bool)) (e:Ending) (w':World):Prop:=ad3 w rb tb cap t i m e w'∨tK w rb ⟨i,0,0⟩ m e w'
theorem Lj {t:Tk} {s:ByteArray} {i j:Nat} (h:Ev (fun _=>aM t s) ⟨i,0,0⟩ ((),⟨j,0,0⟩)):Ev (fun _=>aY t s) ⟨i,0,0⟩ (true,⟨j,0,0⟩):=by
 cases hb:au t i 0 0 s
 ·exact absurd (show(0:Int)=4 from((sF hb).ev h).1) (by decide)
 ·have e:j=i+1:=by
   have h1:=congrArg (fun r=>r.2.i) (h.one (bP hb))
   exact h1
  subst e
  exact iV hb
theorem Hg {fn:Func} {r s:Nat} (hf:fn.results=#[.cell r 28,.tmp s]) {tmps:Array Value} {b:Nat} {bv:Bool} (ht:tmps.getD r undef=.pointer (some ⟨b,0,none⟩)) (hs:tmps.getD s undef=.bool bv) {W:World} {c0 c1 c2 c3 c4 c5 c6 c7 c8 c9 c10:Value} (hB:bW W b #[c0,c1,c2,c3,c4,c5,c6,c7,c8,c9,c10]):
 (results fn tmps).run Tryz.prog W=.ok (.tuple #[.agg #[c0,c1,c2,c3,c4,c5,c6,c7,c8,c9,c10],.bool bv]) W:=by
 have hc:∀o,W.cell? ⟨b,o,none⟩=(#[c0,c1,c2,c3,c4,c5,c6,c7,c8,c9,c10]:Array Value)[o]? :=fun o=>cell_of_row W b o _ 28 (0,0) hB
 have ht':tmps[r]?.getD undef=.pointer (some ⟨b,0,none⟩):=by simpa using ht
 have hs':tmps[s]?.getD undef=.bool bv:=by simpa using hs
 simp[results,hf,ht',hs',go_sem,hc]
theorem Mf.Qs {w W:World} {rb tb i j:Nat} {cap:Cp} {t:Tk} {L:List (Nat × Array Value)} {T:List (List Value)} {kv:Value} {vs:List (List Value)} {Ft Fv:List (List Nr)} {fn:Func} {r s:Nat} {mm:Nat→GP (List Nr × Bool)} {ki po n m:Int} {na:ByteArray} {ko:Option Addr} {kl kc:Nat} {x:List Nr} {act:Act} {bv:Bool} (q:Mf w rb tb cap t i True W j L ((ah ki po n m na (.slice ko kl kc)).toList::T) kv vs (x::Ft) Fv) (hf:fn.results=#[.cell r 28,.tmp s]) (N:Nat) (hm:Ev mm ⟨i,0,0⟩ ((x,bv),⟨j,0,0⟩)) {wf:World} {b:Nat} (he:wf=Go.Proofs.YtdplogkmkgekdaaGreatDoor.bC W b (.int .i64 ki) (.int .i64 po) (.int .i64 n) (.int .i64 m) (.string na) (.slice ko kl kc) (.int .i64 0) (.int .i64 0) nl nl nl:=by rfl) (hd:act.defers=[]:=by rfl) (ht:act.tmps.getD r undef=.pointer (some ⟨b,0,none⟩):=by rfl) (hs:act.tmps.getD s undef=.bool bv:=by rfl) (hz:L[N]? =some (b,aJ):=by rfl):bodyPost Tryz.prog fn (zG w rb tb cap t i mm) .ret act wf:=by
 subst he
 have q1:=q.zw N hz (.int .i64 ki) (.int .i64 po) (.int .i64 n) (.int .i64 m) (.string na) (.slice ko kl kc) (.int .i64 0) (.int .i64 0) (.slice none 0 0) (.slice none 0 0) (.slice none 0 0)
 have hB:bW _ b _:=(q1.z.blk N (b,_) (by rw[List.getElem?_set,if_pos rfl,if_pos (List.getElem?_eq_some_iff.1 hz).1])).2
 obtain⟨h,ha⟩:=q1.z.all
 exact bodyPost_ret (Hg hf ht hs hB) hd (.inl ⟨ki,po,n,m,na,ko,kl,kc,j,bv,rfl,⟨q1.st.rd,q1.st.kp,q1.le,fun e=>e,fun mu _=>q1.go mu⟩,⟨h,isNode.weaken (fun b hb=>hb.1) (fun x=>x) _ _ (ha _ (.inr (List.mem_cons_self ..)))⟩,x,q1.fT.head,hm⟩)
theorem Mf.sd {w W:World} {rb tb i j:Nat} {cap:Cp} {t:Tk} {g:Prop} {L:List (Nat × Array Value)} {T:List (List Value)} {kv:Value} {vs:List (List Value)} {X V:List (List Nr)} {f:Nat} {args:Array Value} {Q:Ending→World→Prop} {mm:Nat→GP (List Nr × Bool)} (q:Mf w rb tb cap t i g W j L T kv vs X V) (h:Rd W rb tb cap t j 0 0→Calls Tryz.prog f args W (zG W rb tb cap t j mm)) (KB:∀w' p,Kp W.heap.size rb W w'→Wr mm ⟨j,0,0⟩ (p:Nat)→Q (iQ p) w') (K:∀w' (x:Nf) (b:Bool) i' (y:List Nr),Hid (j<i')→Ev mm ⟨j,0,0⟩ ((y,b),⟨i',0,0⟩)→Mf w rb tb cap t i True w' i' L (x.t::T) kv vs (y::X) V→Q (.returned (.tuple #[.agg x.a,.bool b])) w'):Calls Tryz.prog f args W Q:=(h q.st.rd).mono fun e w' p=>by
 rcases p with⟨x1,x2,x3,x4,x5,x6,x7,x8,i',b,rfl,hx,hn,y,hy,hm⟩|⟨p,rfl,hk,hw⟩
 ·exact K w' ⟨x1,x2,x3,x4,x5,x6,x7,x8⟩ b i' y (hx.go trivial rfl) hm (q.D7 hx hn hy)
 ·exact KB w' p hk hw
theorem Qt {t:Tk} {i:Nat} {e:gZ} (h:eH t i fJ=some e):(au t i 0 0 ⟨#[105,102]⟩||(au t i 0 0 ⟨#[109,97,116,99,104]⟩||(au t i 0 0 ⟨#[119,104,105,108,101]⟩||(au t i 0 0 ⟨#[108,111,111,112]⟩||au t i 0 0 ⟨#[123]⟩))))=true:=by
 have hb:=vB h
 have hm:=pO h
 simp only[fJ,List.mem_cons,List.not_mem_nil,or_false] at hm
 rcases hm with rfl|rfl|rfl|rfl|rfl
 ·exact mW hb
 ·exact dZ (mW hb)
 ·exact dZ (dZ (mW hb))
 ·exact dZ (dZ (dZ (mW hb)))
 ·exact dZ (dZ (dZ (dZ hb)))
theorem Sw {t:Tk} {i:Nat} (h:eH t i fJ=none):(au t i 0 0 ⟨#[105,102]⟩||(au t i 0 0 ⟨#[109,97,116,99,104]⟩||(au t i 0 0 ⟨#[119,104,105,108,101]⟩||(au t i 0 0 ⟨#[108,111,111,112]⟩||au t i 0 0 ⟨#[123]⟩))))=false:=by
 have n0:au t i 0 0 ⟨#[105,102]⟩=false:=bI h _ (List.getElem_mem (n:=0) (by decide))
 have n1:au t i 0 0 ⟨#[109,97,116,99,104]⟩=false:=bI h _ (List.getElem_mem (n:=1) (by decide))
 have n2:au t i 0 0 ⟨#[119,104,105,108,101]⟩=false:=bI h _ (List.getElem_mem (n:=2) (by decide))
 have n3:au t i 0 0 ⟨#[108,111,111,112]⟩=false:=bI h _ (List.getElem_mem (n:=3) (by decide))
 have n4:au t i 0 0 ⟨#[123]⟩=false:=bI h _ (List.getElem_mem (n:=4) (by decide))
 rw[n0,n1,n2,n3,n4]
 rfl
theorem Qu {t:Tk} {i:Nat} {e:gZ} {es es2:List gZ} (h:eH t i es=some e):eH t i (es++es2)=some e:=by
 unfold eH at h⊢
 rw[List.find?_append,h]
 rfl
theorem ad4 {N:Nat} (hT:bH 70 N (fun t n=>gG t n 0)) (hE1:bH 81 N (fun t n=>gG t n 1)) (wM:∀{w:World} {rb tb i:Nat} {cap:Cp} {t:Tk},Rd w rb tb cap t i 0 0→t.len - i≤N→au t i 0 0 ⟨#[108,101,116]⟩=true→Calls Tryz.prog 198 #[.pointer (some ⟨rb,0,none⟩)] w (aP w rb tb cap t i True (fun n=>eF t (gG t n 0) (gG t n 1)))) (hA:∀{w:World} {rb tb i:Nat} {cap:Cp} {t:Tk} {e:gZ} {ts:Array Value},Rd w rb tb cap t i 0 0→t.len - i≤N→eH t i fJ=some e→nQ w cap.bd e ts→Calls Tryz.prog e.fn (#[.pointer (some ⟨rb,0,none⟩)]++ts) w (aP w rb tb cap t i True (fun n=>gG t n 6))) {w:World} {rb tb i:Nat} {cap:Cp} {t:Tk} (h:Rd w rb tb cap t i 0 0) (hN:t.len - i≤N) (hb:au t i 0 0 ⟨#[108,101,116]⟩=true):
 Calls Tryz.prog 153 #[.pointer (some ⟨rb,0,none⟩)] w (zG w rb tb cap t i (fun n=>lI t (eF t (gG t n 0) (gG t n 1)) (gG t n 1) (gG t n 6))):=by
 have hl:=h.l
 have HB:=aD hb
 clear hb
 have hbb:=HB.out
 go_enter Tryz.func153,Tryz.ntmps153
 have q:=Mf.start h
 go_wp2_with fail
 refine(q.ne' (sz w) (aJ)).lf (iX · _ (ask)) ?_
 clear q
 intro w1 q
 have F:=q.f1
 go_wp2_with fail
 refine q.nd (fun hr=>wM hr hN HB.out) (fun w' p hk hw=>⟨rfl,.inr (q.aR hk (by have k:=HB.out;unfold lI;exact wrt))⟩) ?_
 clear q F
 intro w2 x2 i2 y2 hl2 m2 q
 have F:=q.f1
 go_wp2_with fail
 go_light
 exact Mf.Qs q Tryz.results153 0 (by have k:=HB.out;unfold lI;exact bS)
theorem ad5 {N:Nat} (hT:bH 70 N (fun t n=>gG t n 0)) (hE1:bH 81 N (fun t n=>gG t n 1)) (wM:∀{w:World} {rb tb i:Nat} {cap:Cp} {t:Tk},Rd w rb tb cap t i 0 0→t.len - i≤N→au t i 0 0 ⟨#[108,101,116]⟩=true→Calls Tryz.prog 198 #[.pointer (some ⟨rb,0,none⟩)] w (aP w rb tb cap t i True (fun n=>eF t (gG t n 0) (gG t n 1)))) (hA:∀{w:World} {rb tb i:Nat} {cap:Cp} {t:Tk} {e:gZ} {ts:Array Value},Rd w rb tb cap t i 0 0→t.len - i≤N→eH t i fJ=some e→nQ w cap.bd e ts→Calls Tryz.prog e.fn (#[.pointer (some ⟨rb,0,none⟩)]++ts) w (aP w rb tb cap t i True (fun n=>gG t n 6))) {w:World} {rb tb i:Nat} {cap:Cp} {t:Tk} (h:Rd w rb tb cap t i 0 0) (hN:t.len - i≤N) (hb:au t i 0 0 ⟨#[108,101,116]⟩=false) (hf:eH t i fJ=none):
 Calls Tryz.prog 153 #[.pointer (some ⟨rb,0,none⟩)] w (zG w rb tb cap t i (fun n=>lI t (eF t (gG t n 0) (gG t n 1)) (gG t n 1) (gG t n 6))):=by
 have hl:=h.l
 have HB:=aD hb
 have HF:=aD (Sw hf)
 have IV:=aD hf
 clear hb hf
 have hbb:=HB.out
 go_enter Tryz.func153,Tryz.ntmps153
 have q:=Mf.start h
 go_wp2_with fail
 refine(q.ne' (sz w) (aJ)).lf (iX · _ (ask)) ?_
 clear q
 intro w1 q
 have F:=q.f1
 have r4:=q.st.rd.r4
 go_wp2_with fail
 refine(IU (q.alloc (.cells #[.slice (some ⟨cap.a3,0,none⟩) 5 5] 72)).st.rd (NS (by have:=q.st.rd.bl;have:=q.st.rd.l;omega) q.st.rd.t3 xM (by decide) rfl) rfl (by show 1≤2;decide)).mono ?_
 rintro e w2 ⟨v,rfl,hv,hb2⟩
 have e1:([(cap.a3,fJ)]:List (Nat × List gZ)).flatMap (·.2)=fJ:=by simp
 rw[e1] at hv
 obtain rfl:v=.nilFunc:=by
  rcases hv with⟨en,he,_⟩|⟨_,hv⟩
  ·rw[IV.out] at he;exact absurd he (by simp)
  ·exact hv
 replace q:=(q.alloc (.cells #[.slice (some ⟨cap.a3,0,none⟩) 5 5] 72)).below hb2
 clear hv hb2 e1 r4 F
 have F:=q.f1
 go_wp2_with fail
 refine q.nd (fun hr=>hE1 hr hN) (fun w' p hk hw=>⟨rfl,.inr (q.aR hk (by have k:=HB.out;have k2:=HF.out;unfold lI;exact Wr.snd aI (Wr.no k (Wr.snd aI (Wr.snd aI (Wr.snd aI (Wr.snd aI (Wr.snd aI (Wr.fst (Wr.no k2 hw) (fun _ _=>aA))))))))))⟩) ?_
 clear q F
 intro w3 x3 i3 y3 hl3 m3 q
 have F:=q.f1
 have Fb:Hid ((∀r,Ev (fun _=>bnd (aY t ⟨#[59]⟩) (fun b13=>cond b13 (ret (y3,false)) (bnd (bY t 0 ⟨#[125]⟩) (fun b12=>cond b12 (ret (y3,true)) (seq (jB t) (ret (y3,false))))))) ⟨i3,0,0⟩ r→Ev (fun n=>lI t (eF t (gG t n 0) (gG t n 1)) (gG t n 1) (gG t n 6)) ⟨i,0,0⟩ r)∧∀p,Wr (fun _=>bnd (aY t ⟨#[59]⟩) (fun b13=>cond b13 (ret (y3,false)) (bnd (bY t 0 ⟨#[125]⟩) (fun b12=>cond b12 (ret (y3,true)) (seq (jB t) (ret (y3,false))))))) ⟨i3,0,0⟩ p→Wr (fun n=>lI t (eF t (gG t n 0) (gG t n 1)) (gG t n 1) (gG t n 6)) ⟨i,0,0⟩ p):=by
  have k:=HB.out
  have k2:=HF.out
  refine⟨fun r hr=>?_,fun p hp=>?_⟩
  ·unfold lI
   refine Ev.ak aI (Ev.no k (Ev.ak aI (Ev.ak aI (Ev.ak aI (Ev.ak aI (Ev.ak aI (Ev.ak (Ev.no k2 m3) ?_)))))))
   rw[k2]
   exact hr
  ·unfold lI
   refine Wr.snd aI (Wr.no k (Wr.snd aI (Wr.snd aI (Wr.snd aI (Wr.snd aI (Wr.snd aI (Wr.snd (Ev.no k2 m3) ?_)))))))
   rw[k2]
   exact hp
 go_wp2_with fail
 refine(q.ne' (sz w3) x3.a).lf (iX · _ (ask)) ?_
 clear q F
 intro w4 q
 have F:=q.f2
 cases hc:au t i3 0 0 ⟨#[125]⟩
 ·have HC:=aD hc
  go_wp2_with fail
  refine q.wn (dw · _ (ask)) (fun w' hk hw=>⟨rfl,.inr (q.aR hk (Fb.out.2 _ (by have k3:=HC.out;exact Wr.snd (dn (by cases hs:au t i3 0 0 ⟨#[59]⟩;rfl;exact absurd (show(0:Int)=4 from(hw.ev (bP hs)).1) (by decide))) (Wr.no rfl (Wr.snd aI (Wr.no k3 (Wr.sq u7 (fun _=>Sy.ret))))))))⟩) ?_
  clear q F
  intro w5 m5 q
  have F:=q.f2
  go_wp2_with fail
  go_light
  exact Mf.Qs q Tryz.results153 1 (Fb.out.1 _ (Ev.ak (Lj m5) (Ev.yes rfl Ev.ret')))
 ·have HC:=aD hc
  go_wp2_with fail
  go_light
  exact Mf.Qs q Tryz.results153 1 (Fb.out.1 _ (by have k3:=HC.out;have k4:=aF k3 (b:=⟨#[59]⟩) (lit);exact bS))
theorem ad6 {N:Nat} (hT:bH 70 N (fun t n=>gG t n 0)) (hE1:bH 81 N (fun t n=>gG t n 1)) (wM:∀{w:World} {rb tb i:Nat} {cap:Cp} {t:Tk},Rd w rb tb cap t i 0 0→t.len - i≤N→au t i 0 0 ⟨#[108,101,116]⟩=true→Calls Tryz.prog 198 #[.pointer (some ⟨rb,0,none⟩)] w (aP w rb tb cap t i True (fun n=>eF t (gG t n 0) (gG t n 1)))) (hA:∀{w:World} {rb tb i:Nat} {cap:Cp} {t:Tk} {e:gZ} {ts:Array Value},Rd w rb tb cap t i 0 0→t.len - i≤N→eH t i fJ=some e→nQ w cap.bd e ts→Calls Tryz.prog e.fn (#[.pointer (some ⟨rb,0,none⟩)]++ts) w (aP w rb tb cap t i True (fun n=>gG t n 6))) {w:World} {rb tb i:Nat} {cap:Cp} {t:Tk} (h:Rd w rb tb cap t i 0 0) (hN:t.len - i≤N) (hb:au t i 0 0 ⟨#[108,101,116]⟩=false) {e0:gZ} (hf:eH t i fJ=some e0):
 Calls Tryz.prog 153 #[.pointer (some ⟨rb,0,none⟩)] w (zG w rb tb cap t i (fun n=>lI t (eF t (gG t n 0) (gG t n 1)) (gG t n 1) (gG t n 6))):=by
 have hl:=h.l
 have HB:=aD hb
 have HF:=aD (Qt hf)
 have IV:=aD hf
 clear hb hf
 have hbb:=HB.out
 go_enter Tryz.func153,Tryz.ntmps153
 have q:=Mf.start h
 go_wp2_with fail
 refine(q.ne' (sz w) (aJ)).lf (iX · _ (ask)) ?_
 clear q
 intro w1 q
 have F:=q.f1
 have r4:=q.st.rd.r4
 go_wp2_with fail
 refine(IU (q.alloc (.cells #[.slice (some ⟨cap.a3,0,none⟩) 5 5] 72)).st.rd (NS (by have:=q.st.rd.bl;have:=q.st.rd.l;omega) q.st.rd.t3 xM (by decide) rfl) rfl (by show 1≤2;decide)).mono ?_
 rintro e w2 ⟨v,rfl,hv,hb2⟩
 have e1:([(cap.a3,fJ)]:List (Nat × List gZ)).flatMap (·.2)=fJ:=by simp
 rw[e1] at hv
 obtain⟨en,he,hv⟩:∃e,eH t i fJ=some e∧nP w2 cap.bd e v:=by
  rcases hv with hv|⟨hv,_⟩
  ·exact hv
  ·rw[IV.out] at hv;exact absurd hv (by simp)
 obtain⟨ts,rfl,hc⟩:=hv.parts
 replace q:=(q.alloc (.cells #[.slice (some ⟨cap.a3,0,none⟩) 5 5] 72)).below hb2
 have HE:=aD he
 have HC:=aD hc
 clear hv hb2 e1 r4 F he hc
 have F:=q.f1
 have hin:∀args w,(callFunc en.fn args).run Tryz.prog w=.ok (.enter en.fn args) w:=Cq en (pO HE.out)
 go_wp2_with fail
 refine q.nd (fun hr=>hA hr hN HE.out HC.out) (fun w' p hk hw=>⟨rfl,.inr (q.aR hk (by have k:=HB.out;have k2:=HF.out;unfold lI;exact Wr.snd aI (Wr.no k (Wr.snd aI (Wr.snd aI (Wr.snd aI (Wr.snd aI (Wr.snd aI (Wr.fst (Wr.yes k2 hw) (fun _ _=>aA))))))))))⟩) ?_
 clear q F
 intro w3 x3 i3 y3 hl3 m3 q
 have F:=q.f1
 have Fb:Hid (∀r,Ev (fun _=>bnd (aY t ⟨#[59]⟩) (fun b13=>cond b13 (ret (y3,false)) (bnd (bY t 0 ⟨#[125]⟩) (fun b12=>cond b12 (ret (y3,true)) (ret (y3,false)))))) ⟨i3,0,0⟩ r→Ev (fun n=>lI t (eF t (gG t n 0) (gG t n 1)) (gG t n 1) (gG t n 6)) ⟨i,0,0⟩ r):=by
  have k:=HB.out
  have k2:=HF.out
  intro r hr
  unfold lI
  refine Ev.ak aI (Ev.no k (Ev.ak aI (Ev.ak aI (Ev.ak aI (Ev.ak aI (Ev.ak aI (Ev.ak (Ev.yes k2 m3) ?_)))))))
  rw[k2]
  exact hr
 cases hs:au t i3 0 0 ⟨#[59]⟩
 ·have HS:=aD hs
  go_wp2_with fail
  go_region_law (first|(go_simp;refine q.lf (iX · _ (ask)) ?_;clear q F;intro w5 q;have F:=q.f2)|(replace q:=(q.ne' (sz w3) x3.a).drew;go_simp;refine q.et (cO · _ (ask)) ?_;clear q F;intro w4 b4 i4 nC m4 q;have F:=q.f2;obtain rfl:b4=false:=nC.jE.trans HS.out;obtain rfl:i3=i4:=(nC.no rfl).symm;clear nC))
  all_goals
   go_wp2_with fail
   go_light
   exact Mf.Qs (bv:=au t i3 0 0 ⟨#[125]⟩) q Tryz.results153 1 (Fb.out _ (by cases hc:au t i3 0 0 ⟨#[125]⟩<;>exact bS))
 ·have HS:=aD hs
  go_wp2_with fail
  first|go_region_law (replace q:=(q.ne' (sz w3) x3.a).drew;go_simp;refine q.et (cO · _ (ask)) ?_;clear q F;intro w4 b4 i4 nC m4 q;have F:=q.f2;obtain rfl:b4=true:=nC.jE.trans HS.out;clear nC)|fail
  all_goals
   go_wp2_with fail
   go_light
   exact Mf.Qs q Tryz.results153 1 (Fb.out _ (by exact bS))
theorem ad7 {N:Nat} (hT:bH 70 N (fun t n=>gG t n 0)) (hE1:bH 81 N (fun t n=>gG t n 1)) (wM:∀{w:World} {rb tb i:Nat} {cap:Cp} {t:Tk},Rd w rb tb cap t i 0 0→t.len - i≤N→au t i 0 0 ⟨#[108,101,116]⟩=true→Calls Tryz.prog 198 #[.pointer (some ⟨rb,0,none⟩)] w (aP w rb tb cap t i True (fun n=>eF t (gG t n 0) (gG t n 1)))) (hA:∀{w:World} {rb tb i:Nat} {cap:Cp} {t:Tk} {e:gZ} {ts:Array Value},Rd w rb tb cap t i 0 0→t.len - i≤N→eH t i fJ=some e→nQ w cap.bd e ts→Calls Tryz.prog e.fn (#[.pointer (some ⟨rb,0,none⟩)]++ts) w (aP w rb tb cap t i True (fun n=>gG t n 6))) {w:World} {rb tb i:Nat} {cap:Cp} {t:Tk} (h:Rd w rb tb cap t i 0 0) (hN:t.len - i≤N):
 Calls Tryz.prog 153 #[.pointer (some ⟨rb,0,none⟩)] w (zG w rb tb cap t i (fun n=>lI t (eF t (gG t n 0) (gG t n 1)) (gG t n 1) (gG t n 6))):=by
 cases hb:au t i 0 0 ⟨#[108,101,116]⟩
 ·cases hf:eH t i fJ with
  |none=>exact ad5 hT hE1 wM hA h hN hb hf
  |some e=>exact ad6 hT hE1 wM hA h hN hb hf
 ·exact ad4 hT hE1 wM hA h hN hb
theorem abA {N:Nat} (hT:bH 70 N (fun t n=>gG t n 0)) (hE1:bH 81 N (fun t n=>gG t n 1)) (wM:∀{w:World} {rb tb i:Nat} {cap:Cp} {t:Tk},Rd w rb tb cap t i 0 0→t.len - i≤N→au t i 0 0 ⟨#[108,101,116]⟩=true→Calls Tryz.prog 198 #[.pointer (some ⟨rb,0,none⟩)] w (aP w rb tb cap t i True (fun n=>eF t (gG t n 0) (gG t n 1)))) (hA:∀{w:World} {rb tb i:Nat} {cap:Cp} {t:Tk} {e:gZ} {ts:Array Value},Rd w rb tb cap t i 0 0→t.len - i≤N→eH t i fJ=some e→nQ w cap.bd e ts→Calls Tryz.prog e.fn (#[.pointer (some ⟨rb,0,none⟩)]++ts) w (aP w rb tb cap t i True (fun n=>gG t n 6))) {w:World} {rb tb i:Nat} {cap:Cp} {t:Tk} (h:Rd w rb tb cap t i 0 0) (hN:t.len - i≤N+1):
 Calls Tryz.prog 75 #[.pointer (some ⟨rb,0,none⟩)] w (aP w rb tb cap t i True (fun n=>kZ t (kL t (gG t n 0) (gG t n 1)) (gG t n 1) (gG t n 6) n)):=by
 have hl:=h.l
 have aL:=h.eP
 have HST:Hid (∀{w:World} {j:Nat},Rd w rb tb cap t j 0 0→t.len - j≤N→Calls Tryz.prog 153 #[.pointer (some ⟨rb,0,none⟩)] w (zG w rb tb cap t j (fun n=>lI t (eF t (gG t n 0) (gG t n 1)) (gG t n 1) (gG t n 6)))):=fun hr hn=>ad7 hT hE1 wM hA hr hn
 have HS:Hid (∀n x,Sy (jH t (eF t (gG t n 0) (gG t n 1)) (gG t n 1) (gG t n 6) x)):=fun n x=>by
  have h1:Sy (lI t (eF t (gG t n 0) (gG t n 1)) (gG t n 1) (gG t n 6)):=Sr (Sv (dM _ _ _) (dM _ _ _)) (dM _ _ _) (dM _ _ _)
  unfold jH
  exact aA
 go_enter Tryz.func75,Tryz.ntmps75
 have q:=Mf.start h
 go_wp2_with fail
 refine(q.ne' (sz w) (aJ)).lf (dx · 42) ?_
 clear q
 intro w1 q
 have F:=q.f1
 go_wp2_with fail
 refine(q.ne' (sz w1) (nk 42 (t.pos i) nl)).wn (dw · _ (ask)) (fun w' hk hw=>⟨rfl,.inr ((q.ne' (sz w1) (nk 42 (t.pos i) nl)).aR hk (by unfold kZ;exact wrt))⟩) ?_
 clear q F
 intro w2 m2 q
 have F:=q.f2
 have HE:Hid (∀r:(List (List Nr) × Int) × Rs,EvL (fun n=>jH t (eF t (gG t n 0) (gG t n 1)) (gG t n 1) (gG t n 6)) ([],0) ⟨i+1,0,0⟩ r→Ev (fun n=>kZ t (kL t (gG t n 0) (gG t n 1)) (gG t n 1) (gG t n 6) n) ⟨i,0,0⟩ (nd 42 (t.pos i:Int) r.1.2 0 E0 r.1.1,r.2)):=fun r hr=>by
  have hr2:EvL (fun n=>oQ t (kL t (gG t n 0) (gG t n 1)) (gG t n 1) (gG t n 6)) ([],0) ⟨i+1,0,0⟩ r:=by
   rw[show(fun n=>oQ t (kL t (gG t n 0) (gG t n 1)) (gG t n 1) (gG t n 6))=(fun n=>jH t (eF t (gG t n 0) (gG t n 1)) (gG t n 1) (gG t n 6)) from funext fun n=>funext fun x=>Gx]
   exact hr
  unfold kZ
  exact bS
 have HW:Hid (∀p,bZ (fun n=>jH t (eF t (gG t n 0) (gG t n 1)) (gG t n 1) (gG t n 6)) ([],0) ⟨i+1,0,0⟩ p→Wr (fun n=>kZ t (kL t (gG t n 0) (gG t n 1)) (gG t n 1) (gG t n 6) n) ⟨i,0,0⟩ p):=fun p hp=>by
  have hp2:bZ (fun n=>oQ t (kL t (gG t n 0) (gG t n 1)) (gG t n 1) (gG t n 6)) ([],0) ⟨i+1,0,0⟩ p:=by
   rw[show(fun n=>oQ t (kL t (gG t n 0) (gG t n 1)) (gG t n 1) (gG t n 6))=(fun n=>jH t (eF t (gG t n 0) (gG t n 1)) (gG t n 1) (gG t n 6)) from funext fun n=>funext fun x=>Gx]
   exact hp
  unfold kZ
  exact wrt
 go_wp2_with fail
 go_loopg [4,5] (t.len - (i+1)) (fun g _ _ wr=>∃(v:Value) (vs:List (List Value)) (nn:Int) (j:Nat) (V:List (List Nr)),g=t.len - j∧Hid (vs.length≤j)∧Mf w rb tb cap t i True wr j [(sz w1,ah 42 (t.pos i) nn 0 ⟨#[]⟩ v),(sz w,aJ)] [] v vs [] V∧Hid ((∀r,EvL (fun n=>jH t (eF t (gG t n 0) (gG t n 1)) (gG t n 1) (gG t n 6)) (V,nn) ⟨j,0,0⟩ r→EvL (fun n=>jH t (eF t (gG t n 0) (gG t n 1)) (gG t n 1) (gG t n 6)) ([],0) ⟨i+1,0,0⟩ r)∧∀p,bZ (fun n=>jH t (eF t (gG t n 0) (gG t n 1)) (gG t n 1) (gG t n 6)) (V,nn) ⟨j,0,0⟩ p→bZ (fun n=>jH t (eF t (gG t n 0) (gG t n 1)) (gG t n 1) (gG t n 6)) ([],0) ⟨i+1,0,0⟩ p))
 case atStart=>exact⟨nl,[],0,i+1,[],rfl,Nat.zero_le _,q,⟨fun r h=>h,fun p h=>h⟩⟩
 case round=>
  clear F q
  obtain⟨v,vs,nn,j,V,eD,HL,q,HM⟩:=hrel
  have HG:=@aG _ @eD
  clear eD
  have hjl:=q.st.rd.lt
  have hij:=q.go trivial
  have tV:Hid (vs.length≤6001):=by show vs.length≤6001;have:=HL.out;have:=h.good.few;omega
  obtain⟨Ay,Az,rfl⟩:=q.shape
  have F:=q.f2
  go_wp2_with fail
  refine q.et (cO · _ (ask)) ?_
  clear q F
  intro w4 b4 i4 nC m4 q
  have F:=q.f2
  cases b4
  ·obtain rfl:j=i4:=(nC.no rfl).symm
   clear nC
   go_wp2_with fail
   refine q.sd (fun hr=>HST.out hr (by omega)) (fun w' p hk hw=>⟨rfl,.inr (q.aR hk (HW.out _ (HM.out.2 _ (bZ.here (by unfold jH;exact wrt) HS.out))))⟩) ?_
   clear q F
   intro w5 x5 b5 i5 y5 hl5 m5 q
   have F:=q.f2
   have hl5:=hl5.out
   have M5:=aD m5
   have M4:=aD m4
   clear m4 m5
   go_wp2_with (at_builtin;refine(q.ne' (sz w5) x5.a).ap (sz w5+1) (Nat.le_trans tV.out (by decide)) ?_;clear q F;intro w6 mh mo q;have F:=q.f3)
   ·have hi5:=q.st.rd.lt
    have hb5:b5=true:= ‹_›
    subst hb5
    replace q:=((q.Uo (.slice mh (vs.length+1) mo)).p12 1).pop
    go_roundg (t.len - i5)
    case measure=>rw[HG.out];omega
    case rel=>exact⟨_,_,1,i5,_,rfl,(by show(vs++_).length≤i5;have:=HL.out;simp;omega),q,⟨fun r hr=>HM.out.1 r (EvL.on (by have m4:=M4.out;have m5:=M5.out;unfold jH;exact Ev.ak bT (Ev.ak (Ev.yes rfl m4) (Ev.no rfl (Ev.ak m5 Ev.ret')))) hr),fun p hp=>HM.out.2 p (bZ.on (by have m4:=M4.out;have m5:=M5.out;unfold jH;exact Ev.ak bT (Ev.ak (Ev.yes rfl m4) (Ev.no rfl (Ev.ak m5 Ev.ret')))) hp)⟩⟩
   ·have hi5:=q.st.rd.lt
    have hb5:b5=false:= ‹_›
    subst hb5
    replace q:=(q.Uo (.slice mh (vs.length+1) mo)).pop
    go_roundg (t.len - i5)
    case measure=>rw[HG.out];omega
    case rel=>exact⟨_,_,nn,i5,_,rfl,(by show(vs++_).length≤i5;have:=HL.out;simp;omega),q,⟨fun r hr=>HM.out.1 r (EvL.on (by have m4:=M4.out;have m5:=M5.out;unfold jH;exact Ev.ak bT (Ev.ak (Ev.yes rfl m4) (Ev.no rfl (Ev.ak m5 Ev.ret')))) hr),fun p hp=>HM.out.2 p (bZ.on (by have m4:=M4.out;have m5:=M5.out;unfold jH;exact Ev.ak bT (Ev.ak (Ev.yes rfl m4) (Ev.no rfl (Ev.ak m5 Ev.ret')))) hp)⟩⟩
  ·clear nC
   have M4:=aD m4
   clear m4
   go_wp2_with fail
   go_light
   exact Mf.rt (q.fo 42 (t.pos i) nn 0 ⟨#[]⟩ (Nat.le_trans tV.out (by decide)) aL) Tryz.results75 1 (HE.out ((_,_),_) (HM.out.1 _ (EvL.stop (by have m4:=M4.out;unfold jH;exact Ev.ak bT (Ev.ak (Ev.yes rfl m4) (Ev.yes rfl Ev.ret'))))))
theorem abB {N:Nat} (hT:bH 70 N (fun t n=>gG t n 0)) (hE1:bH 81 N (fun t n=>gG t n 1)) (wM:∀{w:World} {rb tb i:Nat} {cap:Cp} {t:Tk},Rd w rb tb cap t i 0 0→t.len - i≤N→au t i 0 0 ⟨#[108,101,116]⟩=true→Calls Tryz.prog 198 #[.pointer (some ⟨rb,0,none⟩)] w (aP w rb tb cap t i True (fun n=>eF t (gG t n 0) (gG t n 1)))) (hA:∀{w:World} {rb tb i:Nat} {cap:Cp} {t:Tk} {e:gZ} {ts:Array Value},Rd w rb tb cap t i 0 0→t.len - i≤N→eH t i fJ=some e→nQ w cap.bd e ts→Calls Tryz.prog e.fn (#[.pointer (some ⟨rb,0,none⟩)]++ts) w (aP w rb tb cap t i True (fun n=>gG t n 6))):bH 75 (N+1) (fun t n=>gG t n 3):=fun h hN=>(abA hT hE1 wM hA h hN).mono fun e w' p=>p.to (fun r hr=>hr.up (fun _=>rfl)) (fun p hw=>hw.up (fun _=>rfl))
end
end Go.Proofs.YtdplogkmkgekdaaGreatDoor.Pj
