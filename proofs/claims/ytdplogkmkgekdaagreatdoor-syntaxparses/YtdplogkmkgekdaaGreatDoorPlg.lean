/- The project's parser: modules, programs. -/
import Derived.Test.YtdplogkmkgekdaaGreatDoorPlf12
import Derived.Test.YtdplogkmkgekdaaGreatDoorPkzh
set_option linter.all false
set_option maxRecDepth 100000
set_option maxHeartbeats 4000000
namespace Go.Proofs.YtdplogkmkgekdaaGreatDoor.Pj
open Go.RowKit
theorem item_impl (hT:∀N,rdP 70 N (fun t n=>gG t n 0)) (hB:∀N,rdP 75 N (fun t n=>gG t n 3)) {w:World} {rb tb i:Nat} {cap:Cp} {t:Tk} (h:Rd w rb tb cap t i 0 0) (hb:isB t i 0 0 ⟨#[105,109,112,108]⟩=true):
 Calls Tryz.prog 92 #[.pointer (some ⟨rb,0,none⟩)] w (NodeP w rb tb cap t i True (fun n=>gItem t (gG t n 0) (gG t n 3) n)):=by
 have hl:=h.l
 have hposI:(0:Int)≤(t.pos i:Int)∧(t.pos i:Int)≤7000:=by have:=h.good.posb i;omega
 have HB:=Hid_nx hb
 have hbb:=hb
 clear hb
 go_enter Tryz.func92,Tryz.ntmps92
 have q:=Mf.start h
 go_wp2_with fail
 refine(q.ne' (sz w) (zeroC)).lf (isP · _ (ask)) ?_
 clear q
 intro w1 q
 have F:=q.f1
 go_wp2_with fail
 refine q.nd (fun hr=>implP (hT t.len) (hB t.len) hr (by omega)) (fun w' p hk hw=>⟨rfl,.inr (q.thr hk (by have hbb:=HB.out;rw[show(fun n=>gItem t (gG t n 0) (gG t n 3) n)=(fun n=>gItem2 t (gG t n 0) (gG t n 3) n) from funext fun n=>item_is];unfold gItem2;exact wrt))⟩) ?_
 clear q F
 intro w2 x5 i5 y5 hl5 m5 q
 have F:=q.f1
 go_wp2_with fail
 go_light
 exact Mf.rt (q) Tryz.results92 0 (by have hbb:=HB.out;rw[show(fun n=>gItem t (gG t n 0) (gG t n 3) n)=(fun n=>gItem2 t (gG t n 0) (gG t n 3) n) from funext fun n=>item_is];unfold gItem2;exact evt)
theorem itemP (hT:∀N,rdP 70 N (fun t n=>gG t n 0)) (hB:∀N,rdP 75 N (fun t n=>gG t n 3)) {w:World} {rb tb i:Nat} {cap:Cp} {t:Tk} (h:Rd w rb tb cap t i 0 0):Calls Tryz.prog 92 #[.pointer (some ⟨rb,0,none⟩)] w (NodeP w rb tb cap t i True (fun n=>gItem t (gG t n 0) (gG t n 3) n)):=by
 cases hI:isB t i 0 0 ⟨#[105,109,112,108]⟩
 ·cases hP:isB t i 0 0 ⟨#[112,117,98]⟩
  ·cases hC:isB t i 0 0 ⟨#[99,111,112,121]⟩
   ·exact item_00 hT hB h hI hP hC
   ·cases hS:isB t i 0 1 ⟨#[115,116,114,117,99,116]⟩
    ·cases hE:isB t i 0 1 ⟨#[101,110,117,109]⟩
     ·exact item_03 hT hB h hI hP hC hS hE
     ·exact item_02 hT hB h hI hP hC hS hE
    ·exact item_01 hT hB h hI hP hC hS
  ·cases hC:isB t (i+1) 0 0 ⟨#[99,111,112,121]⟩
   ·exact item_10 hT hB h hI hP hC
   ·cases hS:isB t (i+1) 0 1 ⟨#[115,116,114,117,99,116]⟩
    ·cases hE:isB t (i+1) 0 1 ⟨#[101,110,117,109]⟩
     ·exact item_13 hT hB h hI hP hC hS hE
     ·exact item_12 hT hB h hI hP hC hS hE
    ·exact item_11 hT hB h hI hP hC hS
 ·exact item_impl hT hB h hI
end Go.Proofs.YtdplogkmkgekdaaGreatDoor.Pj
namespace Go.Proofs.YtdplogkmkgekdaaGreatDoor.Pj
open Go.RowKit
theorem st_gUse {t:Tk}:Sy (gUse t):=by
 unfold gUse
 exact syt
theorem moduleP (hT:∀N,rdP 70 N (fun t n=>gG t n 0)) (hB:∀N,rdP 75 N (fun t n=>gG t n 3)) {w:World} {rb tb i:Nat} {cap:Cp} {t:Tk} (h:Rd w rb tb cap t i 0 0):
 Calls Tryz.prog 39 #[.pointer (some ⟨rb,0,none⟩)] w (NodeP w rb tb cap t i True (fun n=>gModule t (gG t n 0) (gG t n 3) n)):=by
 have hl:=h.l
 have hposI:(0:Int)≤(t.pos i:Int)∧(t.pos i:Int)≤7000:=by have:=h.good.posb i;omega
 have HS1:Hid (∀x,Sy (gModuleB t x)):=fun x=>by unfold gModuleB;exact syt
 have HS2:Hid (∀n x,Sy (gModuleB2 t (gG t n 0) (gG t n 3) n x)):=fun n x=>by unfold gModuleB2;exact syt
 go_enter Tryz.func39,Tryz.ntmps39
 have q:=Mf.start h
 go_wp2_with fail
 refine(q.ne' (sz w) (zeroC)).lf (nodeP · 1) ?_
 clear q
 intro w1 q
 have F:=q.f1
 go_wp2_with fail
 refine(q.ne' (sz w1) (nk 1 (t.pos i) nl)).wn (mustP · _ (List.mem_cons_self ..)) (fun w' hk hw=>⟨rfl,.inr ((q.ne' (sz w1) (nk 1 (t.pos i) nl)).thr hk (by unfold gModule;exact wrt))⟩) ?_
 clear q F
 intro w2 m2 q
 have F:=q.f2
 go_wp2_with fail
 refine q.nm (nameP2 ·) (fun w' p hk hw=>⟨rfl,.inr (q.thr hk (by unfold gModule;exact wrt))⟩) ?_
 clear q F
 intro w3 s3 i3 hs3 hl3 m3 q
 have F:=q.f2
 go_wp2_with fail
 refine(q.p04 s3).wn (mustP · _ (ask)) (fun w' hk hw=>⟨rfl,.inr ((q.p04 s3).thr hk (by unfold gModule;exact wrt))⟩) ?_
 clear q F
 intro w4 m4 q
 have F:=q.f2
 have HE:Hid (∀us i5 r,EvL (fun _=>gModuleB t) [] ⟨i3+1,0,0⟩ (us,⟨i5,0,0⟩)→EvL (fun n=>gModuleB2 t (gG t n 0) (gG t n 3) n) us ⟨i5,0,0⟩ r→Ev (fun n=>gModule t (gG t n 0) (gG t n 3) n) ⟨i,0,0⟩ (nd 1 (t.pos i:Int) 0 0 s3 r.1,r.2)):=fun us i5 r h1 h2=>by have h1:=h1.ev;have h2:=h2.ev;unfold gModule;exact evt
 have HW1:Hid (∀p,WrL (fun _=>gModuleB t) [] ⟨i3+1,0,0⟩ p→Wr (fun n=>gModule t (gG t n 0) (gG t n 3) n) ⟨i,0,0⟩ p):=fun p hp=>by unfold gModule;exact wrt
 have HW2:Hid (∀us i5 p,EvL (fun _=>gModuleB t) [] ⟨i3+1,0,0⟩ (us,⟨i5,0,0⟩)→WrL (fun n=>gModuleB2 t (gG t n 0) (gG t n 3) n) us ⟨i5,0,0⟩ p→Wr (fun n=>gModule t (gG t n 0) (gG t n 3) n) ⟨i,0,0⟩ p):=fun us i5 p h1 hp=>by have h1:=h1.ev;unfold gModule;exact wrt
 go_wp2_with fail
 go_loopg [] (t.len - (i3+1)) (fun g wr=>∃(v:Value) (vs:List (List Value)) (j:Nat) (V:List (List Nr)),g=t.len - j∧Hid (vs.length≤j)∧Mf w rb tb cap t i True wr j [(sz w1,nodeC 1 (t.pos i) 0 0 s3 v),(sz w,zeroC)] [] v vs [] V∧Hid ((∀r,EvL (fun _=>gModuleB t) V ⟨j,0,0⟩ r→EvL (fun _=>gModuleB t) [] ⟨i3+1,0,0⟩ r)∧∀p,WrL (fun _=>gModuleB t) V ⟨j,0,0⟩ p→WrL (fun _=>gModuleB t) [] ⟨i3+1,0,0⟩ p))
 case atStart=>exact⟨nl,[],i3+1,[],rfl,Nat.zero_le _,q,⟨fun r h=>h,fun p h=>h⟩⟩
 case round=>
  clear F q
  obtain⟨v,vs,j,V,hgk,HL,q,HM⟩:=hrel
  have HG:Hid (gk=t.len - j):=hgk
  clear hgk
  have hjl:=q.st.rd.lt
  have hij:=q.go trivial
  have HVL:Hid (vs.length≤6001):=by show vs.length≤6001;have:=HL.out;have:=h.good.few;omega
  obtain⟨ao3,cp3,rfl⟩:=q.shape
  have F:=q.f2
  cases hu:isB t j 0 0 ⟨#[117,115,101]⟩
  ·have HU:=Hid_nx hu
   go_wp2_with fail
   refine q.lf (isP · _ (ask)) ?_
   clear q F
   intro w5 q
   have F:=q.f2
   have HD:Hid (EvL (fun _=>gModuleB t) [] ⟨i3+1,0,0⟩ (V,⟨j,0,0⟩)):=HM.out.1 _ (EvL.stop (by have k:=HU.out;unfold gModuleB;exact evt))
   go_wp2_with fail
   clear hu HU HM
   go_loopg [] (t.len - j) (fun g wr=>∃(v:Value) (us:List (List Value)) (m:Nat) (U:List (List Nr)),g=t.len - m∧Hid (us.length≤m)∧Mf w rb tb cap t i True wr m [(sz w1,nodeC 1 (t.pos i) 0 0 s3 v),(sz w,zeroC)] [] v us [] U∧Hid ((∀r,EvL (fun n=>gModuleB2 t (gG t n 0) (gG t n 3) n) U ⟨m,0,0⟩ r→EvL (fun n=>gModuleB2 t (gG t n 0) (gG t n 3) n) V ⟨j,0,0⟩ r)∧∀p,WrL (fun n=>gModuleB2 t (gG t n 0) (gG t n 3) n) U ⟨m,0,0⟩ p→WrL (fun n=>gModuleB2 t (gG t n 0) (gG t n 3) n) V ⟨j,0,0⟩ p))
   case atStart=>exact⟨_,vs,j,V,rfl,HL.out,q,⟨fun r h=>h,fun p h=>h⟩⟩
   case round=>
    clear F q
    obtain⟨v,us,m,U,hgk,HL2,q,HM2⟩:=hrel
    have HG2:Hid (gk=t.len - m):=hgk
    clear hgk
    have hjl:=q.st.rd.lt
    have hij:=q.go trivial
    have HVL2:Hid (us.length≤6001):=by show us.length≤6001;have:=HL2.out;have:=h.good.few;omega
    obtain⟨ao5,cp5,rfl⟩:=q.shape
    have F:=q.f2
    go_wp2_with fail
    refine q.et (skipP · _ (ask)) ?_
    clear q F
    intro w6 b6 i6 hE6 m6 q
    have F:=q.f2
    cases b6
    ·obtain rfl:m=i6:=(hE6.no rfl).symm
     clear hE6
     go_wp2_with fail
     go_region_law (first|(refine q.as (sz w7) (Nat.le_trans HVL2.out (by decide)) ?_;clear q F;intro w8 ao8 cp8 q;have F:=q.f2)|(replace q:=q.drew;go_simp;refine q.nd (fun hr=>itemP hT hB hr) (fun w' p hk hw=>⟨rfl,.inr (q.thr hk (HW2.out _ _ _ HD.out (HM2.out.2 _ (WrL.here (by unfold gModuleB2;exact Wr.snd ev_ok (Wr.snd (Ev.yes rfl m6) (Wr.no rfl (Wr.fst hw (fun _ _=>Sy.ret))))) HS2.out))))⟩) ?_;clear q F;intro w7 x7 i7 y7 hl7 m7 q;have F:=q.f2))
     all_goals
      have MB:Hid (Ev (fun n=>gModuleB2 t (gG t n 0) (gG t n 3) n U) ⟨m,0,0⟩ ((true,U++[y7]),⟨i7,0,0⟩)):=by
       show Ev _ _ _
       unfold gModuleB2
       exact Ev.bnd' ev_ok (Ev.bnd' (Ev.yes rfl m6) (Ev.no rfl (Ev.bnd' m7 Ev.ret')))
      clear m6 m7
      have hl7:=hl7.out
      have hi7:=q.st.rd.lt
      replace q:=q.p05 (.slice ao8 (us.length+1) cp8)
      go_wp2_with fail
      go_roundg (t.len - i7)
      case measure=>rw[HG2.out];omega
      case rel=>exact⟨_,_,i7,_,rfl,(by show(us++_).length≤i7;have:=HL2.out;simp;omega),q,⟨fun r hr=>HM2.out.1 r (EvL.on MB.out hr),fun p hp=>HM2.out.2 p (WrL.on MB.out hp)⟩⟩
    ·clear hE6
     have M6:=Hid_nx m6
     clear m6
     go_wp2_with fail
     go_light
     exact Mf.rt (q.fo 1 (t.pos i) 0 0 s3 (Nat.le_trans HVL2.out (by decide)) hposI hs3) Tryz.results39 1 (HE.out _ _ _ HD.out (HM2.out.1 _ (EvL.stop (by have m6:=M6.out;unfold gModuleB2;exact Ev.bnd' ev_ok (Ev.bnd' (Ev.yes rfl m6) (Ev.yes rfl Ev.ret'))))))
  ·have HU:=Hid_nx hu
   go_wp2_with fail
   refine q.lf (isP · _ (ask)) ?_
   clear q F
   intro w5 q
   have F:=q.f2
   go_wp2_with fail
   go_region_law (first|(refine q.as (sz w6) (Nat.le_trans HVL.out (by decide)) ?_;clear q F;intro w7 ao7 cp7 q;have F:=q.f2)|(replace q:=q.drew;go_simp;refine q.nd (fun hr=>useP hr HU.out) (fun w' p hk hw=>⟨rfl,.inr (q.thr hk (HW1.out _ (HM.out.2 _ (WrL.here (by have k:=HU.out;unfold gUse at hw;have hw2:=Wr.fst (f:=fun _ y=>ret (true,V++[y])) hw (fun _ _=>Sy.ret);unfold seq at hw2;simp only[bnd_assoc,ret_bnd] at hw2;unfold gModuleB;unfold seq;exact Wr.snd ev_ok (Wr.snd ev_is (Wr.yes (and_y rfl k) hw2))) (fun _=>HS1.out)))))⟩) ?_;clear q F;intro w6 x6 i6 y6 hl6 m6 q;have F:=q.f2))
   all_goals
    have MB:Hid (Ev (fun(_:Nat)=>gModuleB t V) ⟨j,0,0⟩ ((true,V++[y6]),⟨i6,0,0⟩)):=by
     show Ev _ _ _
     have k:=HU.out
     unfold gUse at m6
     have m7:=Ev.bnd' (f:=fun _ y=>ret (true,V++[y])) m6 Ev.ret'
     unfold seq at m7
     simp only[bnd_assoc,ret_bnd] at m7
     unfold gModuleB seq
     exact Ev.bnd' ev_ok (Ev.bnd' ev_is (Ev.yes (and_y rfl k) m7))
    clear m6 hu
    have hl6:=hl6.out
    have hi6:=q.st.rd.lt
    replace q:=q.p05 (.slice ao7 (vs.length+1) cp7)
    go_wp2_with fail
    go_roundg (t.len - i6)
    case measure=>rw[HG.out];omega
    case rel=>exact⟨_,_,i6,_,rfl,(by show(vs++_).length≤i6;have:=HL.out;simp;omega),q,⟨fun r hr=>HM.out.1 r (EvL.on MB.out hr),fun p hp=>HM.out.2 p (WrL.on MB.out hp)⟩⟩
theorem programP (hT:∀N,rdP 70 N (fun t n=>gG t n 0)) (hB:∀N,rdP 75 N (fun t n=>gG t n 3)) {w:World} {rb tb i:Nat} {cap:Cp} {t:Tk} (h:Rd w rb tb cap t i 0 0):
 Calls Tryz.prog 14 #[.pointer (some ⟨rb,0,none⟩)] w (NodeP w rb tb cap t i False (fun n=>gProg t n)):=by
 have hl:=h.l
 have hposI:(0:Int)≤(t.pos i:Int)∧(t.pos i:Int)≤7000:=by have:=h.good.posb i;omega
 have HS:Hid (∀n x,Sy (gProgB t n x)):=fun n x=>by unfold gProgB;exact syt
 have hfd:=fld67_0
 go_enter Tryz.func14,Tryz.ntmps14
 have q:=Mf.start h
 go_wp2_with fail
 refine(q.ne' (sz w) (zeroC)).lf (nodeP · 0) ?_
 clear q
 intro w1 q
 have F:=q.f1
 have HE:Hid (∀r,EvL (fun n=>gProgB t n) [] ⟨i,0,0⟩ r→Ev (fun n=>gProg t n) ⟨i,0,0⟩ (nd 0 (t.pos i:Int) 0 0 E0 r.1,r.2)):=fun r hr=>by have hr:=hr.ev;unfold gProg;exact evt
 have HW:Hid (∀p,WrL (fun n=>gProgB t n) [] ⟨i,0,0⟩ p→Wr (fun n=>gProg t n) ⟨i,0,0⟩ p):=fun p hp=>by unfold gProg;exact wrt
 have q0:=q.ne' (sz w1) (nk 0 (t.pos i) nl)
 clear q F
 have q:=q0
 clear q0
 have F:=q.f2
 go_wp2_with fail
 go_loopg [] (t.len - i) (fun g wr=>∃(v:Value) (vs:List (List Value)) (j:Nat) (V:List (List Nr)),g=t.len - j∧Hid (vs.length≤j)∧Mf w rb tb cap t i False wr j [(sz w1,nodeC 0 (t.pos i) 0 0 ⟨#[]⟩ v),(sz w,zeroC)] [] v vs [] V∧Hid ((∀r,EvL (fun n=>gProgB t n) V ⟨j,0,0⟩ r→EvL (fun n=>gProgB t n) [] ⟨i,0,0⟩ r)∧∀p,WrL (fun n=>gProgB t n) V ⟨j,0,0⟩ p→WrL (fun n=>gProgB t n) [] ⟨i,0,0⟩ p))
 case atStart=>exact⟨nl,[],i,[],rfl,Nat.zero_le _,q,⟨fun r h=>h,fun p h=>h⟩⟩
 case round=>
  clear F q
  obtain⟨v,vs,j,V,hgk,HL,q,HM⟩:=hrel
  have HG:Hid (gk=t.len - j):=hgk
  clear hgk
  have hjl:=q.st.rd.lt
  have hij:=q.le
  have HVL:Hid (vs.length≤6001):=by show vs.length≤6001;have:=HL.out;have:=h.good.few;omega
  obtain⟨ao3,cp3,rfl⟩:=q.shape
  have F:=q.f2
  cases hu:kindB t j 0 0 0
  ·have HU:=Hid_nx hu
   have hk0:((t.kind j:Int)==0)=false:=(kindB_eq hjl 0).symm.trans hu
   go_wp2_with fail
   refine q.lf (tokP ·) ?_
   clear q F
   intro w5 q
   have F:=q.f2
   go_wp2_with fail
   go_region_law (first|(refine q.as (sz w6) (Nat.le_trans HVL.out (by decide)) ?_;clear q F;intro w7 ao7 cp7 q;have F:=q.f2)|(replace q:=q.drew;go_simp;refine q.nd (fun hr=>moduleP hT hB hr) (fun w' p hk hw=>⟨rfl,.inr (q.thr hk (HW.out _ (HM.out.2 _ (WrL.here (by have k:=HU.out;unfold gProgB;exact Wr.snd ev_ok (Wr.snd ev_kind (Wr.yes (and_y rfl (not_n k)) (Wr.fst hw (fun _ _=>Sy.ret))))) HS.out))))⟩) ?_;clear q F;intro w6 x6 i6 y6 hl6 m6 q;have F:=q.f2))
   all_goals
    have MB:Hid (Ev (fun n=>gProgB t n V) ⟨j,0,0⟩ ((true,V++[y6]),⟨i6,0,0⟩)):=by
     show Ev _ _ _
     have k:=HU.out
     unfold gProgB
     exact Ev.bnd' ev_ok (Ev.bnd' ev_kind (Ev.yes (and_y rfl (not_n k)) (Ev.bnd' m6 Ev.ret')))
    clear m6 hu hk0
    have hl6:=hl6.out
    have hi6:=q.st.rd.lt
    replace q:=(q.p05 (.slice ao7 (vs.length+1) cp7)).up (g':=False) (fun x=>x.elim)
    go_wp2_with fail
    go_roundg (t.len - i6)
    case measure=>rw[HG.out];omega
    case rel=>exact⟨_,_,i6,_,rfl,(by show(vs++_).length≤i6;have:=HL.out;simp;omega),q,⟨fun r hr=>HM.out.1 r (EvL.on MB.out hr),fun p hp=>HM.out.2 p (WrL.on MB.out hp)⟩⟩
  ·have HU:=Hid_nx hu
   have hk0:((t.kind j:Int)==0)=true:=(kindB_eq hjl 0).symm.trans hu
   go_wp2_with fail
   refine q.lf (tokP ·) ?_
   clear q F
   intro w5 q
   have F:=q.f2
   go_wp2_with fail
   go_light
   exact Mf.rt (q.fo 0 (t.pos i) 0 0 ⟨#[]⟩ (Nat.le_trans HVL.out (by decide)) hposI) Tryz.results14 1 (HE.out _ (HM.out.1 _ (EvL.stop (by have k:=HU.out;unfold gProgB;exact Ev.bnd' ev_ok (Ev.bnd' ev_kind (Ev.no (and_r (not_y k)) Ev.ret'))))))
end Go.Proofs.YtdplogkmkgekdaaGreatDoor.Pj
