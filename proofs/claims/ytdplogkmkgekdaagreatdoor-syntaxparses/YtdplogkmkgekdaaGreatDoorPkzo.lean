/- The project's parser: paths as types, parameters of types and lifetimes. -/
import Derived.Test.YtdplogkmkgekdaaGreatDoorPkzw
import Derived.Test.YtdplogkmkgekdaaGreatDoorPkzm
import Derived.Test.YtdplogkmkgekdaaGreatDoorPll
set_option linter.all false
set_option maxRecDepth 100000
set_option maxHeartbeats 4000000
namespace Go.Proofs.YtdplogkmkgekdaaGreatDoor.Pj
open Go.RowKit
theorem Mf.wc {w W W':World} {rb tb i j:Nat} {cap:Cp} {t:Tk} {g:Prop} {L:List (Nat × Array Value)} {T:List (List Value)} {kv:Value} {vs:List (List Value)} {X V:List (List Nr)} (q:Mf w rb tb cap t i g W j L T kv vs X V) (e:W'=W):Mf w rb tb cap t i g W' j L T kv vs X V:=e▸q
theorem chain2 {N:Nat} {X:Tk→Nat→GP (List Nr)} {B:Tk→Nat→List Nr→GP (Bool × List Nr)} (hX:opRd 3 N X) (HB:∀t,ChainLike t 31 [⟨#[124,124]⟩] (X t) (B t)):opRd 2 N (fun t n=>bnd (X t n) (fun l=>loop (B t n) n l)):=by
 intro w rb tb i cap t h hN
 have HX:Hid (∀{w:World} {j:Nat},Rd w rb tb cap t j 0 0→t.len - j≤N→Calls Tryz.prog 160 #[.pointer (some ⟨rb,0,none⟩),.int .i64 3] w (NodeP w rb tb cap t j True (X t))):=fun h1 h2=>hX h1 h2
 have HBB:=Hid_nx (HB t)
 clear hX HB
 have hl:=h.l
 have hfd:=fld103_2
 have hfew:=h.good.few
 go_enter Tryz.func160,Tryz.ntmps160
 have q:=Mf.start h
 go_wp2_with fail
 refine(q.ne' (sz w) (zeroC)).nd (fun hr=>HX.out hr hN) (fun w' p hk hw=>⟨rfl,.inr ((q.ne' (sz w) (zeroC)).thr hk (Wr.fst hw (fun _ _=>Sy.loop (fun l=>HBB.out.sy _ l) _ _)))⟩) ?_
 clear q
 intro w1 x1 i1 y1 hl1 m1 q
 have F:=q.f1
 go_wp2_with fail
 refine(operator2 (q.ne' (sz w1) x1.a).st.rd).mono ?_
 rintro e w2 ⟨hb2,rfl⟩
 replace q:=(q.ne' (sz w1) x1.a).below hb2
 clear F hb2
 have F:=q.f2
 have HI1:Hid (i<i1):=hl1.out
 clear hl1
 go_wp2_with fail
 go_loopg [6,7] (t.len - i1) (fun g v ok wr=>∃(x:Nf) (y:List Nr) (j:Nat),g=t.len - j∧v=.int .i64 (opK t j 31 [⟨#[124,124]⟩])∧ok=.bool (opB t j [⟨#[124,124]⟩])∧Mf w rb tb cap t i True wr j [(sz w1,x.a),(sz w,zeroC)] [x.t] nl [] [y] []∧Hid ((∀r,EvL (B t) y ⟨j,0,0⟩ r→EvL (B t) y1 ⟨i1,0,0⟩ r)∧∀p,WrL (B t) y ⟨j,0,0⟩ p→WrL (B t) y1 ⟨i1,0,0⟩ p))
 case atStart=>exact⟨x1,y1,i1,rfl,rfl,rfl,q,⟨fun r h=>h,fun p h=>h⟩⟩
 case round=>
  clear F q
  obtain⟨x,y,j,hgk,rfl,rfl,q,HM⟩:=hrel
  have HG:Hid (gk=t.len - j):=hgk
  clear hgk
  have F:=q.f2
  cases hop:opB t j [⟨#[124,124]⟩]
  ·have HOP:=Hid_nx hop
   have hopk:=opK_no (K:=31) hop
   go_wp2_with fail
   go_light
   exact Mf.rt q Tryz.results160 1 (Ev.bnd' m1 (HM.out.1 _ (EvL.stop (HBB.out.c0 HOP.out))).ev)
  ·have HOP:=Hid_nx hop
   have hopk:=opK_yes (K:=31) hop
   have hposJ:(0:Int)≤(t.pos j:Int)∧(t.pos j:Int)≤7000:=by have:=h.good.posb j;omega
   have htx:=h.good.textb j
   have hjl:=q.st.rd.lt
   have hij:=q.go trivial
   have hj1:=(isB_lt h.good hjl (opB_yes hop).2.1).2
   go_wp2_with fail
   refine q.lf (nodeP · 31) ?_
   clear q F
   intro w3 q
   have F:=q.f2
   go_wp2_with fail
   refine(q.ne' (sz w3) (nk 31 (t.pos j) nl)).tak hj1 ?_
   clear q F
   intro w4 q
   have F:=q.f3
   go_wp2_with fail
   go_region_law (replace q:=q.drew;go_simp;refine q.nd (fun hr=>HX.out hr (by have:=hr.lt;omega)) (fun w' p hk hw=>⟨rfl,.inr (q.thr hk (Wr.snd m1 (HM.out.2 _ (WrL.here (HBB.out.c2 HOP.out hw) HBB.out.sy)).wr))⟩) ?_;clear q F;intro w5 x5 i5 y5 hl5 m5 q;have F:=q.f3)
   all_goals
    replace q:=(((q.swap).l2 (sz w5) 31 (t.pos j) 0 0 ⟨#[]⟩ hposJ (by decide)).p05 (sl (sz w5) 2))
    replace q:=(Mf.pA1 q 31 (t.pos j) 0 0 ⟨#[]⟩ (sl (sz w5) 2))
    go_wp2_with fail
    refine(operator2 (q.pop.wc ?we).st.rd).mono ?_
    case we=>simp[set11,World.setCell_alloc_past,F,Nat.lt_succ_of_lt]
    rintro e w6 ⟨hb6,rfl⟩
    replace q:=(q.pop.wc (by simp[set11,World.setCell_alloc_past,F,Nat.lt_succ_of_lt])).below hb6
    go_wp2_with fail
    have hi5:=q.st.rd.lt
    have hl6:=hl5.out
    go_roundg (t.len - i5)
    case measure=>rw[HG.out];omega
    case rel=>exact⟨⟨31,t.pos j,0,0,⟨#[]⟩,_,2,2⟩,_,i5,rfl,rfl,rfl,q,⟨fun r hr=>HM.out.1 r (EvL.on (HBB.out.c1 HOP.out m5) hr),fun p hp=>HM.out.2 p (WrL.on (HBB.out.c1 HOP.out m5) hp)⟩⟩
theorem chain3 {N:Nat} {X:Tk→Nat→GP (List Nr)} {B:Tk→Nat→List Nr→GP (Bool × List Nr)} (hX:opRd 4 N X) (HB:∀t,ChainLike t 30 [⟨#[38,38]⟩] (X t) (B t)):opRd 3 N (fun t n=>bnd (X t n) (fun l=>loop (B t n) n l)):=by
 intro w rb tb i cap t h hN
 have HX:Hid (∀{w:World} {j:Nat},Rd w rb tb cap t j 0 0→t.len - j≤N→Calls Tryz.prog 160 #[.pointer (some ⟨rb,0,none⟩),.int .i64 4] w (NodeP w rb tb cap t j True (X t))):=fun h1 h2=>hX h1 h2
 have HBB:=Hid_nx (HB t)
 clear hX HB
 have hl:=h.l
 have hfd:=fld103_2
 have hfew:=h.good.few
 go_enter Tryz.func160,Tryz.ntmps160
 have q:=Mf.start h
 go_wp2_with fail
 refine(q.ne' (sz w) (zeroC)).nd (fun hr=>HX.out hr hN) (fun w' p hk hw=>⟨rfl,.inr ((q.ne' (sz w) (zeroC)).thr hk (Wr.fst hw (fun _ _=>Sy.loop (fun l=>HBB.out.sy _ l) _ _)))⟩) ?_
 clear q
 intro w1 x1 i1 y1 hl1 m1 q
 have F:=q.f1
 go_wp2_with fail
 refine(operator3 (q.ne' (sz w1) x1.a).st.rd).mono ?_
 rintro e w2 ⟨hb2,rfl⟩
 replace q:=(q.ne' (sz w1) x1.a).below hb2
 clear F hb2
 have F:=q.f2
 have HI1:Hid (i<i1):=hl1.out
 clear hl1
 go_wp2_with fail
 go_loopg [6,7] (t.len - i1) (fun g v ok wr=>∃(x:Nf) (y:List Nr) (j:Nat),g=t.len - j∧v=.int .i64 (opK t j 30 [⟨#[38,38]⟩])∧ok=.bool (opB t j [⟨#[38,38]⟩])∧Mf w rb tb cap t i True wr j [(sz w1,x.a),(sz w,zeroC)] [x.t] nl [] [y] []∧Hid ((∀r,EvL (B t) y ⟨j,0,0⟩ r→EvL (B t) y1 ⟨i1,0,0⟩ r)∧∀p,WrL (B t) y ⟨j,0,0⟩ p→WrL (B t) y1 ⟨i1,0,0⟩ p))
 case atStart=>exact⟨x1,y1,i1,rfl,rfl,rfl,q,⟨fun r h=>h,fun p h=>h⟩⟩
 case round=>
  clear F q
  obtain⟨x,y,j,hgk,rfl,rfl,q,HM⟩:=hrel
  have HG:Hid (gk=t.len - j):=hgk
  clear hgk
  have F:=q.f2
  cases hop:opB t j [⟨#[38,38]⟩]
  ·have HOP:=Hid_nx hop
   have hopk:=opK_no (K:=30) hop
   go_wp2_with fail
   go_light
   exact Mf.rt q Tryz.results160 1 (Ev.bnd' m1 (HM.out.1 _ (EvL.stop (HBB.out.c0 HOP.out))).ev)
  ·have HOP:=Hid_nx hop
   have hopk:=opK_yes (K:=30) hop
   have hposJ:(0:Int)≤(t.pos j:Int)∧(t.pos j:Int)≤7000:=by have:=h.good.posb j;omega
   have htx:=h.good.textb j
   have hjl:=q.st.rd.lt
   have hij:=q.go trivial
   have hj1:=(isB_lt h.good hjl (opB_yes hop).2.1).2
   go_wp2_with fail
   refine q.lf (nodeP · 30) ?_
   clear q F
   intro w3 q
   have F:=q.f2
   go_wp2_with fail
   refine(q.ne' (sz w3) (nk 30 (t.pos j) nl)).tak hj1 ?_
   clear q F
   intro w4 q
   have F:=q.f3
   go_wp2_with fail
   go_region_law (replace q:=q.drew;go_simp;refine q.nd (fun hr=>HX.out hr (by have:=hr.lt;omega)) (fun w' p hk hw=>⟨rfl,.inr (q.thr hk (Wr.snd m1 (HM.out.2 _ (WrL.here (HBB.out.c2 HOP.out hw) HBB.out.sy)).wr))⟩) ?_;clear q F;intro w5 x5 i5 y5 hl5 m5 q;have F:=q.f3)
   all_goals
    replace q:=(((q.swap).l2 (sz w5) 30 (t.pos j) 0 0 ⟨#[]⟩ hposJ (by decide)).p05 (sl (sz w5) 2))
    replace q:=(Mf.pA1 q 30 (t.pos j) 0 0 ⟨#[]⟩ (sl (sz w5) 2))
    go_wp2_with fail
    refine(operator3 (q.pop.wc ?we).st.rd).mono ?_
    case we=>simp[set11,World.setCell_alloc_past,F,Nat.lt_succ_of_lt]
    rintro e w6 ⟨hb6,rfl⟩
    replace q:=(q.pop.wc (by simp[set11,World.setCell_alloc_past,F,Nat.lt_succ_of_lt])).below hb6
    go_wp2_with fail
    have hi5:=q.st.rd.lt
    have hl6:=hl5.out
    go_roundg (t.len - i5)
    case measure=>rw[HG.out];omega
    case rel=>exact⟨⟨30,t.pos j,0,0,⟨#[]⟩,_,2,2⟩,_,i5,rfl,rfl,rfl,q,⟨fun r hr=>HM.out.1 r (EvL.on (HBB.out.c1 HOP.out m5) hr),fun p hp=>HM.out.2 p (WrL.on (HBB.out.c1 HOP.out m5) hp)⟩⟩
theorem chain4 {N:Nat} {X:Tk→Nat→GP (List Nr)} {B:Tk→Nat→List Nr→GP (Bool × List Nr)} (hX:opRd 5 N X) (HB:∀t,ChainLike t 29 [⟨#[61,61]⟩,⟨#[33,61]⟩,⟨#[60,61]⟩,⟨#[62,61]⟩,⟨#[60]⟩,⟨#[62]⟩] (X t) (B t)):opRd 4 N (fun t n=>bnd (X t n) (fun l=>bnd (B t n l) (fun r=>ret r.2))):=by
 intro w rb tb i cap t h hN
 have HX:Hid (∀{w:World} {j:Nat},Rd w rb tb cap t j 0 0→t.len - j≤N→Calls Tryz.prog 160 #[.pointer (some ⟨rb,0,none⟩),.int .i64 5] w (NodeP w rb tb cap t j True (X t))):=fun h1 h2=>hX h1 h2
 have HBB:=Hid_nx (HB t)
 clear hX HB
 have hl:=h.l
 have hfd:=fld103_2
 have hfew:=h.good.few
 go_enter Tryz.func160,Tryz.ntmps160
 have q:=Mf.start h
 go_wp2_with fail
 refine(q.ne' (sz w) (zeroC)).nd (fun hr=>HX.out hr hN) (fun w' p hk hw=>⟨rfl,.inr ((q.ne' (sz w) (zeroC)).thr hk (Wr.fst hw (fun _ _=>Sy.bnd (HBB.out.sy _ _) (fun _=>Sy.ret))))⟩) ?_
 clear q
 intro w1 x1 i1 y1 hl1 m1 q
 have F:=q.f1
 go_wp2_with fail
 refine(operator4 (q.ne' (sz w1) x1.a).st.rd).mono ?_
 rintro e w2 ⟨hb2,rfl⟩
 replace q:=(q.ne' (sz w1) x1.a).below hb2
 clear F hb2
 have F:=q.f2
 have HI1:Hid (i<i1):=hl1.out
 clear hl1
 go_wp2_with fail
 go_loopg [6,7] (t.len - i1) (fun g v ok wr=>∃(x:Nf) (y:List Nr) (j:Nat),g=t.len - j∧v=.int .i64 (opK t j 29 [⟨#[61,61]⟩,⟨#[33,61]⟩,⟨#[60,61]⟩,⟨#[62,61]⟩,⟨#[60]⟩,⟨#[62]⟩])∧ok=.bool (opB t j [⟨#[61,61]⟩,⟨#[33,61]⟩,⟨#[60,61]⟩,⟨#[62,61]⟩,⟨#[60]⟩,⟨#[62]⟩])∧Mf w rb tb cap t i True wr j [(sz w1,x.a),(sz w,zeroC)] [x.t] nl [] [y] []∧Hid (j=i1∧y=y1))
 case atStart=>exact⟨x1,y1,i1,rfl,rfl,rfl,q,⟨rfl,rfl⟩⟩
 case round=>
  clear F q
  obtain⟨x,y,j,hgk,rfl,rfl,q,HM⟩:=hrel
  have HG:Hid (gk=t.len - j):=hgk
  clear hgk
  have F:=q.f2
  cases hop:opB t j [⟨#[61,61]⟩,⟨#[33,61]⟩,⟨#[60,61]⟩,⟨#[62,61]⟩,⟨#[60]⟩,⟨#[62]⟩]
  ·have HOP:=Hid_nx hop
   have hopk:=opK_no (K:=29) hop
   go_wp2_with fail
   go_light
   exact Mf.rt q Tryz.results160 1 (by obtain⟨e1,e2⟩:=HM.out;subst e1;subst e2;exact Ev.bnd' m1 (Ev.bnd' (HBB.out.c0 HOP.out) Ev.ret'))
  ·have HOP:=Hid_nx hop
   have hopk:=opK_yes (K:=29) hop
   have hposJ:(0:Int)≤(t.pos j:Int)∧(t.pos j:Int)≤7000:=by have:=h.good.posb j;omega
   have htx:=h.good.textb j
   have hjl:=q.st.rd.lt
   have hij:=q.go trivial
   have hj1:=(isB_lt h.good hjl (opB_yes hop).2.1).2
   go_wp2_with fail
   refine q.lf (nodeP · 29) ?_
   clear q F
   intro w3 q
   have F:=q.f2
   go_wp2_with fail
   refine(q.ne' (sz w3) (nk 29 (t.pos j) nl)).tak hj1 ?_
   clear q F
   intro w4 q
   have F:=q.f3
   go_wp2_with fail
   go_region_law (replace q:=(q.p04 (t.text j)).drew;go_simp;refine q.nd (fun hr=>HX.out hr (by have:=hr.lt;omega)) (fun w' p hk hw=>⟨rfl,.inr (q.thr hk (by obtain⟨e1,e2⟩:=HM.out;subst e1;subst e2;exact Wr.snd m1 (Wr.fst (HBB.out.c2 HOP.out hw) (fun _ _=>Sy.ret))))⟩) ?_;clear q F;intro w5 x5 i5 y5 hl5 m5 q;have F:=q.f3)
   all_goals
    replace q:=(((q.swap).l2 (sz w5) 29 (t.pos j) 0 0 (t.text j) hposJ (by omega)).p05 (sl (sz w5) 2))
    replace q:=(Mf.pA1 q 29 (t.pos j) 0 0 (t.text j) (sl (sz w5) 2))
    go_wp2_with fail
    go_light
    refine Mf.rt q Tryz.results160 2 (by obtain⟨e1,e2⟩:=HM.out;subst e1;subst e2;exact Ev.bnd' m1 (Ev.bnd' (HBB.out.c1 HOP.out m5) Ev.ret')) ?_
    simp[set11,World.setCell_alloc_past,F,Nat.lt_succ_of_lt]
theorem chain5 {N:Nat} {X:Tk→Nat→GP (List Nr)} {B:Tk→Nat→List Nr→GP (Bool × List Nr)} (hX:opRd 6 N X) (HB:∀t,ChainLike t 29 [⟨#[43]⟩,⟨#[45]⟩] (X t) (B t)):opRd 5 N (fun t n=>bnd (X t n) (fun l=>loop (B t n) n l)):=by
 intro w rb tb i cap t h hN
 have HX:Hid (∀{w:World} {j:Nat},Rd w rb tb cap t j 0 0→t.len - j≤N→Calls Tryz.prog 160 #[.pointer (some ⟨rb,0,none⟩),.int .i64 6] w (NodeP w rb tb cap t j True (X t))):=fun h1 h2=>hX h1 h2
 have HBB:=Hid_nx (HB t)
 clear hX HB
 have hl:=h.l
 have hfd:=fld103_2
 have hfew:=h.good.few
 go_enter Tryz.func160,Tryz.ntmps160
 have q:=Mf.start h
 go_wp2_with fail
 refine(q.ne' (sz w) (zeroC)).nd (fun hr=>HX.out hr hN) (fun w' p hk hw=>⟨rfl,.inr ((q.ne' (sz w) (zeroC)).thr hk (Wr.fst hw (fun _ _=>Sy.loop (fun l=>HBB.out.sy _ l) _ _)))⟩) ?_
 clear q
 intro w1 x1 i1 y1 hl1 m1 q
 have F:=q.f1
 go_wp2_with fail
 refine(operator5 (q.ne' (sz w1) x1.a).st.rd).mono ?_
 rintro e w2 ⟨hb2,rfl⟩
 replace q:=(q.ne' (sz w1) x1.a).below hb2
 clear F hb2
 have F:=q.f2
 have HI1:Hid (i<i1):=hl1.out
 clear hl1
 go_wp2_with fail
 go_loopg [6,7] (t.len - i1) (fun g v ok wr=>∃(x:Nf) (y:List Nr) (j:Nat),g=t.len - j∧v=.int .i64 (opK t j 29 [⟨#[43]⟩,⟨#[45]⟩])∧ok=.bool (opB t j [⟨#[43]⟩,⟨#[45]⟩])∧Mf w rb tb cap t i True wr j [(sz w1,x.a),(sz w,zeroC)] [x.t] nl [] [y] []∧Hid ((∀r,EvL (B t) y ⟨j,0,0⟩ r→EvL (B t) y1 ⟨i1,0,0⟩ r)∧∀p,WrL (B t) y ⟨j,0,0⟩ p→WrL (B t) y1 ⟨i1,0,0⟩ p))
 case atStart=>exact⟨x1,y1,i1,rfl,rfl,rfl,q,⟨fun r h=>h,fun p h=>h⟩⟩
 case round=>
  clear F q
  obtain⟨x,y,j,hgk,rfl,rfl,q,HM⟩:=hrel
  have HG:Hid (gk=t.len - j):=hgk
  clear hgk
  have F:=q.f2
  cases hop:opB t j [⟨#[43]⟩,⟨#[45]⟩]
  ·have HOP:=Hid_nx hop
   have hopk:=opK_no (K:=29) hop
   go_wp2_with fail
   go_light
   exact Mf.rt q Tryz.results160 1 (Ev.bnd' m1 (HM.out.1 _ (EvL.stop (HBB.out.c0 HOP.out))).ev)
  ·have HOP:=Hid_nx hop
   have hopk:=opK_yes (K:=29) hop
   have hposJ:(0:Int)≤(t.pos j:Int)∧(t.pos j:Int)≤7000:=by have:=h.good.posb j;omega
   have htx:=h.good.textb j
   have hjl:=q.st.rd.lt
   have hij:=q.go trivial
   have hj1:=(isB_lt h.good hjl (opB_yes hop).2.1).2
   go_wp2_with fail
   refine q.lf (nodeP · 29) ?_
   clear q F
   intro w3 q
   have F:=q.f2
   go_wp2_with fail
   refine(q.ne' (sz w3) (nk 29 (t.pos j) nl)).tak hj1 ?_
   clear q F
   intro w4 q
   have F:=q.f3
   go_wp2_with fail
   go_region_law (replace q:=(q.p04 (t.text j)).drew;go_simp;refine q.nd (fun hr=>HX.out hr (by have:=hr.lt;omega)) (fun w' p hk hw=>⟨rfl,.inr (q.thr hk (Wr.snd m1 (HM.out.2 _ (WrL.here (HBB.out.c2 HOP.out hw) HBB.out.sy)).wr))⟩) ?_;clear q F;intro w5 x5 i5 y5 hl5 m5 q;have F:=q.f3)
   all_goals
    replace q:=(((q.swap).l2 (sz w5) 29 (t.pos j) 0 0 (t.text j) hposJ (by omega)).p05 (sl (sz w5) 2))
    replace q:=(Mf.pA1 q 29 (t.pos j) 0 0 (t.text j) (sl (sz w5) 2))
    go_wp2_with fail
    refine(operator5 (q.pop.wc ?we).st.rd).mono ?_
    case we=>simp[set11,World.setCell_alloc_past,F,Nat.lt_succ_of_lt]
    rintro e w6 ⟨hb6,rfl⟩
    replace q:=(q.pop.wc (by simp[set11,World.setCell_alloc_past,F,Nat.lt_succ_of_lt])).below hb6
    go_wp2_with fail
    have hi5:=q.st.rd.lt
    have hl6:=hl5.out
    go_roundg (t.len - i5)
    case measure=>rw[HG.out];omega
    case rel=>exact⟨⟨29,t.pos j,0,0,(t.text j),_,2,2⟩,_,i5,rfl,rfl,rfl,q,⟨fun r hr=>HM.out.1 r (EvL.on (HBB.out.c1 HOP.out m5) hr),fun p hp=>HM.out.2 p (WrL.on (HBB.out.c1 HOP.out m5) hp)⟩⟩
theorem chain6 {N:Nat} {X:Tk→Nat→GP (List Nr)} {B:Tk→Nat→List Nr→GP (Bool × List Nr)} (hX:opRd 7 N X) (HB:∀t,ChainLike t 29 [⟨#[42]⟩,⟨#[47]⟩,⟨#[37]⟩] (X t) (B t)):opRd 6 N (fun t n=>bnd (X t n) (fun l=>loop (B t n) n l)):=by
 intro w rb tb i cap t h hN
 have HX:Hid (∀{w:World} {j:Nat},Rd w rb tb cap t j 0 0→t.len - j≤N→Calls Tryz.prog 160 #[.pointer (some ⟨rb,0,none⟩),.int .i64 7] w (NodeP w rb tb cap t j True (X t))):=fun h1 h2=>hX h1 h2
 have HBB:=Hid_nx (HB t)
 clear hX HB
 have hl:=h.l
 have hfd:=fld103_2
 have hfew:=h.good.few
 go_enter Tryz.func160,Tryz.ntmps160
 have q:=Mf.start h
 go_wp2_with fail
 refine(q.ne' (sz w) (zeroC)).nd (fun hr=>HX.out hr hN) (fun w' p hk hw=>⟨rfl,.inr ((q.ne' (sz w) (zeroC)).thr hk (Wr.fst hw (fun _ _=>Sy.loop (fun l=>HBB.out.sy _ l) _ _)))⟩) ?_
 clear q
 intro w1 x1 i1 y1 hl1 m1 q
 have F:=q.f1
 go_wp2_with fail
 refine(operator6 (q.ne' (sz w1) x1.a).st.rd).mono ?_
 rintro e w2 ⟨hb2,rfl⟩
 replace q:=(q.ne' (sz w1) x1.a).below hb2
 clear F hb2
 have F:=q.f2
 have HI1:Hid (i<i1):=hl1.out
 clear hl1
 go_wp2_with fail
 go_loopg [6,7] (t.len - i1) (fun g v ok wr=>∃(x:Nf) (y:List Nr) (j:Nat),g=t.len - j∧v=.int .i64 (opK t j 29 [⟨#[42]⟩,⟨#[47]⟩,⟨#[37]⟩])∧ok=.bool (opB t j [⟨#[42]⟩,⟨#[47]⟩,⟨#[37]⟩])∧Mf w rb tb cap t i True wr j [(sz w1,x.a),(sz w,zeroC)] [x.t] nl [] [y] []∧Hid ((∀r,EvL (B t) y ⟨j,0,0⟩ r→EvL (B t) y1 ⟨i1,0,0⟩ r)∧∀p,WrL (B t) y ⟨j,0,0⟩ p→WrL (B t) y1 ⟨i1,0,0⟩ p))
 case atStart=>exact⟨x1,y1,i1,rfl,rfl,rfl,q,⟨fun r h=>h,fun p h=>h⟩⟩
 case round=>
  clear F q
  obtain⟨x,y,j,hgk,rfl,rfl,q,HM⟩:=hrel
  have HG:Hid (gk=t.len - j):=hgk
  clear hgk
  have F:=q.f2
  cases hop:opB t j [⟨#[42]⟩,⟨#[47]⟩,⟨#[37]⟩]
  ·have HOP:=Hid_nx hop
   have hopk:=opK_no (K:=29) hop
   go_wp2_with fail
   go_light
   exact Mf.rt q Tryz.results160 1 (Ev.bnd' m1 (HM.out.1 _ (EvL.stop (HBB.out.c0 HOP.out))).ev)
  ·have HOP:=Hid_nx hop
   have hopk:=opK_yes (K:=29) hop
   have hposJ:(0:Int)≤(t.pos j:Int)∧(t.pos j:Int)≤7000:=by have:=h.good.posb j;omega
   have htx:=h.good.textb j
   have hjl:=q.st.rd.lt
   have hij:=q.go trivial
   have hj1:=(isB_lt h.good hjl (opB_yes hop).2.1).2
   go_wp2_with fail
   refine q.lf (nodeP · 29) ?_
   clear q F
   intro w3 q
   have F:=q.f2
   go_wp2_with fail
   refine(q.ne' (sz w3) (nk 29 (t.pos j) nl)).tak hj1 ?_
   clear q F
   intro w4 q
   have F:=q.f3
   go_wp2_with fail
   go_region_law (replace q:=(q.p04 (t.text j)).drew;go_simp;refine q.nd (fun hr=>HX.out hr (by have:=hr.lt;omega)) (fun w' p hk hw=>⟨rfl,.inr (q.thr hk (Wr.snd m1 (HM.out.2 _ (WrL.here (HBB.out.c2 HOP.out hw) HBB.out.sy)).wr))⟩) ?_;clear q F;intro w5 x5 i5 y5 hl5 m5 q;have F:=q.f3)
   all_goals
    replace q:=(((q.swap).l2 (sz w5) 29 (t.pos j) 0 0 (t.text j) hposJ (by omega)).p05 (sl (sz w5) 2))
    replace q:=(Mf.pA1 q 29 (t.pos j) 0 0 (t.text j) (sl (sz w5) 2))
    go_wp2_with fail
    refine(operator6 (q.pop.wc ?we).st.rd).mono ?_
    case we=>simp[set11,World.setCell_alloc_past,F,Nat.lt_succ_of_lt]
    rintro e w6 ⟨hb6,rfl⟩
    replace q:=(q.pop.wc (by simp[set11,World.setCell_alloc_past,F,Nat.lt_succ_of_lt])).below hb6
    go_wp2_with fail
    have hi5:=q.st.rd.lt
    have hl6:=hl5.out
    go_roundg (t.len - i5)
    case measure=>rw[HG.out];omega
    case rel=>exact⟨⟨29,t.pos j,0,0,(t.text j),_,2,2⟩,_,i5,rfl,rfl,rfl,q,⟨fun r hr=>HM.out.1 r (EvL.on (HBB.out.c1 HOP.out m5) hr),fun p hp=>HM.out.2 p (WrL.on (HBB.out.c1 HOP.out m5) hp)⟩⟩
theorem chain7 {N:Nat} (hU:rdP 201 N (fun t n=>gG t n 2)):opRd 7 N (fun t n=>gG t n 2):=by
 intro w rb tb i cap t h hN
 have hl:=h.l
 go_enter Tryz.func160,Tryz.ntmps160
 have q:=Mf.start h
 go_wp2_with fail
 refine(q.ne' (sz w) (zeroC)).nd (fun hr=>hU hr hN) (fun w' p hk hw=>⟨rfl,.inr ((q.ne' (sz w) (zeroC)).thr hk hw)⟩) ?_
 clear q
 intro w1 x1 i1 y1 hl1 m1 q
 have F:=q.f1
 go_wp2_with fail
 go_light
 exact Mf.rt q Tryz.results160 0 m1
end Go.Proofs.YtdplogkmkgekdaaGreatDoor.Pj
namespace Go.Proofs.YtdplogkmkgekdaaGreatDoor.Pj
open Go.RowKit
theorem Mf.lS {w W W1:World} {rb tb i j lb:Nat} {cap:Cp} {t:Tk} {g:Prop} {L:List (Nat × Array Value)} {T:List (List Value)} {X V:List (List Nr)} {f:Nat} {args:Array Value} {Q:Ending→World→Prop} {ml:Nat→GP (List (List Nr))} (q:Mf w rb tb cap t i g W j L T nl [] X V) (hb:Below W.heap.size W W1) (hlb:W.heap.size≤lb) (h:Calls Tryz.prog f args W1 fun e w'=>∃β,ListP (lfW W1 lb β) rb tb cap t j True ml e w') (KB:∀w' p,Kp W.heap.size rb W w'→Wr ml ⟨j,0,0⟩ (p:Nat)→Q (throwE p) w') (K:∀w' ao cp vs' i' F,Hid (j<i'∧vs'.length≤i' - j)→Ev ml ⟨j,0,0⟩ (F,⟨i',0,0⟩)→Mf w rb tb cap t i True w' i' L T (.slice ao vs'.length cp) vs' X F→Q (.returned (.slice ao vs'.length cp)) w'):Calls Tryz.prog f args W1 Q:=h.mono fun e w' p=>by
 obtain⟨β,p⟩:=p
 have hb2:Below W.heap.size W (lfW W1 lb β):=hb.setCell (p:=⟨lb,3,none⟩) hlb _
 have q2:=q.below hb2
 rcases p with⟨ao,cp,vs',i',rfl,hx,hK,hl,F,hF,hm⟩|⟨p,rfl,hk,hw⟩
 ·exact K w' ao cp vs' i' F ⟨hx.go trivial rfl,hl⟩ hm ((q2.list hx hK hF).up (fun _=>Nat.lt_of_le_of_lt q2.le (hx.go trivial rfl)))
 ·exact KB w' p ((Kp.of_below hb2).trans (hk.mono hb2.size)) hw
theorem leafR {w w':World} {rb tb i i':Nat} {cap:Cp} {t:Tk} {must:Prop} {ki po n m:Int} {na:ByteArray} {mm:Nat→GP (List Nr)} (h:Rd w rb tb cap t i 0 0) (hx:Nx w rb tb cap t i 0 must w' i' 0 0) (hp:0≤po∧po≤7000) (hn:na.size≤20000) (hm:Ev mm ⟨i,0,0⟩ (nd ki po n m na [],⟨i',0,0⟩)):NodeR w rb tb cap t i must mm (.returned (.agg (nodeC ki po n m na nl))) w':=by
 have q:=((Mf.start h).nx hx).lk ki po n m na hp hn
 obtain⟨h,ha⟩:=q.z.all
 exact⟨ki,po,n,m,na,none,0,0,i',rfl,hx,⟨h,isNode.weaken (fun b hb=>hb.1) (fun x=>x) _ _ (ha _ (.inr (List.mem_cons_self ..)))⟩,_,q.fT,hm⟩
def gPathT (t:Tk) (T:GP (List Nr)) (p:Int) (fu:Nat):GP (List Nr):=bnd (gPath t fu 2) (fun s=>bnd (gEat t ⟨#[60]⟩) (fun b0=>cond b0 (bnd (gArgs t T fu) (fun ks=>ret (nd 18 p 0 0 s ks))) (ret (nd 18 p 0 0 s []))))
theorem pathTypeP {N:Nat} (hT:rdP 70 N (fun t n=>gG t n 0)) {w:World} {rb tb i:Nat} {cap:Cp} {t:Tk} (h:Rd w rb tb cap t i 0 0) (hN:t.len - i≤N+1):
 Calls Tryz.prog 150 #[.pointer (some ⟨rb,0,none⟩)] w (NodeP w rb tb cap t i True (fun n=>gPathT t (gG t n 0) (t.pos i) n)):=by
 have hl:=h.l
 have hposI:(0:Int)≤(t.pos i:Int)∧(t.pos i:Int)≤7000:=by have:=h.good.posb i;omega
 go_enter Tryz.func150,Tryz.ntmps150
 have q:=Mf.start h
 go_wp2_with fail
 refine(q.ne' (sz w) (zeroC)).lf (nodeP · 18) ?_
 clear q
 intro w1 q
 have F:=q.f1
 go_wp2_with fail
 refine(q.ne' (sz w1) (nk 18 (t.pos i) nl)).nm (pathP2 · 2 (by decide) (by decide)) (fun w' p hk hw=>⟨rfl,.inr ((q.ne' (sz w1) (nk 18 (t.pos i) nl)).thr hk (by unfold gPathT;exact wrt))⟩) ?_
 clear q F
 intro w2 s2 i2 hs2 hl2 m2 q
 have F:=q.f2
 go_wp2_with fail
 refine(q.p04 s2).et (skipP · _ (ask)) ?_
 clear q F
 intro w3 b3 i3 hE3 m3 q
 have F:=q.f2
 go_wp2_with fail
 ·go_wp2_with fail
  refine(someP _).mono ?_
  rintro e wS ⟨rfl,hbS⟩
  have hbT:Below w3.heap.size w3 wS:=((Below.refl _ _).alloc (Nat.le_refl _) _).trans (hbS.mono (by simp))
  have h0S:=(hbS.block (sz w3) (by simp)).trans (heap_alloc_new w3 _)
  have hrdS:=(q.below hbT).st.rd
  have hrS:rb<sz w3:=by have:=hrdS.l;have:=q.st.rd.l;omega
  go_wp2_with fail
  refine q.lS hbT (Nat.le_refl _) (listS hrdS h0S hrS ein196 (fun F j h=>(args_run (fun n=>gG_st _ _ _) h).1 F j rfl) (fun p h=>(args_run (fun n=>gG_st _ _ _) h).2 p rfl) (fun{w' j β} hr' hj hb'=>lifesReadP hr' hb' hrS ein195 ein70 (fun _ {w''} hr''=>by simpa using lifeP hr'') (fun{w''} hr''=>by have h1:=hr''.lt;have h2:=q.go trivial;simpa using hT hr'' (by omega)))) (fun w' p hk hw=>⟨rfl,.inr (q.thr hk (by unfold gPathT;exact wrt))⟩) ?_
  clear q F hbS hbT h0S hrdS
  intro w5 ao6 cp6 vs6 i6 V6 hl6 m6 q
  have F:=q.f2
  have hl7:vs6.length≤6001:=by have:=hl6.out.2;have:=q.st.rd.lt;have:=h.good.few;omega
  go_wp2_with fail
  go_light
  exact Mf.rt ((q.p05 (.slice ao6 vs6.length cp6)).fo 18 (t.pos i) 0 0 s2 (by omega) hposI hs2) Tryz.results150 1 (by unfold gPathT;exact evt)
 ·go_wp2_with fail
  go_light
  exact Mf.rt (q.lk 18 (t.pos i) 0 0 s2 hposI hs2) Tryz.results150 1 (by unfold gPathT;exact evt)
def gGens2 (t:Tk) (b:Bool) (fu:Nat):GP (List Nr):=bnd (gAt t) (fun p=>bnd (gEat t ⟨#[60]⟩) (fun b0=>cond b0 (bnd (bnd (loop (gGensB t b fu) fu ([],false)) (fun r=>ret r.1)) (fun ks=>ret (nd 9 p 0 0 E0 ks))) (ret (nd 9 p 0 0 E0 []))))
theorem gGens_is {t:Tk} {b:Bool} {fu:Nat}:gGens t b fu=gGens2 t b fu:=by
 unfold gGens gGens2 gGensB
 simp only[bnd_assoc,ret_bnd]
theorem gensP {w:World} {rb tb i:Nat} {cap:Cp} {t:Tk} (h:Rd w rb tb cap t i 0 0) {kM kO:Nat} {fiM caM fiO caO:Array Value} {b:Bool} (hiM:Ein kM) (hiO:Ein kO) (HM:∀{w' j},Rd w' rb tb cap t j 0 0→kindB t j 0 0 4=true→Calls Tryz.prog kM (fiM++caM) w' (NodeP w' rb tb cap t j True (fun n=>gGenM t b n))) (HO:∀{w' j},Rd w' rb tb cap t j 0 0→Calls Tryz.prog kO (fiO++caO) w' (NodeP w' rb tb cap t j True (fun n=>gGenO t b n))):
 Calls Tryz.prog 187 #[.pointer (some ⟨rb,0,none⟩),.func (.func kM) fiM caM,.func (.func kO) fiO caO] w (NodeP w rb tb cap t i False (fun n=>gGens t b n)):=by
 have hl:=h.l
 have hposI:(0:Int)≤(t.pos i:Int)∧(t.pos i:Int)≤7000:=by have:=h.good.posb i;omega
 have HHM:Hid (∀{w' j},Rd w' rb tb cap t j 0 0→kindB t j 0 0 4=true→Calls Tryz.prog kM (fiM++caM) w' (NodeP w' rb tb cap t j True (fun n=>gGenM t b n))):=HM
 have HHO:Hid (∀{w' j},Rd w' rb tb cap t j 0 0→Calls Tryz.prog kO (fiO++caO) w' (NodeP w' rb tb cap t j True (fun n=>gGenO t b n))):=HO
 have HIM:=Hid_nx hiM
 have HIO:=Hid_nx hiO
 clear HM HO hiM hiO
 go_enter Tryz.func187,Tryz.ntmps187
 have q:=Mf.start h
 go_wp2_with fail
 refine(q.ne' (sz w) (zeroC)).lf (nodeP · 9) ?_
 clear q
 intro w1 q
 have F:=q.f1
 go_wp2_with fail
 refine(q.ne' (sz w1) (nk 9 (t.pos i) nl)).et (skipP · _ (ask)) ?_
 clear q F
 intro w2 b3 i3 hE3 m3 q
 have F:=q.f2
 go_wp2_with fail
 ·go_wp2_with fail
  refine(someP _).mono ?_
  rintro e wS ⟨rfl,hbS⟩
  have hbT:Below w2.heap.size w2 wS:=((Below.refl _ _).alloc (Nat.le_refl _) _).trans (hbS.mono (by simp))
  have h0S:=(hbS.block (sz w2) (by simp)).trans (heap_alloc_new w2 _)
  have hrdS:=(q.below hbT).st.rd
  have hrS:rb<sz w2:=by have:=hrdS.l;have:=q.st.rd.l;omega
  go_wp2_with fail
  refine q.lS hbT (Nat.le_refl _) (listS hrdS h0S hrS ein196 (fun F j h=>(gens_run h).1 F j rfl) (fun p h=>(gens_run h).2 p rfl) (fun{w' j β} hr' hj hb'=>lifesReadP hr' hb' hrS HIM.out HIO.out (fun hb {w''} hr''=>HHM.out hr'' hb) (fun{w''} hr''=>HHO.out hr''))) (fun w' p hk hw=>⟨rfl,.inr (q.thr hk (by simp only[gGens_is];unfold gGens2;exact wrt))⟩) ?_
  clear q F hbS hbT h0S hrdS
  intro w4 ao6 cp6 vs6 i6 V6 hl6 m6 q
  have F:=q.f2
  have hl7:vs6.length≤6001:=by have:=hl6.out.2;have:=q.st.rd.lt;have:=h.good.few;omega
  go_wp2_with fail
  go_light
  exact Mf.rt (((q.p05 (.slice ao6 vs6.length cp6)).up (g':=False) (fun x=>x.elim)).fo 9 (t.pos i) 0 0 ⟨#[]⟩ (by omega) hposI) Tryz.results187 1 (by simp only[gGens_is];unfold gGens2;exact evt)
 ·go_wp2_with fail
  go_light
  exact Mf.rt (q.lk 9 (t.pos i) 0 0 ⟨#[]⟩ hposI) Tryz.results187 1 (by simp only[gGens_is];unfold gGens2;exact evt)
theorem lifeGenN {w:World} {rb tb i:Nat} {cap:Cp} {t:Tk} (h:Rd w rb tb cap t i 0 0):Calls Tryz.prog 188 #[.pointer (some ⟨rb,0,none⟩)] w (NodeP w rb tb cap t i True (fun n=>gGenM t false n)):=
 (lifeGenP h).mono fun e w' p=>by
  rcases p with⟨rfl,hx,hb⟩|⟨rfl,hk,hb⟩
  ·exact .inl (leafR h hx (by have:=h.good.posb i;omega) (by have:=h.good.textb i;omega) (Ev.bnd' ev_at (Ev.bnd' (lifeName_ev hb) (Ev.bnd' Ev.ret' Ev.ret'))))
  ·exact .inr ⟨_,rfl,hk,Wr.snd ev_at (Wr.fst (lifeName_wr hb) (fun _ _=>syt))⟩
theorem typeGenN {w:World} {rb tb i:Nat} {cap:Cp} {t:Tk} (h:Rd w rb tb cap t i 0 0):Calls Tryz.prog 189 #[.pointer (some ⟨rb,0,none⟩)] w (NodeP w rb tb cap t i True (fun n=>gGenO t false n)):=
 (typeGenP h).mono fun e w' p=>by
  rcases p with⟨s,i',rfl,hs,hx,hm⟩|⟨p,rfl,hk,hw⟩
  ·exact .inl (leafR h hx (by have:=h.good.posb i;omega) hs (Ev.bnd' ev_at (Ev.bnd' hm (Ev.bnd' Ev.ret' Ev.ret'))))
  ·exact .inr ⟨_,rfl,hk,Wr.snd ev_at (Wr.fst hw (fun _ _=>syt))⟩
theorem boundLifeN {w:World} {rb tb i:Nat} {cap:Cp} {t:Tk} (h:Rd w rb tb cap t i 0 0):Calls Tryz.prog 193 #[.pointer (some ⟨rb,0,none⟩)] w (NodeP w rb tb cap t i True (fun n=>gGenM t true n)):=boundLifeGenP h
theorem boundTypeN {w:World} {rb tb i:Nat} {cap:Cp} {t:Tk} (h:Rd w rb tb cap t i 0 0):Calls Tryz.prog 194 #[.pointer (some ⟨rb,0,none⟩)] w (NodeP w rb tb cap t i True (fun n=>gGenO t true n)):=boundTypeGenP h
theorem ein188:Ein 188:=ein_of (f:=188) (fn:=Tryz.f188) (by kernel_rfl) (by kernel_rfl) rfl
theorem ein189:Ein 189:=ein_of (f:=189) (fn:=Tryz.f189) (by kernel_rfl) (by kernel_rfl) rfl
theorem ein193:Ein 193:=ein_of (f:=193) (fn:=Tryz.f193) (by kernel_rfl) (by kernel_rfl) rfl
theorem ein194:Ein 194:=ein_of (f:=194) (fn:=Tryz.f194) (by kernel_rfl) (by kernel_rfl) rfl
theorem plainGensP {w:World} {rb tb i:Nat} {cap:Cp} {t:Tk} (h:Rd w rb tb cap t i 0 0):
 Calls Tryz.prog 135 #[.pointer (some ⟨rb,0,none⟩)] w (NodeP w rb tb cap t i False (fun n=>gGens t false n)):=by
 have hl:=h.l
 have hposI:(0:Int)≤(t.pos i:Int)∧(t.pos i:Int)≤7000:=by have:=h.good.posb i;omega
 go_enter Tryz.func135,Tryz.ntmps135
 have q:=Mf.start h
 go_wp2_with fail
 refine(q.ne' (sz w) (zeroC)).nn (fun hr=>gensP hr (b:=false) (fiM:=#[.pointer (some ⟨rb,0,none⟩)]) (caM:=#[]) (fiO:=#[.pointer (some ⟨rb,0,none⟩)]) (caO:=#[]) ein188 ein189 (fun{w' j} hr' hb=>by simpa using lifeGenN hr') (fun{w' j} hr'=>by simpa using typeGenN hr')) (fun w' p hk hw=>⟨rfl,.inr ((q.ne' (sz w) (zeroC)).thr hk (hw))⟩) ?_
 clear q
 intro w1 x1 i1 y1 hl1 m1 q
 have F:=q.f1
 go_wp2_with fail
 go_light
 exact Mf.rt (q) Tryz.results135 0 (m1)
theorem boundGensP {w:World} {rb tb i:Nat} {cap:Cp} {t:Tk} (h:Rd w rb tb cap t i 0 0):
 Calls Tryz.prog 143 #[.pointer (some ⟨rb,0,none⟩)] w (NodeP w rb tb cap t i False (fun n=>gGens t true n)):=by
 have hl:=h.l
 have hposI:(0:Int)≤(t.pos i:Int)∧(t.pos i:Int)≤7000:=by have:=h.good.posb i;omega
 go_enter Tryz.func143,Tryz.ntmps143
 have q:=Mf.start h
 go_wp2_with fail
 refine(q.ne' (sz w) (zeroC)).nn (fun hr=>gensP hr (b:=true) (fiM:=#[.pointer (some ⟨rb,0,none⟩)]) (caM:=#[]) (fiO:=#[.pointer (some ⟨rb,0,none⟩)]) (caO:=#[]) ein193 ein194 (fun{w' j} hr' hb=>by simpa using boundLifeN hr') (fun{w' j} hr'=>by simpa using boundTypeN hr')) (fun w' p hk hw=>⟨rfl,.inr ((q.ne' (sz w) (zeroC)).thr hk (hw))⟩) ?_
 clear q
 intro w1 x1 i1 y1 hl1 m1 q
 have F:=q.f1
 go_wp2_with fail
 go_light
 exact Mf.rt (q) Tryz.results143 0 (m1)
end Go.Proofs.YtdplogkmkgekdaaGreatDoor.Pj
