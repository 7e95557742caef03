/- The project's parser: closures. -/
import Derived.Test.YtdplogkmkgekdaaGreatDoorPkzre
import Derived.Test.YtdplogkmkgekdaaGreatDoorLxm
import Derived.Test.YtdplogkmkgekdaaGreatDoorPkzo
set_option linter.all false
set_option maxRecDepth 100000
set_option maxHeartbeats 4000000
namespace Go.Proofs.YtdplogkmkgekdaaGreatDoor.Pj
open Go.RowKit
theorem contains_path {s:ByteArray} (h:pathOK 3 s):Lib.contains s.data.toList [58,58]=s.toList.contains 58:=by
 obtain⟨ns,a1,a2,a3,a4⟩:=h
 have e1:s.toList=s.data.toList:=ByteArray.toList_eq s
 rw[e1] at a4⊢
 unfold Lib.contains
 rcases Lib.index_spec s.data.toList [58,58] with⟨hi,hn⟩|⟨i,hi,hle,ho,_⟩
 ·rw[hi]
  have key:∀x m r,ns=x::m::r→False:=by
   rintro x m r rfl
   have e2:s.data.toList=x++58::58::joinP (m::r):=a4
   have h1:=hn x.length (by rw[e2];simp)
   unfold Lib.occAt at h1
   rw[e2] at h1
   simp at h1
  match ns,a1,a3,a4,key with
  |[],a1,_,_,_=>exact absurd rfl a1
  |[n],_,a3,a4,_=>
   have h2:=(a3 n (by simp)).2
   have e2:s.data.toList=n:=a4
   rw[e2]
   simpa using h2
  |x::m::r,_,_,_,key=>exact(key x m r rfl).elim
 ·rw[hi]
  unfold Lib.occAt at ho
  have h1:(58:UInt8)∈s.data.toList:=by
   cases hd:s.data.toList.drop i with
   |nil=>rw[hd] at ho;simp at ho
   |cons y l=>
    rw[hd] at ho
    simp at ho
    have:y∈s.data.toList.drop i:=by rw[hd];simp
    rw[←ho.1] at this
    exact List.mem_of_mem_drop this
  have h2:s.data.toList.contains 58=true:=by simpa using h1
  rw[h2]
  simp
theorem containsP {w:World} {rb tb i:Nat} {cap:Cp} {t:Tk} (h:Rd w rb tb cap t i 0 0) {s:ByteArray} (hs:s.size≤20000) (ho:pathOK 3 s):Calls Tryz.prog 203 #[.string s,.string ⟨#[58,58]⟩] w fun e w'=>e=.returned (.bool (s.toList.contains 58))∧Below w.heap.size w w':=by
 obtain⟨m,hm⟩:=h.g0.ml
 refine(Tryz.strings_Contains s ⟨#[58,58]⟩ m w (by omega) hm).mono ?_
 rintro e w' ⟨rfl,rfl⟩
 exact⟨by rw[←contains_path ho],Below.refl _ _⟩
theorem Mf.np {w W:World} {rb tb i j:Nat} {cap:Cp} {t:Tk} {g:Prop} {L:List (Nat × Array Value)} {T:List (List Value)} {kv:Value} {vs:List (List Value)} {X V:List (List Nr)} {f:Nat} {args:Array Value} {Q:Ending→World→Prop} {ms:Nat→GP ByteArray} {B most:Nat} (q:Mf w rb tb cap t i g W j L T kv vs X V) (h:Rd W rb tb cap t j 0 0→Calls Tryz.prog f args W fun e w'=>(∃x i',e=.returned (.string x)∧x.size≤B∧Nx W rb tb cap t j 0 True w' i' 0 0∧pathOK most x∧Ev ms ⟨j,0,0⟩ (x,⟨i',0,0⟩))∨ThrP W rb ⟨j,0,0⟩ ms e w') (KB:∀w' p,Kp W.heap.size rb W w'→Wr ms ⟨j,0,0⟩ (p:Nat)→Q (throwE p) w') (K:∀w' x i',x.size≤B→Hid (j<i')→Hid (pathOK most x)→Ev ms ⟨j,0,0⟩ (x,⟨i',0,0⟩)→Mf w rb tb cap t i True w' i' L T kv vs X V→Q (.returned (.string x)) w'):Calls Tryz.prog f args W Q:=(h q.st.rd).mono fun e w' p=>by
 rcases p with⟨x,i',rfl,hs,hx,ho,hm⟩|⟨p,rfl,hk,hw⟩
 ·exact K w' x i' hs (hx.go trivial rfl) ho hm (q.nxm hx)
 ·exact KB w' p hk hw
def gSome (t:Tk) (Q:GP (List Nr)) (fu:Nat):GP (List (List Nr)):=bnd (gIs t 0 ⟨#[41]⟩) (fun c=>seq (cond c (gBad t) (ret ())) (gList t Q ⟨#[41]⟩ fu))
theorem some_run {t:Tk} {X:Nat→GP (List Nr)} (hX:∀n,Sy (X n)) {i:Nat} (hrp:isB t i 0 0 ⟨#[41]⟩=true→∃y,Ev X ⟨i,0,0⟩ (y,⟨i,4,t.pos i⟩)):(∀F j,PRun t X ⟨#[44]⟩ ⟨#[41]⟩ false false i (.inl (F,j))→Ev (fun n=>gSome t (X n) n) ⟨i,0,0⟩ (F,⟨j,0,0⟩))∧∀p,PRun t X ⟨#[44]⟩ ⟨#[41]⟩ false false i (.inr p)→Wr (fun n=>gSome t (X n) n) ⟨i,0,0⟩ p:=by
 have R:=(rowLike (t:=t) (en:=⟨#[41]⟩) hX).sm (lit) (lit) (i:=i)
 cases hc:isB t i 0 0 ⟨#[41]⟩
 ·refine⟨fun F j h=>?_,fun p h=>?_⟩
  ·exact Ev.bnd' ev_is (Ev.seq (Ev.no hc Ev.ret') (Ev.bnd' (ev_eno hc) (Ev.no rfl (R.1 F j h))))
  ·exact Wr.snd ev_is (Wr.sqd (Ev.no hc Ev.ret') (Wr.snd (ev_eno hc) (Wr.no rfl (R.2 p h))))
 ·obtain⟨y,hy⟩:=hrp hc
  refine⟨fun F j h=>?_,fun p h=>?_⟩
  ·rcases h with⟨h1,_,_⟩|⟨y3,j3,h1,h2,h3⟩|⟨p,h1,h2,h3⟩
   ·exact absurd h1 (by decide)
   ·have:=h2.one hy
    simp at this
   ·simp at h3
  ·rcases h with⟨h1,_,_⟩|⟨y3,j3,h1,h2,h3⟩|⟨p3,h1,h2,h3⟩
   ·exact absurd h1 (by decide)
   ·have:=h2.one hy
    simp at this
   ·have e1:=(h2.ev hy).2
    have sX:=hX
    rw[Sum.inr.inj h3,←e1]
    refine Wr.snd ev_is (Wr.sq (Wr.yes hc wr_bad) (fun n=>?_))
    have:=hX n
    exact syt
def gPatP (t:Tk) (Q:GP (List Nr)) (p:Int) (fu:Nat):GP (List Nr):=bnd (gPath t fu 3) (fun s=>bnd (gOk) (fun ok=>cond (ok&&!(s.toList.contains 58)) (ret (nd 50 p 0 0 s [])) (bnd (gIs t 0 ⟨#[40]⟩) (fun b39=>cond b39 (seq (gWant t ⟨#[40]⟩) (bnd (gSome t Q fu) (fun ks=>ret (nd 54 p 0 0 s ks)))) (ret (nd 54 p 0 0 s []))))))
theorem pathPatternP {N:Nat} (hQ:rdP 86 N (fun t n=>gG t n 5)) {w:World} {rb tb i:Nat} {cap:Cp} {t:Tk} (h:Rd w rb tb cap t i 0 0) (hN:t.len - i≤N+1):
 Calls Tryz.prog 163 #[.pointer (some ⟨rb,0,none⟩)] w (NodeP w rb tb cap t i True (fun n=>gPatP t (gG t n 5) (t.pos i) n)):=by
 have hl:=h.l
 have hposI:(0:Int)≤(t.pos i:Int)∧(t.pos i:Int)≤7000:=by have:=h.good.posb i;omega
 go_enter Tryz.func163,Tryz.ntmps163
 have q:=Mf.start h
 go_wp2_with fail
 refine(q.ne' (sz w) (zeroC)).lf (nodeP · 50) ?_
 clear q
 intro w1 q
 have F:=q.f1
 go_wp2_with fail
 refine(q.ne' (sz w1) (nk 50 (t.pos i) nl)).np (pathP · 3 (by decide) (by decide)) (fun w' p hk hw=>⟨rfl,.inr ((q.ne' (sz w1) (nk 50 (t.pos i) nl)).thr hk (by unfold gPatP gSome;exact wrt))⟩) ?_
 clear q F
 intro w2 s2 i2 hs2 hl2 ho2 m2 q
 have F:=q.f2
 go_wp2_with fail
 refine(q.p04 s2).lf (fun hr=>containsP hr hs2 ho2.out) ?_
 clear q F
 intro w3 q
 have F:=q.f2
 cases hct:s2.toList.contains 58
 ·have HCT:=Hid_nx hct
  go_wp2_with fail
  go_light
  exact Mf.rt (q.lk 50 (t.pos i) 0 0 s2 hposI hs2) Tryz.results163 1 (by have hct:=HCT.out;unfold gPatP;exact Ev.bnd' m2 (Ev.bnd' ev_ok (Ev.yes (and_y rfl (not_n hct)) Ev.ret')))
 ·have HCT:=Hid_nx hct
  go_wp2_with fail
  refine(q.p00 54).et (skipP · _ (ask)) ?_
  clear q F
  intro w4 b4 i4 hE4 m4 q
  have F:=q.f2
  go_wp2_with fail
  ·have hb3:isB t i2 0 0 ⟨#[40]⟩=true:=hE4.is_.symm.trans ‹_›
   obtain rfl:=(hE4.yes ‹_›).1
   have HB3:=Hid_nx hb3
   clear hb3 hE4
   go_wp2_with fail
   refine q.lf (fun _=>someP _) ?_
   clear q F
   intro w5 q
   have F:=q.f2
   go_wp2_with fail
   refine q.li (fun hr=>listP hr (mm:=fun n=>gSome t (gG t n 5) n) (ask) (fun _=>ask) (fun _=>lit) ein86 (some_run (fun n=>gG_st _ _ _) pat_rp).1 (some_run (fun n=>gG_st _ _ _) pat_rp).2 (fun{w' j} hr' hj=>(by have h1:=hr'.lt;have h2:=q.go trivial;simpa using hQ hr' (by omega)))) (fun w' p hk hw=>⟨rfl,.inr (q.thr hk (by unfold gPatP;exact Wr.snd m2 (Wr.snd ev_ok (Wr.no (and_r (not_y HCT.out)) (Wr.snd ev_is (Wr.yes HB3.out (Wr.sqd (ev_wyes HB3.out) (Wr.fst hw (fun _ _=>Sy.ret)))))))))⟩) ?_
   clear q F
   intro w6 ao6 cp6 vs6 i6 V6 hl6 m6 q
   have F:=q.f2
   have hl7:vs6.length≤6001:=by have:=hl6.out.2;have:=q.st.rd.lt;have:=h.good.few;omega
   go_wp2_with fail
   go_light
   exact Mf.rt ((q.p05 (.slice ao6 vs6.length cp6)).fo 54 (t.pos i) 0 0 s2 (by omega) hposI hs2) Tryz.results163 1 (by unfold gPatP;exact Ev.bnd' m2 (Ev.bnd' ev_ok (Ev.no (and_r (not_y HCT.out)) (Ev.bnd' ev_is (Ev.yes HB3.out (Ev.seq (ev_wyes HB3.out) (Ev.bnd' m6 Ev.ret')))))))
  ·have hb3:isB t i2 0 0 ⟨#[40]⟩=false:=hE4.is_.symm.trans ‹_›
   obtain rfl:i2=i4:=(hE4.no ‹_›).symm
   have HB3:=Hid_nx hb3
   go_wp2_with fail
   go_light
   exact Mf.rt (q.lk 54 (t.pos i) 0 0 s2 hposI hs2) Tryz.results163 1 (by unfold gPatP;exact Ev.bnd' m2 (Ev.bnd' ev_ok (Ev.no (and_r (not_y HCT.out)) (Ev.bnd' ev_is (Ev.no HB3.out Ev.ret')))))
end Go.Proofs.YtdplogkmkgekdaaGreatDoor.Pj
namespace Go.Proofs.YtdplogkmkgekdaaGreatDoor.Pj
open Go.RowKit
section
variable {w w':World} {rb tb i:Nat} {cap:Cp} {t:Tk} {must:Prop} {m mm:Nat→GP (List Nr)} {e:Ending}
theorem NodeP.to (h:NodeP w rb tb cap t i must mm e w') (hE:∀r,Ev mm ⟨i,0,0⟩ r→Ev m ⟨i,0,0⟩ r) (hW:∀p,Wr mm ⟨i,0,0⟩ p→Wr m ⟨i,0,0⟩ p):NodeP w rb tb cap t i must m e w':=by
 rcases h with⟨x1,x2,x3,x4,x5,x6,x7,x8,i',he,hx,hn,y,hy,hm⟩|⟨p,he,hk,hw⟩
 ·exact .inl ⟨x1,x2,x3,x4,x5,x6,x7,x8,i',he,hx,hn,y,hy,hE _ hm⟩
 ·exact .inr ⟨p,he,hk,hW _ hw⟩
theorem isB_k {s:ByteArray} {q:Int} (h:kindB t i 0 0 q=true) (h5:q≠5) (h3:q≠3):isB t i 0 0 s=false:=by
 cases hb:isB t i 0 0 s
 ·rfl
 ·rw[isB_kind hb h5 h3] at h
  exact absurd h (by decide)
theorem wr_noPath {most:Nat} (hk:kindB t i 0 0 2=false):Wr (fun n=>gPath t n most) ⟨i,0,0⟩ (t.pos i):=Wr.fst (wr_name hk) (fun _ _=>syt)
theorem firstB_is {es:List Ent} {e:Ent} (h:firstB t i es=some e):isB t i 0 0 e.txt=true:=by
 unfold firstB at h
 exact List.find?_some (p:=fun(e:Ent)=>isB t i 0 0 e.txt) h
theorem firstB_none {es:List Ent} (h:firstB t i es=none):∀e∈es,isB t i 0 0 e.txt=false:=fun e he=>by
 have:=List.find?_eq_none.1 h e he
 simpa using this
theorem tabs1 {W:World} {bd a n:Nat} {es:List Ent} (hbd:bd≤W.heap.size) (ha:TabW W bd a es) (hask:∀e∈es,e.txt∈askS) (hl:es.length≤10) (hn:n=es.length):TabsW (W.alloc (.cells #[.slice (some ⟨a,0,none⟩) n n] 72)) bd W.heap.size [(a,es)]:=by
 subst hn
 refine⟨_,heap_alloc_new W _,fun k a2 es2 h=>?_⟩
 match k with
 |0=>
  obtain⟨rfl,rfl⟩:a=a2∧es=es2:=by simpa using h
  exact⟨rfl,ha.of (fun k hk=>Below.heap_alloc _ _ _ (by omega)),hask,hl⟩
 |k+1=>simp at h
theorem read1P {W:World} {n a:Nat} {es:List Ent} (h:Rd W rb tb cap t i 0 0) (ha:TabW W cap.bd a es) (hask:∀e∈es,e.txt∈askS) (hl:es.length≤10) (hn:n=es.length) (HI:∀e∈es,Ein e.fn) (H:∀e w' ts,firstB t i es=some e→EntC w' cap.bd e ts→Rd w' rb tb cap t i 0 0→Calls Tryz.prog e.fn (#[.pointer (some ⟨rb,0,none⟩)]++ts) w' (NodeP w' rb tb cap t i True m)) (H0:firstB t i es=none→Wr m ⟨i,0,0⟩ (t.pos i)):
 Calls Tryz.prog 151 #[.pointer (some ⟨rb,0,none⟩),.slice (some ⟨W.heap.size,0,none⟩) 1 1] (W.alloc (.cells #[.slice (some ⟨a,0,none⟩) n n] 72)) (NodeP (W.alloc (.cells #[.slice (some ⟨a,0,none⟩) n n] 72)) rb tb cap t i True m):=by
 have e1:([(a,es)]:List (Nat × List Ent)).flatMap (·.2)=es:=by simp
 refine readP (h.alloc _) (tabs1 (by have:=h.bl;have:=h.l;omega) ha hask hl hn) rfl (by decide) ?_ ?_ ?_
 ·rw[e1];exact HI
 ·rw[e1];exact H
 ·rw[e1];exact H0
end
theorem EntC.bare {w:World} {bd:Nat} {e:Ent} {ts:Array Value} (h:EntC w bd e ts) (hf:e.fn=144):∃b1 b2,b1<bd∧b2<bd∧ts=#[.pointer (some ⟨b1,0,none⟩),.pointer (some ⟨b2,0,none⟩)]∧w.heap[b1]? =some (.cells #[.int .i64 e.bk] 3 (0,0))∧w.heap[b2]? =some (.cells #[.int .i64 e.bn] 3 (0,0)):=by
 unfold EntC at h
 rwa [if_pos hf] at h
theorem EntC.plain {w:World} {bd:Nat} {e:Ent} {ts:Array Value} (h:EntC w bd e ts) (hf:e.fn≠144):ts=#[]:=by
 unfold EntC at h
 rwa [if_neg hf] at h
theorem typesD {N:Nat} (hT:rdP 70 N (fun t n=>gG t n 0)) {w:World} {rb tb i:Nat} {cap:Cp} {t:Tk} (h:Rd w rb tb cap t i 0 0) (hN:t.len - i≤N+1) {e:Ent} {ts:Array Value} (he:firstB t i esTypes=some e) (hc:EntC w cap.bd e ts):Calls Tryz.prog e.fn (#[.pointer (some ⟨rb,0,none⟩)]++ts) w (NodeP w rb tb cap t i True (fun n=>gTyp t (gG t n 0) n)):=by
 have hb:=firstB_is he
 have hm:=firstB_mem he
 have hlt:=(isB_lt h.good h.lt hb).2
 clear he
 simp only[esTypes,List.mem_cons,List.not_mem_nil,or_false] at hm
 rcases hm with rfl|rfl|rfl|rfl|rfl|rfl
 ·replace hb:isB t i 0 0 ⟨#[105,110,116]⟩=true:=hb
  obtain⟨b1,b2,l1,l2,rfl,c1,c2⟩:=hc.bare rfl
  refine(bareP h (by have:=h.bl;omega) (by have:=h.bl;omega) c1 c2 hlt).mono fun e w' p=>p.to (fun r hr=>?_) (fun p hw=>?_)
  all_goals
   have n1:=isB_ne hb (b:=⟨#[98,111,111,108]⟩) (lit)
   have n2:=isB_ne hb (b:=⟨#[40]⟩) (lit)
   have n3:=isB_ne hb (b:=⟨#[38]⟩) (lit)
   have n4:=isB_ne hb (b:=⟨#[38,38]⟩) (lit)
   have n5:=isB_ne hb (b:=⟨#[102,110]⟩) (lit)
  ·replace hr:=Ev.cg (m':=fun _=>ret (nd 13 (t.pos i) 0 0 E0 [])) (s':=⟨i+1,0,0⟩) hr (fun n=>rfl)
   unfold gTyp
   exact evt
  ·replace hw:=Wr.cg (m':=fun _=>ret (nd 13 (t.pos i) 0 0 E0 [])) (s':=⟨i+1,0,0⟩) hw (fun n=>rfl)
   unfold gTyp
   exact wrt
 ·replace hb:isB t i 0 0 ⟨#[98,111,111,108]⟩=true:=hb
  obtain⟨b1,b2,l1,l2,rfl,c1,c2⟩:=hc.bare rfl
  refine(bareP h (by have:=h.bl;omega) (by have:=h.bl;omega) c1 c2 hlt).mono fun e w' p=>p.to (fun r hr=>?_) (fun p hw=>?_)
  all_goals
   have n0:=isB_ne hb (b:=⟨#[105,110,116]⟩) (lit)
   have n2:=isB_ne hb (b:=⟨#[40]⟩) (lit)
   have n3:=isB_ne hb (b:=⟨#[38]⟩) (lit)
   have n4:=isB_ne hb (b:=⟨#[38,38]⟩) (lit)
   have n5:=isB_ne hb (b:=⟨#[102,110]⟩) (lit)
  ·replace hr:=Ev.cg (m':=fun _=>ret (nd 14 (t.pos i) 0 0 E0 [])) (s':=⟨i+1,0,0⟩) hr (fun n=>rfl)
   unfold gTyp
   exact evt
  ·replace hw:=Wr.cg (m':=fun _=>ret (nd 14 (t.pos i) 0 0 E0 [])) (s':=⟨i+1,0,0⟩) hw (fun n=>rfl)
   unfold gTyp
   exact wrt
 ·replace hb:isB t i 0 0 ⟨#[102,110]⟩=true:=hb
  obtain rfl:=hc.plain (by decide)
  refine(fnTP hT h hN hb).mono fun e w' p=>p.to (fun r hr=>?_) (fun p hw=>?_)
  all_goals
   have n0:=isB_ne hb (b:=⟨#[105,110,116]⟩) (lit)
   have n1:=isB_ne hb (b:=⟨#[98,111,111,108]⟩) (lit)
   have n2:=isB_ne hb (b:=⟨#[40]⟩) (lit)
   have n3:=isB_ne hb (b:=⟨#[38]⟩) (lit)
   have n4:=isB_ne hb (b:=⟨#[38,38]⟩) (lit)
  ·replace hr:=Ev.cg (m':=fun n=>gFnT t (gG t n 0) (t.pos i) n) (s':=⟨i+1,0,0⟩) hr (fun n=>rfl)
   unfold gFnT at hr
   unfold gTyp
   exact evt
  ·replace hw:=Wr.cg (m':=fun n=>gFnT t (gG t n 0) (t.pos i) n) (s':=⟨i+1,0,0⟩) hw (fun n=>rfl)
   unfold gFnT at hw
   unfold gTyp
   exact wrt
 ·replace hb:isB t i 0 0 ⟨#[38]⟩=true:=hb
  obtain rfl:=hc.plain (by decide)
  refine(refP67 hT h hN (fun _=>hb)).mono fun e w' p=>p.to (fun r hr=>?_) (fun p hw=>?_)
  all_goals
   have n0:=isB_ne hb (b:=⟨#[105,110,116]⟩) (lit)
   have n1:=isB_ne hb (b:=⟨#[98,111,111,108]⟩) (lit)
   have n2:=isB_ne hb (b:=⟨#[40]⟩) (lit)
   have n4:=isB_ne hb (b:=⟨#[38,38]⟩) (lit)
   have n5:=isB_ne hb (b:=⟨#[102,110]⟩) (lit)
  ·skip
   unfold gTyp
   exact evt
  ·skip
   unfold gTyp
   exact wrt
 ·replace hb:isB t i 0 0 ⟨#[38,38]⟩=true:=hb
  obtain rfl:=hc.plain (by decide)
  refine(refP67 hT h hN (fun e=>absurd (hb.symm.trans e) (by decide))).mono fun e w' p=>p.to (fun r hr=>?_) (fun p hw=>?_)
  all_goals
   have n0:=isB_ne hb (b:=⟨#[105,110,116]⟩) (lit)
   have n1:=isB_ne hb (b:=⟨#[98,111,111,108]⟩) (lit)
   have n2:=isB_ne hb (b:=⟨#[40]⟩) (lit)
   have n3:=isB_ne hb (b:=⟨#[38]⟩) (lit)
   have n5:=isB_ne hb (b:=⟨#[102,110]⟩) (lit)
  ·skip
   unfold gTyp
   exact evt
  ·skip
   unfold gTyp
   exact wrt
 ·replace hb:isB t i 0 0 ⟨#[40]⟩=true:=hb
  obtain rfl:=hc.plain (by decide)
  refine(tupleT hT h hN hb).mono fun e w' p=>p.to (fun r hr=>?_) (fun p hw=>?_)
  all_goals
   have n0:=isB_ne hb (b:=⟨#[105,110,116]⟩) (lit)
   have n1:=isB_ne hb (b:=⟨#[98,111,111,108]⟩) (lit)
   have n3:=isB_ne hb (b:=⟨#[38]⟩) (lit)
   have n4:=isB_ne hb (b:=⟨#[38,38]⟩) (lit)
   have n5:=isB_ne hb (b:=⟨#[102,110]⟩) (lit)
  ·replace hr:=Ev.cg (m':=fun n=>bnd (gList t (gG t n 0) ⟨#[41]⟩ n) (fun ks=>ret (gTuple 15 (t.pos i) ks))) (s':=⟨i+1,0,0⟩) hr (fun n=>rfl)
   unfold gTyp
   exact evt
  ·replace hw:=Wr.cg (m':=fun n=>bnd (gList t (gG t n 0) ⟨#[41]⟩ n) (fun ks=>ret (gTuple 15 (t.pos i) ks))) (s':=⟨i+1,0,0⟩) hw (fun n=>rfl)
   unfold gTyp
   exact wrt
theorem anyT {N:Nat} (hT:rdP 70 N (fun t n=>gG t n 0)) {w:World} {rb tb i:Nat} {cap:Cp} {t:Tk} (h:Rd w rb tb cap t i 0 0) (hN:t.len - i≤N+1):
 Calls Tryz.prog 70 #[.pointer (some ⟨rb,0,none⟩)] w (NodeP w rb tb cap t i True (fun n=>gTyp t (gG t n 0) n)):=by
 have hl:=h.l
 have hposI:(0:Int)≤(t.pos i:Int)∧(t.pos i:Int)≤7000:=by have:=h.good.posb i;omega
 have hfd:=fld67_0
 cases hk:kindB t i 0 0 2
 ·have hk0:((t.kind i:Int)==2)=false:=(kindB_eq h.lt 2).symm.trans hk
  have HK:=Hid_nx hk
  clear hk
  go_enter Tryz.func70,Tryz.ntmps70
  have q:=Mf.start h
  go_wp2_with fail
  refine(q.ne' (sz w) (zeroC)).lf (tokP ·) ?_
  clear q
  intro w1 q
  have F:=q.f1
  have r3:=q.st.rd.r3
  go_wp2_with fail
  refine(q.alloc (.cells #[.slice (some ⟨cap.a2,0,none⟩) 6 6] 72)).nd (fun _=>read1P q.st.rd q.st.rd.t2 ask_esTypes (by decide) rfl ein_esTypes (fun e w' ts he hc hr=>typesD hT hr hN he hc) (fun hn=>(by have n0:isB t i 0 0 ⟨#[105,110,116]⟩=false:=firstB_none hn _ (List.getElem_mem (n:=0) (by decide));have n1:isB t i 0 0 ⟨#[98,111,111,108]⟩=false:=firstB_none hn _ (List.getElem_mem (n:=1) (by decide));have n2:isB t i 0 0 ⟨#[102,110]⟩=false:=firstB_none hn _ (List.getElem_mem (n:=2) (by decide));have n3:isB t i 0 0 ⟨#[38]⟩=false:=firstB_none hn _ (List.getElem_mem (n:=3) (by decide));have n4:isB t i 0 0 ⟨#[38,38]⟩=false:=firstB_none hn _ (List.getElem_mem (n:=4) (by decide));have n5:isB t i 0 0 ⟨#[40]⟩=false:=firstB_none hn _ (List.getElem_mem (n:=5) (by decide));have hw:=wr_noPath (most:=2) HK.out;unfold gTyp;exact wrt))) (fun w' p hk hw=>⟨rfl,.inr (Mf.thr (q.alloc _) hk hw)⟩) ?_
  clear q F r3
  intro w2 x5 i5 y5 hl5 m5 q
  have F:=q.f1
  go_wp2_with fail
  go_light
  exact Mf.rt (q) Tryz.results70 0 (m5)
 ·have hk0:((t.kind i:Int)==2)=true:=(kindB_eq h.lt 2).symm.trans hk
  have HK:=Hid_nx hk
  clear hk
  go_enter Tryz.func70,Tryz.ntmps70
  have q:=Mf.start h
  go_wp2_with fail
  refine(q.ne' (sz w) (zeroC)).lf (tokP ·) ?_
  clear q
  intro w3 q
  have F:=q.f1
  go_wp2_with fail
  refine q.nd (fun hr=>pathTypeP hT hr hN) (fun w' p hk hw=>⟨rfl,.inr (q.thr hk (by
   have n0:isB t i 0 0 ⟨#[105,110,116]⟩=false:=isB_k HK.out (by decide) (by decide)
   have n1:isB t i 0 0 ⟨#[98,111,111,108]⟩=false:=isB_k HK.out (by decide) (by decide)
   have n2:isB t i 0 0 ⟨#[40]⟩=false:=isB_k HK.out (by decide) (by decide)
   have n3:isB t i 0 0 ⟨#[38]⟩=false:=isB_k HK.out (by decide) (by decide)
   have n4:isB t i 0 0 ⟨#[38,38]⟩=false:=isB_k HK.out (by decide) (by decide)
   have n5:isB t i 0 0 ⟨#[102,110]⟩=false:=isB_k HK.out (by decide) (by decide)
   unfold gPathT at hw
   unfold gTyp
   exact wrt))⟩) ?_
  clear q F
  intro w4 x5 i5 y5 hl5 m5 q
  have F:=q.f1
  go_wp2_with fail
  go_light
  exact Mf.rt (q) Tryz.results70 0 (by
   have n0:isB t i 0 0 ⟨#[105,110,116]⟩=false:=isB_k HK.out (by decide) (by decide)
   have n1:isB t i 0 0 ⟨#[98,111,111,108]⟩=false:=isB_k HK.out (by decide) (by decide)
   have n2:isB t i 0 0 ⟨#[40]⟩=false:=isB_k HK.out (by decide) (by decide)
   have n3:isB t i 0 0 ⟨#[38]⟩=false:=isB_k HK.out (by decide) (by decide)
   have n4:isB t i 0 0 ⟨#[38,38]⟩=false:=isB_k HK.out (by decide) (by decide)
   have n5:isB t i 0 0 ⟨#[102,110]⟩=false:=isB_k HK.out (by decide) (by decide)
   unfold gPathT at m5
   unfold gTyp
   exact evt)
theorem anyTypeP {N:Nat} (hT:rdP 70 N (fun t n=>gG t n 0)):rdP 70 (N+1) (fun t n=>gG t n 0):=fun h hN=>(anyT hT h hN).mono fun e w' p=>p.to (fun r hr=>hr.up (fun _=>rfl)) (fun p hw=>hw.up (fun _=>rfl))
end Go.Proofs.YtdplogkmkgekdaaGreatDoor.Pj
namespace Go.Proofs.YtdplogkmkgekdaaGreatDoor.Pj
open Go.RowKit
section
variable {w W w':World} {rb tb i j:Nat} {cap:Cp} {t:Tk} {g:Prop} {L:List (Nat × Array Value)} {T:List (List Value)} {kv:Value} {vs:List (List Value)} {Ft Fv X V:List (List Nr)}
variable {ops:Array Oper} {rest:List Oper} {p:Oper} {act:Act} {S:Exit→Act→World→Prop} {sv xo:Operand} {ro:Option Addr} {rc rl:Nat} {Kk:Act→World→Prop} {Ee:Prop}
theorem Mf.as2 {kx px nx mx ky py ny my:Int} {ax ay:ByteArray} {vx vy:Value} {X1 X2:List Nr} (q:Mf w rb tb cap t i g W j L ((nodeC kx px nx mx ax vx).toList::(nodeC ky py ny my ay vy).toList::T) (.slice ro rl rc) vs (X1::X2::Ft) Fv) (ad:Nat) (hv:vs.length≤19000) (K:∀w' ao cp,Mf w rb tb cap t i g w' j L T (.slice ao (rl+2) cp) (vs++[(nodeC kx px nx mx ax vx).toList,(nodeC ky py ny my ay vy).toList]) Ft (Fv++[X1,X2])→Kk (act.put p.dst (.slice ao (rl+2) cp)) w') (hgd:p.guard=none:=by rfl) (ho:p.op=.call {callee:=.builtin .append,args:=#[sv,xo],argTypes:=#[22,22]}:=by rfl) (hs:act.eval sv=.slice ro rl rc:=by rfl) (hx:act.eval xo=.slice (some ⟨ad,0,none⟩) 2 2:=by rfl) (had:ad=W.heap.size:=by simp):if Region.wanted p (yielded ops act.tmps)=true then Oper.wp Tryz.prog p act (W.alloc (.cells (nodeC2 kx px nx mx ax vx ky py ny my ay vy) 28)) Kk S else Ee:=by
 subst had
 obtain⟨ro',rc',e⟩:=q.shape
 obtain⟨rfl,rfl,rfl⟩:ro=ro'∧rl=vs.length∧rc=rc':=by simpa using e
 have hcell:∀(j:Nat) (u:Value),([(nodeC kx px nx mx ax vx).toList,(nodeC ky py ny my ay vy).toList]:List (List Value)).flatten[j]? =some u→(W.alloc (.cells (nodeC2 kx px nx mx ax vx ky py ny my ay vy) 28)).cell? ((⟨W.heap.size,0,none⟩:Addr).add j)=some u:=by
  intro j u hj
  have hadd:(⟨W.heap.size,0,none⟩:Addr).add j=⟨W.heap.size,j,none⟩:=by unfold Addr.add;split<;>simp_all
  rw[hadd,cell_of_row _ W.heap.size j (nodeC2 kx px nx mx ax vx ky py ny my ay vy) 28 (0,0) (heap_alloc_new W _)]
  simpa using hj
 refine step_run hgd ho hs hx (Mf.run_app (us:=[(nodeC kx px nx mx ax vx).toList,(nodeC ky py ny my ay vy).toList]) (U:=[X1,X2]) (q.alloc _) rfl hv (by simp) _ (.inr ⟨_,_,rfl,hcell⟩)) fun v' w' h=>?_
 obtain⟨ao,cp,rfl,q'⟩:=h
 exact K w' ao cp q'
end
theorem spawnP {N:Nat} (hT:rdP 70 N (fun t n=>gG t n 0)) (hB:rdP 75 N (fun t n=>gG t n 3)) {w:World} {rb tb i:Nat} {cap:Cp} {t:Tk} (h:Rd w rb tb cap t i 0 0) (hN:t.len - i≤N+1) (hb:isB t i 0 0 ⟨#[115,112,97,119,110]⟩=true):
 Calls Tryz.prog 79 #[.pointer (some ⟨rb,0,none⟩)] w (NodeP w rb tb cap t i True (fun n=>seq (gAdd 1) (bnd (gCaps t n) (fun cs=>bnd (gResult t (gG t n 0)) (fun y=>bnd (gG t n 3) (fun z=>ret (nd 48 (t.pos i) 0 (cs.length:Int) E0 (cs++[y,z])))))))):=by
 have hl:=h.l
 have hposI:(0:Int)≤(t.pos i:Int)∧(t.pos i:Int)≤7000:=by have:=h.good.posb i;omega
 have HB:=Hid_nx hb
 clear hb
 go_enter Tryz.func79,Tryz.ntmps79
 have q:=Mf.start h
 go_wp2_with fail
 refine(q.ne' (sz w) (zeroC)).lf (nodeP · 48) ?_
 clear q
 intro w1 q
 have F:=q.f1
 go_wp2_with fail
 refine(q.ne' (sz w1) (nk 48 (t.pos i) nl)).wy (mustP · _ (ask)) HB.out ?_
 clear q F
 intro w2 q
 have F:=q.f2
 go_wp2_with fail
 refine q.li (fun hr=>capsP hr) (fun w' p hk hw=>⟨rfl,.inr (q.thr hk (by exact wrt))⟩) ?_
 clear q F
 intro w3 ao4 cp4 vs4 i4 V4 hl4 m4 q
 have F:=q.f2
 have hl5:vs4.length≤6001:=by have:=hl4.out.2;have:=q.st.rd.lt;have:=h.good.few;omega
 have HLV:Hid (vs4.length≤19000):=by show vs4.length≤19000;omega
 have HVL:Hid (V4.length=vs4.length):=q.fv.len
 have HTR:Hid (∀p,Wr (fun n=>gResult t (gG t n 0)) ⟨i4,0,0⟩ p→Wr (fun n=>seq (gAdd 1) (bnd (gCaps t n) (fun cs=>bnd (gResult t (gG t n 0)) (fun y=>bnd (gG t n 3) (fun z=>ret (nd 48 (t.pos i) 0 (cs.length:Int) E0 (cs++[y,z]))))))) ⟨i,0,0⟩ p):=fun p hw=>(by exact wrt)
 have HTB:Hid (∀i8 y8 p,Ev (fun n=>gResult t (gG t n 0)) ⟨i4,0,0⟩ (y8,⟨i8,0,0⟩)→Wr (fun n=>gG t n 3) ⟨i8,0,0⟩ p→Wr (fun n=>seq (gAdd 1) (bnd (gCaps t n) (fun cs=>bnd (gResult t (gG t n 0)) (fun y=>bnd (gG t n 3) (fun z=>ret (nd 48 (t.pos i) 0 (cs.length:Int) E0 (cs++[y,z]))))))) ⟨i,0,0⟩ p):=fun i8 y8 p m8 hw=>(by exact wrt)
 go_wp2_with fail
 go_region_law (first|(refine(q.swap).as2 (sz w5) HLV.out ?_;clear q F;intro w6 ao10 cp10 q;have F:=q.f2)|(go_simp;refine q.nd (fun hr=>hB hr (by have:=hr.lt;have:=q.go trivial;omega)) (fun w' p hk hw=>⟨rfl,.inr (q.thr hk (HTB.out _ _ _ m8 hw))⟩) ?_;clear q F;intro w5 x9 i9 y9 hl9 m9 q;have F:=q.f2)|(replace q:=((q.p05 (.slice ao4 vs4.length cp4)).p03 (vs4.length:Int)).drew;go_simp;refine q.nn (fun hr=>resultP hT hr (by have:=hr.lt;have:=q.go trivial;omega)) (fun w' p hk hw=>⟨rfl,.inr (q.thr hk (HTR.out _ hw))⟩) ?_;clear q F;intro w4 x8 i8 y8 hl8 m8 q;have F:=q.f2))
 all_goals
  go_wp2_with fail
  go_light
  exact Mf.rt ((q.p05 (.slice ao10 (vs4.length+2) cp10)).fo 48 (t.pos i) 0 (vs4.length:Int) ⟨#[]⟩ (by simp;omega) hposI) Tryz.results79 1 (by rw[←HVL.out];exact evt)
end Go.Proofs.YtdplogkmkgekdaaGreatDoor.Pj
namespace Go.Proofs.YtdplogkmkgekdaaGreatDoor.Pj
open Go.RowKit
theorem closureP {N:Nat} (hT:rdP 70 N (fun t n=>gG t n 0)) (hB:rdP 75 N (fun t n=>gG t n 3)) {w:World} {rb tb i:Nat} {cap:Cp} {t:Tk} (h:Rd w rb tb cap t i 0 0) (hN:t.len - i≤N+1):
 Calls Tryz.prog 78 #[.pointer (some ⟨rb,0,none⟩)] w (NodeP w rb tb cap t i True (fun n=>gClosure t (gG t n 0) (gG t n 3) n)):=by
 have hl:=h.l
 have hposI:(0:Int)≤(t.pos i:Int)∧(t.pos i:Int)≤7000:=by have:=h.good.posb i;omega
 go_enter Tryz.func78,Tryz.ntmps78
 have q:=Mf.start h
 go_wp2_with fail
 refine(q.ne' (sz w) (zeroC)).lf (nodeP · 46) ?_
 clear q
 intro w1 q
 have F:=q.f1
 go_wp2_with fail
 refine(q.ne' (sz w1) (nk 46 (t.pos i) nl)).wn (mustP · _ (ask)) (fun w' hk hw=>⟨rfl,.inr ((q.ne' (sz w1) (nk 46 (t.pos i) nl)).thr hk (by unfold gClosure;exact wrt))⟩) ?_
 clear q F
 intro w2 m2 q
 have F:=q.f2
 go_wp2_with fail
 refine q.iv (fnKindP ·) ?_
 clear q F
 intro w3 n3 i3 hle3 m3 q
 have F:=q.f2
 go_wp2_with fail
 refine(q.p02 n3).li (fun hr=>capsP hr) (fun w' p hk hw=>⟨rfl,.inr ((q.p02 n3).thr hk (by unfold gClosure;exact wrt))⟩) ?_
 clear q F
 intro w4 ao4 cp4 vs4 i4 V4 hl4 m4 q
 have F:=q.f2
 have hl5:vs4.length≤6001:=by have:=hl4.out.2;have:=q.st.rd.lt;have:=h.good.few;omega
 have HLV4:Hid (vs4.length≤6001):=hl5
 have HVL:Hid (V4.length=vs4.length):=q.fv.len
 have HTP:Hid (∀p,Wr (fun n=>gParams t (gG t n 0) n) ⟨i4,0,0⟩ p→Wr (fun n=>gClosure t (gG t n 0) (gG t n 3) n) ⟨i,0,0⟩ p):=fun p hw=>(by unfold gClosure;exact wrt)
 go_upto_region 6 with fail
 go_cut [] (fun wx=>∃(i5:Nat) (V5:List (List Nr)) (v:Value) (vs:List (List Value)),Hid (i4<i5)∧Ev (fun n=>gParams t (gG t n 0) n) ⟨i4,0,0⟩ (V5,⟨i5,0,0⟩)∧Hid (vs.length≤12020)∧Mf w rb tb cap t i True wx i5 [(sz w1,nodeC 46 (t.pos i) n3 (vs4.length:Int) ⟨#[]⟩ v),(sz w,zeroC)] [] v vs [] (V4++V5))
 case first=>
  go_wp2_with fail
  go_region_law (first|(refine q.aps hVx5 hKx5 (Nat.le_trans HLV4.out (by decide)) (few_le h.good.few hlx5.out.2.1 q.st.rd.lt) ?_;clear q F;intro w6 ao6 cp6 q;have F:=q.f2)|(replace q:=((q.p05 (.slice ao4 vs4.length cp4)).p03 (vs4.length:Int)).drew;go_simp;refine q.lh (fun hr=>paramsP hT hr (by have:=hr.lt;have:=q.go trivial;omega)) (fun w' p hk hw=>⟨rfl,.inr (q.thr hk (HTP.out _ hw))⟩) ?_;clear q F;intro w5 aox5 cpx5 vs5 i5 V5 hlx5 hVx5 hKx5 m5 q;have F:=q.f2))
  all_goals
   have HL5:Hid ((vs4++vs5).length≤12020):=by show(vs4++vs5).length≤12020;have:=few_le h.good.few hlx5.out.2.1 q.st.rd.lt;have:=HLV4.out;rw[List.length_append];omega
   clear hKx5
   go_wp2_with fail
   go_meet
   exact⟨i5,V5,_,_,hlx5.out.2.2 trivial,m5,HL5,q.p05 (.slice ao6 (vs4.length+vs5.length) cp6)⟩
 case rest=>
  clear F q
  obtain⟨i5,V5,v,vs,hl6,m5,HLV,q⟩:=hcut
  obtain⟨w6,hw⟩:∃x,x=wc:=⟨_,rfl⟩
  subst hw
  obtain⟨ao6,cp6,rfl⟩:=q.shape
  have F:=q.f2
  have HTR:Hid (∀p,Wr (fun n=>gResult t (gG t n 0)) ⟨i5,0,0⟩ p→Wr (fun n=>gClosure t (gG t n 0) (gG t n 3) n) ⟨i,0,0⟩ p):=fun p hw=>(by unfold gClosure;exact wrt)
  have HTB:Hid (∀i8 y8 p,Ev (fun n=>gResult t (gG t n 0)) ⟨i5,0,0⟩ (y8,⟨i8,0,0⟩)→Wr (fun n=>gG t n 3) ⟨i8,0,0⟩ p→Wr (fun n=>gClosure t (gG t n 0) (gG t n 3) n) ⟨i,0,0⟩ p):=fun i8 y8 p m8 hw=>(by unfold gClosure;exact wrt)
  go_wp2_with fail
  go_region_law (first|(refine(q.swap).as2 (sz w8) (Nat.le_trans HLV.out (by decide)) ?_;clear q F;intro w9 ao10 cp10 q;have F:=q.f2)|(go_simp;refine q.nd (fun hr=>hB hr (by have:=hr.lt;have:=q.go trivial;omega)) (fun w' p hk hw=>⟨rfl,.inr (q.thr hk (HTB.out _ _ _ m8 hw))⟩) ?_;clear q F;intro w8 x9 i9 y9 hl9 m9 q;have F:=q.f2)|(replace q:=q.drew;go_simp;refine q.nn (fun hr=>resultP hT hr (by have:=hr.lt;have:=q.go trivial;omega)) (fun w' p hk hw=>⟨rfl,.inr (q.thr hk (HTR.out _ hw))⟩) ?_;clear q F;intro w7 x8 i8 y8 hl8 m8 q;have F:=q.f2))
  all_goals
   go_wp2_with fail
   go_light
   exact Mf.rt ((q.p05 (.slice ao10 (vs.length+2) cp10)).fo 46 (t.pos i) n3 (vs4.length:Int) ⟨#[]⟩ (by have:=HLV.out;simp;omega) hposI) Tryz.results78 1 (by rw[←HVL.out];unfold gClosure;exact evt)
end Go.Proofs.YtdplogkmkgekdaaGreatDoor.Pj
