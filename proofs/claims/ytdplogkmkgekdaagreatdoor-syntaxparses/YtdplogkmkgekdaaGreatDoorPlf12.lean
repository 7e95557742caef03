/- The project's parser: items, a way. -/
import Derived.Test.YtdplogkmkgekdaaGreatDoorPle
import Derived.Test.YtdplogkmkgekdaaGreatDoorPkzre
set_option linter.all false
set_option maxRecDepth 100000
set_option maxHeartbeats 4000000
namespace Go.Proofs.YtdplogkmkgekdaaGreatDoor.Pj
open Go.RowKit
theorem Mf.pm {w W:World} {rb tb i j:Nat} {cap:Cp} {t:Tk} {g:Prop} {L:List (Nat × Array Value)} {T:List (List Value)} {kv:Value} {vs:List (List Value)} {X V:List (List Nr)} {k p n m:Int} {s:ByteArray} {v:Value} {y:List Nr} (q:Mf w rb tb cap t i g W j L ((nodeC k p n m s v).toList::T) kv vs (y::X) V) (p2 m2:Int) (hp:0≤p2∧p2≤7000):Mf w rb tb cap t i g W j L ((nodeC k p2 n m2 s v).toList::T) kv vs (setPM p2 m2 y::X) V:=by
 obtain⟨h,ha⟩:=q.z.all
 refine⟨⟨q.z.st,q.z.le,q.z.ok,q.z.go,q.z.blk,q.z.nd,q.z.row,q.z.rown,h,fun x hx=>?_⟩,(Fl.pm q.fT.head).cons q.fT.tail,q.fv⟩
 rcases hx with hx|hx
 ·exact ha x (.inl hx)
 ·rcases List.mem_cons.1 hx with rfl|hx
  ·have h1:=ha _ (.inr (List.mem_cons_self ..))
   match h,h1 with
   |0,h1=>exact absurd h1 (fun x=>x)
   |h+1,⟨kind,pos,n',m',name,kv',vs',e1,e2,e3,e3',e4,e5,e6,e7⟩=>
    simp[nodeC] at e1
    obtain⟨rfl,rfl,rfl,rfl,rfl,rfl⟩:=e1
    exact⟨_,_,_,_,_,_,vs',rfl,e2,hp,e3',e4,e5,e6,fun e=>e.elim⟩
  ·exact ha x (.inr (List.mem_cons_of_mem _ hx))
theorem itemsD (hT:∀N,rdP 70 N (fun t n=>gG t n 0)) (hB:∀N,rdP 75 N (fun t n=>gG t n 3)) {w:World} {rb tb i:Nat} {cap:Cp} {t:Tk} (h:Rd w rb tb cap t i 0 0) {e:Ent} {ts:Array Value} (he:firstB t i esItems=some e) (hc:EntC w cap.bd e ts):Calls Tryz.prog e.fn (#[.pointer (some ⟨rb,0,none⟩)]++ts) w (NodeP w rb tb cap t i True (fun n=>gItemX t (gG t n 0) (gG t n 3) n)):=by
 have hb:=firstB_is he
 have hm:=firstB_mem he
 have hlt:=(isB_lt h.good h.lt hb).2
 have hN:t.len - i≤t.len+1:=by omega
 clear he
 simp only[esItems,List.mem_cons,List.not_mem_nil,or_false] at hm
 rcases hm with rfl|rfl|rfl|rfl
 ·replace hb:isB t i 0 0 ⟨#[115,116,114,117,99,116]⟩=true:=hb
  obtain rfl:=hc.plain (by decide)
  refine(structP (hT t.len) h hN hb).mono fun e w' p=>p.to (fun r hr=>?_) (fun p hw=>?_)
  all_goals
   have n1:=isB_ne hb (b:=⟨#[101,110,117,109]⟩) (lit)
   have n2:=isB_ne hb (b:=⟨#[116,114,97,105,116]⟩) (lit)
   have hbb:=hb
  ·replace hr:=Ev.cg (m':=fun n=>gStruct t (gG t n 0) (t.pos i) 0 n) (s':=⟨i+1,0,0⟩) hr (fun n=>rfl)
   unfold gItemX
   exact evt
  ·replace hw:=Wr.cg (m':=fun n=>gStruct t (gG t n 0) (t.pos i) 0 n) (s':=⟨i+1,0,0⟩) hw (fun n=>rfl)
   unfold gItemX
   exact wrt
 ·replace hb:isB t i 0 0 ⟨#[101,110,117,109]⟩=true:=hb
  obtain rfl:=hc.plain (by decide)
  refine(enumP (hT t.len) h hN hb).mono fun e w' p=>p.to (fun r hr=>?_) (fun p hw=>?_)
  all_goals
   have n0:=isB_ne hb (b:=⟨#[115,116,114,117,99,116]⟩) (lit)
   have n2:=isB_ne hb (b:=⟨#[116,114,97,105,116]⟩) (lit)
   have hbb:=hb
  ·replace hr:=Ev.cg (m':=fun n=>gEnum t (gG t n 0) (t.pos i) 0 n) (s':=⟨i+1,0,0⟩) hr (fun n=>rfl)
   unfold gItemX
   exact evt
  ·replace hw:=Wr.cg (m':=fun n=>gEnum t (gG t n 0) (t.pos i) 0 n) (s':=⟨i+1,0,0⟩) hw (fun n=>rfl)
   unfold gItemX
   exact wrt
 ·replace hb:isB t i 0 0 ⟨#[116,114,97,105,116]⟩=true:=hb
  obtain rfl:=hc.plain (by decide)
  refine(traitP (hT t.len) h hN hb).mono fun e w' p=>p.to (fun r hr=>?_) (fun p hw=>?_)
  all_goals
   have n0:=isB_ne hb (b:=⟨#[115,116,114,117,99,116]⟩) (lit)
   have n1:=isB_ne hb (b:=⟨#[101,110,117,109]⟩) (lit)
   have hbb:=hb
  ·replace hr:=Ev.cg (m':=fun n=>gTrait t (gG t n 0) (t.pos i) 0 n) (s':=⟨i+1,0,0⟩) hr (fun n=>rfl)
   unfold gItemX
   exact evt
  ·replace hw:=Wr.cg (m':=fun n=>gTrait t (gG t n 0) (t.pos i) 0 n) (s':=⟨i+1,0,0⟩) hw (fun n=>rfl)
   unfold gItemX
   exact wrt
 ·replace hb:isB t i 0 0 ⟨#[102,110]⟩=true:=hb
  obtain rfl:=hc.plain (by decide)
  refine(fnItemP (hT t.len) (hB t.len) h hN).mono fun e w' p=>p.to (fun r hr=>?_) (fun p hw=>?_)
  all_goals
   have n0:=isB_ne hb (b:=⟨#[115,116,114,117,99,116]⟩) (lit)
   have n1:=isB_ne hb (b:=⟨#[101,110,117,109]⟩) (lit)
   have n2:=isB_ne hb (b:=⟨#[116,114,97,105,116]⟩) (lit)
   have hbb:=hb
  ·unfold gItemX
   exact evt
  ·unfold gItemX
   exact wrt
theorem itemsNone {w:World} {rb tb i:Nat} {cap:Cp} {t:Tk} (h:Rd w rb tb cap t i 0 0) (hn:firstB t i esItems=none):Wr (fun n=>gItemX t (gG t n 0) (gG t n 3) n) ⟨i,0,0⟩ (t.pos i):=by
 have n0:isB t i 0 0 ⟨#[115,116,114,117,99,116]⟩=false:=firstB_none hn _ (List.getElem_mem (n:=0) (by decide))
 have n1:isB t i 0 0 ⟨#[101,110,117,109]⟩=false:=firstB_none hn _ (List.getElem_mem (n:=1) (by decide))
 have n2:isB t i 0 0 ⟨#[116,114,97,105,116]⟩=false:=firstB_none hn _ (List.getElem_mem (n:=2) (by decide))
 have n3:isB t i 0 0 ⟨#[102,110]⟩=false:=firstB_none hn _ (List.getElem_mem (n:=3) (by decide))
 have hf:∀n,bnd (gAt t) (fun p=>seq (gWant t ⟨#[102,110]⟩) (bnd (gName t) (fun s=>bnd (gGensX t true n) (fun g=>bnd (gParams t (gG t n 0) n) (fun ps=>bnd (gResult t (gG t n 0)) (fun y=>ret (p,s,g::(ps++[y]),(ps.length:Int))))))))=gHead t (gG t n 0) true n:=fun n=>head_is.symm
 have hw:Wr (fun n=>gHead t (gG t n 0) true n) ⟨i,0,0⟩ (t.pos i):=by
  rw[show(fun n=>gHead t (gG t n 0) true n)=(fun n=>gHead2 t (gG t n 0) true n) from funext fun n=>head_is]
  unfold gHead2 gGensX
  exact wrt
 have hw2:Wr (fun n=>gFun t (gG t n 0) (gG t n 3) true n) ⟨i,0,0⟩ (t.pos i):=Wr.fst hw (fun _ _=>syt)
 unfold gItemX
 exact wrt
theorem txt1_is {t:Tk} {i:Nat} {s:ByteArray} {l:List UInt8} {b:Bool} (hc:Clean t) (hi:i+1<t.len) (hb:isB t i 0 1 s=b) (hs:s∈askS:=by exact ask) (hl:s.toList=l:=by simp only[Lib.toList_data]):((t.text (i+1)).toList==l)=b:=by
 rw[←hl,←isB1_text hc hi hs]
 exact hb
theorem isB_lt0 {t:Tk} {i:Nat} {s:ByteArray} (hb:isB t i 0 0 s=true):i<t.len:=by
 unfold isB at hb
 simp only[Bool.and_eq_true,decide_eq_true_eq] at hb
 simpa using hb.2.1
theorem fld67_1 (x0 x1 x2 x3:Value) (w:World):(Instr.field 67 (.agg #[x0,x1,x2,x3]) 1).run Tryz.prog w=.ok x1 w:=by kernel_rfl
theorem fld67_2 (x0 x1 x2 x3:Value) (w:World):(Instr.field 67 (.agg #[x0,x1,x2,x3]) 2).run Tryz.prog w=.ok x2 w:=by kernel_rfl
end Go.Proofs.YtdplogkmkgekdaaGreatDoor.Pj
namespace Go.Proofs.YtdplogkmkgekdaaGreatDoor.Pj
open Go.RowKit
theorem item_10 (hT:∀N,rdP 70 N (fun t n=>gG t n 0)) (hB:∀N,rdP 75 N (fun t n=>gG t n 3)) {w:World} {rb tb i:Nat} {cap:Cp} {t:Tk} (h:Rd w rb tb cap t i 0 0) (hI:isB t i 0 0 ⟨#[105,109,112,108]⟩=false) (hP:isB t i 0 0 ⟨#[112,117,98]⟩=true) (hC:isB t (i+1) 0 0 ⟨#[99,111,112,121]⟩=false):
 Calls Tryz.prog 92 #[.pointer (some ⟨rb,0,none⟩)] w (NodeP w rb tb cap t i True (fun n=>gItem t (gG t n 0) (gG t n 3) n)):=by
 have hl:=h.l
 have hposI:(0:Int)≤(t.pos i:Int)∧(t.pos i:Int)≤7000:=by have:=h.good.posb i;omega
 have KI:=Hid_nx hI
 have KP:=Hid_nx hP
 have KC:=Hid_nx hC
 have hfd:=fld67_1
 have hfd2:=fld103_2
 have hfd3:=fld67_2
 clear hP hC
 go_enter Tryz.func92,Tryz.ntmps92
 have q:=Mf.start h
 go_wp2_with fail
 refine(q.ne' (sz w) (zeroC)).lf (isP · _ (ask)) ?_
 clear q
 intro w1 q
 have F:=q.f1
 go_wp2_with fail
 refine q.lf (tokP ·) ?_
 clear q F
 intro w2 q
 have F:=q.f1
 go_wp2_with fail
 refine q.et (skipP · _ (ask)) ?_
 clear q F
 intro w3 b3 i3 hE3 m3 q
 have F:=q.f1
 obtain rfl:b3=true:=hE3.is_.trans KP.out
 obtain rfl:=(hE3.yes rfl).1
 have KQ:=q.le
 clear hE3
 have kc:=KC.out
 go_wp2_with fail
 refine q.lf (isP · _ (ask)) ?_
 clear q F
 intro w4 q
 have F:=q.f1
 have r2:=q.st.rd.r2
 go_wp2_with fail
 refine(q.alloc (.cells #[.slice (some ⟨cap.a1,0,none⟩) 4 4] 72)).nd (fun _=>read1P q.st.rd q.st.rd.t1 ask_esItems (by decide) rfl ein_esItems (fun e w' ts he hc hr=>itemsD hT hB hr he hc) (fun hn=>itemsNone q.st.rd hn)) (fun w' p hk hw=>⟨rfl,.inr (Mf.thr (q.alloc _) hk (by rw[show(fun n=>gItem t (gG t n 0) (gG t n 3) n)=(fun n=>gItem2 t (gG t n 0) (gG t n 3) n) from funext fun n=>item_is];unfold gItem2;exact Wr.snd ev_at (Wr.snd ev_is (Wr.no KI.out (Wr.snd (Ev.bnd' m3 (Ev.yes rfl Ev.ret')) (Wr.snd ev_is (Wr.snd ev_is (Wr.snd ev_is (Wr.snd (Ev.no (and_l KC.out) Ev.ret') (Wr.fst hw (fun _ _=>Sy.ret)))))))))))⟩) ?_
 clear q F r2
 intro w5 x5 i5 y5 hl5 m5 q
 have F:=q.f1
 have hposI2:=hposI
 go_wp2_with fail
 go_light
 refine Mf.rt ((q.ne' (sz w5) (nodeC x5.k (t.pos i) x5.n 1 x5.s x5.v)).pm (t.pos i) 1 hposI) Tryz.results92 1 (by rw[show(fun n=>gItem t (gG t n 0) (gG t n 3) n)=(fun n=>gItem2 t (gG t n 0) (gG t n 3) n) from funext fun n=>item_is];unfold gItem2;exact Ev.bnd' ev_at (Ev.bnd' ev_is (Ev.no KI.out (Ev.bnd' (Ev.bnd' m3 (Ev.yes rfl Ev.ret')) (Ev.bnd' ev_is (Ev.bnd' ev_is (Ev.bnd' ev_is (Ev.bnd' (Ev.no (and_l KC.out) Ev.ret') (Ev.bnd' m5 Ev.ret'))))))))) ?_
 simp[set11,World.setCell_alloc_past,F,Nat.lt_succ_of_lt]
end Go.Proofs.YtdplogkmkgekdaaGreatDoor.Pj
namespace Go.Proofs.YtdplogkmkgekdaaGreatDoor.Pj
open Go.RowKit
theorem item_00 (hT:∀N,rdP 70 N (fun t n=>gG t n 0)) (hB:∀N,rdP 75 N (fun t n=>gG t n 3)) {w:World} {rb tb i:Nat} {cap:Cp} {t:Tk} (h:Rd w rb tb cap t i 0 0) (hI:isB t i 0 0 ⟨#[105,109,112,108]⟩=false) (hP:isB t i 0 0 ⟨#[112,117,98]⟩=false) (hC:isB t i 0 0 ⟨#[99,111,112,121]⟩=false):
 Calls Tryz.prog 92 #[.pointer (some ⟨rb,0,none⟩)] w (NodeP w rb tb cap t i True (fun n=>gItem t (gG t n 0) (gG t n 3) n)):=by
 have hl:=h.l
 have hposI:(0:Int)≤(t.pos i:Int)∧(t.pos i:Int)≤7000:=by have:=h.good.posb i;omega
 have KI:=Hid_nx hI
 have KP:=Hid_nx hP
 have KC:=Hid_nx hC
 have hfd:=fld67_1
 have hfd2:=fld103_2
 have hfd3:=fld67_2
 clear hP hC
 go_enter Tryz.func92,Tryz.ntmps92
 have q:=Mf.start h
 go_wp2_with fail
 refine(q.ne' (sz w) (zeroC)).lf (isP · _ (ask)) ?_
 clear q
 intro w1 q
 have F:=q.f1
 go_wp2_with fail
 refine q.lf (tokP ·) ?_
 clear q F
 intro w2 q
 have F:=q.f1
 go_wp2_with fail
 refine q.et (skipP · _ (ask)) ?_
 clear q F
 intro w3 b3 i3 hE3 m3 q
 have F:=q.f1
 obtain rfl:b3=false:=hE3.is_.trans KP.out
 obtain rfl:i=i3:=(hE3.no rfl).symm
 have KQ:=q.le
 clear hE3
 have kc:=KC.out
 go_wp2_with fail
 refine q.lf (isP · _ (ask)) ?_
 clear q F
 intro w4 q
 have F:=q.f1
 have r2:=q.st.rd.r2
 go_wp2_with fail
 refine(q.alloc (.cells #[.slice (some ⟨cap.a1,0,none⟩) 4 4] 72)).nd (fun _=>read1P q.st.rd q.st.rd.t1 ask_esItems (by decide) rfl ein_esItems (fun e w' ts he hc hr=>itemsD hT hB hr he hc) (fun hn=>itemsNone q.st.rd hn)) (fun w' p hk hw=>⟨rfl,.inr (Mf.thr (q.alloc _) hk (by rw[show(fun n=>gItem t (gG t n 0) (gG t n 3) n)=(fun n=>gItem2 t (gG t n 0) (gG t n 3) n) from funext fun n=>item_is];unfold gItem2;exact Wr.snd ev_at (Wr.snd ev_is (Wr.no KI.out (Wr.snd (Ev.bnd' m3 (Ev.no rfl Ev.ret')) (Wr.snd ev_is (Wr.snd ev_is (Wr.snd ev_is (Wr.snd (Ev.no (and_l KC.out) Ev.ret') (Wr.fst hw (fun _ _=>Sy.ret)))))))))))⟩) ?_
 clear q F r2
 intro w5 x5 i5 y5 hl5 m5 q
 have F:=q.f1
 have hposI2:=hposI
 go_wp2_with fail
 go_light
 refine Mf.rt ((q.ne' (sz w5) (nodeC x5.k (t.pos i) x5.n 0 x5.s x5.v)).pm (t.pos i) 0 hposI) Tryz.results92 1 (by rw[show(fun n=>gItem t (gG t n 0) (gG t n 3) n)=(fun n=>gItem2 t (gG t n 0) (gG t n 3) n) from funext fun n=>item_is];unfold gItem2;exact Ev.bnd' ev_at (Ev.bnd' ev_is (Ev.no KI.out (Ev.bnd' (Ev.bnd' m3 (Ev.no rfl Ev.ret')) (Ev.bnd' ev_is (Ev.bnd' ev_is (Ev.bnd' ev_is (Ev.bnd' (Ev.no (and_l KC.out) Ev.ret') (Ev.bnd' m5 Ev.ret'))))))))) ?_
 simp[set11,World.setCell_alloc_past,F,Nat.lt_succ_of_lt]
end Go.Proofs.YtdplogkmkgekdaaGreatDoor.Pj
namespace Go.Proofs.YtdplogkmkgekdaaGreatDoor.Pj
open Go.RowKit
theorem item_01 (hT:∀N,rdP 70 N (fun t n=>gG t n 0)) (hB:∀N,rdP 75 N (fun t n=>gG t n 3)) {w:World} {rb tb i:Nat} {cap:Cp} {t:Tk} (h:Rd w rb tb cap t i 0 0) (hI:isB t i 0 0 ⟨#[105,109,112,108]⟩=false) (hP:isB t i 0 0 ⟨#[112,117,98]⟩=false) (hC:isB t i 0 0 ⟨#[99,111,112,121]⟩=true) (hS:isB t i 0 1 ⟨#[115,116,114,117,99,116]⟩=true):
 Calls Tryz.prog 92 #[.pointer (some ⟨rb,0,none⟩)] w (NodeP w rb tb cap t i True (fun n=>gItem t (gG t n 0) (gG t n 3) n)):=by
 have hl:=h.l
 have hposI:(0:Int)≤(t.pos i:Int)∧(t.pos i:Int)≤7000:=by have:=h.good.posb i;omega
 have KI:=Hid_nx hI
 have KP:=Hid_nx hP
 have KC:=Hid_nx hC
 have hl1:=(isB_lt h.good (isB_lt0 hC) hC).2
 have tS:((t.text (i+1)).toList==[115,116,114,117,99,116])=true:=txt1_is h.cl hl1 hS
 have KS:=Hid_nx hS
 have hfd:=fld67_1
 have hfd2:=fld103_2
 have hfd3:=fld67_2
 clear hP hC hS
 go_enter Tryz.func92,Tryz.ntmps92
 have q:=Mf.start h
 go_wp2_with fail
 refine(q.ne' (sz w) (zeroC)).lf (isP · _ (ask)) ?_
 clear q
 intro w1 q
 have F:=q.f1
 go_wp2_with fail
 refine q.lf (tokP ·) ?_
 clear q F
 intro w2 q
 have F:=q.f1
 go_wp2_with fail
 refine q.et (skipP · _ (ask)) ?_
 clear q F
 intro w3 b3 i3 hE3 m3 q
 have F:=q.f1
 obtain rfl:b3=false:=hE3.is_.trans KP.out
 obtain rfl:i=i3:=(hE3.no rfl).symm
 have KQ:=q.le
 clear hE3
 have kc:=KC.out
 go_wp2_with fail
 refine q.lf (isP · _ (ask)) ?_
 clear q F
 intro w4 q
 have F:=q.f1
 go_wp2_with fail
 refine q.lf (fun hr=>behindP hr hl1) ?_
 clear q F
 intro w5 q
 have F:=q.f1
 go_wp2_with fail
 refine q.tak hl1 ?_
 clear q F
 intro w6 q
 have F:=q.f1
 have r2:=q.st.rd.r2
 go_wp2_with fail
 refine(q.alloc (.cells #[.slice (some ⟨cap.a1,0,none⟩) 4 4] 72)).nd (fun _=>read1P q.st.rd q.st.rd.t1 ask_esItems (by decide) rfl ein_esItems (fun e w' ts he hc hr=>itemsD hT hB hr he hc) (fun hn=>itemsNone q.st.rd hn)) (fun w' p hk hw=>⟨rfl,.inr (Mf.thr (q.alloc _) hk (by rw[show(fun n=>gItem t (gG t n 0) (gG t n 3) n)=(fun n=>gItem2 t (gG t n 0) (gG t n 3) n) from funext fun n=>item_is];unfold gItem2;exact Wr.snd ev_at (Wr.snd ev_is (Wr.no KI.out (Wr.snd (Ev.bnd' m3 (Ev.no rfl Ev.ret')) (Wr.snd ev_is (Wr.snd ev_is (Wr.snd ev_is (Wr.snd (Ev.yes (and_y KC.out (or_l KS.out)) (Ev.seq ev_add Ev.ret')) (Wr.fst hw (fun _ _=>Sy.ret)))))))))))⟩) ?_
 clear q F r2
 intro w7 x5 i5 y5 hl5 m5 q
 have F:=q.f1
 have hposI2:=hposI
 go_wp2_with fail
 go_light
 refine Mf.rt ((q.ne' (sz w7) (nodeC x5.k (t.pos i) x5.n 2 x5.s x5.v)).pm (t.pos i) 2 hposI) Tryz.results92 1 (by rw[show(fun n=>gItem t (gG t n 0) (gG t n 3) n)=(fun n=>gItem2 t (gG t n 0) (gG t n 3) n) from funext fun n=>item_is];unfold gItem2;exact Ev.bnd' ev_at (Ev.bnd' ev_is (Ev.no KI.out (Ev.bnd' (Ev.bnd' m3 (Ev.no rfl Ev.ret')) (Ev.bnd' ev_is (Ev.bnd' ev_is (Ev.bnd' ev_is (Ev.bnd' (Ev.yes (and_y KC.out (or_l KS.out)) (Ev.seq ev_add Ev.ret')) (Ev.bnd' m5 Ev.ret'))))))))) ?_
 simp[set11,World.setCell_alloc_past,F,Nat.lt_succ_of_lt]
end Go.Proofs.YtdplogkmkgekdaaGreatDoor.Pj
namespace Go.Proofs.YtdplogkmkgekdaaGreatDoor.Pj
open Go.RowKit
theorem item_11 (hT:∀N,rdP 70 N (fun t n=>gG t n 0)) (hB:∀N,rdP 75 N (fun t n=>gG t n 3)) {w:World} {rb tb i:Nat} {cap:Cp} {t:Tk} (h:Rd w rb tb cap t i 0 0) (hI:isB t i 0 0 ⟨#[105,109,112,108]⟩=false) (hP:isB t i 0 0 ⟨#[112,117,98]⟩=true) (hC:isB t (i+1) 0 0 ⟨#[99,111,112,121]⟩=true) (hS:isB t (i+1) 0 1 ⟨#[115,116,114,117,99,116]⟩=true):
 Calls Tryz.prog 92 #[.pointer (some ⟨rb,0,none⟩)] w (NodeP w rb tb cap t i True (fun n=>gItem t (gG t n 0) (gG t n 3) n)):=by
 have hl:=h.l
 have hposI:(0:Int)≤(t.pos i:Int)∧(t.pos i:Int)≤7000:=by have:=h.good.posb i;omega
 have KI:=Hid_nx hI
 have KP:=Hid_nx hP
 have KC:=Hid_nx hC
 have hl1:=(isB_lt h.good (isB_lt0 hC) hC).2
 have tS:((t.text (i+1+1)).toList==[115,116,114,117,99,116])=true:=txt1_is h.cl hl1 hS
 have KS:=Hid_nx hS
 have hfd:=fld67_1
 have hfd2:=fld103_2
 have hfd3:=fld67_2
 clear hP hC hS
 go_enter Tryz.func92,Tryz.ntmps92
 have q:=Mf.start h
 go_wp2_with fail
 refine(q.ne' (sz w) (zeroC)).lf (isP · _ (ask)) ?_
 clear q
 intro w1 q
 have F:=q.f1
 go_wp2_with fail
 refine q.lf (tokP ·) ?_
 clear q F
 intro w2 q
 have F:=q.f1
 go_wp2_with fail
 refine q.et (skipP · _ (ask)) ?_
 clear q F
 intro w3 b3 i3 hE3 m3 q
 have F:=q.f1
 obtain rfl:b3=true:=hE3.is_.trans KP.out
 obtain rfl:=(hE3.yes rfl).1
 have KQ:=q.le
 clear hE3
 have kc:=KC.out
 go_wp2_with fail
 refine q.lf (isP · _ (ask)) ?_
 clear q F
 intro w4 q
 have F:=q.f1
 go_wp2_with fail
 refine q.lf (fun hr=>behindP hr hl1) ?_
 clear q F
 intro w5 q
 have F:=q.f1
 go_wp2_with fail
 refine q.tak hl1 ?_
 clear q F
 intro w6 q
 have F:=q.f1
 have r2:=q.st.rd.r2
 go_wp2_with fail
 refine(q.alloc (.cells #[.slice (some ⟨cap.a1,0,none⟩) 4 4] 72)).nd (fun _=>read1P q.st.rd q.st.rd.t1 ask_esItems (by decide) rfl ein_esItems (fun e w' ts he hc hr=>itemsD hT hB hr he hc) (fun hn=>itemsNone q.st.rd hn)) (fun w' p hk hw=>⟨rfl,.inr (Mf.thr (q.alloc _) hk (by rw[show(fun n=>gItem t (gG t n 0) (gG t n 3) n)=(fun n=>gItem2 t (gG t n 0) (gG t n 3) n) from funext fun n=>item_is];unfold gItem2;exact Wr.snd ev_at (Wr.snd ev_is (Wr.no KI.out (Wr.snd (Ev.bnd' m3 (Ev.yes rfl Ev.ret')) (Wr.snd ev_is (Wr.snd ev_is (Wr.snd ev_is (Wr.snd (Ev.yes (and_y KC.out (or_l KS.out)) (Ev.seq ev_add Ev.ret')) (Wr.fst hw (fun _ _=>Sy.ret)))))))))))⟩) ?_
 clear q F r2
 intro w7 x5 i5 y5 hl5 m5 q
 have F:=q.f1
 have hposI2:=hposI
 go_wp2_with fail
 go_light
 refine Mf.rt ((q.ne' (sz w7) (nodeC x5.k (t.pos i) x5.n 3 x5.s x5.v)).pm (t.pos i) 3 hposI) Tryz.results92 1 (by rw[show(fun n=>gItem t (gG t n 0) (gG t n 3) n)=(fun n=>gItem2 t (gG t n 0) (gG t n 3) n) from funext fun n=>item_is];unfold gItem2;exact Ev.bnd' ev_at (Ev.bnd' ev_is (Ev.no KI.out (Ev.bnd' (Ev.bnd' m3 (Ev.yes rfl Ev.ret')) (Ev.bnd' ev_is (Ev.bnd' ev_is (Ev.bnd' ev_is (Ev.bnd' (Ev.yes (and_y KC.out (or_l KS.out)) (Ev.seq ev_add Ev.ret')) (Ev.bnd' m5 Ev.ret'))))))))) ?_
 simp[set11,World.setCell_alloc_past,F,Nat.lt_succ_of_lt]
end Go.Proofs.YtdplogkmkgekdaaGreatDoor.Pj
namespace Go.Proofs.YtdplogkmkgekdaaGreatDoor.Pj
open Go.RowKit
theorem item_03 (hT:∀N,rdP 70 N (fun t n=>gG t n 0)) (hB:∀N,rdP 75 N (fun t n=>gG t n 3)) {w:World} {rb tb i:Nat} {cap:Cp} {t:Tk} (h:Rd w rb tb cap t i 0 0) (hI:isB t i 0 0 ⟨#[105,109,112,108]⟩=false) (hP:isB t i 0 0 ⟨#[112,117,98]⟩=false) (hC:isB t i 0 0 ⟨#[99,111,112,121]⟩=true) (hS:isB t i 0 1 ⟨#[115,116,114,117,99,116]⟩=false) (hE:isB t i 0 1 ⟨#[101,110,117,109]⟩=false):
 Calls Tryz.prog 92 #[.pointer (some ⟨rb,0,none⟩)] w (NodeP w rb tb cap t i True (fun n=>gItem t (gG t n 0) (gG t n 3) n)):=by
 have hl:=h.l
 have hposI:(0:Int)≤(t.pos i:Int)∧(t.pos i:Int)≤7000:=by have:=h.good.posb i;omega
 have KI:=Hid_nx hI
 have KP:=Hid_nx hP
 have KC:=Hid_nx hC
 have hl1:=(isB_lt h.good (isB_lt0 hC) hC).2
 have tS:((t.text (i+1)).toList==[115,116,114,117,99,116])=false:=txt1_is h.cl hl1 hS
 have KS:=Hid_nx hS
 have tE:((t.text (i+1)).toList==[101,110,117,109])=false:=txt1_is h.cl hl1 hE
 have KE:=Hid_nx hE
 have hfd:=fld67_1
 have hfd2:=fld103_2
 have hfd3:=fld67_2
 clear hP hC hS hE
 go_enter Tryz.func92,Tryz.ntmps92
 have q:=Mf.start h
 go_wp2_with fail
 refine(q.ne' (sz w) (zeroC)).lf (isP · _ (ask)) ?_
 clear q
 intro w1 q
 have F:=q.f1
 go_wp2_with fail
 refine q.lf (tokP ·) ?_
 clear q F
 intro w2 q
 have F:=q.f1
 go_wp2_with fail
 refine q.et (skipP · _ (ask)) ?_
 clear q F
 intro w3 b3 i3 hE3 m3 q
 have F:=q.f1
 obtain rfl:b3=false:=hE3.is_.trans KP.out
 obtain rfl:i=i3:=(hE3.no rfl).symm
 have KQ:=q.le
 clear hE3
 have kc:=KC.out
 go_wp2_with fail
 refine q.lf (isP · _ (ask)) ?_
 clear q F
 intro w4 q
 have F:=q.f1
 go_wp2_with fail
 refine q.lf (fun hr=>behindP hr hl1) ?_
 clear q F
 intro w5 q
 have F:=q.f1
 go_wp2_with fail
 refine q.lf (fun hr=>behindP hr hl1) ?_
 clear q F
 intro w6 q
 have F:=q.f1
 have r2:=q.st.rd.r2
 go_wp2_with fail
 refine(q.alloc (.cells #[.slice (some ⟨cap.a1,0,none⟩) 4 4] 72)).nd (fun _=>read1P q.st.rd q.st.rd.t1 ask_esItems (by decide) rfl ein_esItems (fun e w' ts he hc hr=>itemsD hT hB hr he hc) (fun hn=>itemsNone q.st.rd hn)) (fun w' p hk hw=>⟨rfl,.inr (Mf.thr (q.alloc _) hk (by rw[show(fun n=>gItem t (gG t n 0) (gG t n 3) n)=(fun n=>gItem2 t (gG t n 0) (gG t n 3) n) from funext fun n=>item_is];unfold gItem2;exact Wr.snd ev_at (Wr.snd ev_is (Wr.no KI.out (Wr.snd (Ev.bnd' m3 (Ev.no rfl Ev.ret')) (Wr.snd ev_is (Wr.snd ev_is (Wr.snd ev_is (Wr.snd (Ev.no (and_r (or_n KS.out KE.out)) Ev.ret') (Wr.fst hw (fun _ _=>Sy.ret)))))))))))⟩) ?_
 clear q F r2
 intro w7 x5 i5 y5 hl5 m5 q
 have F:=q.f1
 have hposI2:=hposI
 go_wp2_with fail
 go_light
 refine Mf.rt ((q.ne' (sz w7) (nodeC x5.k (t.pos i) x5.n 0 x5.s x5.v)).pm (t.pos i) 0 hposI) Tryz.results92 1 (by rw[show(fun n=>gItem t (gG t n 0) (gG t n 3) n)=(fun n=>gItem2 t (gG t n 0) (gG t n 3) n) from funext fun n=>item_is];unfold gItem2;exact Ev.bnd' ev_at (Ev.bnd' ev_is (Ev.no KI.out (Ev.bnd' (Ev.bnd' m3 (Ev.no rfl Ev.ret')) (Ev.bnd' ev_is (Ev.bnd' ev_is (Ev.bnd' ev_is (Ev.bnd' (Ev.no (and_r (or_n KS.out KE.out)) Ev.ret') (Ev.bnd' m5 Ev.ret'))))))))) ?_
 simp[set11,World.setCell_alloc_past,F,Nat.lt_succ_of_lt]
end Go.Proofs.YtdplogkmkgekdaaGreatDoor.Pj
namespace Go.Proofs.YtdplogkmkgekdaaGreatDoor.Pj
open Go.RowKit
theorem item_13 (hT:∀N,rdP 70 N (fun t n=>gG t n 0)) (hB:∀N,rdP 75 N (fun t n=>gG t n 3)) {w:World} {rb tb i:Nat} {cap:Cp} {t:Tk} (h:Rd w rb tb cap t i 0 0) (hI:isB t i 0 0 ⟨#[105,109,112,108]⟩=false) (hP:isB t i 0 0 ⟨#[112,117,98]⟩=true) (hC:isB t (i+1) 0 0 ⟨#[99,111,112,121]⟩=true) (hS:isB t (i+1) 0 1 ⟨#[115,116,114,117,99,116]⟩=false) (hE:isB t (i+1) 0 1 ⟨#[101,110,117,109]⟩=false):
 Calls Tryz.prog 92 #[.pointer (some ⟨rb,0,none⟩)] w (NodeP w rb tb cap t i True (fun n=>gItem t (gG t n 0) (gG t n 3) n)):=by
 have hl:=h.l
 have hposI:(0:Int)≤(t.pos i:Int)∧(t.pos i:Int)≤7000:=by have:=h.good.posb i;omega
 have KI:=Hid_nx hI
 have KP:=Hid_nx hP
 have KC:=Hid_nx hC
 have hl1:=(isB_lt h.good (isB_lt0 hC) hC).2
 have tS:((t.text (i+1+1)).toList==[115,116,114,117,99,116])=false:=txt1_is h.cl hl1 hS
 have KS:=Hid_nx hS
 have tE:((t.text (i+1+1)).toList==[101,110,117,109])=false:=txt1_is h.cl hl1 hE
 have KE:=Hid_nx hE
 have hfd:=fld67_1
 have hfd2:=fld103_2
 have hfd3:=fld67_2
 clear hP hC hS hE
 go_enter Tryz.func92,Tryz.ntmps92
 have q:=Mf.start h
 go_wp2_with fail
 refine(q.ne' (sz w) (zeroC)).lf (isP · _ (ask)) ?_
 clear q
 intro w1 q
 have F:=q.f1
 go_wp2_with fail
 refine q.lf (tokP ·) ?_
 clear q F
 intro w2 q
 have F:=q.f1
 go_wp2_with fail
 refine q.et (skipP · _ (ask)) ?_
 clear q F
 intro w3 b3 i3 hE3 m3 q
 have F:=q.f1
 obtain rfl:b3=true:=hE3.is_.trans KP.out
 obtain rfl:=(hE3.yes rfl).1
 have KQ:=q.le
 clear hE3
 have kc:=KC.out
 go_wp2_with fail
 refine q.lf (isP · _ (ask)) ?_
 clear q F
 intro w4 q
 have F:=q.f1
 go_wp2_with fail
 refine q.lf (fun hr=>behindP hr hl1) ?_
 clear q F
 intro w5 q
 have F:=q.f1
 go_wp2_with fail
 refine q.lf (fun hr=>behindP hr hl1) ?_
 clear q F
 intro w6 q
 have F:=q.f1
 have r2:=q.st.rd.r2
 go_wp2_with fail
 refine(q.alloc (.cells #[.slice (some ⟨cap.a1,0,none⟩) 4 4] 72)).nd (fun _=>read1P q.st.rd q.st.rd.t1 ask_esItems (by decide) rfl ein_esItems (fun e w' ts he hc hr=>itemsD hT hB hr he hc) (fun hn=>itemsNone q.st.rd hn)) (fun w' p hk hw=>⟨rfl,.inr (Mf.thr (q.alloc _) hk (by rw[show(fun n=>gItem t (gG t n 0) (gG t n 3) n)=(fun n=>gItem2 t (gG t n 0) (gG t n 3) n) from funext fun n=>item_is];unfold gItem2;exact Wr.snd ev_at (Wr.snd ev_is (Wr.no KI.out (Wr.snd (Ev.bnd' m3 (Ev.yes rfl Ev.ret')) (Wr.snd ev_is (Wr.snd ev_is (Wr.snd ev_is (Wr.snd (Ev.no (and_r (or_n KS.out KE.out)) Ev.ret') (Wr.fst hw (fun _ _=>Sy.ret)))))))))))⟩) ?_
 clear q F r2
 intro w7 x5 i5 y5 hl5 m5 q
 have F:=q.f1
 have hposI2:=hposI
 go_wp2_with fail
 go_light
 refine Mf.rt ((q.ne' (sz w7) (nodeC x5.k (t.pos i) x5.n 1 x5.s x5.v)).pm (t.pos i) 1 hposI) Tryz.results92 1 (by rw[show(fun n=>gItem t (gG t n 0) (gG t n 3) n)=(fun n=>gItem2 t (gG t n 0) (gG t n 3) n) from funext fun n=>item_is];unfold gItem2;exact Ev.bnd' ev_at (Ev.bnd' ev_is (Ev.no KI.out (Ev.bnd' (Ev.bnd' m3 (Ev.yes rfl Ev.ret')) (Ev.bnd' ev_is (Ev.bnd' ev_is (Ev.bnd' ev_is (Ev.bnd' (Ev.no (and_r (or_n KS.out KE.out)) Ev.ret') (Ev.bnd' m5 Ev.ret'))))))))) ?_
 simp[set11,World.setCell_alloc_past,F,Nat.lt_succ_of_lt]
end Go.Proofs.YtdplogkmkgekdaaGreatDoor.Pj
namespace Go.Proofs.YtdplogkmkgekdaaGreatDoor.Pj
open Go.RowKit
theorem item_02 (hT:∀N,rdP 70 N (fun t n=>gG t n 0)) (hB:∀N,rdP 75 N (fun t n=>gG t n 3)) {w:World} {rb tb i:Nat} {cap:Cp} {t:Tk} (h:Rd w rb tb cap t i 0 0) (hI:isB t i 0 0 ⟨#[105,109,112,108]⟩=false) (hP:isB t i 0 0 ⟨#[112,117,98]⟩=false) (hC:isB t i 0 0 ⟨#[99,111,112,121]⟩=true) (hS:isB t i 0 1 ⟨#[115,116,114,117,99,116]⟩=false) (hE:isB t i 0 1 ⟨#[101,110,117,109]⟩=true):
 Calls Tryz.prog 92 #[.pointer (some ⟨rb,0,none⟩)] w (NodeP w rb tb cap t i True (fun n=>gItem t (gG t n 0) (gG t n 3) n)):=by
 have hl:=h.l
 have hposI:(0:Int)≤(t.pos i:Int)∧(t.pos i:Int)≤7000:=by have:=h.good.posb i;omega
 have KI:=Hid_nx hI
 have KP:=Hid_nx hP
 have KC:=Hid_nx hC
 have hl1:=(isB_lt h.good (isB_lt0 hC) hC).2
 have tS:((t.text (i+1)).toList==[115,116,114,117,99,116])=false:=txt1_is h.cl hl1 hS
 have KS:=Hid_nx hS
 have tE:((t.text (i+1)).toList==[101,110,117,109])=true:=txt1_is h.cl hl1 hE
 have KE:=Hid_nx hE
 have hfd:=fld67_1
 have hfd2:=fld103_2
 have hfd3:=fld67_2
 clear hP hC hS hE
 go_enter Tryz.func92,Tryz.ntmps92
 have q:=Mf.start h
 go_wp2_with fail
 refine(q.ne' (sz w) (zeroC)).lf (isP · _ (ask)) ?_
 clear q
 intro w1 q
 have F:=q.f1
 go_wp2_with fail
 refine q.lf (tokP ·) ?_
 clear q F
 intro w2 q
 have F:=q.f1
 go_wp2_with fail
 refine q.et (skipP · _ (ask)) ?_
 clear q F
 intro w3 b3 i3 hE3 m3 q
 have F:=q.f1
 obtain rfl:b3=false:=hE3.is_.trans KP.out
 obtain rfl:i=i3:=(hE3.no rfl).symm
 have KQ:=q.le
 clear hE3
 have kc:=KC.out
 go_wp2_with fail
 refine q.lf (isP · _ (ask)) ?_
 clear q F
 intro w4 q
 have F:=q.f1
 go_wp2_with fail
 refine q.lf (fun hr=>behindP hr hl1) ?_
 clear q F
 intro w5 q
 have F:=q.f1
 go_wp2_with fail
 refine q.lf (fun hr=>behindP hr hl1) ?_
 clear q F
 intro w6 q
 have F:=q.f1
 go_wp2_with fail
 refine q.tak hl1 ?_
 clear q F
 intro w7 q
 have F:=q.f1
 have r2:=q.st.rd.r2
 go_wp2_with fail
 refine(q.alloc (.cells #[.slice (some ⟨cap.a1,0,none⟩) 4 4] 72)).nd (fun _=>read1P q.st.rd q.st.rd.t1 ask_esItems (by decide) rfl ein_esItems (fun e w' ts he hc hr=>itemsD hT hB hr he hc) (fun hn=>itemsNone q.st.rd hn)) (fun w' p hk hw=>⟨rfl,.inr (Mf.thr (q.alloc _) hk (by rw[show(fun n=>gItem t (gG t n 0) (gG t n 3) n)=(fun n=>gItem2 t (gG t n 0) (gG t n 3) n) from funext fun n=>item_is];unfold gItem2;exact Wr.snd ev_at (Wr.snd ev_is (Wr.no KI.out (Wr.snd (Ev.bnd' m3 (Ev.no rfl Ev.ret')) (Wr.snd ev_is (Wr.snd ev_is (Wr.snd ev_is (Wr.snd (Ev.yes (and_y KC.out (or_r KE.out)) (Ev.seq ev_add Ev.ret')) (Wr.fst hw (fun _ _=>Sy.ret)))))))))))⟩) ?_
 clear q F r2
 intro w8 x5 i5 y5 hl5 m5 q
 have F:=q.f1
 have hposI2:=hposI
 go_wp2_with fail
 go_light
 refine Mf.rt ((q.ne' (sz w8) (nodeC x5.k (t.pos i) x5.n 2 x5.s x5.v)).pm (t.pos i) 2 hposI) Tryz.results92 1 (by rw[show(fun n=>gItem t (gG t n 0) (gG t n 3) n)=(fun n=>gItem2 t (gG t n 0) (gG t n 3) n) from funext fun n=>item_is];unfold gItem2;exact Ev.bnd' ev_at (Ev.bnd' ev_is (Ev.no KI.out (Ev.bnd' (Ev.bnd' m3 (Ev.no rfl Ev.ret')) (Ev.bnd' ev_is (Ev.bnd' ev_is (Ev.bnd' ev_is (Ev.bnd' (Ev.yes (and_y KC.out (or_r KE.out)) (Ev.seq ev_add Ev.ret')) (Ev.bnd' m5 Ev.ret'))))))))) ?_
 simp[set11,World.setCell_alloc_past,F,Nat.lt_succ_of_lt]
end Go.Proofs.YtdplogkmkgekdaaGreatDoor.Pj
namespace Go.Proofs.YtdplogkmkgekdaaGreatDoor.Pj
open Go.RowKit
theorem item_12 (hT:∀N,rdP 70 N (fun t n=>gG t n 0)) (hB:∀N,rdP 75 N (fun t n=>gG t n 3)) {w:World} {rb tb i:Nat} {cap:Cp} {t:Tk} (h:Rd w rb tb cap t i 0 0) (hI:isB t i 0 0 ⟨#[105,109,112,108]⟩=false) (hP:isB t i 0 0 ⟨#[112,117,98]⟩=true) (hC:isB t (i+1) 0 0 ⟨#[99,111,112,121]⟩=true) (hS:isB t (i+1) 0 1 ⟨#[115,116,114,117,99,116]⟩=false) (hE:isB t (i+1) 0 1 ⟨#[101,110,117,109]⟩=true):
 Calls Tryz.prog 92 #[.pointer (some ⟨rb,0,none⟩)] w (NodeP w rb tb cap t i True (fun n=>gItem t (gG t n 0) (gG t n 3) n)):=by
 have hl:=h.l
 have hposI:(0:Int)≤(t.pos i:Int)∧(t.pos i:Int)≤7000:=by have:=h.good.posb i;omega
 have KI:=Hid_nx hI
 have KP:=Hid_nx hP
 have KC:=Hid_nx hC
 have hl1:=(isB_lt h.good (isB_lt0 hC) hC).2
 have tS:((t.text (i+1+1)).toList==[115,116,114,117,99,116])=false:=txt1_is h.cl hl1 hS
 have KS:=Hid_nx hS
 have tE:((t.text (i+1+1)).toList==[101,110,117,109])=true:=txt1_is h.cl hl1 hE
 have KE:=Hid_nx hE
 have hfd:=fld67_1
 have hfd2:=fld103_2
 have hfd3:=fld67_2
 clear hP hC hS hE
 go_enter Tryz.func92,Tryz.ntmps92
 have q:=Mf.start h
 go_wp2_with fail
 refine(q.ne' (sz w) (zeroC)).lf (isP · _ (ask)) ?_
 clear q
 intro w1 q
 have F:=q.f1
 go_wp2_with fail
 refine q.lf (tokP ·) ?_
 clear q F
 intro w2 q
 have F:=q.f1
 go_wp2_with fail
 refine q.et (skipP · _ (ask)) ?_
 clear q F
 intro w3 b3 i3 hE3 m3 q
 have F:=q.f1
 obtain rfl:b3=true:=hE3.is_.trans KP.out
 obtain rfl:=(hE3.yes rfl).1
 have KQ:=q.le
 clear hE3
 have kc:=KC.out
 go_wp2_with fail
 refine q.lf (isP · _ (ask)) ?_
 clear q F
 intro w4 q
 have F:=q.f1
 go_wp2_with fail
 refine q.lf (fun hr=>behindP hr hl1) ?_
 clear q F
 intro w5 q
 have F:=q.f1
 go_wp2_with fail
 refine q.lf (fun hr=>behindP hr hl1) ?_
 clear q F
 intro w6 q
 have F:=q.f1
 go_wp2_with fail
 refine q.tak hl1 ?_
 clear q F
 intro w7 q
 have F:=q.f1
 have r2:=q.st.rd.r2
 go_wp2_with fail
 refine(q.alloc (.cells #[.slice (some ⟨cap.a1,0,none⟩) 4 4] 72)).nd (fun _=>read1P q.st.rd q.st.rd.t1 ask_esItems (by decide) rfl ein_esItems (fun e w' ts he hc hr=>itemsD hT hB hr he hc) (fun hn=>itemsNone q.st.rd hn)) (fun w' p hk hw=>⟨rfl,.inr (Mf.thr (q.alloc _) hk (by rw[show(fun n=>gItem t (gG t n 0) (gG t n 3) n)=(fun n=>gItem2 t (gG t n 0) (gG t n 3) n) from funext fun n=>item_is];unfold gItem2;exact Wr.snd ev_at (Wr.snd ev_is (Wr.no KI.out (Wr.snd (Ev.bnd' m3 (Ev.yes rfl Ev.ret')) (Wr.snd ev_is (Wr.snd ev_is (Wr.snd ev_is (Wr.snd (Ev.yes (and_y KC.out (or_r KE.out)) (Ev.seq ev_add Ev.ret')) (Wr.fst hw (fun _ _=>Sy.ret)))))))))))⟩) ?_
 clear q F r2
 intro w8 x5 i5 y5 hl5 m5 q
 have F:=q.f1
 have hposI2:=hposI
 go_wp2_with fail
 go_light
 refine Mf.rt ((q.ne' (sz w8) (nodeC x5.k (t.pos i) x5.n 3 x5.s x5.v)).pm (t.pos i) 3 hposI) Tryz.results92 1 (by rw[show(fun n=>gItem t (gG t n 0) (gG t n 3) n)=(fun n=>gItem2 t (gG t n 0) (gG t n 3) n) from funext fun n=>item_is];unfold gItem2;exact Ev.bnd' ev_at (Ev.bnd' ev_is (Ev.no KI.out (Ev.bnd' (Ev.bnd' m3 (Ev.yes rfl Ev.ret')) (Ev.bnd' ev_is (Ev.bnd' ev_is (Ev.bnd' ev_is (Ev.bnd' (Ev.yes (and_y KC.out (or_r KE.out)) (Ev.seq ev_add Ev.ret')) (Ev.bnd' m5 Ev.ret'))))))))) ?_
 simp[set11,World.setCell_alloc_past,F,Nat.lt_succ_of_lt]
end Go.Proofs.YtdplogkmkgekdaaGreatDoor.Pj
