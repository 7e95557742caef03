/- The project's Print, whole. -/
import Derived.Test.YtagdihffmjopaaaGreatDoorPsm
import Derived.Recover
namespace Go.Proofs.YtagdihffmjopaaaGreatDoor
set_option linter.all false
open Go.RowKit
section
variable{B:Nat} {w0 w w2:World} {wb f:Nat} {ts ts0:List (List UInt8)} {kind pos n m:Int} {name:ByteArray} {ko:Option Addr} {kl kc:Nat}
theorem tok_below (hb:Below B w w2):∀(h:Nat) (x:List Value),isNode (fun b=>b<B) True h w x→(∀b,b<B→b<w.heap.size)→tok h w2 x=tok h w x:=by
 intro h
 induction h with
 |zero=>intro x hx;exact absurd hx (fun x=>x)
 |succ h ih=>
  intro x hx hB
  have hs:Same (fun b=>b<B) w w2:=fun b h1 _=>hb.block b h1
  obtain⟨kind,pos,n,m,name,kv,vs,h1,h2,h3,h3',h4,h5,h6,h7⟩:=hx
  subst h1
  rw[tok_eq h4 h6,tok_eq (ownsRow_same h4 (fun b hb' hl=>hs b (h5 b hb') hl)) (fun x hx=>isNode.frame hs h x (h6 x hx))]
  congr 1
  refine List.map_congr_left (fun x hx=>?_)
  unfold kdAt
  rw[ih x (h6 x hx) hB]
theorem Nw.later {B':Nat} (hb:Below B w w2) (hB:B≤B') {h:Nat} {x:List Value} (hx:Nw B w h x):Nw B' w2 h x:=
 isNode.frame (fun b h1 _=>hb.block b h1) h x hx |>.weaken (fun b h1=>Nat.lt_of_lt_of_le h1 hB) (fun x=>x) h x
set_option maxRecDepth 100000 in
set_option maxHeartbeats 1000000 in
theorem catch13 (p:Addr) (w:World):
 CallsD Tryz.prog 13 #[.pointer (some p)] .returning w fun e u' w'=>e=.returned (.tuple #[])∧u'=.returning∧w'=w:=by
 refine callsD_of_wpS Tryz.func13 rfl fun c₀ cs hu=>?_
 apply wpS_seq
 apply wpS_region
 rw[Tryz.ntmps13]
 simp[wpOpsS,go_sem,recoverD,hu,Exit.thenS,Array.replicate]
 refine wpS_cond (t:=false) (by simp[Act.eval]) ?_
 simp only[Bool.false_eq_true,if_false]
 refine wpS_of_wp (wp_skip ?_)
 cases c₀
 simp_all [bodyPostS,results,Tryz.results13]
set_option maxRecDepth 100000 in
theorem res5 {tmps:Array Value} {W:World} {hk:Nat} {v:ByteArray} (h4:tmps.getD 2 undef=.pointer (some ⟨hk,0,none⟩)) (hc:W.cell? ⟨hk,0,none⟩=some (.string v)):(results Tryz.f5 tmps).run Tryz.prog W=.ok (.string v) W:=by
 have h4':tmps[2]?.getD undef=.pointer (some ⟨hk,0,none⟩):=by simpa using h4
 simp[results,Tryz.results5,h4',go_sem,hc]
theorem door5 {R:Ending→World→Prop} {tmps:Array Value} {W:World} {hk:Nat} {v:ByteArray} (h4:tmps.getD 2 undef=.pointer (some ⟨hk,0,none⟩)) (hc:W.cell? ⟨hk,0,none⟩=some (.string v)) (hR:R (.returned (.string v)) W):bodyPostD Tryz.prog Tryz.f5 R Exit.ret {tmps:=tmps,defers:=[{target:=.fn (.func 13) #[.pointer (some ⟨hk,0,none⟩)],args:=#[]}]} W:=by
 refine leaves_cons (f:=13) (args:=#[.pointer (some ⟨hk,0,none⟩)]) (by simp) (by simp[go_sem]) ?_
 refine(catch13 ⟨hk,0,none⟩ _).mono ?_
 rintro e u' w'' ⟨rfl,rfl,rfl⟩
 exact⟨_,res5 h4 hc,hR⟩
theorem Pw.join (h:Pw B w0 w wb ts) (hlen:(Lib.join ts [32]).length≤140737488355328):∃ao l cp,w.heap[wb]? =some (.cells #[.slice ao l cp] 50 (0,0))∧Calls Tryz.prog 15 #[.slice ao l cp,.string ⟨#[32]⟩] w (fun e w'=>e=.returned (.string ⟨(Lib.join ts [32]).toArray⟩)∧Below w.heap.size w w'):=by
 obtain⟨ov,ss,hss,hov,hrow⟩:=h.ex
 have hfew:=h.few
 rcases hrow.2 with⟨h1,h2⟩|⟨g,cap,cur,h1,hb,hg,hnc,hcm,hcs,htake⟩
 ·subst h1
  obtain rfl:ss=[]:=List.eq_nil_of_length_eq_zero h2
  subst hss
  refine⟨none,0,0,hov,?_⟩
  refine(Tryz.strings_Join_none none 0 ⟨#[32]⟩ w).mono ?_
  rintro e w' ⟨h1,h2⟩
  refine⟨?_,?_⟩
  ·rw[h1];rfl
  ·rw[h2];exact Below.refl _ _
 ·subst h1 hss
  refine⟨_,_,_,hov,?_⟩
  have hcell:∀(j:Nat) x,ss[j]? =some x→w.cell? ⟨g,0+j,none⟩=some (.string x):=fun j x hx=>by
   rw[Nat.zero_add,cell_of_row w g j cur 9 (0,0) hg]
   have hj:j<ss.length:=(List.getElem?_eq_some_iff.1 hx).1
   have e2:(cur.toList.take (ss.length*1))[j]? =cur[j]? :=by rw[List.getElem?_take,if_pos (by omega)];simp
   rw[←e2,htake,List.getElem?_map,hx]
   rfl
  have:=Tryz.strings_Join g 0 cap ss ⟨#[32]⟩ w hcell (Array.getElem?_eq_some_iff.1 hg).1 (by rw[List.length_map] at hfew;omega) (by simpa using hnc) (by exact hlen)
  exact this
set_option maxRecDepth 100000 in
set_option maxHeartbeats 2000000 in
theorem print5 (ht:Tab w.heap.size w) (hm:Mx w.heap.size w) (hx:Nw w.heap.size w f (nodeC kind pos n m name (.slice ko kl kc)).toList) (hk:okL (labOf (nodeC kind pos n m name (.slice ko kl kc)).toList)) (hf:(tok f w (nodeC kind pos n m name (.slice ko kl kc)).toList).length≤1099511627776) (hl:(Lib.join (tok f w (nodeC kind pos n m name (.slice ko kl kc)).toList) [32]).length≤140737488355328):Calls Tryz.prog 5 #[.agg (nodeC kind pos n m name (.slice ko kl kc))] w (fun e w'=>e=.returned (.string ⟨(Lib.join (tok f w (nodeC kind pos n m name (.slice ko kl kc)).toList) [32]).toArray⟩)∧Below w.heap.size w w'):=by
 have hmf:∀(fn:Fn) (first cap:Array Value) (w:World),(Instr.makeFunc fn first cap).run Tryz.prog w=.ok (.func fn first cap) w:=fun _ _ _ _=>rfl
 have a1:=al1 w (.cells (nodeC kind pos n m name (.slice ko kl kc)) 28)
 have a2:=al1 (w.alloc (.cells (nodeC kind pos n m name (.slice ko kl kc)) 28)) (.cells #[.string ⟨#[]⟩] 9)
 obtain⟨W2,hW2⟩:∃W2,W2=(w.alloc (.cells (nodeC kind pos n m name (.slice ko kl kc)) 28)).alloc (.cells #[.string ⟨#[]⟩] 9):=⟨_,rfl⟩
 have hsz:W2.heap.size=w.heap.size+2:=by rw[hW2];simp
 have hbl:Below w.heap.size w W2:=by rw[hW2];exact a1.1.trans (a2.1.mono (by simp))
 have hN:Nw W2.heap.size W2 f (nodeC kind pos n m name (.slice ko kl kc)).toList:=Nw.later hbl (by omega) hx
 have hT:tok f W2 (nodeC kind pos n m name (.slice ko kl kc)).toList=tok f w (nodeC kind pos n m name (.slice ko kl kc)).toList:=tok_below hbl f _ hx (fun b h=>h)
 have HT2:Tab W2.heap.size W2:=fun W hb=>ht W (hbl.trans (hb.mono (by omega)))
 have HM2:Mx W2.heap.size W2:=by
  obtain⟨mm,h⟩:=hm
  exact⟨mm,fun W hb=>h W (hbl.trans (hb.mono (by omega)))⟩
 obtain⟨T,hTe⟩:∃T,T=tok f w (nodeC kind pos n m name (.slice ko kl kc)).toList:=⟨_,rfl⟩
 rw[hTe.symm] at hf hl⊢
 rw[hTe.symm] at hT
 have a3:=al1 W2 (.cells #[.slice none 0 0] 50)
 have HP:Hid (Pw W2.heap.size W2 (W2.alloc (.cells #[.slice none 0 0] 50)) W2.heap.size []):=⟨a3.1,Nat.le_refl _,⟨.slice none 0 0,[],rfl,a3.2,World.ownsRow_nil _ _ _ _⟩,by simp⟩
 have HR:Hid (∀{w1:World},Pw W2.heap.size W2 w1 W2.heap.size []→Calls Tryz.prog 14 #[.pointer (some ⟨W2.heap.size,0,none⟩),.agg (nodeC kind pos n m name (.slice ko kl kc))] w1 (PP W2.heap.size W2 w1 W2.heap.size [] T)):=fun h=>by
  have hRf:RP W2.heap.size W2 W2.heap.size f:=RP.all HM2 HT2 f
  have h9:=hRf hN hk h (by rw[hT];simpa using hf)
  rw[hT] at h9
  exact h9
 have HB:Hid (Below w.heap.size w W2∧W2.heap.size=w.heap.size+2∧W2.heap[w.heap.size+1]? =some (.cells #[.string ⟨#[]⟩] 9 (0,0))∧W2.heap[w.heap.size]? =some (.cells (nodeC kind pos n m name (.slice ko kl kc)) 28 (0,0))):=⟨hbl,hsz,by rw[hW2];simpa using a2.2,by rw[hW2,Below.heap_alloc _ _ _ (by simp)];exact a1.2⟩
 have HLN:Hid ((Lib.join T [32]).length≤140737488355328):=hl
 obtain⟨hb,hhb⟩:∃hb,hb=w.heap.size:=⟨_,rfl⟩
 have HWH:Hid (hb=w.heap.size):=hhb
 clear hx hk hf hl ht hm a1 a2 a3 hsz hbl hN hT HT2 HM2 hTe
 go_enter_defers Tryz.func5,Tryz.ntmps5
 go_upto_region 2 with fail
 rw[←hW2,←hhb]
 have HB0:Hid (Below w.heap.size w W2):=HB.out.1
 rw[←hhb] at HB
 have lb:hb<W2.heap.size:=by have:=HB.out.2.1;omega
 have lb1:hb+1<W2.heap.size:=by have:=HB.out.2.1;omega
 obtain⟨W3,hW3⟩:∃W3,W3=W2.alloc (.cells #[.slice none 0 0] 50):=⟨_,rfl⟩
 have HW3:Hid (W3=W2.alloc (.cells #[.slice none 0 0] 50)):=hW3
 rw[←hW3] at HP
 have lb3:hb<W3.heap.size:=by rw[hW3];simp;omega
 have F3:∀o,W3.cell? ⟨hb,o,none⟩=(nodeC kind pos n m name (.slice ko kl kc))[o]? :=fun o=>by
  have h9:W3.heap[hb]? =some (.cells (nodeC kind pos n m name (.slice ko kl kc)) 28 (0,0)):=by rw[hW3,Below.heap_alloc _ _ _ lb];exact HB.out.2.2.2
  exact cell_of_row W3 hb o _ 28 (0,0) h9
 clear hW2 hhb hW3
 go_upto_region 3 with fail
 rw[←HW3.out]
 go_upto_region 4 with(go_at_call 14;refine(HR.out HP.out).mono ?_;rintro e w3 ⟨rfl,hp3,-⟩;have HP3:Hid (Pw W2.heap.size W2 w3 W2.heap.size ([]++T)):=hp3;clear hp3)
 rw[List.nil_append] at HP3
 obtain⟨ao,l,cp,hb3,hj⟩:=HP3.out.join HLN.out
 have HJ:Hid (Calls Tryz.prog 15 #[.slice ao l cp,.string ⟨#[32]⟩] w3 (fun e w'=>e=.returned (.string ⟨(Lib.join T [32]).toArray⟩)∧Below w3.heap.size w3 w')):=hj
 have c3:=cell_of_row w3 W2.heap.size 0 _ 50 (0,0) hb3
 have l3:=HP3.out.lt
 have HX3:Hid (w3.heap[hb+1]? =some (.cells #[.string ⟨#[]⟩] 9 (0,0))):=(HP3.out.bel.block _ lb1).trans HB.out.2.2.1
 have l31:hb+1<w3.heap.size:=by omega
 clear hb3 hj F3 lb3
 go_wp2_with (go_at_call 15;refine HJ.out.mono ?_;rintro e w4 ⟨rfl,hb4⟩;have HB4:Hid (Below w3.heap.size w3 w4):=hb4;have c4:=cell_of_row w4 (hb+1) 0 _ 9 (0,0) ((hb4.block _ l31).trans HX3.out);have z4:=frozen_of_row w4 (hb+1) 0 _ 9 ((hb4.block _ l31).trans HX3.out);have l4:hb+1<w4.heap.size:=Nat.lt_of_lt_of_le l31 hb4.size;have HX4:Hid (w4.heap[hb+1]? =some (.cells #[.string ⟨#[]⟩] 9 (0,0))):=(hb4.block _ l31).trans HX3.out;clear hb4)
 refine door5 rfl (cell_of_row _ (hb+1) 0 _ 9 (0,0) (heap_setCell_same w4 (hb+1) 0 _ 9 _ HX4.out)) ⟨rfl,?_⟩
 have B2:=HB0.out
 have B3:Below w.heap.size w w3:=B2.trans (HP3.out.bel.mono (by have:=B2.size;exact this))
 have B4:Below w.heap.size w w4:=B3.trans (HB4.out.mono B3.size)
 exact B4.setCell (p:=⟨hb+1,0,none⟩) (by show w.heap.size≤hb+1;have:=HWH.out;omega) _
end
end Go.Proofs.YtagdihffmjopaaaGreatDoor
