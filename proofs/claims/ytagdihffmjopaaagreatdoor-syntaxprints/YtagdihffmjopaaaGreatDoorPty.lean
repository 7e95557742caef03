/- The law: both write the same. -/
import Derived.Test.YtagdihffmjopaaaGreatDoorZParseA
import Derived.Test.YtagdihffmjopaaaGreatDoorApp
import Derived.Test.YtagdihffmjopaaaGreatDoorMzg
import Derived.Deep.RegionHeld3
import Derived.Deep.RegionWith
namespace Go.Proofs.YtagdihffmjopaaaGreatDoor
set_option linter.all false
open Go.RowKit
theorem two_new (w0:World):Blk ((w0.alloc (.cells zeroC 28)).alloc (.cells #[.int .i64 0,.int .i64 0] 31)) w0.heap.size zeroC∧((w0.alloc (.cells zeroC 28)).alloc (.cells #[.int .i64 0,.int .i64 0] 31)).heap[w0.heap.size+1]? =some (.cells #[.int .i64 0,.int .i64 0] 31 (0,0))∧Below w0.heap.size w0 ((w0.alloc (.cells zeroC 28)).alloc (.cells #[.int .i64 0,.int .i64 0] 31)):=by
 refine⟨(Blk.new w0 zeroC).alloc _,?_,below2 w0 _ _⟩
 have:=heap_alloc_new (w0.alloc (.cells zeroC 28)) (.cells #[.int .i64 0,.int .i64 0] 31)
 simpa using this
theorem parse_ret_ad {act:Act} {w0 W:World} (hd:act.defers=[]) (h1:act.tmps.getD 2 undef=.pointer (some ⟨w0.heap.size,0,none⟩)) (h2:act.tmps.getD 3 undef=.pointer (some ⟨w0.heap.size+1,0,none⟩)) {kind pos n m:Int} {name:ByteArray} {ko:Option Addr} {kl kc:Nat} {k a:Int} (o:Obj)
 (hS:Blk W w0.heap.size (nodeC kind pos n m name (.slice ko kl kc))∧W.heap[w0.heap.size+1]? =some (.cells #[.int .i64 k,.int .i64 a] 31 (0,0))) (hb:Below w0.heap.size w0 W) (hk:k≠0):
 bodyPost Tryz.prog Tryz.f4 (ParseZ w0) .ret act (W.alloc o).drew:=
 parse_ret hd h1 h2 (hS.1.alloc o).drew ((Below.heap_alloc _ _ _ (Array.getElem?_eq_some_iff.1 hS.2).1).trans hS.2) ((hb.alloc hb.size o).drew) (fun e=>absurd e hk)
theorem parse_ret_d {act:Act} {w0 W:World} (hd:act.defers=[]) (h1:act.tmps.getD 2 undef=.pointer (some ⟨w0.heap.size,0,none⟩)) (h2:act.tmps.getD 3 undef=.pointer (some ⟨w0.heap.size+1,0,none⟩)) {kind pos n m:Int} {name:ByteArray} {ko:Option Addr} {kl kc:Nat} {k a:Int}
 (hS:Blk W w0.heap.size (nodeC kind pos n m name (.slice ko kl kc))∧W.heap[w0.heap.size+1]? =some (.cells #[.int .i64 k,.int .i64 a] 31 (0,0))) (hb:Below w0.heap.size w0 W) (hk:k≠0):
 bodyPost Tryz.prog Tryz.f4 (ParseZ w0) .ret act W.drew:=
 parse_ret hd h1 h2 hS.1.drew hS.2 hb.drew (fun e=>absurd e hk)
theorem parse_ret_p {act:Act} {w0 W:World} (hd:act.defers=[]) (h1:act.tmps.getD 2 undef=.pointer (some ⟨w0.heap.size,0,none⟩)) (h2:act.tmps.getD 3 undef=.pointer (some ⟨w0.heap.size+1,0,none⟩)) {kind pos n m:Int} {name:ByteArray} {ko:Option Addr} {kl kc:Nat} {k a:Int}
 (hS:Blk W w0.heap.size (nodeC kind pos n m name (.slice ko kl kc))∧W.heap[w0.heap.size+1]? =some (.cells #[.int .i64 k,.int .i64 a] 31 (0,0))) (hb:Below w0.heap.size w0 W) (hn:k=0→kind=0∧NodeIn w0.heap.size True W (nodeC kind pos n m name (.slice ko kl kc)).toList∧∀f,nsz f W (nodeC kind pos n m name (.slice ko kl kc)).toList≤96100):
 bodyPost Tryz.prog Tryz.f4 (ParseZ w0) .ret act W:=parse_ret hd h1 h2 hS.1 hS.2 hb hn
set_option maxRecDepth 100000 in
set_option maxHeartbeats 400000 in
theorem parse_inl (s:ByteArray) (w0:World) (hm:s.size≤maxLen) {kk ii:Nat} (hL:lexAll s=.inl (kk,ii)):Calls Tryz.prog 4 #[.string s] w0 (ParseZ w0):=by
 have hk0:=lex_inl hL
 have hkI:(((kk:Nat):Int)==0)=false:=by simp;omega
 obtain⟨n1,n2,n3⟩:=two_new w0
 go_enter Tryz.func4,Tryz.ntmps4
 go_wp2_with fail
 refine(tokens7_any s _ hm).mono ?_
 rintro e w1 ⟨hT,hb1⟩
 unfold TokPost at hT
 rw[hL] at hT
 obtain rfl:=hT
 have z1:Blk w1 w0.heap.size zeroC:=n1.below hb1
 have z2:w1.heap[w0.heap.size+1]? =some (.cells #[.int .i64 0,.int .i64 0] 31 (0,0)):=(hb1.block _ (by simp)).trans n2
 have hb:Below w0.heap.size w0 w1:=n3.trans (hb1.mono n3.size)
 clear n1 n2 n3 hb1
 have HB:Hid (Below w0.heap.size w0 w1):=hb
 clear hb
 have c1:=z1.cell
 have f1:=z1.fz
 have l1:=z1.lt
 have c2:∀o,w1.cell? ⟨w0.heap.size+1,o,none⟩=(#[.int .i64 0,.int .i64 0]:Array Value)[o]? :=fun o=>cell_of_row _ _ o _ 31 (0,0) z2
 have f2:∀o,w1.frozen? ⟨w0.heap.size+1,o,none⟩=false:=fun o=>frozen_of_row _ _ o _ 31 z2
 have l2:=(Array.getElem?_eq_some_iff.1 z2).1
 have ne12:w0.heap.size≠w0.heap.size+1:=by omega
 have ne21:w0.heap.size+1≠w0.heap.size:=by omega
 go_wp2_with fail
 go_region
 all_goals
  go_wp2_with fail
  go_light
  exact parse_ret_ad (kind:=0) (pos:=0) (n:=0) (m:=0) (name:=⟨#[]⟩) (ko:=none) (kl:=0) (kc:=0) (k:=(kk:Int)) (a:=(ii:Int)) rfl rfl rfl (.cells #[.int .i64 (kk:Int),.int .i64 (ii:Int)] 31) (stored_a z1 z2 (.int .i64 0) (.int .i64 0) (.int .i64 0) (.int .i64 0) (.string ⟨#[]⟩) (.slice none 0 0) (.int .i64 0) (.int .i64 0) (.slice none 0 0) (.slice none 0 0) (.slice none 0 0) (kk:Int) (ii:Int)) (below_a HB.out (.int .i64 0) (.int .i64 0) (.int .i64 0) (.int .i64 0) (.string ⟨#[]⟩) (.slice none 0 0) (.int .i64 0) (.int .i64 0) (.slice none 0 0) (.slice none 0 0) (.slice none 0 0) (.int .i64 (kk:Int)) (.int .i64 (ii:Int))) (by simpa using hkI)
end Go.Proofs.YtagdihffmjopaaaGreatDoor
namespace Go.Proofs.YtagdihffmjopaaaGreatDoor
set_option linter.all false
open Go.RowKit
theorem tree_kept {w0 w W:World} {rb tb cap:Nat} {t:Tk} (hP:PF w0 w rb tb cap t) (hl:rb<w.heap.size) {A:List Nat} {kv:Value} {g:Prop} {h:Nat} {cs:List Value} (hn:isNode (Out w A kv) g h W cs) (hc:∀f,nsz f W cs≤96100) (hg:g) (c0 c1 c2 c3 c4 c5 c6 c7 c8 c9 c10 d e:Value):
 NodeIn w0.heap.size True (((set11 W w0.heap.size c0 c1 c2 c3 c4 c5 c6 c7 c8 c9 c10).setCell ⟨w0.heap.size+1,0,none⟩ d).setCell ⟨w0.heap.size+1,1,none⟩ e) cs∧∀f,nsz f (((set11 W w0.heap.size c0 c1 c2 c3 c4 c5 c6 c7 c8 c9 c10).setCell ⟨w0.heap.size+1,0,none⟩ d).setCell ⟨w0.heap.size+1,1,none⟩ e) cs≤96100:=by
 have h1:=hP.lt
 have s1:Same (Out w A kv) W (((set11 W w0.heap.size c0 c1 c2 c3 c4 c5 c6 c7 c8 c9 c10).setCell ⟨w0.heap.size+1,0,none⟩ d).setCell ⟨w0.heap.size+1,1,none⟩ e):=
  ((Same.set11 (fun x=>by have:=x.1;omega) c0 c1 c2 c3 c4 c5 c6 c7 c8 c9 c10).trans (Same.setCell _ ⟨w0.heap.size+1,0,none⟩ d (fun x=>by have:=x.1;simp only at this;omega)) (by simp)).trans (Same.setCell _ ⟨w0.heap.size+1,1,none⟩ e (fun x=>by have:=x.1;simp only at this;omega)) (by simp)
 exact⟨⟨h,isNode.weaken (fun b hb=>by have:=hb.1;omega) (fun _=>hg) _ _ (isNode.frame s1 _ _ hn)⟩,fun f=>by rw[nsz_frame s1 _ _ hn f];exact hc f⟩
set_option maxRecDepth 100000 in
set_option maxHeartbeats 1000000 in
theorem parse_inr (s:ByteArray) (w0:World) (hm:s.size≤maxLen) {ts:List (List Value)} (hL:lexAll s=.inr ts):Calls Tryz.prog 4 #[.string s] w0 (ParseZ w0):=by
 have hs:s.size≤6000:=by
  unfold lexAll at hL
  split at hL
  ·exact absurd hL (by simp)
  ·omega
 obtain⟨n1,n2,n3⟩:=two_new w0
 go_enter Tryz.func4,Tryz.ntmps4
 go_wp2_with fail
 refine(tokens7_any s _ hm).mono ?_
 rintro e w1 ⟨hT,hb1⟩
 unfold TokPost at hT
 rw[hL] at hT
 obtain⟨v,rfl,hown⟩:=hT
 obtain⟨t,tb,cap,rfl,htb,hgood,hrow⟩:=tok_reader hs hL hown
 have z1:Blk w1 w0.heap.size zeroC:=n1.below hb1
 have z2:w1.heap[w0.heap.size+1]? =some (.cells #[.int .i64 0,.int .i64 0] 31 (0,0)):=(hb1.block _ (by simp)).trans n2
 have hb:Below w0.heap.size w0 w1:=n3.trans (hb1.mono n3.size)
 have HB:Hid (Below w0.heap.size w0 w1):=hb
 have HS:Hid (w0.heap.size+1<w1.heap.size):=(Array.getElem?_eq_some_iff.1 z2).1
 clear n1 n2 n3 hb1 hb hown
 go_upto_region 4 with fail
 go_cut [6] (fun s6 wx=>∃rb,s6=.pointer (some ⟨rb,0,none⟩)∧PF w0 wx rb tb cap t)
 case first=>
  go_wp2_with fail
  go_meet
  refine⟨w1.heap.size+1,rfl,⟨?_,hrow.of_cells ?_,?_,hgood,hgood.some_⟩,(z1.alloc _).alloc _,?_,?_,?_⟩
  ·have:=heap_alloc_new (w1.alloc (.cells #[.int .i64 0,.int .i64 0] 31)) (.cells #[.slice (some ⟨tb,0,none⟩) t.len cap,.int .i64 0,.int .i64 0,.int .i64 0] 41)
   simpa using this
  ·have h1:=hrow.lt
   exact(Below.heap_alloc _ _ _ (by simp;omega)).trans (Below.heap_alloc _ _ _ h1)
  ·have h1:=hrow.lt
   omega
  ·have h1:=HS.out
   exact((Below.heap_alloc _ _ _ (by simp;omega)).trans (Below.heap_alloc _ _ _ h1)).trans z2
  ·exact(HB.out.alloc HB.out.size _).alloc (by have:=HB.out.size;simp;omega) _
  ·have h1:=HS.out
   omega
 case rest=>
  obtain⟨rb,rfl,hP⟩:=hcut
  clear z1 z2 HB HS hrow
  obtain⟨w,hw⟩:∃x,x=wc:=⟨_,rfl⟩
  subst hw
  have hl:=hP.rd.l
  have h:=hP.rd
  have q:=Mz.start (wt:=1) h
  have hposI:(0:Int)≤(t.pos 0:Int)∧(t.pos 0:Int)≤7000:=by have:=h.good.posb 0;omega
  go_wp2_with fail
  refine q.lf (node20 · 0) ?_
  clear q
  intro w1 q
  go_wp2_with fail
  go_loopg [] (ml t 0 0) (fun g wr=>∃(v:Value) (vs:List (List Value)) (j:Nat) (kj aj:Int),g=ml t j kj∧Few 4 vs j kj∧(kj=0→∀x∈vs.map labOf,x=1)∧Mz 1 w rb tb cap t 0 0 False (0) wr j kj aj [(w1.heap.size,nk 0 (t.pos 0) v)] [] v vs)
  case atStart=>exact⟨nl,[],0,0,0,rfl,⟨fun _=>by simp,by simp⟩,(fun _ x hx=>by cases hx),((q.ne' w1.heap.size (nk 0 (t.pos 0) nl)).less (by omega))⟩
  case round=>
   clear q
   obtain⟨v,vs,j,kj,aj,hgk,hF,hE,q⟩:=hrel
   have hj:=q.st.rd.lt
   have hposJ:(0:Int)≤(t.pos j:Int)∧(t.pos j:Int)≤7000:=by have:=h.good.posb j;omega
   have HG:Hid (gk=ml t j kj):=hgk
   clear hgk
   obtain⟨ao2,cp2,rfl⟩:=q.shape
   have F:=q.f1
   cases hk0:(kj==0)
   ·go_wp2_with fail
    refine q.lf ok21b ?_
    clear q F
    intro w3 q
    have F:=q.f1
    have hkn:kj≠0:=by simpa using hk0
    go_wp2_with fail
    refine q.lf ok21b ?_
    clear q F
    intro w4 q
    have F:=q.f1
    obtain⟨hz1,hz2,nz1,nz2,nz12⟩:=hP.keep q.st
    have cz1:=hz1.cell;have fz1:=hz1.fz;have lz1:=hz1.lt
    have cz2:∀o,w4.cell? ⟨w0.heap.size+1,o,none⟩=(#[.int .i64 0,.int .i64 0]:Array Value)[o]? :=fun o=>cell_of_row _ _ o _ 31 (0,0) hz2
    have fz2:∀o,w4.frozen? ⟨w0.heap.size+1,o,none⟩=false:=fun o=>frozen_of_row _ _ o _ 31 hz2
    have lz2:=(Array.getElem?_eq_some_iff.1 hz2).1
    have nz21:w0.heap.size+1≠w0.heap.size:=fun e=>nz12 e.symm
    obtain⟨nn1,nn2⟩:w1.heap.size≠w0.heap.size∧w1.heap.size≠w0.heap.size+1:=by have h1:=hP.lt;have h2:=h.l;have h3:=(q.mid.blk 0 _ rfl).1;simp only[adr] at h3;omega
    have nn1':w0.heap.size≠w1.heap.size:=fun e=>nn1 e.symm
    have nn2':w0.heap.size+1≠w1.heap.size:=fun e=>nn2 e.symm
    have HBd:Hid (Below w0.heap.size w0 w4):=hP.down q.st
    have r2:=q.st.rd.r2;have r3:=q.st.rd.r3;have lr:=q.st.rd.l
    go_wp2_with fail
    go_region
    all_goals
     go_wp2_with fail
     go_light
     first
     |exact parse_ret_d (kind:=0) (pos:=0) (n:=0) (m:=0) (name:=⟨#[]⟩) (ko:=none) (kl:=0) (kc:=0) (k:=kj) (a:=aj) rfl rfl rfl (stored_a hz1 hz2 (.int .i64 0) (.int .i64 0) (.int .i64 0) (.int .i64 0) (.string ⟨#[]⟩) nl (.int .i64 0) (.int .i64 0) nl nl nl kj aj) (below_a HBd.out (.int .i64 0) (.int .i64 0) (.int .i64 0) (.int .i64 0) (.string ⟨#[]⟩) nl (.int .i64 0) (.int .i64 0) nl nl nl (.int .i64 kj) (.int .i64 aj)) hkn
     |exact parse_ret_d (kind:=0) (pos:=0) (n:=0) (m:=0) (name:=⟨#[]⟩) (ko:=none) (kl:=0) (kc:=0) (k:=kj) (a:=aj) rfl rfl rfl (stored_b hz1 hz2 (.int .i64 0) (.int .i64 0) (.int .i64 0) (.int .i64 0) (.string ⟨#[]⟩) nl (.int .i64 0) (.int .i64 0) nl nl nl kj aj) (below_b HBd.out (.int .i64 0) (.int .i64 0) (.int .i64 0) (.int .i64 0) (.string ⟨#[]⟩) nl (.int .i64 0) (.int .i64 0) nl nl nl (.int .i64 kj) (.int .i64 aj)) hkn
   ·obtain rfl:kj=0:=by simpa using hk0
    have hb1:Hid ((0:Nat)≤j):=Nat.zero_le _
    have HE:Hid (∀x∈vs.map labOf,x=1):=hE rfl
    clear hE
    have hFl:vs.length≤6005:=by have:=hF.1 rfl;have:=h.good.few;omega
    replace q:=q.rebase
    go_wp2_with fail
    refine q.lf ok21b ?_
    clear q F
    intro w5 q
    have F:=q.f1
    cases hq:kindB t j 0 0 0
    ·go_wp2_with fail
     refine q.lf (kind_no · 0 (by decide) 0 hq) ?_
     clear q F
     intro w6 q
     have F:=q.f1
     clear hq
     go_wp2_with fail
     go_region_law (first|(refine q.as w7.heap.size (Nat.le_trans hFl (by decide)) ?_;clear q F;intro w8 ao8 cp8 q;have F:=q.f1)|(go_simp;refine q.drew.nd (moduleZ enumZ ·) ?_;clear q F;intro w7 x7 i7 k7 a7 hc7 ok7 q;have F:=q.f1))
     all_goals
      go_wp2_with fail
      replace q:=q.p05 (.slice ao8 (vs.length+1) cp8)
      go_roundg (ml t i7 k7)
      case measure=>rw[HG.out];exact ml_lt hj q.le (q.go trivial)
      case rel=>exact⟨(.slice ao8 (vs.length+1) cp8),(vs++[x7.t]),i7,k7,a7,rfl,Few.snoc (t:=t) hF rfl hj h.good (q.go trivial),(fun e=>by rw[List.map_append];exact all_snoc (C:=fun x=>x=1) HE.out (hc7 e)),q.unbase (s':=0) hb1.out (fun _=>rfl) (fun e=>absurd e (fun x=>x)) (by omega)⟩
    ·go_wp2_with fail
     refine q.lf (kind_yes · 0 (by decide) 0 hq) ?_
     clear q F
     intro w9 q
     have F:=q.f1
     clear hq
     go_wp2_with fail
     refine q.lf ok21b ?_
     clear q F
     intro w10 q
     have F:=q.f1
     have hcnt:∀f,nsz f w10 (nk 0 (t.pos 0) (.slice ao2 vs.length cp2)).toList≤96100:=fun f=>by have h1:=((q.fk 0 (t.pos 0) (Nat.le_trans hF.2 (by decide)) hposI (fun e=>Gr.of_prog HE.out))).sz rfl f;have h2:=q.st.rd.lt;have h3:=h.good.few;rw[tot_nil,tot_cons,tot_nil,nsy_nsz] at h1;omega
     obtain⟨hh,ha⟩:=((q.fk 0 (t.pos 0) (Nat.le_trans hF.2 (by decide)) hposI (fun e=>Gr.of_prog HE.out))).mid.all
     have hn:=ha _ (.inr (List.mem_cons_self ..))
     clear ha
     go_wp2_with fail
     refine(deep24 hh hn 1 (by decide) (by decide)).mono ?_
     rintro e w99 ⟨r,rfl,hr,hb99⟩
     have hn2:=isNode.frame (Same.below hb99) _ _ hn
     have hc2:∀f,nsz f w99 (nk 0 (t.pos 0) (.slice ao2 vs.length cp2)).toList≤96100:=fun f=>by rw[nsz_frame (Same.below hb99) _ _ hn f];exact hcnt f
     replace q:=q.below hb99
     clear hn hb99 hcnt
     replace F:=q.f1
     obtain⟨hz1,hz2,nz1,nz2,nz12⟩:=hP.keep q.st
     have cz1:=hz1.cell;have fz1:=hz1.fz;have lz1:=hz1.lt
     have cz2:∀o,w99.cell? ⟨w0.heap.size+1,o,none⟩=(#[.int .i64 0,.int .i64 0]:Array Value)[o]? :=fun o=>cell_of_row _ _ o _ 31 (0,0) hz2
     have fz2:∀o,w99.frozen? ⟨w0.heap.size+1,o,none⟩=false:=fun o=>frozen_of_row _ _ o _ 31 hz2
     have lz2:=(Array.getElem?_eq_some_iff.1 hz2).1
     have nz21:w0.heap.size+1≠w0.heap.size:=fun e=>nz12 e.symm
     obtain⟨nn1,nn2⟩:w1.heap.size≠w0.heap.size∧w1.heap.size≠w0.heap.size+1:=by have h1:=hP.lt;have h2:=h.l;have h3:=(q.mid.blk 0 _ rfl).1;simp only[adr] at h3;omega
     have nn1':w0.heap.size≠w1.heap.size:=fun e=>nn1 e.symm
     have nn2':w0.heap.size+1≠w1.heap.size:=fun e=>nn2 e.symm
     have HBd:Hid (Below w0.heap.size w0 w99):=hP.down q.st
     by_cases hr0:0≤r
     ·go_wp2_with fail
      go_light
      exact parse_ret_p (kind:=0) (pos:=0) (n:=0) (m:=0) (name:=⟨#[]⟩) (ko:=none) (kl:=0) (kc:=0) (k:=5) (a:=r) rfl rfl rfl (stored_a hz1 hz2 (.int .i64 0) (.int .i64 0) (.int .i64 0) (.int .i64 0) (.string ⟨#[]⟩) nl (.int .i64 0) (.int .i64 0) nl nl nl 5 r) (below_a HBd.out (.int .i64 0) (.int .i64 0) (.int .i64 0) (.int .i64 0) (.string ⟨#[]⟩) nl (.int .i64 0) (.int .i64 0) nl nl nl (.int .i64 5) (.int .i64 r)) (fun e=>absurd e (by decide))
     ·have hr0':decide (0≤r)=false:=by simpa using hr0
      go_wp2_with fail
      go_light
      exact parse_ret_p (kind:=0) (pos:=(t.pos 0:Int)) (n:=0) (m:=0) (name:=⟨#[]⟩) (ko:=ao2) (kl:=vs.length) (kc:=cp2) (k:=0) (a:=0) rfl rfl rfl (stored_a hz1 hz2 (.int .i64 0) (.int .i64 (t.pos 0)) (.int .i64 0) (.int .i64 0) (.string ⟨#[]⟩) (.slice ao2 vs.length cp2) (.int .i64 0) (.int .i64 0) nl nl nl 0 0) (below_a HBd.out (.int .i64 0) (.int .i64 (t.pos 0)) (.int .i64 0) (.int .i64 0) (.string ⟨#[]⟩) (.slice ao2 vs.length cp2) (.int .i64 0) (.int .i64 0) nl nl nl (.int .i64 0) (.int .i64 0)) (fun _=>⟨rfl,tree_kept hP h.l hn2 hc2 (by first|rfl|trivial) _ _ _ _ _ _ _ _ _ _ _ _ _⟩)
theorem parseZ (s:ByteArray) (w0:World) (hm:s.size≤maxLen):Calls Tryz.prog 4 #[.string s] w0 (ParseZ w0):=by
 cases hL:lexAll s with
 |inl p=>exact parse_inl s w0 hm (kk:=p.1) (ii:=p.2) hL
 |inr ts=>exact parse_inr s w0 hm hL
end Go.Proofs.YtagdihffmjopaaaGreatDoor
namespace Go.Proofs.YtagdihffmjopaaaGreatDoor
set_option linter.all false
open Go.RowKit
theorem putL_join {T:List (List UInt8)} (h:∀a r,T=a::r→a≠[]):putL [] T=Lib.join T [32]:=by
 cases T with
 |nil=>rfl
 |cons a r=>
  rw[Lib.join_cons]
  show putL a r=_
  rw[putL_glue (h a r rfl)]
  rfl
theorem putL_gl (T:List (List UInt8)):(putL [] T).length≤gl T:=by
 cases T with
 |nil=>simp[putL]
 |cons a r=>
  rw[gl_cons]
  show(putL a r).length≤_
  by_cases ha:a=[]
  ·subst ha
   have:∀(r:List (List UInt8)),(putL [] r).length≤gl r:=by
    intro r
    induction r with
    |nil=>simp[putL]
    |cons b q ih=>
     show(putL b q).length≤_
     rw[gl_cons]
     by_cases hb:b=[]
     ·subst hb;simp;omega
     ·rw[putL_glue hb,List.length_append];unfold gl;omega
   have:=this r
   simp;omega
  ·rw[putL_glue ha,List.length_append];unfold gl;omega
theorem len_gl (T:List (List UInt8)):T.length≤gl T:=by
 induction T with
 |nil=>simp
 |cons a r ih=>rw[gl_cons,List.length_cons];omega
section
variable{B:Nat} {w w1 W:World} {f:Nat} {pos n m:Int} {name:ByteArray} {ko:Option Addr} {kl kc:Nat}
theorem root_head (hx:Nw B w (f+1) (nodeC 0 pos n m name (.slice ko kl kc)).toList):∀a r,tok (f+1) w (nodeC 0 pos n m name (.slice ko kl kc)).toList=a::r→a≠[]:=by
 obtain⟨vs,hkl,hr,hg,htok,hs,hc⟩:=hx.opened
 intro a r e
 rw[htok] at e
 replace e:pAll (vs.map (kdAt f w))=a::r:=e
 cases vs with
 |nil=>cases e
 |cons y q=>
  have hy:=hg.prog rfl _ (List.mem_map.2 ⟨y,List.mem_cons_self ..,rfl⟩)
  have hn:=hr.all y (List.mem_cons_self ..)
  obtain⟨k,p,a',b',s',o',l',c',rfl,-,-⟩:=hn.fields
  have hkk:k=1:=by
   have h2:lab k a' b' s' (lenOf (.slice o' l' c'))=1:=hy
   unfold lab at h2
   split at h2
   ·split at h2<;>split at h2<;>omega
   ·split at h2
    ·split at h2<;>omega
    ·split at h2
     ·split at h2
      ·split at h2<;>omega
      ·omega
     ·split at h2
      ·split at h2<;>omega
      ·split at h2<;>omega
  subst hkk
  cases f with
  |zero=>exact absurd hn (fun x=>x)
  |succ f=>
   obtain⟨vs2,-,-,-,ht2,-,-⟩:=hn.opened
   have e3:pAll ((((nodeC 1 p a' b' s' (.slice o' l' c')).toList)::q).map (kdAt (f+1) w))=tok (f+1) w (nodeC 1 p a' b' s' (.slice o' l' c')).toList++pAll (q.map (kdAt (f+1) w)):=by simp[pAll,kdAt]
   rw[e3,ht2] at e
   have e4:([109,111,100]:List UInt8)=a:=(List.cons.inj e).1
   rw[←e4]
   decide
set_option maxRecDepth 100000 in
set_option maxHeartbeats 4000000 in
theorem law3 (s:ByteArray) (W:World) (hs:s.size≤maxLen) (ht:Tab W.heap.size W) (hm:Mx W.heap.size W):Calls Tryz.prog 3 #[.string s] W (fun e W'=>e=.returned (.bool true)∧Below W.heap.size W W'):=by
 have HP:Hid (Calls Tryz.prog 4 #[.string s] W (ParseZ W)):=parseZ s W hs
 have HT:Hid (Tab W.heap.size W∧Mx W.heap.size W):=⟨ht,hm⟩
 clear ht hm hs
 go_enter Tryz.func3,Tryz.ntmps3
 go_upto_region 2 with(go_at_call 4;refine HP.out.mono ?_;rintro e w1 ⟨kind,pos,n,m,name,ko,kl,kc,k,a,rfl,hb1,hn1⟩;have HB1:Hid (Below W.heap.size W w1):=hb1;have HN1:Hid (k=0→kind=0∧NodeIn W.heap.size True w1 (nodeC kind pos n m name (.slice ko kl kc)).toList∧∀f,nsz f w1 (nodeC kind pos n m name (.slice ko kl kc)).toList≤96100):=hn1;clear hb1 hn1)
 have hBsz:W.heap.size≤w1.heap.size:=HB1.out.size
 obtain⟨W2,hW2⟩:∃W2,W2=((w1.alloc (.cells (nodeC kind pos n m name (.slice ko kl kc)) 28)).alloc (.cells #[.int .i64 k,.int .i64 a] 31)):=⟨_,rfl⟩
 have a1:=al1 w1 (.cells (nodeC kind pos n m name (.slice ko kl kc)) 28)
 have a2:=al1 (w1.alloc (.cells (nodeC kind pos n m name (.slice ko kl kc)) 28)) (.cells #[.int .i64 k,.int .i64 a] 31)
 have n3:W2.heap[w1.heap.size]? =some (.cells (nodeC kind pos n m name (.slice ko kl kc)) 28 (0,0)):=by rw[hW2,Below.heap_alloc _ _ _ (by simp)];exact a1.2
 have n4:W2.heap[w1.heap.size+1]? =some (.cells #[.int .i64 k,.int .i64 a] 31 (0,0)):=by rw[hW2];simpa using a2.2
 have hb2:Below w1.heap.size w1 W2:=by rw[hW2];exact a1.1.trans (a2.1.mono (by simp))
 rw[←hW2]
 clear a1 a2 hW2
 obtain⟨nb,hnb⟩:∃nb,nb=w1.heap.size:=⟨_,rfl⟩
 have HNB:Hid (nb=w1.heap.size):=hnb
 rw[←hnb] at n3 n4⊢
 clear hnb
 have c4:=cell_of_row W2 (nb+1) 0 _ 31 (0,0) n4
 have l4:nb+1<W2.heap.size:=(Array.getElem?_eq_some_iff.1 n4).1
 have HB2:Hid (Below w1.heap.size w1 W2):=hb2
 have HBA:Hid (Below W.heap.size W W2):=HB1.out.trans (hb2.mono hBsz)
 clear hb2 hBsz
 by_cases hk:k=0
 ·subst hk
  have hN:=HN1.out rfl
  obtain⟨rfl,⟨h,hn⟩,hz⟩:=hN
  have hn2:Nw w1.heap.size w1 h (nodeC 0 pos n m name (.slice ko kl kc)).toList:=(isNode.low h _ hn).weaken (fun b hb=>hb.2) (fun x=>x) h _
  obtain⟨f,rfl⟩:∃f,h=f+1:=by
   cases h with
   |zero=>exact absurd hn2 (fun x=>x)
   |succ f=>exact⟨f,rfl⟩
  obtain⟨T,hT⟩:∃T,T=tok (f+1) w1 (nodeC 0 pos n m name (.slice ko kl kc)).toList:=⟨_,rfl⟩
  have hgl:gl T≤1099511627776:=by
   have h1:=tok_len (f+1) _ hn2
   have h2:nsz (f+1) w1 (nodeC 0 pos n m name (.slice ko kl kc)).toList≤96100:=hz (f+1)
   rw[←hT] at h1
   omega
  have hj:putL [] T=Lib.join T [32]:=putL_join (by rw[hT];exact root_head hn2)
  obtain⟨S,hS⟩:∃S:ByteArray,S=⟨(putL [] T).toArray⟩:=⟨_,rfl⟩
  have later:∀{X:World},Below W2.heap.size W2 X→Below w1.heap.size w1 X:=fun hX=>HB2.out.trans (hX.mono HB2.out.size)
  have tabs:∀{X:World},Below w1.heap.size w1 X→Tab X.heap.size X∧Mx X.heap.size X:=fun hX=>by
   have b1:Below W.heap.size W _:=HB1.out.trans (hX.mono HB1.out.size)
   refine⟨fun Y hY=>HT.out.1 Y (b1.trans (hY.mono b1.size)),?_⟩
   obtain⟨mm,hm⟩:=HT.out.2
   exact⟨mm,fun Y hY=>hm Y (b1.trans (hY.mono b1.size))⟩
  have C5:Hid (∀{X:World},Below W2.heap.size W2 X→Calls Tryz.prog 5 #[.agg (nodeC 0 pos n m name (.slice ko kl kc))] X (fun e w'=>e=.returned (.string S)∧Below X.heap.size X w')):=fun{X} hX=>by
   have hX1:=later hX
   have hN2:Nw X.heap.size X (f+1) (nodeC 0 pos n m name (.slice ko kl kc)).toList:=Nw.later hX1 hX1.size hn2
   have hTX:tok (f+1) X (nodeC 0 pos n m name (.slice ko kl kc)).toList=T:=by rw[hT];exact tok_below hX1 (f+1) _ hn2 (fun b h=>h)
   have h5:=print5 (tabs hX1).1 (tabs hX1).2 hN2 (by show okL 0;unfold okL;omega) (by rw[hTX];exact Nat.le_trans (len_gl T) hgl) (by rw[hTX,←hj];exact Nat.le_trans (putL_gl T) (by omega))
   rw[hTX,←hj,←hS] at h5
   exact h5
  have C6:Hid (∀{X:World},Below W2.heap.size W2 X→Calls Tryz.prog 6 #[.agg (nodeC 0 pos n m name (.slice ko kl kc))] X (fun e w'=>e=.returned (.string S)∧Below X.heap.size X w')):=fun{X} hX=>by
   have hX1:=later hX
   have hN2:Nw X.heap.size X (f+1) (nodeC 0 pos n m name (.slice ko kl kc)).toList:=Nw.later hX1 hX1.size hn2
   have hTX:tok (f+1) X (nodeC 0 pos n m name (.slice ko kl kc)).toList=T:=by rw[hT];exact tok_below hX1 (f+1) _ hn2 (fun b h=>h)
   have h6:=print6 (tabs hX1).1 hN2 (by rw[hTX];exact Nat.le_trans (putL_gl T) hgl)
   rw[hTX,←hS] at h6
   exact h6
  have CQ:Hid (∀{X:World},Below W2.heap.size W2 X→Below W2.heap.size W2 X∧(∀o,X.cell? ⟨nb,o,none⟩=(nodeC 0 pos n m name (.slice ko kl kc))[o]?)∧(∀o,X.cell? ⟨nb+1,o,none⟩=(#[.int .i64 0,.int .i64 a]:Array Value)[o]?)):=fun{X} hb=>⟨hb,fun o=>cell_of_row X _ o _ 28 (0,0) ((hb.block _ (Array.getElem?_eq_some_iff.1 n3).1).trans n3),fun o=>cell_of_row X _ o _ 31 (0,0) ((hb.block _ (Array.getElem?_eq_some_iff.1 n4).1).trans n4)⟩
  clear hn hz hn2 hT hgl hj hS later tabs c4 n3 n4 HN1
  go_region_held3 (fun X=>Below W2.heap.size W2 X∧(∀o,X.cell? ⟨nb,o,none⟩=(nodeC 0 pos n m name (.slice ko kl kc))[o]?)∧(∀o,X.cell? ⟨nb+1,o,none⟩=(#[.int .i64 0,.int .i64 a]:Array Value)[o]?))
   (first|assumption|exact CQ.out ((Below.refl _ _).drew)|exact CQ.out hV5|exact CQ.out hV6)
   (first
    |(go_at_call 5;have hbl:=(‹Below W2.heap.size W2 _∧_›).1;refine(C5.out hbl).mono ?_;rintro e5 w5 ⟨rfl,hb5⟩;have hV5:=hbl.trans (hb5.mono hbl.size))
    |(go_at_call 6;have hbl:=(‹Below W2.heap.size W2 _∧_›).1;refine(C6.out hbl).mono ?_;rintro e6 w6 ⟨rfl,hb6⟩;have hV6:=hbl.trans (hb6.mono hbl.size)))
  all_goals
   go_wp2_with fail
   go_ret
   exact⟨rfl,HBA.out.trans (hV6.mono HBA.out.size)⟩
 ·have hkb:(k !=0)=true:=by simpa using hk
  go_quiet (fail)
  go_wp2_with fail
  go_ret
  exact⟨rfl,⟨HBA.out.os,HBA.out.tape,HBA.out.output,HBA.out.size,HBA.out.block⟩⟩
end
end Go.Proofs.YtagdihffmjopaaaGreatDoor
