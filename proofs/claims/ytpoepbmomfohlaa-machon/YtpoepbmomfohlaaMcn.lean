/- The document's machine: a meeting that waits. -/
import Derived.Test.YtpoepbmomfohlaaMcj
namespace Go.Proofs.Ytpoepbmomfohlaa
open Go.RowKit
set_option linter.all false
theorem below_dN {B : Nat} {a w : World} (h : Below B a w) (m : Nat) : Below B a (w.drewN m) := ⟨h.os, h.tape, h.output, h.size, h.block⟩
section
variable {w : World} {base mb : Nat} {co : Option Addr} {cc : Nat} {code : List Mi} {L : Ly} {m : Mc}
end
end Go.Proofs.Ytpoepbmomfohlaa
namespace Go.Proofs.Ytpoepbmomfohlaa
open Go.RowKit
set_option linter.all false
/-- Every number of a machine is one of 64 bits; its rows are not long. -/
structure OKM (N : Nat) (m : Mc) : Prop where
  mem : ∀ a, I64 (m.mem a)
  th : ∀ (i : Nat) (t : Th), m.ths[i]? = some t → I64 t.pc ∧ t.calls.length ≤ N ∧ ∀ c ∈ t.calls, I64 c.1 ∧ I64 c.2.1 ∧ stk i ≤ c.2.2 ∧ c.2.2 < stk (i + 1)
  outs : m.outs.length ≤ N
  order : m.order.length ≤ N
  steps : 0 ≤ m.steps ∧ m.steps ≤ N
  big : N ≤ 1000000
def Mi.ok (x : Mi) : Prop := I64 x.op ∧ I64 x.a ∧ I64 x.b ∧ I64 x.c ∧ I64 x.d ∧ I64 x.e
/-- A machine in memory, with its code. -/
structure MS (base mb : Nat) (co : Option Addr) (cc : Nat) (code : List Mi) (N : Nat) (w : World) (L : Ly) (m : Mc) : Prop where
  mr : MR w base mb (.slice co code.length cc) L m
  cd : CD w base co code
  ok : OKM N m
  c64 : ∀ x ∈ code, x.ok
/-- And an instruction in a block of its own. -/
structure MX (base mb : Nat) (co : Option Addr) (cc : Nat) (code : List Mi) (N : Nat) (ib : Nat) (x : Mi) (w : World) (L : Ly) (m : Mc) : Prop where
  ms : MS base mb co cc code N w L m
  kb : w.heap[ib]? = some (.cells (miC x) 61 (0, 0))
  ko : L.own ib = none
section
variable {base mb : Nat} {co : Option Addr} {cc : Nat} {code : List Mi} {N ib : Nat} {x : Mi} {w w' : World} {L L' : Ly} {m m' : Mc}
theorem Kf.below (h : MR w base mb (.slice co code.length cc) L m) (k : Kf L L' w w') : Below base w w' := ⟨k.kx.os, k.kx.tape, k.kx.output, k.kx.size, fun b hb => k.kx.block b (by have := h.hbase; have := h.lt; omega) (fun hn => by have := (h.olt b hn).1; omega)⟩
theorem MS.next (h : MS base mb co cc code N w L m) (hm : MR w' base mb (.slice co code.length cc) L' m') (k : Kf L L' w w') {N' : Nat} (ho : OKM N' m') : MS base mb co cc code N' w' L' m' := ⟨hm, h.cd.below (Kf.below h.mr k), ho, h.c64⟩
theorem MX.next (h : MX base mb co cc code N ib x w L m) (hm : MR w' base mb (.slice co code.length cc) L' m') (k : Kf L L' w w') {N' : Nat} (ho : OKM N' m') : MX base mb co cc code N' ib x w' L' m' :=
  have hl : ib < w.heap.size := (Array.getElem?_eq_some_iff.1 h.kb).1
  ⟨h.ms.next hm k ho, (k.kx.block ib hl (fun hn => hn h.ko)).trans h.kb, k.on ib hl h.ko⟩
theorem OKM.fin (h : OKM N m) (k : Int) : OKM N (m.fin k) := by
  unfold Mc.fin
  split
  · exact ⟨h.mem, h.th, h.outs, h.order, h.steps, h.big⟩
  · exact h
theorem OKM.mem' (h : OKM N m) {n : Int} (hn : I64 n) (a : Nat) : OKM N { m with mem := upd m.mem a n } := ⟨fun b => by
  show I64 (upd m.mem a n b)
  unfold upd
  split
  · exact hn
  · exact h.mem b, h.th, h.outs, h.order, h.steps, h.big⟩
theorem OKM.wr (h : OKM N m) {n : Int} (hn : I64 n) (t : Nat) (k : Int) : OKM N (m.wr t k n).1 := by
  unfold Mc.wr
  split
  · exact h.mem' hn _
  · exact h.fin _
theorem OKM.up (h : OKM N m) {N' : Nat} (hN : N ≤ N') (hb : N' ≤ 1000000) : OKM N' m := ⟨h.mem, fun i t ht => ⟨(h.th i t ht).1, Nat.le_trans (h.th i t ht).2.1 hN, (h.th i t ht).2.2⟩, Nat.le_trans h.outs hN, Nat.le_trans h.order hN, ⟨h.steps.1, by have := h.steps.2; omega⟩, hb⟩
theorem MX.cells (h : MX base mb co cc code N ib x w L m) : w.cell? ⟨ib, 0, none⟩ = some (.int .i64 x.op) ∧ w.cell? ⟨ib, 1, none⟩ = some (.int .i64 x.a) ∧ w.cell? ⟨ib, 2, none⟩ = some (.int .i64 x.b) ∧ w.cell? ⟨ib, 3, none⟩ = some (.int .i64 x.c) ∧ w.cell? ⟨ib, 4, none⟩ = some (.int .i64 x.d) ∧ w.cell? ⟨ib, 5, none⟩ = some (.int .i64 x.e) ∧ ib < w.heap.size := ⟨cell_of_row w _ 0 _ 61 (0, 0) h.kb, cell_of_row w _ 1 _ 61 (0, 0) h.kb, cell_of_row w _ 2 _ 61 (0, 0) h.kb, cell_of_row w _ 3 _ 61 (0, 0) h.kb, cell_of_row w _ 4 _ 61 (0, 0) h.kb, cell_of_row w _ 5 _ 61 (0, 0) h.kb, (Array.getElem?_eq_some_iff.1 h.kb).1⟩
theorem MX.drewN (h : MX base mb co cc code N ib x w L m) (j : Nat) : MX base mb co cc code N ib x (w.drewN j) L m := h.next (h.ms.mr.drewN j) ((Kf.refl L w).drewN j) h.ms.ok
theorem MX.start (h : MS base mb co cc code N w L m) (x : Mi) : MX base mb co cc code N w.heap.size x (w.alloc (.cells (miC x) 61)) L m ∧ Kf L L w (w.alloc (.cells (miC x) 61)) := by
  have hb := (al1 w (.cells (miC x) 61)).1
  have k : Kf L L w (w.alloc (.cells (miC x) 61)) := ⟨KX.of_below hb, fun _ _ h => h, rfl⟩
  exact ⟨⟨h.next (h.mr.below hb) k h.ok, (al1 w _).2, h.mr.free (Nat.le_refl _)⟩, k⟩
section
variable {t : Nat} {th : Th}
end
end
end Go.Proofs.Ytpoepbmomfohlaa
namespace Go.Proofs.Ytpoepbmomfohlaa
open Go.RowKit
set_option linter.all false
theorem zip_set {ths : List Th} {cr : List Rq} {t : Nat} {th' : Th} {r : Rq} (hr : cr[t]? = some r) : (ths.set t th').zip cr = (ths.zip cr).set t (th', r) := by
  induction ths generalizing cr t with
  | nil => simp
  | cons x xs ih =>
    cases cr with
    | nil => simp
    | cons y ys =>
      cases t with
      | zero => simp at hr; subst hr; rfl
      | succ t => simp at hr; simp [ih hr]
theorem thC_len {xs : List (Th × Rq)} : ∀ x ∈ xs.map thC, x.length = 6 := fun x hx => by
  obtain ⟨y, _, rfl⟩ := List.mem_map.1 hx
  rfl
section
variable {w : World} {base mb : Nat} {cv : Value} {L : Ly} {m : Mc}
theorem MR.setTh (h : MR w base mb cv L m) {t : Nat} {th th' : Th} (ht : m.ths[t]? = some th) {g : Nat} (hg : L.to_ = some ⟨g, 0, none⟩) {o : Nat} {u : Value} (ho : o < 6) (hc : th'.calls = th.calls) (he : ∀ r, (thC (th, r)).set o u = thC (th', r)) (hf : stk t ≤ th'.frame ∧ th'.frame < stk (t + 1)) : MR (w.setCell ⟨g, t * 6 + o, none⟩ u) base mb cv L { m with ths := m.ths.set t th' } ∧ Kf L L w (w.setCell ⟨g, t * 6 + o, none⟩ u) := by
  have hog : L.own g = some (3, 0) := h.th.orow g (by rw [hg]; rfl)
  have htl : t < m.ths.length := (List.getElem?_eq_some_iff.1 ht).1
  have hs : ∀ b, b ≠ g → (w.setCell ⟨g, t * 6 + o, none⟩ u).heap[b]? = w.heap[b]? := fun b hb => Below.heap_setCell _ ⟨g, t * 6 + o, none⟩ _ _ hb
  have hsg : ∀ gr, gr ≠ 3 → sameG L.own gr w (w.setCell ⟨g, t * 6 + o, none⟩ u) := fun gr hgr b s e => hs b (fun e2 => by
    rw [e2, hog] at e
    simp at e
    omega)
  obtain ⟨r, hr⟩ : ∃ r, L.cr[t]? = some r := ⟨_, List.getElem?_eq_getElem (by rw [h.th.crl]; exact htl)⟩
  refine ⟨⟨?_, h.omb, h.hp.frame (hsg 1 (by decide)) (fun _ _ h => h), h.pg.frame (hsg 2 (by decide)) (fun _ _ h => h), ?_, h.ou.frame (hsg 4 (by decide)) (fun _ _ h => h), h.or_.frame (hsg 5 (by decide)) (fun _ _ h => h), h.hbase, fun b hn => ⟨(h.olt b hn).1, by simpa using (h.olt b hn).2⟩, h.o0⟩, ⟨(KX.refl _ _ _).setCell (p := ⟨g, t * 6 + o, none⟩) (.inr (by rw [hog]; simp)) u, fun _ _ h => h, rfl⟩⟩
  · rw [hs mb (fun e => by
      have := h.omb
      rw [e, hog] at this
      simp at this), h.blk]
    show some (Obj.cells (mcC cv L m) 45 (0, 0)) = some (Obj.cells (mcC cv L { m with ths := m.ths.set t th' }) 45 (0, 0))
    unfold mcC
    simp
  · refine ⟨?_, ?_, ?_, ?_, ?_, ?_⟩
    · show World.ownsRow _ _ _ _ (.slice L.to_ (m.ths.set t th').length L.tc) (m.ths.set t th').length (((m.ths.set t th').zip L.cr).map thC).flatten
      rw [List.length_set, zip_set hr, List.map_set]
      have hx : ((m.ths.zip L.cr).map thC)[t]? = some (thC (th, r)) := by
        rw [List.getElem?_map, (List.getElem?_zip_eq_some (z := (th, r))).2 ⟨ht, hr⟩]
        rfl
      have h1 := ownsRow_put h.th.row (g := g) (by rw [hg]; rfl) (t * 6 + o) u
      rw [flat_set thC_len hx ho u, he r] at h1
      exact h1
    · show ∀ b, (Value.slice L.to_ (m.ths.set t th').length L.tc).ownBlock = some b → _
      rw [List.length_set]
      exact h.th.orow
    · show L.cr.length = (m.ths.set t th').length
      rw [List.length_set]
      exact h.th.crl
    · intro i t' r' ht' hr'
      have ht2 : (m.ths.set t th')[i]? = some t' := ht'
      by_cases hi : i = t
      · subst hi
        rw [List.getElem?_set_self htl] at ht2
        obtain rfl := Option.some.inj ht2
        obtain ⟨a1, a2⟩ := h.th.calls i th r' ht hr'
        rw [hc]
        exact ⟨ownsRow_same a1 (fun b hb _ => hs b (fun e => by
          have := a2 b hb
          rw [e, hog] at this
          simp at this)), a2⟩
      · rw [List.getElem?_set_ne (Ne.symm hi)] at ht2
        obtain ⟨a1, a2⟩ := h.th.calls i t' r' ht2 hr'
        exact ⟨ownsRow_same a1 (fun b hb _ => hs b (fun e => by
          have := a2 b hb
          rw [e, hog] at this
          simp at this)), a2⟩
    · show (m.ths.set t th').length ≤ 12
      rw [List.length_set]
      exact h.th.few
    · intro i t' ht'
      have ht2 : (m.ths.set t th')[i]? = some t' := ht'
      by_cases hi : i = t
      · subst hi
        rw [List.getElem?_set_self htl] at ht2
        obtain rfl := Option.some.inj ht2
        exact hf
      · rw [List.getElem?_set_ne (Ne.symm hi)] at ht2
        exact h.th.fr i t' ht2
end
theorem OKM.setTh {N : Nat} {m : Mc} (h : OKM N m) {t : Nat} {th th' : Th} (ht : m.ths[t]? = some th) (hp : I64 th'.pc) (hc : th'.calls = th.calls) : OKM N { m with ths := m.ths.set t th' } := ⟨h.mem, fun i x hx => by
  have hx2 : (m.ths.set t th')[i]? = some x := hx
  by_cases hi : i = t
  · subst hi
    rw [List.getElem?_set_self (List.getElem?_eq_some_iff.1 ht).1] at hx2
    obtain rfl := Option.some.inj hx2
    rw [hc]
    exact ⟨hp, (h.th i th ht).2⟩
  · rw [List.getElem?_set_ne (Ne.symm hi)] at hx2
    exact h.th i x hx2, h.outs, h.order, h.steps, h.big⟩
end Go.Proofs.Ytpoepbmomfohlaa
namespace Go.Proofs.Ytpoepbmomfohlaa
open Go.RowKit
set_option linter.all false
/-- What a slot holds; or the run ends. -/
def Mc.rd (m : Mc) (t : Nat) (k : Int) : Option Int × Mc := if (slotR (m.fr t) t k).2 then (some (m.mem (slotR (m.fr t) t k).1.toNat), m) else (none, m.fin (slotR (m.fr t) t k).1)
def Mc.goto (m : Mc) (t : Nat) (pc : Int) : Mc := match m.ths[t]? with
  | some th => { m with ths := m.ths.set t { th with pc := pc } }
  | none => m
/-- An operator whose operands are there. -/
def Mc.op2 (m : Mc) (t : Nat) (i : Mi) (b c : Int) : Mc := if i.d < 0 ∨ 12 < i.d then m.fin 9 else if (reckon i.d b c).2 then (m.wr t i.a (reckon i.d b c).1).1 else m.goto t i.e
def Mc.opM (m : Mc) (t : Nat) (i : Mi) : Mc := match m.rd t i.b with
  | (none, m1) => m1
  | (some b, _) => if i.d = 11 ∨ i.d = 12 then m.op2 t i b 0 else match m.rd t i.c with
    | (none, m1) => m1
    | (some c, _) => m.op2 t i b c
theorem slot_cases (fr : Int) (t : Nat) (k : Int) : (∃ y, slotR fr t k = (y, true)) ∨ ∃ y, slotR fr t k = (y, false) := by
  rcases h : slotR fr t k with ⟨y, b⟩
  cases b
  · exact .inr ⟨y, rfl⟩
  · exact .inl ⟨y, rfl⟩
section
variable {base mb : Nat} {co : Option Addr} {cc : Nat} {code : List Mi} {N ib : Nat} {x : Mi} {w w' : World} {L L' : Ly} {m m' : Mc} {t : Nat} {th : Th}
theorem Mc.rd_some {k y : Int} (h : slotR (m.fr t) t k = (y, true)) : m.rd t k = (some (m.mem y.toNat), m) := by unfold Mc.rd; rw [h]; rfl
theorem Mc.rd_none {k y : Int} (h : slotR (m.fr t) t k = (y, false)) : m.rd t k = (none, m.fin y) := by unfold Mc.rd; rw [h]; rfl
theorem MX.drew (h : MX base mb co cc code N ib x w L m) : MX base mb co cc code N ib x w.drew L m := h.drewN 1
/-- Where a thread's cells lie. -/
theorem MX.thr (h : MX base mb co cc code N ib x w L m) (ht : m.ths[t]? = some th) : ∃ g, L.to_ = some ⟨g, 0, none⟩ ∧ w.cell? ⟨mb, 3, none⟩ = some (.slice (some ⟨g, 0, none⟩) m.ths.length L.tc) ∧ g < w.heap.size ∧ mb < w.heap.size ∧ (t : Int) < (m.ths.length : Int) ∧ w.cell? ⟨g, t * 6, none⟩ = some (.int .i64 th.pc) ∧ w.cell? ⟨g, t * 6 + 1, none⟩ = some (.int .i64 th.frame) ∧ w.cell? ⟨g, t * 6 + 3, none⟩ = some (.bool th.unw) ∧ w.cell? ⟨g, t * 6 + 4, none⟩ = some (.bool th.abo) ∧ w.cell? ⟨g, t * 6 + 5, none⟩ = some (.bool th.over) ∧ ∀ o, w.frozen? ⟨g, o, none⟩ = false := by
  obtain ⟨g, r, e, hg, hr, c0, c1, c2, c3, c4, c5⟩ := h.ms.mr.th.nth ht
  obtain ⟨cu, hcu⟩ := own_heap h.ms.mr.th.row (b := g) (by rw [e]; rfl)
  refine ⟨g, e, ?_, hg, h.ms.mr.lt, by have := (List.getElem?_eq_some_iff.1 ht).1; omega, c0, c1, c3, c4, c5, fun o => frozen_of_row w g o _ 41 hcu⟩
  rw [cell_of_row w _ 3 _ 45 (0, 0) h.ms.mr.blk, ← e]
  rfl
end
end Go.Proofs.Ytpoepbmomfohlaa
