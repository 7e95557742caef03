/- The project's machine: a pick is used up. -/
import Derived.Test.YtpoepbmomfohlaaPmv
import Derived.Test.YtpoepbmomfohlaaPna
import Derived.Test.YtpoepbmomfohlaaPnb
namespace Go.Proofs.Ytpoepbmomfohlaa
open Go.RowKit
set_option linter.all false
section
variable {C : Ct} {N N' : Nat} {K : Nat → Obj → Prop} {w w' w1 : World} {ps : List Int} {tb tb' : List Nat} {m m' : Mc} {t b : Nat} {th th' : Th}
theorem PS.pickNil (h : PS C N K w ps tb m) (o : Option Addr) : PS C N K (w.setCell ⟨C.mb, 1, none⟩ (.slice o 0 0)) [] tb m := by
  obtain ⟨pv, own, L, hp, hk⟩ := h.pr
  have s := hp.set (pv' := .slice o 0 0) (m' := m) 1 (.slice o 0 0) rfl rfl rfl rfl rfl rfl
  have kb := s.2.bel hp.ow
  exact ⟨⟨_, own, L, s.1, ⟨o, 0, rfl, Nat.le_refl _, by decide, fun i y hy => by simp at hy⟩⟩, h.cd.below kb, h.ok, h.c64, h.bl.trans kb⟩
set_option maxRecDepth 100000 in
set_option maxHeartbeats 1000000 in
theorem pick_c (h : PS C N K w ps tb m) : Calls Try.prog 20 #[ptr C.mb] w (fun e w' => e = .returned (.int .i64 ((ps[0]?).getD 0)) ∧ PS C N K w' ps.tail tb m) := by
  cases ps with
  | nil =>
    obtain ⟨pv, own, L, hp, hk⟩ := h.pr
    obtain ⟨o, c, rfl, h1, h2, -⟩ := hk.ex
    have c1 := cell_of_row w _ 1 _ 41 (0, 0) hp.blk
    have c1' : w.cell? ⟨C.mb, 1, none⟩ = some (.slice o 0 c) := c1
    have lm := hp.lt
    have HH : Hid (PS C N K w [] tb m) := h
    clear h hp hk c1
    go_enter Try.func20, Try.ntmps20
    go_wp2_with fail
    go_ret
    exact ⟨rfl, HH.out⟩
  | cons x r =>
    obtain ⟨q, f, cp, k1, hl, hc, lq, kq, h2⟩ := h.pick rfl
    obtain ⟨-, -, -, -, -, lm, fz⟩ := h.mch
    have f1 := fz 1
    have HH : Hid _ := h2
    have hl0 : 0 < ((x :: r).length : Int) := by simp
    have hlB : ((x :: r).length : Int) ≤ 9223372036854775807 := by omega
    have hcI : ((x :: r).length : Int) ≤ (cp : Int) := by omega
    have hcB : (cp : Int) ≤ 9223372036854775807 := by omega
    have HNil : Hid (∀ o, PS C N K (w.setCell ⟨C.mb, 1, none⟩ (.slice o 0 0)) [] tb m) := fun o => h.pickNil o
    clear h h2 fz
    obtain ⟨n, hn⟩ : ∃ n, n = (x :: r).length := ⟨_, rfl⟩
    rw [← hn] at k1 hl0 hlB hcI hl
    have HN : Hid (n = r.length + 1 ∧ n ≤ cp) := ⟨by rw [hn]; simp, hl⟩
    clear hn
    go_enter Try.func20, Try.ntmps20
    go_wp2_with fail
    · go_ret
      have e1 : n = 1 := by have := HN.out; omega
      have e2 : r = [] := List.eq_nil_of_length_eq_zero (by have := HN.out; omega)
      subst e1 e2
      exact ⟨rfl, HNil.out _⟩
    · go_ret
      refine ⟨rfl, ?_⟩
      have e1 : n - 1 = r.length := by have := HN.out; omega
      rw [e1]
      exact HH.out
end
end Go.Proofs.Ytpoepbmomfohlaa
namespace Go.Proofs.Ytpoepbmomfohlaa
open Go.RowKit
set_option linter.all false
section
variable {C : Ct} {N N' : Nat} {K : Nat → Obj → Prop} {w w' w1 : World} {ps : List Int} {tb tb' : List Nat} {m m' : Mc} {t b : Nat} {th th' : Th}
def StP (C : Ct) (N : Nat) (K : Nat → Obj → Prop) (ps : List Int) (m' : Mc) (e : Ending) (w' : World) : Prop := ∃ tb', PS C N K w' ps tb' m' ∧ ((m'.how = 0 ∧ e = .returned (.tuple #[])) ∨ (m'.how ≠ 0 ∧ e = thr m'.how))
theorem StP.ok (h : PS C N K w ps tb m) (h0 : m.how = 0) : StP C N K ps m (.returned (.tuple #[])) w := ⟨tb, h, .inl ⟨h0, rfl⟩⟩
theorem StP.no (h : PS C N K w ps tb m) (h0 : m.how = 0) {k : Int} (hk : k ≠ 0) : StP C N K ps (m.fin k) (thr k) w := ⟨tb, h.fin k, .inr (by unfold Mc.fin; rw [if_pos h0]; exact ⟨hk, rfl⟩)⟩
theorem PS.alc_no (h : PS C N K w ps tb m) {n : Int} (hn : I64 n) (ha : halloc 4194303 m.hp n = none) : Calls Try.prog 37 #[ptr C.hb, .int .i64 n] w (fun e w' => e = .returned (.tuple #[.int .i64 0, .bool false]) ∧ PS C N K w' ps tb m) := by
  obtain ⟨pv, own, L, hp, hk⟩ := h.pr
  refine (alloc8 hp.hm hp.ow.bs hn).mono ?_
  intro e w' P
  have q := h.heap P
  unfold allocV allocB at q
  rw [ha] at q
  exact q
theorem PS.alc_yes (h : PS C N K w ps tb m) {n : Int} (hn : I64 n) {q : Int × List (Int × Int)} (ha : halloc 4194303 m.hp n = some q) : Calls Try.prog 37 #[ptr C.hb, .int .i64 n] w (fun e w' => e = .returned (.tuple #[.int .i64 q.1, .bool true]) ∧ PS C N K w' ps tb { m with hp := q.2 }) := by
  obtain ⟨pv, own, L, hp, hk⟩ := h.pr
  refine (alloc8 hp.hm hp.ow.bs hn).mono ?_
  intro e w' P
  have q := h.heap P
  unfold allocV allocB at q
  rw [ha] at q
  exact q
theorem PS.fre_no (h : PS C N K w ps tb m) {n : Int} (hn : I64 n) (ha : hfree m.hp n = none) : Calls Try.prog 38 #[ptr C.hb, .int .i64 n] w (fun e w' => e = .returned (.bool false) ∧ PS C N K w' ps tb m) := by
  obtain ⟨pv, own, L, hp, hk⟩ := h.pr
  refine (free7 hp.hm hn).mono ?_
  intro e w' P
  have q := h.heap P
  unfold freeV freeB at q
  rw [ha] at q
  exact q
theorem PS.fre_yes (h : PS C N K w ps tb m) {n : Int} (hn : I64 n) {q : List (Int × Int)} (ha : hfree m.hp n = some q) : Calls Try.prog 38 #[ptr C.hb, .int .i64 n] w (fun e w' => e = .returned (.bool true) ∧ PS C N K w' ps tb { m with hp := q }) := by
  obtain ⟨pv, own, L, hp, hk⟩ := h.pr
  refine (free7 hp.hm hn).mono ?_
  intro e w' P
  have q := h.heap P
  unfold freeV freeB at q
  rw [ha] at q
  exact q
def AlC (C : Ct) (N : Nat) (K : Nat → Obj → Prop) (ps : List Int) (tb : List Nat) (m : Mc) (n : Int) (e : Ending) (w' : World) : Prop := (Hid (n < 1) ∧ e = thr 9 ∧ PS C N K w' ps tb m) ∨ (Hid (¬ n < 1 ∧ halloc 4194303 m.hp n = none) ∧ e = thr 7 ∧ PS C N K w' ps tb m) ∨ ∃ q, Hid (¬ n < 1 ∧ halloc 4194303 m.hp n = some q) ∧ e = .returned (.int .i64 q.1) ∧ PS C N K w' ps tb { m with hp := q.2 }
set_option maxRecDepth 100000 in
set_option maxHeartbeats 1000000 in
theorem alloc_c (h : PS C N K w ps tb m) {n : Int} (hn : I64 n) : Calls Try.prog 29 #[ptr C.mb, .int .i64 n] w (AlC C N K ps tb m n) := by
  by_cases h1 : n < 1
  · have HH : Hid (PS C N K w ps tb m) := h
    have H1 : Hid (n < 1) := h1
    clear h hn
    go_enter Try.func29, Try.ntmps29
    go_wp2_with fail
    exact ⟨rfl, .inl ⟨H1.out, rfl, HH.out⟩⟩
  · obtain ⟨-, k2, -, -, -, lm, -⟩ := h.mch
    have H1 : Hid (¬ n < 1) := h1
    obtain ⟨r, hr⟩ : ∃ r, halloc 4194303 m.hp n = r := ⟨_, rfl⟩
    have HR : Hid (halloc 4194303 m.hp n = r) := hr
    cases r with
    | none =>
      have A := h.alc_no hn hr
      clear h hn hr
      go_enter Try.func29, Try.ntmps29
      go_wp2_with (go_at_call 37; refine A.mono ?_; rintro e w2 ⟨rfl, h3⟩)
      exact ⟨rfl, .inr (.inl ⟨⟨Int.not_lt.2 H1.out, HR.out⟩, rfl, h3⟩)⟩
    | some q =>
      have A := h.alc_yes hn hr
      clear h hn hr
      go_enter Try.func29, Try.ntmps29
      go_wp2_with (go_at_call 37; refine A.mono ?_; rintro e w2 ⟨rfl, h3⟩)
      go_ret
      exact .inr (.inr ⟨q, ⟨Int.not_lt.2 H1.out, HR.out⟩, rfl, h3⟩)
set_option maxRecDepth 100000 in
set_option maxHeartbeats 1000000 in
theorem free_c (h : PS C N K w ps tb m) {n : Int} (hn : I64 n) : Calls Try.prog 30 #[ptr C.mb, .int .i64 n] w (fun e w' => (Hid (hfree m.hp n = none) ∧ e = thr 9 ∧ PS C N K w' ps tb m) ∨ ∃ q, Hid (hfree m.hp n = some q) ∧ e = .returned (.tuple #[]) ∧ PS C N K w' ps tb { m with hp := q }) := by
  obtain ⟨-, k2, -, -, -, lm, -⟩ := h.mch
  obtain ⟨r, hr⟩ : ∃ r, hfree m.hp n = r := ⟨_, rfl⟩
  have HR : Hid (hfree m.hp n = r) := hr
  cases r with
  | none =>
    have A := h.fre_no hn hr
    clear h hn hr
    go_enter Try.func30, Try.ntmps30
    go_wp2_with (go_at_call 38; refine A.mono ?_; rintro e w2 ⟨rfl, h3⟩)
    exact ⟨rfl, .inl ⟨HR.out, rfl, h3⟩⟩
  | some q =>
    have A := h.fre_yes hn hr
    clear h hn hr
    go_enter Try.func30, Try.ntmps30
    go_wp2_with (go_at_call 38; refine A.mono ?_; rintro e w2 ⟨rfl, h3⟩)
    go_end0
    exact .inr ⟨q, HR.out, rfl, h3⟩
end
end Go.Proofs.Ytpoepbmomfohlaa
