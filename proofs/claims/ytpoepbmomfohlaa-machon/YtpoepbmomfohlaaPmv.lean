/- The project's machine: whether a step is a meeting. -/
import Derived.Test.YtpoepbmomfohlaaPml
import Derived.Test.YtpoepbmomfohlaaTke
namespace Go.Proofs.Ytpoepbmomfohlaa
open Go.RowKit
set_option linter.all false
section
variable {C : Ct} {N N' : Nat} {K : Nat → Obj → Prop} {w w' w1 : World} {ps : List Int} {tb tb' : List Nat} {m m' : Mc} {t b : Nat} {th th' : Th}
theorem insAt_false {code : List Mi} {pc : Int} (h : (insAt code pc).2 = false) : insAt code pc = (Mi.z, false) := by
  unfold insAt at h ⊢
  by_cases h1 : pc < 0
  · rw [if_pos h1]
  · rw [if_neg h1] at h ⊢
    cases hc : code[pc.toNat]? with
    | none => rfl
    | some x => rw [hc] at h; cases h
theorem meet1 (m : Mc) (code : List Mi) (t : Nat) (th : Th) : (meetB m code t th).1 = (th.abo || (decide ((insAt code th.pc).1.op = 16) || (decide ((insAt code th.pc).1.op = 17) || decide ((insAt code th.pc).1.op = 18)))) := by
  unfold meetB
  cases th.abo with
  | true => rfl
  | false =>
    by_cases h1 : (insAt code th.pc).1.op = 16
    · simp [h1]
    · by_cases h2 : (insAt code th.pc).1.op = 18
      · simp [h2]
      · by_cases h3 : (insAt code th.pc).1.op = 17
        · simp [h3]
          split
          · rfl
          · split <;> rfl
        · simp [h1, h2, h3]
set_option maxRecDepth 100000 in
set_option maxHeartbeats 1000000 in
theorem meets_c (h : PS C N K w ps tb m) (ht : m.ths[t]? = some th) (hb : tb[t]? = some b) : Calls Try.prog 18 #[ptr b] w (fun e w' => e = .returned (.bool (meetB m C.code t th).1) ∧ Below w.heap.size w w') := by
  obtain ⟨at_, hat, c0, c1, c3, c5, c6, c7, c8, lb, fz, f0, f1⟩ := h.thr ht hb
  rw [meet1]
  cases ha : th.abo with
  | true =>
    rw [ha] at c7
    clear h ht hb hat c0 c1 c3 c5 c6 c8 fz f0 f1 ha
    go_enter Try.func18, Try.ntmps18
    go_wp2_with fail
    go_ret
    exact ⟨rfl, Below.refl _ _⟩
  | false =>
    rw [ha] at c7
    have D1 := due_c h c0 c5 lb
    rw [hat ha] at D1
    have HH : Hid (PS C N K w ps tb m) := h
    cases hi : (insAt C.code th.pc).2 with
    | false =>
      have hz : insAt C.code th.pc = (Mi.z, false) := insAt_false hi
      have HE : Hid ((false || (decide ((insAt C.code th.pc).1.op = 16) || (decide ((insAt C.code th.pc).1.op = 17) || decide ((insAt C.code th.pc).1.op = 18)))) = false) := by show _ = _; rw [hz]; rfl
      have D2 := D1.mono (R' := fun e w' => Below w.heap.size w w' ∧ e = .returned (.pointer none)) (fun e w' h => ⟨h.1, by
        rcases h.2 with ⟨-, e⟩ | ⟨cb, f, x, e, -⟩
        · exact e
        · have := e.out.1
          rw [hz] at this
          simp at this⟩)
      clear h ht hb hat c0 c1 c3 c5 c6 c8 fz f0 f1 ha hi hz D1
      generalize (false || (decide ((insAt C.code th.pc).1.op = 16) || (decide ((insAt C.code th.pc).1.op = 17) || decide ((insAt C.code th.pc).1.op = 18)))) = v at *
      go_enter Try.func18, Try.ntmps18
      go_wp2_with (go_at_call 21; refine D2.mono ?_; rintro e w2 ⟨h2, rfl⟩)
      go_ret
      exact ⟨by rw [HE.out]; rfl, h2⟩
    | true =>
      obtain ⟨x, hx⟩ : ∃ x, insAt C.code th.pc = (x, true) := ⟨(insAt C.code th.pc).1, by rw [← hi]⟩
      rw [hx]
      have D2 := D1.mono (R' := fun e w' => Below w.heap.size w w' ∧ ∃ cb f, Hid (IN C cb f x) ∧ e = .returned (.pointer (some ⟨cb, f, none⟩))) (fun e w' h => ⟨h.1, by
        rcases h.2 with ⟨e, -⟩ | ⟨cb, f, x', e, e2⟩
        · have := e.out
          rw [hx] at this
          simp at this
        · have e3 := e.out
          rw [hx] at e3
          obtain rfl : x = x' := by have := e3.1; simpa using this
          exact ⟨cb, f, e3.2, e2⟩⟩)
      obtain ⟨o, ho⟩ : ∃ o, o = x.op := ⟨_, rfl⟩
      have HO : Hid (∀ {W : World} {cb f : Nat}, Below w.heap.size w W → IN C cb f x → W.cell? ⟨cb, f, none⟩ = some (.int .i64 o) ∧ cb < W.heap.size) := fun {W cb f} hW hI => by
        have := (HH.out.below hW).insc hI
        rw [ho]
        exact ⟨this.1, this.2.2.2.2.2.2⟩
      show Calls _ _ _ _ (fun e w' => e = .returned (.bool (false || (decide (x.op = 16) || (decide (x.op = 17) || decide (x.op = 18))))) ∧ Below w.heap.size w w')
      rw [← ho]
      clear h ht hb hat c0 c1 c3 c5 c6 c8 fz f0 f1 ha hi D1 hx ho
      by_cases h16 : o = 16
      · subst h16
        go_enter Try.func18, Try.ntmps18
        go_wp2_with (go_at_call 21; refine D2.mono ?_; rintro e w2 ⟨h2, cb, f, hI, rfl⟩; obtain ⟨z0, zl⟩ := HO.out h2 hI.out)
        go_ret
        exact ⟨rfl, h2⟩
      · by_cases h17 : o = 17
        · subst h17
          clear h16
          go_enter Try.func18, Try.ntmps18
          go_wp2_with (go_at_call 21; refine D2.mono ?_; rintro e w2 ⟨h2, cb, f, hI, rfl⟩; obtain ⟨z0, zl⟩ := HO.out h2 hI.out)
          go_ret
          exact ⟨rfl, h2⟩
        · have HE : Hid ((false || (decide (o = 16) || (decide (o = 17) || decide (o = 18)))) = (o == 18)) := by show _ = _; simp [h16, h17]; rfl
          rw [HE.out]
          have e16 : (o == 16) = false := by simpa using h16
          have e17 : (o == 17) = false := by simpa using h17
          clear h16 h17
          go_enter Try.func18, Try.ntmps18
          go_wp2_with (go_at_call 21; refine D2.mono ?_; rintro e w2 ⟨h2, cb, f, hI, rfl⟩; obtain ⟨z0, zl⟩ := HO.out h2 hI.out)
          go_ret
          exact ⟨rfl, h2⟩
end
end Go.Proofs.Ytpoepbmomfohlaa
namespace Go.Proofs.Ytpoepbmomfohlaa
open Go.RowKit
set_option linter.all false
section
variable {C : Ct} {N N' : Nat} {K : Nat → Obj → Prop} {w w' w1 : World} {ps : List Int} {tb tb' : List Nat} {m m' : Mc} {t b : Nat} {th th' : Th}
set_option maxRecDepth 100000 in
set_option maxHeartbeats 1000000 in
theorem has_s {f k : Int} (c3 : w.cell? ⟨b, 3, none⟩ = some (.int .i64 f)) (lb : b < w.heap.size) (hf0 : 0 ≤ f) (hf1 : f < 4194304) (hk : I64 k) : Calls Try.prog 43 #[ptr b, .int .i64 k] w (fun e w' => e = .returned (.bool (decide (0 ≤ k) && decide (k < 4194304 - f))) ∧ w' = w) := by
  have hw : wrap64 (4194304 - f) = 4194304 - f := by unfold wrap64; omega
  obtain ⟨v, hv⟩ : ∃ v, v = (decide (0 ≤ k) && decide (k < 4194304 - f)) := ⟨_, rfl⟩
  rw [← hv]
  by_cases h0 : 0 ≤ k
  · by_cases h1 : k < 4194304 - f
    · have HE : Hid (v = true) := by show _ = _; rw [hv]; simp [h0, h1]
      clear hv
      go_enter Try.func43, Try.ntmps43
      go_wp2_with fail
      go_ret
      exact ⟨by rw [HE.out]; rfl, rfl⟩
    · have HE : Hid (v = false) := by show _ = _; rw [hv]; simp [h0, h1]
      clear hv
      go_enter Try.func43, Try.ntmps43
      go_wp2_with fail
      go_ret
      exact ⟨by rw [HE.out]; rfl, rfl⟩
  · have HE : Hid (v = false) := by show _ = _; rw [hv]; simp [h0]
    clear hv
    go_enter Try.func43, Try.ntmps43
    go_wp2_with fail
    go_ret
    exact ⟨by rw [HE.out]; rfl, rfl⟩
set_option maxRecDepth 100000 in
set_option maxHeartbeats 1000000 in
theorem spget_b (h : PS C N K w ps tb m) {q : Nat} {p : Option Addr} {r : Int} (hp : SPo C tb q p r) : Calls Try.prog 26 #[.agg #[.pointer p, .int .i64 r]] w (fun e w' => e = .returned (.int .i64 (m.mem q)) ∧ Below w.heap.size w w') := by
  have G := (h.below (al1 w (.cells #[.pointer p, .int .i64 r] 65)).1).getS hp
  clear h hp
  go_enter Try.func26, Try.ntmps26
  go_wp2_with (go_at_call 34; refine G.mono ?_; rintro e w2 ⟨rfl, j, rfl⟩)
  go_ret
  exact ⟨rfl, below_dN (al1 w _).1 j⟩
/-- The facts that a walk wants of a world. -/
theorem PS.can_facts (h : PS C N K w ps tb m) (ht : m.ths[t]? = some th) (hb : tb[t]? = some b) {cb f : Nat} {x : Mi} (hI : IN C cb f x) : w.cell? ⟨b, 7, none⟩ = some (.bool th.abo) ∧ w.cell? ⟨b, 3, none⟩ = some (.int .i64 (th.frame - stk t)) ∧ w.cell? ⟨b, 0, none⟩ = some (ptr C.mb) ∧ b < w.heap.size ∧ w.cell? ⟨cb, f, none⟩ = some (.int .i64 x.op) ∧ w.cell? ⟨cb, f + 1, none⟩ = some (.int .i64 x.a) ∧ w.cell? ⟨cb, f + 3, none⟩ = some (.int .i64 x.c) ∧ cb < w.heap.size := by
  obtain ⟨at_, hat, c0, c1, c3, c5, c6, c7, c8, lb, fz, f0, f1⟩ := h.thr ht hb
  obtain ⟨z0, z1, z2, z3, z4, z5, zl⟩ := h.insc hI
  exact ⟨c7, c3, c0, lb, z0, z1, z3, zl⟩
set_option maxRecDepth 100000 in
set_option maxHeartbeats 1000000 in
theorem can_abo (h : PS C N K w ps tb m) (ht : m.ths[t]? = some th) (hb : tb[t]? = some b) (ha : th.abo = true) : Calls Try.prog 32 #[ptr b] w (fun e w' => e = .returned (.bool true) ∧ Below w.heap.size w w') := by
  obtain ⟨at_, hat, c0, c1, c3, c5, c6, c7, c8, lb, fz, f0, f1⟩ := h.thr ht hb
  have D1 := (due_c h c0 c5 lb).mono (R' := fun e w' => Below w.heap.size w w' ∧ ∃ p, e = .returned (.pointer p)) (fun e w' h => ⟨h.1, by
    rcases h.2 with ⟨-, e⟩ | ⟨cb, f, x, -, e⟩
    · exact ⟨_, e⟩
    · exact ⟨_, e⟩⟩)
  rw [ha] at c7
  have HC : Hid (∀ {W : World}, Below w.heap.size w W → W.cell? ⟨b, 7, none⟩ = some (.bool true) ∧ b < W.heap.size) := fun {W} hW => ⟨(hW.cell (p := ⟨b, 7, none⟩) lb).trans c7, Nat.lt_of_lt_of_le lb hW.size⟩
  clear h ht hb ha hat c0 c1 c3 c5 c6 c8 fz f0 f1
  go_enter Try.func32, Try.ntmps32
  go_wp2_with (go_at_call 21; refine D1.mono ?_; rintro e w2 ⟨h2, p, rfl⟩; obtain ⟨z7, zl⟩ := HC.out h2)
  go_ret
  exact ⟨rfl, h2⟩
set_option maxRecDepth 100000 in
set_option maxHeartbeats 1000000 in
theorem can_op (h : PS C N K w ps tb m) (ht : m.ths[t]? = some th) (hb : tb[t]? = some b) (ha : th.abo = false) {x : Mi} (hx : insAt C.code th.pc = (x, true)) (ho : x.op ≠ 17) : Calls Try.prog 32 #[ptr b] w (fun e w' => e = .returned (.bool true) ∧ Below w.heap.size w w') := by
  obtain ⟨at_, hat, c0, c1, c3, c5, c6, c7, c8, lb, fz, f0, f1⟩ := h.thr ht hb
  have D1 := due_c h c0 c5 lb
  rw [hat ha] at D1
  have D2 := D1.mono (R' := fun e w' => Below w.heap.size w w' ∧ ∃ cb f, Hid (IN C cb f x) ∧ e = .returned (.pointer (some ⟨cb, f, none⟩))) (fun e w' h => ⟨h.1, by
    rcases h.2 with ⟨e, -⟩ | ⟨cb, f, x', e, e2⟩
    · have := e.out
      rw [hx] at this
      simp at this
    · have e3 := e.out
      rw [hx] at e3
      obtain rfl : x = x' := by have := e3.1; simpa using this
      exact ⟨cb, f, e3.2, e2⟩⟩)
  have HF : Hid (∀ {W : World} {cb f : Nat}, Below w.heap.size w W → IN C cb f x → W.cell? ⟨b, 7, none⟩ = some (.bool th.abo) ∧ W.cell? ⟨b, 3, none⟩ = some (.int .i64 (th.frame - stk t)) ∧ W.cell? ⟨b, 0, none⟩ = some (ptr C.mb) ∧ b < W.heap.size ∧ W.cell? ⟨cb, f, none⟩ = some (.int .i64 x.op) ∧ W.cell? ⟨cb, f + 1, none⟩ = some (.int .i64 x.a) ∧ W.cell? ⟨cb, f + 3, none⟩ = some (.int .i64 x.c) ∧ cb < W.heap.size) := fun {W cb f} hW hI => (h.below hW).can_facts ht hb hI
  rw [ha] at HF
  obtain ⟨x0, x1, x2, x3, x4, x5⟩ := x
  replace ho : ¬ x0 = 17 := ho
  clear h ht hb ha hat c0 c1 c3 c5 c6 c7 c8 fz f0 f1 D1 hx
  go_enter Try.func32, Try.ntmps32
  go_wp2_with (go_at_call 21; refine D2.mono ?_; rintro e w2 ⟨h2, cb, f, hI, rfl⟩; obtain ⟨z7, z3, z0, zl, y0, y1, y3, yl⟩ := HF.out h2 hI.out)
  go_ret
  exact ⟨rfl, h2⟩
set_option maxRecDepth 100000 in
set_option maxHeartbeats 1000000 in
theorem can_no (h : PS C N K w ps tb m) (ht : m.ths[t]? = some th) (hb : tb[t]? = some b) (ha : th.abo = false) {x : Mi} (hx : insAt C.code th.pc = (x, true)) (ho : x.op = 17) (hxa : I64 x.a) {y : Int} (hy : slotR th.frame t x.a = (y, false)) : Calls Try.prog 32 #[ptr b] w (fun e w' => e = .returned (.bool true) ∧ Below w.heap.size w w') := by
  obtain ⟨at_, hat, c0, c1, c3, c5, c6, c7, c8, lb, fz, f0, f1⟩ := h.thr ht hb
  have D1 := due_c h c0 c5 lb
  rw [hat ha] at D1
  have D2 := D1.mono (R' := fun e w' => Below w.heap.size w w' ∧ ∃ cb f, Hid (IN C cb f x) ∧ e = .returned (.pointer (some ⟨cb, f, none⟩))) (fun e w' h => ⟨h.1, by
    rcases h.2 with ⟨e, -⟩ | ⟨cb, f, x', e, e2⟩
    · have := e.out
      rw [hx] at this
      simp at this
    · have e3 := e.out
      rw [hx] at e3
      obtain rfl : x = x' := by have := e3.1; simpa using this
      exact ⟨cb, f, e3.2, e2⟩⟩)
  obtain ⟨fr, hfr⟩ : ∃ fr, fr = th.frame - stk t := ⟨_, rfl⟩
  have HF : Hid (∀ {W : World} {cb f : Nat}, Below w.heap.size w W → IN C cb f x → W.cell? ⟨b, 7, none⟩ = some (.bool th.abo) ∧ W.cell? ⟨b, 3, none⟩ = some (.int .i64 (th.frame - stk t)) ∧ W.cell? ⟨b, 0, none⟩ = some (ptr C.mb) ∧ b < W.heap.size ∧ W.cell? ⟨cb, f, none⟩ = some (.int .i64 x.op) ∧ W.cell? ⟨cb, f + 1, none⟩ = some (.int .i64 x.a) ∧ W.cell? ⟨cb, f + 3, none⟩ = some (.int .i64 x.c) ∧ cb < W.heap.size) := fun {W cb f} hW hI => (h.below hW).can_facts ht hb hI
  rw [ha, ← hfr] at HF
  rw [← hfr] at f0 f1
  have HA : Hid (∀ {W : World}, W.cell? ⟨b, 3, none⟩ = some (.int .i64 fr) → b < W.heap.size → Calls Try.prog 43 #[ptr b, .int .i64 x.a] W (fun e w' => e = .returned (.bool (decide (0 ≤ x.a) && decide (x.a < 4194304 - fr))) ∧ w' = W)) := fun {W} h1 h2 => has_s h1 h2 f0 f1 hxa
  have hv : (decide (0 ≤ x.a) && decide (x.a < 4194304 - fr)) = false := by
    rw [hfr]
    rcases slotR_false hy with ⟨y1, -⟩ | ⟨y1, y2, -⟩
    · have : ¬ 0 ≤ x.a := by omega
      simp [this]
    · simp [y2]
  rw [hv] at HA
  obtain ⟨x0, x1, x2, x3, x4, x5⟩ := x
  replace ho : x0 = 17 := ho
  subst ho
  clear h ht hb ha hat c0 c1 c3 c5 c6 c7 c8 fz f0 f1 D1 hx hv hy hfr
  go_enter Try.func32, Try.ntmps32
  go_wp2_with (first | (go_at_call 43; refine (HA.out z3 zl).mono ?_; rintro e w3 ⟨rfl, rfl⟩) | (go_at_call 21; refine D2.mono ?_; rintro e w2 ⟨h2, cb, f, hI, rfl⟩; obtain ⟨z7, z3, z0, zl, y0, y1, y3, yl⟩ := HF.out h2 hI.out))
  go_ret
  exact ⟨rfl, h2⟩
set_option maxRecDepth 100000 in
set_option maxHeartbeats 1000000 in
theorem can_wait (h : PS C N K w ps tb m) (ht : m.ths[t]? = some th) (hb : tb[t]? = some b) (ha : th.abo = false) {x : Mi} (hx : insAt C.code th.pc = (x, true)) (ho : x.op = 17) (hxa : I64 x.a) (hxc : I64 x.c) {y : Int} (hy : slotR th.frame t x.a = (y, true)) : Calls Try.prog 32 #[ptr b] w (fun e w' => e = .returned (.bool (if m.wordB (m.mem y.toNat) x.c then m.mem (m.mem y.toNat + x.c).toNat != 0 else true)) ∧ Below w.heap.size w w') := by
  obtain ⟨zz, hz, hz1, hz2⟩ := h.slotN ht hb hy
  obtain ⟨at_, hat, c0, c1, c3, c5, c6, c7, c8, lb, fz, f0, f1⟩ := h.thr ht hb
  have D1 := due_c h c0 c5 lb
  rw [hat ha] at D1
  have D2 := D1.mono (R' := fun e w' => Below w.heap.size w w' ∧ ∃ cb f, Hid (IN C cb f x) ∧ e = .returned (.pointer (some ⟨cb, f, none⟩))) (fun e w' h => ⟨h.1, by
    rcases h.2 with ⟨e, -⟩ | ⟨cb, f, x', e, e2⟩
    · have := e.out
      rw [hx] at this
      simp at this
    · have e3 := e.out
      rw [hx] at e3
      obtain rfl : x = x' := by have := e3.1; simpa using this
      exact ⟨cb, f, e3.2, e2⟩⟩)
  obtain ⟨fr, hfr⟩ : ∃ fr, fr = th.frame - stk t := ⟨_, rfl⟩
  have HF : Hid (∀ {W : World} {cb f : Nat}, Below w.heap.size w W → IN C cb f x → W.cell? ⟨b, 7, none⟩ = some (.bool th.abo) ∧ W.cell? ⟨b, 3, none⟩ = some (.int .i64 (th.frame - stk t)) ∧ W.cell? ⟨b, 0, none⟩ = some (ptr C.mb) ∧ b < W.heap.size ∧ W.cell? ⟨cb, f, none⟩ = some (.int .i64 x.op) ∧ W.cell? ⟨cb, f + 1, none⟩ = some (.int .i64 x.a) ∧ W.cell? ⟨cb, f + 3, none⟩ = some (.int .i64 x.c) ∧ cb < W.heap.size) := fun {W cb f} hW hI => (h.below hW).can_facts ht hb hI
  rw [ha, ← hfr] at HF
  rw [← hfr] at f0 f1
  have HA : Hid (∀ {W : World}, W.cell? ⟨b, 3, none⟩ = some (.int .i64 fr) → b < W.heap.size → Calls Try.prog 43 #[ptr b, .int .i64 x.a] W (fun e w' => e = .returned (.bool (decide (0 ≤ x.a) && decide (x.a < 4194304 - fr))) ∧ w' = W)) := fun {W} h1 h2 => has_s h1 h2 f0 f1 hxa
  have hv : (decide (0 ≤ x.a) && decide (x.a < 4194304 - fr)) = true := by
    rw [hfr]
    obtain ⟨y1, y2, -⟩ := slotR_true hy
    simp [y1, y2]
  rw [hv] at HA
  have hwf : IntKind.i64.wrap (fr + x.a) = (zz : Int) := by
    obtain ⟨y1, y2, y3⟩ := slotR_true hy
    rw [← hz, IntKind.wrap_i64]
    omega
  obtain ⟨va, hva⟩ : ∃ va, va = m.mem y.toNat := ⟨_, rfl⟩
  have HG : Hid (∀ {W : World}, Below w.heap.size w W → Calls Try.prog 34 #[.pointer (some ⟨b, 2, none⟩), .int .i64 (IntKind.i64.wrap (fr + x.a))] W (Gv W (.int .i64 va))) := fun {W} hW => by rw [hwf, hva, hz2]; exact ((h.below hW).getT ht hb zz hz1).mono (fun _ _ h => h.gv)
  have hva64 : I64 va := by rw [hva]; exact h.ok.mem _
  have HFd : Hid (∀ {W : World}, Below w.heap.size w W → Calls Try.prog 35 #[ptr C.mb, .int .i64 va, .int .i64 x.c] W (FdP C W tb m va x.c)) := fun {W} hW => find_c (h.below hW) hva64 hxc
  have HSG : Hid (∀ {W : World} {q : Nat} {p : Option Addr} {r : Int}, Below w.heap.size w W → SPo C tb q p r → Calls Try.prog 26 #[.agg #[.pointer p, .int .i64 r]] W (fun e w' => e = .returned (.int .i64 (m.mem q)) ∧ Below W.heap.size W w')) := fun {W q p r} hW hS => spget_b (h.below hW) hS
  rw [← hva]
  obtain ⟨V, hV⟩ : ∃ V, V = (if m.wordB va x.c then m.mem (va + x.c).toNat != 0 else true) := ⟨_, rfl⟩
  rw [← hV]
  have HV : Hid (V = (if m.wordB va x.c then m.mem (va + x.c).toNat != 0 else true)) := hV
  clear hV
  obtain ⟨x0, x1, x2, x3, x4, x5⟩ := x
  replace ho : x0 = 17 := ho
  subst ho
  clear h ht hb ha hat c0 c1 c3 c5 c6 c7 c8 fz f0 f1 D1 hx hv hy hfr hva hva64 hz hz1 hz2 hwf
  cases hw : m.wordB va x3 with
  | false =>
    have HW : Hid (m.wordB va x3 = false) := hw
    clear hw
    go_enter Try.func32, Try.ntmps32
    go_wp2_with (first | (go_at_call 43; refine (HA.out z3 zl).mono ?_; rintro e w3 ⟨rfl, rfl⟩) | (go_at_call 21; refine D2.mono ?_; rintro e w2 ⟨h2, cb, f, hI, rfl⟩; obtain ⟨z7, z3, z0, zl, y0, y1, y3, yl⟩ := HF.out h2 hI.out))
    have SOF : Hid (∀ W, Below w.heap.size w W → Below w.heap.size w W ∧ W.cell? ⟨b, 0, none⟩ = some (ptr C.mb) ∧ W.cell? ⟨b, 3, none⟩ = some (.int .i64 fr) ∧ W.cell? ⟨cb, f + 1, none⟩ = some (.int .i64 x1) ∧ W.cell? ⟨cb, f + 3, none⟩ = some (.int .i64 x3) ∧ b < W.heap.size ∧ cb < W.heap.size) := fun W hW => by
      obtain ⟨q7, q3, q0, ql, p0, p1, p3, pl⟩ := HF.out hW hI.out
      exact ⟨hW, q0, q3, p1, p3, ql, pl⟩
    have hS2 := SOF.out w3.drew ⟨h2.os, h2.tape, h2.output, h2.size, h2.block⟩
    have SS0 := hS2
    refine wp_region_held_drew (S := fun W => Below w.heap.size w W ∧ W.cell? ⟨b, 0, none⟩ = some (ptr C.mb) ∧ W.cell? ⟨b, 3, none⟩ = some (.int .i64 fr) ∧ W.cell? ⟨cb, f + 1, none⟩ = some (.int .i64 x1) ∧ W.cell? ⟨cb, f + 3, none⟩ = some (.int .i64 x3) ∧ b < W.heap.size ∧ cb < W.heap.size) (by as_aux_lemma => kernel_rfl) SS0 (fun hHeld => ?_)
    refine rtk 0 ?_
    refine rtk 1 ?_
    refine rtk 2 ?_
    refine rtk 3 ?_
    refine rtk 4 ?_
    refine rtk 5 ?_
    refine rtk 6 ?_
    refine rtk 7 ?_
    refine rtk 8 ?_
    refine rtk 9 ?_
    refine rtk 10 ?_
    refine rtk 11 ?_
    refine rtk 12 ?_
    refine rtk 13 ?_
    refine rtk 14 ?_
    refine rtk 15 ?_
    refine rtk 17 ?_
    refine rtk 18 ?_
    refine rtk 19 ?_
    refine rtk 20 ?_
    refine rr2 16 25 (fun K hK => ?_) (fun K hK => ?_)
    · go_simp
      refine (HG.out hHeld.1).mono ?_
      rintro e w4 ⟨rfl, h4⟩
      have SS1 := SOF.out _ (hHeld.1.trans (h4.mono hHeld.1.size))
      refine rgo hK ?_ (hS := by first | exact SS0 | exact SS1 | exact SS2 | exact SOF.out _ (hHeld.1.trans ((al1 _ _).1.mono hHeld.1.size)))
      clear hK K hHeld
      intro hHeld
      refine rr2 21 25 (fun K hK => ?_) (fun K hK => ?_)
      · go_simp
        refine (HFd.out hHeld.1).mono ?_
        rintro e w5 ⟨h5, (⟨-, p, r, rfl⟩ | ⟨hh, -⟩)⟩
        rotate_left
        · exact absurd (hh.symm.trans HW.out) (by simp)
        have SS2 := SOF.out _ (hHeld.1.trans (h5.mono hHeld.1.size))
        refine rgo hK ?_ (hS := by first | exact SS0 | exact SS1 | exact SS2 | exact SOF.out _ (hHeld.1.trans ((al1 _ _).1.mono hHeld.1.size)))
        clear hK K hHeld
        intro hHeld
        refine rtk 22 ?_
        refine rtk 23 ?_
        refine rtk 24 ?_
        refine rr1 25 (fun K hK => ?_)
        go_simp
        refine rgo hK ?_ (hS := by first | exact SS0 | exact SS1 | exact SS2 | exact SOF.out _ (hHeld.1.trans ((al1 _ _).1.mono hHeld.1.size)))
        clear hK K hHeld
        intro hHeld
        have SFIN := SOF.out (w5.alloc (.cells #[.pointer p, .int .i64 r] 65)) (SS2.1.trans ((al1 _ _).1.mono SS2.1.size))
        refine rr1 26 (fun K hK => ?_)
        go_simp
        refine rgo hK ?_ (hS := by exact SFIN)
        clear hK K hHeld
        intro hHeld
        refine rtk 27 ?_
        refine wpAnyH_done (by as_aux_lemma => kernel_rfl) ?_ _
        go_wp2_with fail
        go_ret
        exact ⟨by rw [HV.out]; show _ = Ending.returned (.bool (if m.wordB va x3 then m.mem (va + x3).toNat != 0 else true)); rw [if_neg (by rw [HW.out]; simp)]; rfl, SFIN.1⟩
      · go_simp
        refine rgo hK ?_ (hS := by first | exact SS0 | exact SS1 | exact SS2 | exact SOF.out _ (hHeld.1.trans ((al1 _ _).1.mono hHeld.1.size)))
        clear hK K hHeld
        intro hHeld
        refine rr1 21 (fun K hK => ?_)
        go_simp
        refine (HFd.out hHeld.1).mono ?_
        rintro e w5 ⟨h5, (⟨-, p, r, rfl⟩ | ⟨hh, -⟩)⟩
        rotate_left
        · exact absurd (hh.symm.trans HW.out) (by simp)
        have SS2 := SOF.out _ (hHeld.1.trans (h5.mono hHeld.1.size))
        refine rgo hK ?_ (hS := by first | exact SS0 | exact SS1 | exact SS2 | exact SOF.out _ (hHeld.1.trans ((al1 _ _).1.mono hHeld.1.size)))
        clear hK K hHeld
        intro hHeld
        have SLE : w.heap.size ≤ w4.heap.size := SS1.1.size
        have bd := (h5.block _ (Array.getElem?_eq_some_iff.1 (al1 w4 (.cells #[.pointer none, .int .i64 0] 65)).2).1).trans (al1 w4 (.cells #[.pointer none, .int .i64 0] 65)).2
        have z_0 := cell_of_row w5 w4.heap.size 0 _ 65 (0, 0) bd
        have z_1 := cell_of_row w5 w4.heap.size 1 _ 65 (0, 0) bd
        have y_0 := frozen_of_row w5 w4.heap.size 0 _ 65 bd
        have y_1 := frozen_of_row w5 w4.heap.size 1 _ 65 bd
        have li2 := (Array.getElem?_eq_some_iff.1 bd).1
        have SFIN := SOF.out (((w5).setCell ⟨w4.heap.size, 0, none⟩ (.pointer p)).setCell ⟨w4.heap.size, 1, none⟩ (.int .i64 r)) (((hHeld.1).setCell (p := ⟨w4.heap.size, 0, none⟩) SLE _).setCell (p := ⟨w4.heap.size, 1, none⟩) SLE _)
        refine rtk 22 ?_
        refine rtk 23 ?_
        refine rtk 24 ?_
        refine rr1 26 (fun K hK => ?_)
        go_simp
        refine rgo hK ?_ (hS := by exact SFIN)
        clear hK K hHeld
        intro hHeld
        refine rtk 27 ?_
        refine wpAnyH_done (by as_aux_lemma => kernel_rfl) ?_ _
        go_wp2_with fail
        go_ret
        exact ⟨by rw [HV.out]; show _ = Ending.returned (.bool (if m.wordB va x3 then m.mem (va + x3).toNat != 0 else true)); rw [if_neg (by rw [HW.out]; simp)]; rfl, SFIN.1⟩
    · go_simp
      refine rgo hK ?_ (hS := by first | exact SS0 | exact SS1 | exact SS2 | exact SOF.out _ (hHeld.1.trans ((al1 _ _).1.mono hHeld.1.size)))
      clear hK K hHeld
      intro hHeld
      refine rr1 16 (fun K hK => ?_)
      go_simp
      refine (HG.out hHeld.1).mono ?_
      rintro e w4 ⟨rfl, h4⟩
      have SS1 := SOF.out _ (hHeld.1.trans (h4.mono hHeld.1.size))
      refine rgo hK ?_ (hS := by first | exact SS0 | exact SS1 | exact SS2 | exact SOF.out _ (hHeld.1.trans ((al1 _ _).1.mono hHeld.1.size)))
      clear hK K hHeld
      intro hHeld
      refine rr1 21 (fun K hK => ?_)
      go_simp
      refine (HFd.out hHeld.1).mono ?_
      rintro e w5 ⟨h5, (⟨-, p, r, rfl⟩ | ⟨hh, -⟩)⟩
      rotate_left
      · exact absurd (hh.symm.trans HW.out) (by simp)
      have SS2 := SOF.out _ (hHeld.1.trans (h5.mono hHeld.1.size))
      refine rgo hK ?_ (hS := by first | exact SS0 | exact SS1 | exact SS2 | exact SOF.out _ (hHeld.1.trans ((al1 _ _).1.mono hHeld.1.size)))
      clear hK K hHeld
      intro hHeld
      have SLE : w.heap.size ≤ w3.heap.size := h2.size
      have bc := (al1 w3.drew (.cells #[.pointer none, .int .i64 0] 65)).2
      have bd := (h5.block _ (Nat.lt_of_lt_of_le (Array.getElem?_eq_some_iff.1 bc).1 h4.size)).trans ((h4.block _ (Array.getElem?_eq_some_iff.1 bc).1).trans bc)
      have z_0 := cell_of_row w5 w3.heap.size 0 _ 65 (0, 0) bd
      have z_1 := cell_of_row w5 w3.heap.size 1 _ 65 (0, 0) bd
      have y_0 := frozen_of_row w5 w3.heap.size 0 _ 65 bd
      have y_1 := frozen_of_row w5 w3.heap.size 1 _ 65 bd
      have li2 := (Array.getElem?_eq_some_iff.1 bd).1
      have SFIN := SOF.out (((w5).setCell ⟨w3.heap.size, 0, none⟩ (.pointer p)).setCell ⟨w3.heap.size, 1, none⟩ (.int .i64 r)) (((hHeld.1).setCell (p := ⟨w3.heap.size, 0, none⟩) SLE _).setCell (p := ⟨w3.heap.size, 1, none⟩) SLE _)
      refine rtk 22 ?_
      refine rtk 23 ?_
      refine rtk 24 ?_
      refine rr1 26 (fun K hK => ?_)
      go_simp
      refine rgo hK ?_ (hS := by exact SFIN)
      clear hK K hHeld
      intro hHeld
      refine rtk 27 ?_
      refine wpAnyH_done (by as_aux_lemma => kernel_rfl) ?_ _
      go_wp2_with fail
      go_ret
      exact ⟨by rw [HV.out]; show _ = Ending.returned (.bool (if m.wordB va x3 then m.mem (va + x3).toNat != 0 else true)); rw [if_neg (by rw [HW.out]; simp)]; rfl, SFIN.1⟩
  | true =>
    have HW : Hid (m.wordB va x3 = true) := hw
    clear hw
    go_enter Try.func32, Try.ntmps32
    go_wp2_with (first | (go_at_call 43; refine (HA.out z3 zl).mono ?_; rintro e w3 ⟨rfl, rfl⟩) | (go_at_call 21; refine D2.mono ?_; rintro e w2 ⟨h2, cb, f, hI, rfl⟩; obtain ⟨z7, z3, z0, zl, y0, y1, y3, yl⟩ := HF.out h2 hI.out))
    have SOF : Hid (∀ W, Below w.heap.size w W → Below w.heap.size w W ∧ W.cell? ⟨b, 0, none⟩ = some (ptr C.mb) ∧ W.cell? ⟨b, 3, none⟩ = some (.int .i64 fr) ∧ W.cell? ⟨cb, f + 1, none⟩ = some (.int .i64 x1) ∧ W.cell? ⟨cb, f + 3, none⟩ = some (.int .i64 x3) ∧ b < W.heap.size ∧ cb < W.heap.size) := fun W hW => by
      obtain ⟨q7, q3, q0, ql, p0, p1, p3, pl⟩ := HF.out hW hI.out
      exact ⟨hW, q0, q3, p1, p3, ql, pl⟩
    have hS2 := SOF.out w3.drew ⟨h2.os, h2.tape, h2.output, h2.size, h2.block⟩
    have SS0 := hS2
    refine wp_region_held_drew (S := fun W => Below w.heap.size w W ∧ W.cell? ⟨b, 0, none⟩ = some (ptr C.mb) ∧ W.cell? ⟨b, 3, none⟩ = some (.int .i64 fr) ∧ W.cell? ⟨cb, f + 1, none⟩ = some (.int .i64 x1) ∧ W.cell? ⟨cb, f + 3, none⟩ = some (.int .i64 x3) ∧ b < W.heap.size ∧ cb < W.heap.size) (by as_aux_lemma => kernel_rfl) SS0 (fun hHeld => ?_)
    refine rtk 0 ?_
    refine rtk 1 ?_
    refine rtk 2 ?_
    refine rtk 3 ?_
    refine rtk 4 ?_
    refine rtk 5 ?_
    refine rtk 6 ?_
    refine rtk 7 ?_
    refine rtk 8 ?_
    refine rtk 9 ?_
    refine rtk 10 ?_
    refine rtk 11 ?_
    refine rtk 12 ?_
    refine rtk 13 ?_
    refine rtk 14 ?_
    refine rtk 15 ?_
    refine rtk 17 ?_
    refine rtk 18 ?_
    refine rtk 19 ?_
    refine rtk 20 ?_
    refine rr2 16 25 (fun K hK => ?_) (fun K hK => ?_)
    · go_simp
      refine (HG.out hHeld.1).mono ?_
      rintro e w4 ⟨rfl, h4⟩
      have SS1 := SOF.out _ (hHeld.1.trans (h4.mono hHeld.1.size))
      refine rgo hK ?_ (hS := by first | exact SS0 | exact SS1 | exact SS2 | exact SOF.out _ (hHeld.1.trans ((al1 _ _).1.mono hHeld.1.size)))
      clear hK K hHeld
      intro hHeld
      refine rr2 21 25 (fun K hK => ?_) (fun K hK => ?_)
      · go_simp
        refine (HFd.out hHeld.1).mono ?_
        rintro e w5 ⟨h5, (⟨hh, -⟩ | ⟨-, q, p, r, hq, hSS, rfl⟩)⟩
        · exact absurd (hh.symm.trans HW.out) (by simp)
        have SS2 := SOF.out _ (hHeld.1.trans (h5.mono hHeld.1.size))
        refine rgo hK ?_ (hS := by first | exact SS0 | exact SS1 | exact SS2 | exact SOF.out _ (hHeld.1.trans ((al1 _ _).1.mono hHeld.1.size)))
        clear hK K hHeld
        intro hHeld
        refine rtk 22 ?_
        refine rtk 23 ?_
        refine rtk 24 ?_
        refine rr1 25 (fun K hK => ?_)
        go_simp
        refine rgo hK ?_ (hS := by first | exact SS0 | exact SS1 | exact SS2 | exact SOF.out _ (hHeld.1.trans ((al1 _ _).1.mono hHeld.1.size)))
        clear hK K hHeld
        intro hHeld
        have SFIN := SOF.out (w5.alloc (.cells #[.pointer p, .int .i64 r] 65)) (SS2.1.trans ((al1 _ _).1.mono SS2.1.size))
        refine rr1 26 (fun K hK => ?_)
        go_simp
        refine rgo hK ?_ (hS := by exact SFIN)
        clear hK K hHeld
        intro hHeld
        refine rtk 27 ?_
        refine wpAnyH_done (by as_aux_lemma => kernel_rfl) ?_ _
        go_wp2_with (go_at_call 26; refine (HSG.out SFIN.1 hSS).mono ?_; rintro e w9 ⟨rfl, h9⟩)
        go_ret
        exact ⟨by rw [HV.out]; show _ = Ending.returned (.bool (if m.wordB va x3 then m.mem (va + x3).toNat != 0 else true)); rw [if_pos HW.out, hq, Int.toNat_natCast]; rfl, SFIN.1.trans (h9.mono SFIN.1.size)⟩
      · go_simp
        refine rgo hK ?_ (hS := by first | exact SS0 | exact SS1 | exact SS2 | exact SOF.out _ (hHeld.1.trans ((al1 _ _).1.mono hHeld.1.size)))
        clear hK K hHeld
        intro hHeld
        refine rr1 21 (fun K hK => ?_)
        go_simp
        refine (HFd.out hHeld.1).mono ?_
        rintro e w5 ⟨h5, (⟨hh, -⟩ | ⟨-, q, p, r, hq, hSS, rfl⟩)⟩
        · exact absurd (hh.symm.trans HW.out) (by simp)
        have SS2 := SOF.out _ (hHeld.1.trans (h5.mono hHeld.1.size))
        refine rgo hK ?_ (hS := by first | exact SS0 | exact SS1 | exact SS2 | exact SOF.out _ (hHeld.1.trans ((al1 _ _).1.mono hHeld.1.size)))
        clear hK K hHeld
        intro hHeld
        have SLE : w.heap.size ≤ w4.heap.size := SS1.1.size
        have bd := (h5.block _ (Array.getElem?_eq_some_iff.1 (al1 w4 (.cells #[.pointer none, .int .i64 0] 65)).2).1).trans (al1 w4 (.cells #[.pointer none, .int .i64 0] 65)).2
        have z_0 := cell_of_row w5 w4.heap.size 0 _ 65 (0, 0) bd
        have z_1 := cell_of_row w5 w4.heap.size 1 _ 65 (0, 0) bd
        have y_0 := frozen_of_row w5 w4.heap.size 0 _ 65 bd
        have y_1 := frozen_of_row w5 w4.heap.size 1 _ 65 bd
        have li2 := (Array.getElem?_eq_some_iff.1 bd).1
        have SFIN := SOF.out (((w5).setCell ⟨w4.heap.size, 0, none⟩ (.pointer p)).setCell ⟨w4.heap.size, 1, none⟩ (.int .i64 r)) (((hHeld.1).setCell (p := ⟨w4.heap.size, 0, none⟩) SLE _).setCell (p := ⟨w4.heap.size, 1, none⟩) SLE _)
        refine rtk 22 ?_
        refine rtk 23 ?_
        refine rtk 24 ?_
        refine rr1 26 (fun K hK => ?_)
        go_simp
        refine rgo hK ?_ (hS := by exact SFIN)
        clear hK K hHeld
        intro hHeld
        refine rtk 27 ?_
        refine wpAnyH_done (by as_aux_lemma => kernel_rfl) ?_ _
        go_wp2_with (go_at_call 26; refine (HSG.out SFIN.1 hSS).mono ?_; rintro e w9 ⟨rfl, h9⟩)
        go_ret
        exact ⟨by rw [HV.out]; show _ = Ending.returned (.bool (if m.wordB va x3 then m.mem (va + x3).toNat != 0 else true)); rw [if_pos HW.out, hq, Int.toNat_natCast]; rfl, SFIN.1.trans (h9.mono SFIN.1.size)⟩
    · go_simp
      refine rgo hK ?_ (hS := by first | exact SS0 | exact SS1 | exact SS2 | exact SOF.out _ (hHeld.1.trans ((al1 _ _).1.mono hHeld.1.size)))
      clear hK K hHeld
      intro hHeld
      refine rr1 16 (fun K hK => ?_)
      go_simp
      refine (HG.out hHeld.1).mono ?_
      rintro e w4 ⟨rfl, h4⟩
      have SS1 := SOF.out _ (hHeld.1.trans (h4.mono hHeld.1.size))
      refine rgo hK ?_ (hS := by first | exact SS0 | exact SS1 | exact SS2 | exact SOF.out _ (hHeld.1.trans ((al1 _ _).1.mono hHeld.1.size)))
      clear hK K hHeld
      intro hHeld
      refine rr1 21 (fun K hK => ?_)
      go_simp
      refine (HFd.out hHeld.1).mono ?_
      rintro e w5 ⟨h5, (⟨hh, -⟩ | ⟨-, q, p, r, hq, hSS, rfl⟩)⟩
      · exact absurd (hh.symm.trans HW.out) (by simp)
      have SS2 := SOF.out _ (hHeld.1.trans (h5.mono hHeld.1.size))
      refine rgo hK ?_ (hS := by first | exact SS0 | exact SS1 | exact SS2 | exact SOF.out _ (hHeld.1.trans ((al1 _ _).1.mono hHeld.1.size)))
      clear hK K hHeld
      intro hHeld
      have SLE : w.heap.size ≤ w3.heap.size := h2.size
      have bc := (al1 w3.drew (.cells #[.pointer none, .int .i64 0] 65)).2
      have bd := (h5.block _ (Nat.lt_of_lt_of_le (Array.getElem?_eq_some_iff.1 bc).1 h4.size)).trans ((h4.block _ (Array.getElem?_eq_some_iff.1 bc).1).trans bc)
      have z_0 := cell_of_row w5 w3.heap.size 0 _ 65 (0, 0) bd
      have z_1 := cell_of_row w5 w3.heap.size 1 _ 65 (0, 0) bd
      have y_0 := frozen_of_row w5 w3.heap.size 0 _ 65 bd
      have y_1 := frozen_of_row w5 w3.heap.size 1 _ 65 bd
      have li2 := (Array.getElem?_eq_some_iff.1 bd).1
      have SFIN := SOF.out (((w5).setCell ⟨w3.heap.size, 0, none⟩ (.pointer p)).setCell ⟨w3.heap.size, 1, none⟩ (.int .i64 r)) (((hHeld.1).setCell (p := ⟨w3.heap.size, 0, none⟩) SLE _).setCell (p := ⟨w3.heap.size, 1, none⟩) SLE _)
      refine rtk 22 ?_
      refine rtk 23 ?_
      refine rtk 24 ?_
      refine rr1 26 (fun K hK => ?_)
      go_simp
      refine rgo hK ?_ (hS := by exact SFIN)
      clear hK K hHeld
      intro hHeld
      refine rtk 27 ?_
      refine wpAnyH_done (by as_aux_lemma => kernel_rfl) ?_ _
      go_wp2_with (go_at_call 26; refine (HSG.out SFIN.1 hSS).mono ?_; rintro e w9 ⟨rfl, h9⟩)
      go_ret
      exact ⟨by rw [HV.out]; show _ = Ending.returned (.bool (if m.wordB va x3 then m.mem (va + x3).toNat != 0 else true)); rw [if_pos HW.out, hq, Int.toNat_natCast]; rfl, SFIN.1.trans (h9.mono SFIN.1.size)⟩
theorem can_c (h : PS C N K w ps tb m) (ht : m.ths[t]? = some th) (hb : tb[t]? = some b) (hm : (meetB m C.code t th).1 = true) : Calls Try.prog 32 #[ptr b] w (fun e w' => e = .returned (.bool (meetB m C.code t th).2) ∧ Below w.heap.size w w') := by
  cases ha : th.abo with
  | true =>
    have e : (meetB m C.code t th).2 = true := by unfold meetB; rw [ha]; rfl
    rw [e]
    exact can_abo h ht hb ha
  | false =>
    rw [meet1, ha] at hm
    cases hi : (insAt C.code th.pc).2 with
    | false =>
      rw [insAt_false hi] at hm
      exact absurd hm (by decide)
    | true =>
      obtain ⟨x, hx⟩ : ∃ x, insAt C.code th.pc = (x, true) := ⟨(insAt C.code th.pc).1, by rw [← hi]⟩
      rw [hx] at hm
      have hok : x.ok := by have := insAt_ok h.c64 th.pc; rw [hx] at this; exact this
      by_cases h17 : x.op = 17
      · rcases slot_cases th.frame t x.a with ⟨y, hy⟩ | ⟨y, hy⟩
        · have e : (meetB m C.code t th).2 = (if m.wordB (m.mem y.toNat) x.c then m.mem (m.mem y.toNat + x.c).toNat != 0 else true) := by
            unfold meetB
            rw [ha, hx, if_neg (by decide), if_neg (by show ¬ (x.op = 16 ∨ x.op = 18); omega), if_pos h17, hy, if_neg (by simp)]
            split <;> rfl
          rw [e]
          exact can_wait h ht hb ha hx h17 hok.2.1 hok.2.2.2.1 hy
        · have e : (meetB m C.code t th).2 = true := by
            unfold meetB
            rw [ha, hx, if_neg (by decide), if_neg (by show ¬ (x.op = 16 ∨ x.op = 18); omega), if_pos h17, hy, if_pos rfl]
          rw [e]
          exact can_no h ht hb ha hx h17 hok.2.1 hy
      · have e : (meetB m C.code t th).2 = true := by
          unfold meetB
          rw [ha, hx, if_neg (by decide)]
          by_cases h1 : x.op = 16 ∨ x.op = 18
          · rw [if_pos h1]
          · rw [if_neg h1, if_neg h17]
        rw [e]
        exact can_op h ht hb ha hx h17
end
end Go.Proofs.Ytpoepbmomfohlaa
namespace Go.Proofs.Ytpoepbmomfohlaa
open Go.RowKit
set_option linter.all false
section
variable {C : Ct} {N N' : Nat} {K : Nat → Obj → Prop} {w w' w1 : World} {ps : List Int} {tb tb' : List Nat} {m m' : Mc} {t b : Nat} {th th' : Th}
set_option maxRecDepth 100000 in
set_option maxHeartbeats 1000000 in
theorem over_c (h : PS C N K w ps tb m) : Calls Try.prog 13 #[ptr C.mb] w (fun e w' => e = .returned (.int .i64 (if m.ths.all (fun th => th.over) then (if m.failed then 2 else 1) else 3)) ∧ Below w.heap.size w w') := by
  obtain ⟨V, hV⟩ : ∃ V : Int, V = (if m.ths.all (fun th => th.over) then (if m.failed then 2 else 1) else 3) := ⟨_, rfl⟩
  rw [← hV]
  have HV : Hid (V = (if m.ths.all (fun th => th.over) then (if m.failed then 2 else 1) else 3)) := hV
  clear hV
  obtain ⟨o, c, k4, hrow⟩ := h.row
  have lm := h.size
  have hfew := h.few
  have HH : Hid (PS C N K w ps tb m) := h
  have HR : Hid (∀ {W : World} {t b : Nat}, Below w.heap.size w W → tb[t]? = some b → ∃ q, o = some ⟨q, 0, none⟩ ∧ q < W.heap.size ∧ W.cell? ⟨q, t, none⟩ = some (ptr b)) := fun {W t b} hW hb => by
    obtain ⟨q, e, lq, kq⟩ := hrow t b hb
    exact ⟨q, e, Nat.lt_of_lt_of_le lq hW.size, (hW.cell (p := ⟨q, t, none⟩) lq).trans kq⟩
  have HTL : Hid (tb.length = m.ths.length) := h.tl
  clear h hrow
  go_enter Try.func13, Try.ntmps13
  go_wp2_with fail
  go_loopg [10] m.ths.length (fun gg u wr => ∃ idx : Nat, gg = m.ths.length - idx ∧ u = .int .i64 idx ∧ idx ≤ m.ths.length ∧ Hid (∀ th ∈ m.ths.take idx, th.over = true) ∧ Hid (Below w.heap.size w wr))
  case atStart => exact ⟨0, rfl, rfl, Nat.zero_le _, fun _ h => by simp at h, Below.refl _ _⟩
  case round =>
    obtain ⟨idx, hgk, rfl, hidx, HA, HB⟩ := hrel
    have HG : Hid (gk = m.ths.length - idx) := hgk
    clear hgk
    by_cases hlt : idx < m.ths.length
    · have hltI : (idx : Int) < (m.ths.length : Int) := by omega
      have hi0 : (0 : Int) ≤ (idx : Int) := by omega
      obtain ⟨th, ht⟩ : ∃ th, m.ths[idx]? = some th := ⟨_, List.getElem?_eq_getElem hlt⟩
      obtain ⟨b, hb⟩ : ∃ b, tb[idx]? = some b := ⟨_, List.getElem?_eq_getElem (by rw [HTL.out]; exact hlt)⟩
      obtain ⟨q, e, lq, kq⟩ := HR.out HB.out hb
      have HE0 : Hid (o = some ⟨q, 0, none⟩) := e
      rw [e]
      have M1 : Hid (PS C N K wr ps tb m) := HH.out.below HB.out
      obtain ⟨at_, -, d0, d1, d3, d5, d6, d7, d8, lb, fz, f0, f1⟩ := M1.out.thr ht hb
      have HMM : Hid (th ∈ m.ths) := List.mem_of_getElem? ht
      have HTK : Hid (th.over = true → ∀ z ∈ m.ths.take (idx + 1), z.over = true) := fun ho z hz => by
        rw [List.take_add_one, ht] at hz
        simp at hz
        rcases hz with hz | rfl
        · exact HA.out z hz
        · exact ho
      obtain ⟨ov, hov⟩ : ∃ ov, ov = th.over := ⟨_, rfl⟩
      rw [← hov] at d8
      have HOV : Hid (ov = th.over) := hov
      clear hov e ht hb d0 d1 d3 d5 d6 d7 fz f0 f1 k4 lm
      cases ov with
      | true =>
        go_wp2_with fail
        rw [← HE0.out]
        go_roundg (m.ths.length - (idx + 1))
        case measure => rw [HG.out]; exact ms_lt hlt
        case rel => exact ⟨idx + 1, rfl, by go_num, hlt, HTK.out HOV.out.symm, HB.out⟩
      | false =>
        go_wp2_with fail
        go_ret
        have hV3 : V = 3 := by
          rw [HV.out, if_neg]
          intro hall
          have h9 := List.all_eq_true.1 hall th HMM.out
          rw [← HOV.out] at h9
          cases h9
        exact ⟨by rw [hV3]; rfl, HB.out⟩
    · have hltI : ¬ (idx : Int) < (m.ths.length : Int) := by omega
      have hall : m.ths.all (fun th => th.over) = true := List.all_eq_true.2 (fun z hz => HA.out z (by rw [show idx = m.ths.length by omega, List.take_length]; exact hz))
      obtain ⟨-, -, c5, -, -, l5, -⟩ := (HH.out.below HB.out).mch
      have HV2 : Hid (V = if m.failed then 2 else 1) := by show _ = _; rw [HV.out, if_pos hall]
      obtain ⟨fl, hfl⟩ : ∃ fl, fl = m.failed := ⟨_, rfl⟩
      rw [← hfl] at c5 HV2
      clear hall hfl k4 lm hfew
      cases fl with
      | true =>
        go_wp2_with fail
        go_ret
        exact ⟨by rw [HV2.out]; rfl, HB.out⟩
      | false =>
        go_wp2_with fail
        go_ret
        exact ⟨by rw [HV2.out]; rfl, HB.out⟩
end
end Go.Proofs.Ytpoepbmomfohlaa
