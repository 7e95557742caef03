/- Blocks of words, and the spans that were handed out: pure. -/
import Derived.Test.YtohhmcpaajcplaaGpa
namespace Go.Proofs.Ytohhmcpaajcplaa
open Go.RowKit
set_option linter.all false
theorem HOK.apart {N a s : Int} {R : List (Int × Int)} : ∀ {L : List (Int × Int)} {lo : Int}, HOK N lo (L ++ (a, s) :: R) → (∀ x ∈ L, x.1 + x.2 ≤ a ∧ 1 ≤ x.2) ∧ (∀ x ∈ R, a + s ≤ x.1 ∧ 1 ≤ x.2) ∧ lo ≤ a ∧ 1 ≤ s ∧ a + s ≤ N + 1
  | [], lo, ⟨h1, h2, h3⟩ => by
    refine ⟨by simp, fun x hx => ?_, h1, h2, h3.end_⟩
    obtain ⟨i, hi⟩ := List.getElem?_of_mem hx
    have := h3.at (a := x.1) (s := x.2) hi
    omega
  | (b, z) :: L, lo, ⟨h1, h2, h3⟩ => by
    obtain ⟨i1, i2, i3, i4, i5⟩ := HOK.apart h3
    refine ⟨fun x hx => ?_, i2, by omega, i4, i5⟩
    rcases List.mem_cons.1 hx with rfl | hx
    · exact ⟨i3, h2⟩
    · exact i1 x hx
/-- A block is taken away. -/
theorem hfree_mem {N : Int} {bs : List (Int × Int)} {a s : Int} (h : HOK N 1 bs) (hm : (a, s) ∈ bs) : ∃ bs', hfree bs a = some bs' ∧ bs.Perm ((a, s) :: bs') ∧ hfree bs' a = none ∧ hhas bs' a = false ∧ hhas bs a = true ∧ hhas bs (a + s - 1) = true ∧ (1 < s → hfree bs (a + 1) = none) := by
  obtain ⟨L, R, rfl⟩ := List.append_of_mem hm
  obtain ⟨i1, i2, i3, i4, i5⟩ := h.apart
  have hf := hfree_at h (k := L.length) (a := a) (s := s) (by simp)
  have e : (L ++ (a, s) :: R).take L.length ++ (L ++ (a, s) :: R).drop (L.length + 1) = L ++ R := by simp
  rw [e] at hf
  refine ⟨L ++ R, hf, List.perm_middle, hfree_none (fun x hx he => ?_), ?_, ?_, ?_, fun hs => hfree_none (fun x hx he => ?_)⟩
  · rcases List.mem_append.1 hx with hx | hx
    · have := i1 x hx; omega
    · have := i2 x hx; omega
  · unfold hhas
    rw [List.any_eq_false]
    intro x hx
    simp
    intro hxa
    rcases List.mem_append.1 hx with hx | hx
    · have := i1 x hx; omega
    · have := i2 x hx; omega
  · unfold hhas
    rw [List.any_eq_true]
    exact ⟨(a, s), by simp, by simp; omega⟩
  · unfold hhas
    rw [List.any_eq_true]
    exact ⟨(a, s), by simp, by simp; omega⟩
  · rcases List.mem_append.1 hx with hx | hx
    · have := i1 x hx; omega
    · rcases List.mem_cons.1 hx with rfl | hx
      · simp at he; omega
      · have := i2 x hx; omega
theorem hfit_start (n : Int) : ∀ (bs : List (Int × Int)) (lo : Int), (hfit n lo bs).2 = lo ∨ ∃ b ∈ bs, (hfit n lo bs).2 = b.1 + b.2
  | [], _ => .inl rfl
  | (a, s) :: r, lo => by
    unfold hfit
    split
    · rcases hfit_start n r (a + s) with h | ⟨b, hb, h⟩
      · exact .inr ⟨(a, s), by simp, h⟩
      · exact .inr ⟨b, by simp [hb], h⟩
    · exact .inl rfl
theorem hfit_least {N n s : Int} : ∀ {bs : List (Int × Int)} {lo : Int}, HOK N lo bs → lo ≤ s → (∀ b ∈ bs, s + n ≤ b.1 ∨ b.1 + b.2 ≤ s) → (hfit n lo bs).2 ≤ s
  | [], lo, _, hl, _ => hl
  | (a, z) :: r, lo, ⟨h1, h2, h3⟩, hl, hb => by
    unfold hfit
    split
    · have hb0 := hb (a, z) (by simp)
      exact hfit_least h3 (by simp at hb0; omega) (fun b hb' => hb b (by simp [hb']))
    · exact hl
/-- What a block that is made says. -/
theorem halloc_some {N n p : Int} {bs bs' : List (Int × Int)} (h : HOK N 1 bs) (ha : halloc N bs n = some (p, bs')) : 1 ≤ n ∧ n ≤ N ∧ 1 ≤ p ∧ p ≤ N - n + 1 ∧ HOK N 1 bs' ∧ bs'.Perm ((p, n) :: bs) ∧ (∀ b ∈ bs, p + n ≤ b.1 ∨ b.1 + b.2 ≤ p) ∧ (p = 1 ∨ ∃ b ∈ bs, p = b.1 + b.2) := by
  unfold halloc at ha
  split at ha
  · cases ha
  · split at ha
    · cases ha
    · rename_i h1 h2
      simp at ha
      obtain ⟨rfl, rfl⟩ := ha
      have hp := HOK.put (n := n) (by omega) h (by omega)
      have ap := hp.apart
      refine ⟨by omega, by omega, ap.2.2.1, by omega, hp, ?_, fun b hb => ?_, hfit_start n bs 1⟩
      · refine List.perm_middle.trans (List.Perm.cons _ ?_)
        rw [List.take_append_drop]
      · rw [← List.take_append_drop (hfit n 1 bs).1 bs] at hb
        rcases List.mem_append.1 hb with hb | hb
        · exact .inr (ap.1 b hb).1
        · exact .inl (ap.2.1 b hb).1
theorem gap_eq {N n : Int} {bs lv : List (Int × Int)} (h : HOK N 1 bs) (hp : lv.Perm bs) : gapB N lv n = (halloc N bs n).isSome := by
  cases ha : halloc N bs n with
  | some x =>
    obtain ⟨p, bs'⟩ := x
    obtain ⟨h1, h2, h3, h4, -, -, h5, h6⟩ := halloc_some h ha
    show gapB N lv n = true
    unfold gapB
    rw [decide_eq_true h1, Bool.true_and, List.any_eq_true]
    refine ⟨p, ?_, ?_⟩
    · unfold starts
      rcases h6 with rfl | ⟨b, hb, rfl⟩
      · simp
      · exact List.mem_cons_of_mem _ (List.mem_map.2 ⟨b, hp.mem_iff.2 hb, rfl⟩)
    · unfold gapAt fitsAt
      rw [decide_eq_true ⟨h2, h4⟩, Bool.true_and, List.all_eq_true]
      intro b hb
      exact decide_eq_true (h5 b (hp.mem_iff.1 hb))
  | none =>
    show gapB N lv n = false
    cases hg : gapB N lv n with
    | false => rfl
    | true =>
      exfalso
      unfold gapB at hg
      simp only [Bool.and_eq_true, decide_eq_true_eq, List.any_eq_true] at hg
      obtain ⟨h1, s, hs, hg⟩ := hg
      unfold gapAt fitsAt at hg
      simp only [Bool.and_eq_true, decide_eq_true_eq, List.all_eq_true] at hg
      obtain ⟨⟨h2, h3⟩, h4⟩ := hg
      have hs1 : 1 ≤ s := by
        unfold starts at hs
        rcases List.mem_cons.1 hs with rfl | hs
        · omega
        · obtain ⟨b, hb, rfl⟩ := List.mem_map.1 hs
          obtain ⟨i, hi⟩ := List.getElem?_of_mem (hp.mem_iff.1 hb)
          have := h.at (a := b.1) (s := b.2) hi
          omega
      have hl := hfit_least (n := n) h hs1 (fun b hb => h4 b (hp.mem_iff.2 hb))
      unfold halloc at ha
      rw [if_neg (by omega), if_neg (by omega)] at ha
      cases ha
theorem halloc_all {N : Int} (hN : 1 ≤ N) : halloc N [] N = some (1, [(1, N)]) := by
  unfold halloc
  rw [if_neg (by omega), if_neg (by show ¬ N - N + 1 < 1; omega)]
  rfl
theorem perm_out {lv bs bs' : List (Int × Int)} {k : Nat} {b : Int × Int} (hp : lv.Perm bs) (hk : lv[k]? = some b) (hb : bs.Perm (b :: bs')) : (lv.take k ++ lv.drop (k + 1)).Perm bs' := by
  obtain ⟨hl, he⟩ := List.getElem?_eq_some_iff.1 hk
  have e : lv = lv.take k ++ b :: lv.drop (k + 1) := by
    conv => lhs; rw [← List.take_append_drop k lv, List.drop_eq_getElem_cons hl, he]
  have h1 : lv.Perm (b :: (lv.take k ++ lv.drop (k + 1))) := by
    conv => lhs; rw [e]
    exact List.perm_middle
  exact (h1.symm.trans (hp.trans hb)).cons_inv
theorem HM.kt {w w' : World} {base hb : Nat} {N : Int} {bs : List (Int × Int)} (h : HM w base hb N bs) (k : KT (fun t => t = 38 ∨ t = 41) w w') : HM w' base hb N bs := by
  obtain ⟨p, h, m, ht, xs, hc, t, r⟩ := h
  exact ⟨p, h, m, ht, xs, heap_kt' k hc (.inl rfl), t.frame (fun z hz => by
    obtain ⟨_, _, _, _, hvc⟩ := t.row z hz
    exact k _ _ _ _ hvc (.inr rfl)), r⟩
theorem HM.ok {w : World} {base hb : Nat} {N : Int} {bs : List (Int × Int)} (h : HM w base hb N bs) : HOK N 1 bs := by
  obtain ⟨p, h, m, ht, xs, hc, t, ch, rfl, r⟩ := h
  exact ch.hok
theorem LV.kt {w w' : World} {base : Nat} {lo : Option Addr} {lc : Nat} {N : Int} {lv : List (Int × Int)} (h : LV w base lo lc N lv) (k : KT (fun t => t ≠ 38 ∧ t ≠ 41) w w') : LV w' base lo lc N lv := ⟨ownsRow_kt h.row k ⟨by decide, by decide⟩, h.few, h.num, h.big⟩
end Go.Proofs.Ytohhmcpaajcplaa
