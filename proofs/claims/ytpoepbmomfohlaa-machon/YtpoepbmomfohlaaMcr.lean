/- The document's machine: op. -/
import Derived.Test.YtpoepbmomfohlaaMcn
namespace Go.Proofs.Ytpoepbmomfohlaa
open Go.RowKit
set_option linter.all false
theorem I64_0 : I64 0 := by unfold I64; omega
theorem b2i_64 (b : Bool) : I64 (b2i b) := by cases b <;> (unfold b2i I64; simp)
theorem tdiv_64 {a b : Int} (ha : I64 a) (h0 : b ≠ 0) (h1 : ¬ (b = -1 ∧ a = -9223372036854775808)) : I64 (a.tdiv b) := by
  have h2 := Int.natAbs_tdiv a b
  unfold I64 at ha ⊢
  by_cases hb1 : b = 1
  · subst hb1
    rw [Int.tdiv_one]
    exact ha
  · by_cases hb2 : b = -1
    · subst hb2
      rw [Int.tdiv_neg, Int.tdiv_one]
      omega
    · have h3 : 2 ≤ b.natAbs := by omega
      have h4 : a.natAbs / b.natAbs ≤ a.natAbs / 2 := Nat.div_le_div_left h3 (by decide)
      have h5 : (a.tdiv b).natAbs ≤ a.natAbs / 2 := by rw [h2]; exact h4
      clear h2 h4
      omega
theorem tmod_64 {a b : Int} (ha : I64 a) : I64 (a.tmod b) := by
  have h2 := Int.natAbs_tmod a b
  have h3 := Nat.mod_le a.natAbs b.natAbs
  have h4 : 0 ≤ a → 0 ≤ a.tmod b := fun h => Int.tmod_nonneg b h
  unfold I64 at ha ⊢
  by_cases h : 0 ≤ a
  · have := h4 h; omega
  · have h5 : a.tmod b ≤ 0 := by
      have h6 := Int.tmod_nonneg b (show 0 ≤ -a by omega)
      rw [Int.neg_tmod] at h6
      omega
    omega
theorem in_64 {x : Int} (h : in64 x = true) : I64 x := by
  unfold in64 at h
  have h2 := of_decide_eq_true h
  exact h2
theorem reckon_64 {op a b : Int} (ha : I64 a) (h : (reckon op a b).2 = true) : I64 (reckon op a b).1 := by
  unfold reckon at h ⊢
  by_cases h0 : op = 0
  · rw [if_pos h0] at h ⊢; exact in_64 h
  rw [if_neg h0] at h ⊢
  by_cases h1 : op = 1
  · rw [if_pos h1] at h ⊢; exact in_64 h
  rw [if_neg h1] at h ⊢
  by_cases h2 : op = 2
  · rw [if_pos h2] at h ⊢; exact in_64 h
  rw [if_neg h2] at h ⊢
  by_cases h3 : op = 3
  · rw [if_pos h3] at h ⊢; (simp only [Bool.and_eq_true, Bool.not_eq_true', beq_eq_false_iff_ne, Bool.and_eq_false_iff] at h; exact tdiv_64 ha h.1 (fun e => by rcases h.2 with h2 | h2; exact h2 e.1; exact h2 e.2))
  rw [if_neg h3] at h ⊢
  by_cases h4 : op = 4
  · rw [if_pos h4] at h ⊢; exact tmod_64 ha
  rw [if_neg h4] at h ⊢
  by_cases h5 : op = 5
  · rw [if_pos h5] at h ⊢; exact b2i_64 _
  rw [if_neg h5] at h ⊢
  by_cases h6 : op = 6
  · rw [if_pos h6] at h ⊢; exact b2i_64 _
  rw [if_neg h6] at h ⊢
  by_cases h7 : op = 7
  · rw [if_pos h7] at h ⊢; exact b2i_64 _
  rw [if_neg h7] at h ⊢
  by_cases h8 : op = 8
  · rw [if_pos h8] at h ⊢; exact b2i_64 _
  rw [if_neg h8] at h ⊢
  by_cases h9 : op = 9
  · rw [if_pos h9] at h ⊢; exact b2i_64 _
  rw [if_neg h9] at h ⊢
  by_cases h10 : op = 10
  · rw [if_pos h10] at h ⊢; exact b2i_64 _
  rw [if_neg h10] at h ⊢
  by_cases h11 : op = 11
  · rw [if_pos h11] at h ⊢; exact in_64 h
  rw [if_neg h11] at h ⊢
  exact b2i_64 _
section
variable {base mb : Nat} {co : Option Addr} {cc : Nat} {code : List Mi} {N ib : Nat} {x : Mi} {w w' : World} {L L' : Ly} {m m' : Mc} {t : Nat} {th : Th}
end
end Go.Proofs.Ytpoepbmomfohlaa
namespace Go.Proofs.Ytpoepbmomfohlaa
open Go.RowKit
set_option linter.all false
section
variable {w w' : World} {base mb : Nat} {cv : Value} {L : Ly} {m : Mc}
theorem MR.heap (h : MR w base mb cv L m) {bo : Option Addr} {cp : Nat} (hp0 : HP w base L.hb 4194303 bo cp m.hp) (ho0 : ∀ b, (Value.slice bo m.hp.length cp).ownBlock = some b → L.own b = some (1, 1)) {hp' : List (Int × Int)} {bo' : Option Addr} {cp' : Nat} (hp : HP w' base L.hb 4194303 bo' cp' hp') (hf : ∀ b, (Value.slice bo' hp'.length cp').ownBlock = some b → w.heap.size ≤ b ∨ (Value.slice bo m.hp.length cp).ownBlock = some b) (hk : KX (fun b => b = L.hb) w.heap.size w w') : ∃ L', MR w' base mb cv L' { m with hp := hp' } ∧ Kf L L' w w' := by
  have hohb := h.hp.ob
  obtain ⟨own', k1, k2, k3, k4, k5⟩ : ∃ own', (∀ g, keepG L.own own' g) ∧ (∀ b, own' b ≠ none → base ≤ b ∧ b < w'.heap.size) ∧ (∀ b s, own' b = some (0, s) → b = mb) ∧ (∀ b, b < w.heap.size → L.own b = none → own' b = none) ∧ ∀ b, (Value.slice bo' hp'.length cp').ownBlock = some b → own' b = some (1, 1) := by
    cases hb' : (Value.slice bo' hp'.length cp').ownBlock with
    | none => exact ⟨L.own, fun _ _ _ h => h, fun b hn => ⟨(h.olt b hn).1, Nat.lt_of_lt_of_le (h.olt b hn).2 hk.size⟩, h.o0, fun _ _ h => h, fun b hb => by simp at hb⟩
    | some c =>
      rcases hf c hb' with hc | hc
      · have hfree := h.free hc
        have hcl := hp.row.lt c hb'
        refine ⟨own1 L.own c (1, 1), own1_keep hfree, fun b hn => ?_, fun b s e => ?_, fun b hb hn => ?_, fun b hb => ?_⟩
        · by_cases e : b = c
          · subst e; exact ⟨hcl.1, hcl.2⟩
          · rw [own1_ne e] at hn
            exact ⟨(h.olt b hn).1, Nat.lt_of_lt_of_le (h.olt b hn).2 hk.size⟩
        · by_cases e2 : b = c
          · rw [e2, own1_at] at e; simp at e
          · rw [own1_ne e2] at e; exact h.o0 b s e
        · rw [own1_ne (by omega)]; exact hn
        · obtain rfl : c = b := by simpa using hb
          exact own1_at
      · exact ⟨L.own, fun _ _ _ h => h, fun b hn => ⟨(h.olt b hn).1, Nat.lt_of_lt_of_le (h.olt b hn).2 hk.size⟩, h.o0, fun _ _ h => h, fun b hb => by
          obtain rfl : c = b := by simpa using hb
          exact ho0 c hc⟩
  have hs : ∀ g, g ≠ 1 → sameG L.own g w w' := fun g hg b s e => hk.block b (h.olt b (by rw [e]; simp)).2 (fun e2 => by
    rw [e2, hohb] at e
    simp at e
    omega)
  refine ⟨{ L with own := own' }, ⟨?_, k1 0 mb 0 h.omb, ⟨⟨bo', cp', hp, k5⟩, k1 1 L.hb 0 hohb⟩, h.pg.frame (hs 2 (by decide)) (k1 2), h.th.frame (hs 3 (by decide)) (k1 3), h.ou.frame (hs 4 (by decide)) (k1 4), h.or_.frame (hs 5 (by decide)) (k1 5), h.hbase, k2, k3⟩, ⟨⟨hk.os, hk.tape, hk.output, hk.size, fun b hb hn => hk.block b hb (fun e => hn (by rw [e, hohb]; simp))⟩, k4, rfl⟩⟩
  rw [hk.block mb h.lt (fun e => by
    have := h.omb
    rw [e, hohb] at this
    simp at this)]
  exact h.blk
end
section
variable {base mb : Nat} {co : Option Addr} {cc : Nat} {code : List Mi} {N ib : Nat} {x : Mi} {w w' : World} {L L' : Ly} {m m' : Mc} {t : Nat} {th : Th}
theorem OKM.hp (h : OKM N m) (hp : List (Int × Int)) : OKM N { m with hp := hp } := ⟨h.mem, h.th, h.outs, h.order, h.steps, h.big⟩
end
end Go.Proofs.Ytpoepbmomfohlaa
namespace Go.Proofs.Ytpoepbmomfohlaa
open Go.RowKit
set_option linter.all false
def Mc.ldM (m : Mc) (t : Nat) (x : Mi) : Mc := match m.rd t x.b with
  | (none, m1) => m1
  | (some a, _) => if m.wordB a x.c then (m.wr t x.a (m.mem (a + x.c).toNat)).1 else m.fin 9
def Mc.stM (m : Mc) (t : Nat) (x : Mi) : Mc := match m.rd t x.a with
  | (none, m1) => m1
  | (some a, _) => match m.rd t x.b with
    | (none, m1) => m1
    | (some n, _) => if m.wordB a x.c then { m with mem := upd m.mem (a + x.c).toNat n } else m.fin 9
def Mc.waM (m : Mc) (t : Nat) (x : Mi) : Mc := match m.rd t x.a with
  | (none, m1) => m1
  | (some a, _) => if m.wordB a x.c then m else m.fin 9
def Mc.alM (m : Mc) (t : Nat) (x : Mi) : Mc := match m.rd t x.b with
  | (none, m1) => m1
  | (some n, _) => if n < 1 then m.fin 9 else match halloc 4194303 m.hp n with
    | none => m.fin 7
    | some q => ({ m with hp := q.2 }.wr t x.a q.1).1
def Mc.frM (m : Mc) (t : Nat) (x : Mi) : Mc := match m.rd t x.a with
  | (none, m1) => m1
  | (some a, _) => match hfree m.hp a with
    | none => m.fin 9
    | some hp => { m with hp := hp }
section
variable {base mb : Nat} {co : Option Addr} {cc : Nat} {code : List Mi} {N ib : Nat} {x : Mi} {w w' : World} {L L' : Ly} {m m' : Mc} {t : Nat} {th : Th}
theorem hfit_ge (n : Int) : ∀ (bs : List (Int × Int)) (lo : Int), HOK 4194303 lo bs → lo ≤ (hfit n lo bs).2
  | [], _, _ => Int.le_refl _
  | (a, s) :: r, lo, ⟨h1, h2, h3⟩ => by
    unfold hfit
    split
    · have := hfit_ge n r (a + s) h3
      show lo ≤ (hfit n (a + s) r).2
      omega
    · exact Int.le_refl _
theorem halloc_64 {hp : List (Int × Int)} {n p : Int} {hp' : List (Int × Int)} (hk : HOK 4194303 1 hp) (h : halloc 4194303 hp n = some (p, hp')) : I64 p := by
  unfold halloc at h
  split at h
  · cases h
  · split at h
    · cases h
    · simp at h
      obtain ⟨rfl, -⟩ := h
      have h1 := HOK.put (n := n) (by omega) hk (by omega)
      have h2 := hfit_ge n hp 1 hk
      unfold I64
      omega
end
end Go.Proofs.Ytpoepbmomfohlaa
namespace Go.Proofs.Ytpoepbmomfohlaa
open Go.RowKit
set_option linter.all false
section
variable {w w1 : World} {base mb : Nat} {cv : Value} {L : Ly} {m : Mc}
end
end Go.Proofs.Ytpoepbmomfohlaa
