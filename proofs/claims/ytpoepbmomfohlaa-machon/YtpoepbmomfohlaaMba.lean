/- Rows in memory: what keeps them, append, copies. -/
import Derived.Test.YtpoepbmomfohlaaProg
import Derived.WalkKit
import Derived.WalkLawsBesides
import Derived.WalkSpells
import Derived.Outline
import Derived.Laws.RangeAny
import Derived.Deep.QuietTactic
import Derived.BigQuiet
import Derived.RegionTactic
import Derived.BigRegion
import Derived.Maps.AppendAt
import Derived.Laws.OwnMore
import Derived.Lib.SliceRun
import Derived.Deep.Light
import Derived.Deep.LoopGhost
import Derived.Deep.RegionLaw
import Derived.Deep.RegionWith
import Derived.Deep.RegionHeld3
import Derived.Deep.DeepCutAuto
import Derived.Deep.CutBlock
import Derived.Deep.MidRow
namespace Go.Proofs.Ytpoepbmomfohlaa
open Go.RowKit
set_option linter.all false
theorem ownsRow_same {w w' : World} {base : Nat} {e : TypeId} {size : Nat} {v : Value} {n : Nat} {xs : List Value} (h : w.ownsRow base e size v n xs) (hs : ∀ b, v.ownBlock = some b → b < w.heap.size → w'.heap[b]? = w.heap[b]?) : w'.ownsRow base e size v n xs := by
  obtain ⟨h1, h2⟩ := h
  refine ⟨h1, ?_⟩
  rcases h2 with h2 | ⟨g, cap, cur, hv, hbg, hg, rest⟩
  · exact .inl h2
  · have hlt : g < w.heap.size := (Array.getElem?_eq_some_iff.1 hg).1
    exact .inr ⟨g, cap, cur, hv, hbg, by rw [hs g (by rw [hv]; rfl) hlt]; exact hg, rest⟩
theorem ownsRow_mono {w : World} {base base' : Nat} {e : TypeId} {size : Nat} {v : Value} {n : Nat} {xs : List Value} (h : w.ownsRow base e size v n xs) (hb : base' ≤ base) : w.ownsRow base' e size v n xs := by
  obtain ⟨h1, h2⟩ := h
  refine ⟨h1, ?_⟩
  rcases h2 with h2 | ⟨g, cap, cur, hv, hbg, rest⟩
  · exact .inl h2
  · exact .inr ⟨g, cap, cur, hv, by omega, rest⟩
theorem flat_getS {size : Nat} {us : List (List Value)} (h4 : ∀ x ∈ us, x.length = size) : ∀ {idx : Nat} {x : List Value}, us[idx]? = some x → ∀ o, o < size → us.flatten[idx * size + o]? = x[o]? := by
  induction us with
  | nil => intro idx x h; simp at h
  | cons y r ih =>
    intro idx x h o ho
    have hy := h4 y (List.mem_cons_self ..)
    rw [List.flatten_cons]
    cases idx with
    | zero =>
      obtain rfl : y = x := by simpa using h
      rw [List.getElem?_append_left (by omega)]
      congr 1
      omega
    | succ idx =>
      have e : (idx + 1) * size = idx * size + size := by rw [Nat.add_mul, Nat.one_mul]
      rw [List.getElem?_append_right (by omega), hy]
      have := ih (fun z hz => h4 z (List.mem_cons_of_mem _ hz)) (idx := idx) (x := x) (by simpa using h) o ho
      rw [← this]
      congr 1
      omega
/-- The cells of an element of a row. -/
theorem ownsRow_nth {w : World} {base e size : Nat} {v : Value} {n : Nat} {vs : List (List Value)} (h : w.ownsRow base e size v n vs.flatten) (hn : vs.length = n) (hl : ∀ x ∈ vs, x.length = size) {i : Nat} {x : List Value} (hx : vs[i]? = some x) : ∃ g c, v = .slice (some ⟨g, 0, none⟩) n c ∧ g < w.heap.size ∧ base ≤ g ∧ ∀ o, o < size → w.cell? ⟨g, i * size + o, none⟩ = x[o]? := by
  subst hn
  have hi : i < vs.length := (List.getElem?_eq_some_iff.1 hx).1
  rcases h.2 with ⟨h1, h2⟩ | ⟨g, cap, cur, h1, hb, hg, hnc, hcm, hcs, htake⟩
  · omega
  · refine ⟨g, cap, h1, (Array.getElem?_eq_some_iff.1 hg).1, hb, fun o ho => ?_⟩
    have hlt : i * size + o < vs.length * size := by
      have : (i + 1) * size ≤ vs.length * size := Nat.mul_le_mul_right _ hi
      rw [Nat.add_mul] at this
      omega
    have e2 : (cur.toList.take (vs.length * size))[i * size + o]? = cur[i * size + o]? := by rw [List.getElem?_take, if_pos hlt]; simp
    rw [cell_of_row w g (i * size + o) cur e (0, 0) hg, ← e2, htake, flat_getS hl hx o ho]
/-- All blocks whose cells are of one of some types are as they were. -/
def KT (P : Nat → Prop) (w w' : World) : Prop := ∀ (b : Nat) (c : Array Value) (t : TypeId) (z : Nat × Nat), w.heap[b]? = some (Obj.cells c t z) → P t → w'.heap[b]? = w.heap[b]?
theorem KT.below {P : Nat → Prop} {w w' : World} (h : Below w.heap.size w w') : KT P w w' := fun b _ _ _ hb _ => h.block b (Array.getElem?_eq_some_iff.1 hb).1
theorem KT.trans {P : Nat → Prop} {a b c : World} (h : KT P a b) (h' : KT P b c) : KT P a c := fun x u t z hx hp => (h' x u t z ((h x u t z hx hp).trans hx) hp).trans (h x u t z hx hp)
theorem KT.mono {P P' : Nat → Prop} {w w' : World} (h : KT P w w') (hp : ∀ t, P' t → P t) : KT P' w w' := fun b c t z hb ht => h b c t z hb (hp t ht)
theorem al1 (w : World) (a : Obj) : Below w.heap.size w (w.alloc a) ∧ (w.alloc a).heap[w.heap.size]? = some a := ⟨(Below.refl _ _).alloc (Nat.le_refl _) _, heap_alloc_new _ _⟩
theorem al2 (w : World) (a b : Obj) : Below w.heap.size w ((w.alloc a).alloc b) ∧ ((w.alloc a).alloc b).heap[w.heap.size]? = some a ∧ ((w.alloc a).alloc b).heap[w.heap.size + 1]? = some b := by
  have h := al1 w a
  have e : (w.alloc a).heap.size = w.heap.size + 1 := by simp
  refine ⟨h.1.alloc (by omega) _, (Below.heap_alloc _ _ _ (by omega)).trans h.2, ?_⟩
  rw [← e]
  exact heap_alloc_new _ _
theorem al3 (w : World) (a b c : Obj) : Below w.heap.size w (((w.alloc a).alloc b).alloc c) ∧ (((w.alloc a).alloc b).alloc c).heap[w.heap.size]? = some a ∧ (((w.alloc a).alloc b).alloc c).heap[w.heap.size + 1]? = some b ∧ (((w.alloc a).alloc b).alloc c).heap[w.heap.size + 2]? = some c := by
  have h := al2 w a b
  have e : ((w.alloc a).alloc b).heap.size = w.heap.size + 2 := by simp
  refine ⟨h.1.alloc (by omega) _, (Below.heap_alloc _ _ _ (by omega)).trans h.2.1, (Below.heap_alloc _ _ _ (by omega)).trans h.2.2, ?_⟩
  rw [← e]
  exact heap_alloc_new _ _
/-- What append leaves of a row that is one's own; W: ahead of it. -/
structure App (W : World) (base el size : Nat) (v : Value) (n : Nat) (xs ys : List Value) (k : Nat) (v' : Value) (w' : World) : Prop where
  shape : ∃ ao cp, v' = .slice ao (n + k) cp
  row : w'.ownsRow base el size v' (n + k) (xs ++ ys)
  grown : W.grownBy w' v.ownBlock
  own : v'.ownBlock = v.ownBlock ∨ v'.ownBlock = some W.heap.size
section
variable {W w w' : World} {base el size n k : Nat} {v v' : Value} {xs ys : List Value}
theorem App.below (h : App W base el size v n xs ys k v' w') {B : Nat} (hb : Below B w W) (hW : B ≤ W.heap.size) (hB : ∀ b, v.ownBlock = some b → B ≤ b) : Below B w w' :=
  ⟨h.grown.os.trans hb.os, h.grown.tape.trans hb.tape, h.grown.output.trans hb.output, Nat.le_trans hb.size h.grown.size, fun j hj => (h.grown.block j (by omega) (fun e => by have := hB j e.symm; omega)).trans (hb.block j hj)⟩
end
section
variable {W w w' : World} {base el size n k : Nat} {v v' : Value} {xs ys : List Value}
end
section
variable {sl el size bytes : Nat} {z : Value}
theorem app1 (hu : Try.prog.underlying sl = some (.slice el)) (hi : (Try.prog.info? el).map (fun i => (i.zero, i.size, i.bytes)) = some (some z, size, bytes)) (hz : z.cells.size = size) (hs : 0 < size) {W : World} {base : Nat} {v : Value} {n : Nat} {xs : List Value} (h : W.ownsRow base el size v n xs) (hb : base ≤ W.heap.size) (cs : Array Value) (hc : cs.size = size) (one : ∀ u ∈ cs.toList, u.oneCell' = true) (hm : n + 1 ≤ maxLen) (hn : (n + 1) * bytes ≤ 140737488355328) (ty : TypeId) {ad : Nat} (had : ad = W.heap.size) :
    ∃ v' w', (Builtin.append_ #[sl, sl] ty #[v, .slice (some ⟨ad, 0, none⟩) 1 1]).run Try.prog (W.alloc (.cells cs el)) = .ok v' w' ∧ App (W.alloc (.cells cs el)) base el size v n xs cs.toList 1 v' w' := by
  subst had
  obtain ⟨i0, hi0, hz0, hz1, hz2⟩ := info_parts hi
  have h' : (W.alloc (.cells cs el)).ownsRow base el size v n xs := ownsRow_same h (fun b _ hl => Below.heap_alloc _ _ _ hl)
  have hcell : ∀ j u, cs.toList[j]? = some u → (W.alloc (.cells cs el)).cell? ((⟨W.heap.size, 0, none⟩ : Addr).add j) = some u := by
    intro j u hj
    have hadd : (⟨W.heap.size, 0, none⟩ : Addr).add j = ⟨W.heap.size, j, none⟩ := by unfold Addr.add; split <;> simp_all
    rw [hadd, cell_of_row _ W.heap.size j cs el (0, 0) (heap_alloc_new W _)]
    simpa using hj
  obtain ⟨v', w', hr, h2, h3, _, h5⟩ := run_append_own_at (P := Try.prog) (W.alloc (.cells cs el)) base sl ty el i0 z size bytes hu hi0 hz0 hz1 hz2 hz hs v n xs h' ⟨W.heap.size, 0, none⟩ 1 1 cs.toList (by simp [hc]) hcell one hm hn (by simp; omega)
  refine ⟨v', w', hr, ⟨?_, h2, h3, h5⟩⟩
  rcases h2.2 with ⟨x1, x2⟩ | ⟨x, y, zz, x1, _⟩
  · omega
  · exact ⟨_, _, x1⟩
end
section
variable {sl el size bytes : Nat} {z : Value}
end
section
variable {sl el size bytes : Nat} {z : Value}
theorem wp_runG {W : World} {ops : Array Oper} {rest : List Oper} {o : Oper} {a : Act} {Q : Exit → Act → World → Prop} (sl : Nat) (hgd : o.guard = none) {s x : Operand} (ho : o.op = .call { callee := .builtin .append, args := #[s, x], argTypes := #[sl, sl] }) {v xv : Value} (hs : a.eval s = v) (hx : a.eval x = xv) {R : Value → World → Prop}
    (hr : ∃ v' w', (Builtin.append_ #[sl, sl] o.type #[v, xv]).run Try.prog W = .ok v' w' ∧ R v' w') (h : ∀ v' w', R v' w' → wpList Try.prog ops Q rest (a.put o.dst v') w') : wpList Try.prog ops Q (o :: rest) a W := by
  refine wpList_plain hgd fun K hK => ?_
  obtain ⟨v', w', hr, h2⟩ := hr
  unfold Oper.wp execOp
  simp only [ho, resolve, invoke, builtin, Sem.run_bind, Sem.run_pure, Result.andThen_ok, List.map_toArray, List.map_cons, List.map_nil, hs, hx, hr]
  exact hK _ _ (h v' w' h2)
end
section
variable {sl el size bytes : Nat} {z : Value}
theorem step_runG {W : World} {ops : Array Oper} {o : Oper} {a : Act} {K : Act → World → Prop} {Q : Exit → Act → World → Prop} {E : Prop} (sl : Nat) (hgd : o.guard = none) {s x : Operand} (ho : o.op = .call { callee := .builtin .append, args := #[s, x], argTypes := #[sl, sl] }) {v xv : Value} (hs : a.eval s = v) (hx : a.eval x = xv) {R : Value → World → Prop}
    (hr : ∃ v' w', (Builtin.append_ #[sl, sl] o.type #[v, xv]).run Try.prog W = .ok v' w' ∧ R v' w') (h : ∀ v' w', R v' w' → K (a.put o.dst v') w') : if Region.wanted o (yielded ops a.tmps) = true then Oper.wp Try.prog o a W K Q else E := by
  have hw : Region.wanted o (yielded ops a.tmps) = true := by simp [Region.wanted, hgd]
  rw [if_pos hw]
  obtain ⟨v', w', hr, h2⟩ := hr
  unfold Oper.wp execOp
  simp only [ho, resolve, invoke, builtin, Sem.run_bind, Sem.run_pure, Result.andThen_ok, List.map_toArray, List.map_cons, List.map_nil, hs, hx, hr]
  exact h v' w' h2
end
theorem own_heap {w : World} {base e size : Nat} {v : Value} {n : Nat} {xs : List Value} (h : w.ownsRow base e size v n xs) {b : Nat} (hb : v.ownBlock = some b) : ∃ c, w.heap[b]? = some (.cells c e (0, 0)) := by
  rcases h.2 with ⟨x1, _⟩ | ⟨g, cap, cur, x1, _, x3, _⟩
  · rw [x1] at hb; simp [Value.ownBlock] at hb
  · rw [x1] at hb
    obtain rfl : g = b := by simpa [Value.ownBlock] using hb
    exact ⟨cur, x3⟩
theorem tag_ne {w : World} {b b' : Nat} {c c' : Array Value} {t t' : TypeId} {z z' : Nat × Nat} (h : w.heap[b]? = some (.cells c t z)) (h' : w.heap[b']? = some (.cells c' t' z')) (ht : t ≠ t') : b ≠ b' := by
  rintro rfl
  rw [h] at h'
  have := Option.some.inj h'
  injection this with _ h3
  exact ht h3
theorem heap_kt' {P : Nat → Prop} {w w' : World} (hk : KT P w w') {b : Nat} {c : Array Value} {t : TypeId} {z : Nat × Nat} (h : w.heap[b]? = some (.cells c t z)) (ht : P t) : w'.heap[b]? = some (.cells c t z) := (hk b c t z h ht).trans h
theorem KT.set {w : World} {b : Nat} {c : Array Value} {t : TypeId} {z : Nat × Nat} (h : w.heap[b]? = some (.cells c t z)) (o : Nat) (u : Value) : KT (fun x => x ≠ t) w (w.setCell ⟨b, o, none⟩ u) := fun b' c' t' z' hb' ht => Below.heap_setCell _ ⟨b, o, none⟩ _ _ (tag_ne hb' h ht)
/-- All blocks below B but those of X are as they were. -/
structure KX (X : Nat → Prop) (B : Nat) (w w' : World) : Prop where
  os : w'.os = w.os
  tape : w'.tape = w.tape
  output : w'.output = w.output
  size : w.heap.size ≤ w'.heap.size
  block : ∀ k, k < B → ¬ X k → w'.heap[k]? = w.heap[k]?
section
variable {X X' : Nat → Prop} {B B' : Nat} {a w w' : World}
theorem KX.refl (X : Nat → Prop) (B : Nat) (w : World) : KX X B w w := ⟨rfl, rfl, rfl, Nat.le_refl _, fun _ _ _ => rfl⟩
end
section
variable {X X' : Nat → Prop} {B B' : Nat} {a w w' : World}
theorem KX.trans (h : KX X B a w) (k : KX X B w w') : KX X B a w' := ⟨k.os.trans h.os, k.tape.trans h.tape, k.output.trans h.output, Nat.le_trans h.size k.size, fun i hi hn => (k.block i hi hn).trans (h.block i hi hn)⟩
end
section
variable {X X' : Nat → Prop} {B B' : Nat} {a w w' : World}
theorem KX.mono (h : KX X B w w') (hX : ∀ k, k < B' → X k → X' k) (hB : B' ≤ B) : KX X' B' w w' := ⟨h.os, h.tape, h.output, h.size, fun k hk hn => h.block k (Nat.lt_of_lt_of_le hk hB) (fun hx => hn (hX k hk hx))⟩
end
section
variable {X X' : Nat → Prop} {B B' : Nat} {a w w' : World}
theorem KX.of_below (h : Below B w w') : KX X B w w' := ⟨h.os, h.tape, h.output, h.size, fun k hk _ => h.block k hk⟩
end
section
variable {X X' : Nat → Prop} {B B' : Nat} {a w w' : World}
theorem KX.drew (h : KX X B a w) : KX X B a w.drew := ⟨h.os, h.tape, h.output, h.size, h.block⟩
end
section
variable {X X' : Nat → Prop} {B B' : Nat} {a w w' : World}
theorem KX.setCell (h : KX X B a w) {p : Addr} (hp : B ≤ p.block ∨ X p.block) (u : Value) : KX X B a (w.setCell p u) :=
  ⟨h.os, h.tape, h.output, by simpa using h.size, fun k hk hn => (Below.heap_setCell _ _ _ _ (fun e => by rcases hp with hp | hp; omega; exact hn (e ▸ hp))).trans (h.block k hk hn)⟩
end
section
variable {X X' : Nat → Prop} {B B' : Nat} {a w w' : World}
theorem KX.grown {row : Option Nat} (h : KX X B a w) (hg : w.grownBy w' row) (hB : B ≤ w.heap.size) (hr : ∀ k, row = some k → B ≤ k ∨ X k) : KX X B a w' :=
  ⟨hg.os.trans h.os, hg.tape.trans h.tape, hg.output.trans h.output, Nat.le_trans h.size hg.size, fun k hk hn => (hg.block k (by omega) (fun e => by rcases hr k e.symm with hh | hh; omega; exact hn hh)).trans (h.block k hk hn)⟩
end
section
variable {X X' : Nat → Prop} {B B' : Nat} {a w w' : World}
theorem KX.cell (h : KX X B w w') {p : Addr} (hp : p.block < B) (hn : ¬ X p.block) : w'.cell? p = w.cell? p := World.cell?_of_block (w := w) (h.block p.block hp hn)
end
theorem ownsRow_put {w : World} {base e size : Nat} {v : Value} {n : Nat} {xs : List Value} (h : w.ownsRow base e size v n xs) {g : Nat} (hv : v.ownBlock = some g) (j : Nat) (u : Value) : (w.setCell ⟨g, j, none⟩ u).ownsRow base e size v n (xs.set j u) := by
  refine ⟨by rw [List.length_set]; exact h.1, ?_⟩
  rcases h.2 with ⟨x1, x2⟩ | ⟨g', cap, cur, h1, hb, hg, hnc, hcm, hcs, htake⟩
  · rw [x1] at hv
    simp [Value.ownBlock] at hv
  · rw [h1] at hv
    obtain rfl : g' = g := by simpa [Value.ownBlock] using hv
    refine .inr ⟨g', cap, cur.setIfInBounds j u, h1, hb, heap_setCell_same w g' j cur e u hg, hnc, hcm, by rw [Array.size_setIfInBounds]; exact hcs, ?_⟩
    rw [Array.toList_setIfInBounds, List.take_set, htake]
theorem flat_set {size : Nat} : ∀ {us : List (List Value)}, (∀ x ∈ us, x.length = size) → ∀ {i : Nat} {x : List Value}, us[i]? = some x → ∀ {o : Nat}, o < size → ∀ u, us.flatten.set (i * size + o) u = (us.set i (x.set o u)).flatten := by
  intro us
  induction us with
  | nil => intro _ i x h; simp at h
  | cons y r ih =>
    intro hl i x h o ho u
    have hy := hl y (by simp)
    cases i with
    | zero =>
      obtain rfl : y = x := by simpa using h
      rw [Nat.zero_mul, Nat.zero_add, List.flatten_cons, List.set_cons_zero, List.flatten_cons, List.set_append_left _ _ (by omega)]
    | succ i =>
      have e : (i + 1) * size + o = size + (i * size + o) := by rw [Nat.add_mul, Nat.one_mul]; omega
      rw [e, List.flatten_cons, List.set_cons_succ, List.flatten_cons, List.set_append_right _ _ (by omega), hy, Nat.add_sub_cancel_left, ih (fun z hz => hl z (List.mem_cons_of_mem _ hz)) (by simpa using h) ho]
def setMany (cur : Array Value) : Nat → List Value → Array Value
  | _, [] => cur
  | o, v :: r => setMany (cur.setIfInBounds o v) (o + 1) r
theorem heap_setCells {b : Nat} {t : TypeId} : ∀ (vs : List Value) (o : Nat) (w : World) (cur : Array Value), w.heap[b]? = some (.cells cur t (0, 0)) → (w.setCells b o vs).heap[b]? = some (.cells (setMany cur o vs) t (0, 0))
  | [], _, _, _, h => h
  | v :: r, o, w, cur, h => heap_setCells r (o + 1) _ _ (heap_setCell_same w b o cur t v h)
theorem setMany_toList : ∀ (vs : List Value) (o : Nat) (cur : Array Value), o + vs.length ≤ cur.size → (setMany cur o vs).toList = cur.toList.take o ++ vs ++ cur.toList.drop (o + vs.length)
  | [], o, cur, _ => by simp [setMany]
  | v :: r, o, cur, h => by
    have hl : o < cur.toList.length := by simp at h ⊢; omega
    have h1 : (cur.toList.set o v).take (o + 1) = cur.toList.take o ++ [v] := by
      rw [List.take_add_one, List.getElem?_set_self hl, List.take_set_of_le (Nat.le_refl _)]
      rfl
    have h2 : (cur.toList.set o v).drop (o + 1 + r.length) = cur.toList.drop (o + 1 + r.length) := by
      rw [List.drop_set_of_lt (by omega)]
    rw [setMany, setMany_toList r (o + 1) _ (by simp at h ⊢; omega), Array.toList_setIfInBounds, h1, h2, List.length_cons, show o + (r.length + 1) = o + 1 + r.length from by omega]
    simp
theorem setMany_all {z cs : Array Value} (h : cs.size = z.size) : setMany z 0 cs.toList = cs := by
  have h1 := setMany_toList cs.toList 0 z (by simp [h])
  have h2 : z.toList.drop (0 + cs.toList.length) = [] := by
    apply List.drop_eq_nil_of_le
    simp [h]
  rw [h2] at h1
  simp at h1
  exact h1
end Go.Proofs.Ytpoepbmomfohlaa
namespace Go.Proofs.Ytpoepbmomfohlaa
open Go.RowKit
set_option linter.all false
/-- Blocks from a place on, up to the heap's end: none has less than one word, each lies behind the one ahead of it. -/
def HOK (size : Int) : Int → List (Int × Int) → Prop
  | lo, [] => lo ≤ size + 1
  | lo, (a, s) :: r => lo ≤ a ∧ 1 ≤ s ∧ HOK size (a + s) r
/-- Where a block of n words goes: behind how many blocks, at which place. -/
def hfit (n : Int) : Int → List (Int × Int) → Nat × Int
  | lo, [] => (0, lo)
  | lo, (a, s) :: r => if a - lo < n then ((hfit n (a + s) r).1 + 1, (hfit n (a + s) r).2) else (0, lo)
def halloc (size : Int) (bs : List (Int × Int)) (n : Int) : Option (Int × List (Int × Int)) :=
  if n < 1 ∨ size < n then none else if size - n + 1 < (hfit n 1 bs).2 then none else some ((hfit n 1 bs).2, bs.take (hfit n 1 bs).1 ++ ((hfit n 1 bs).2, n) :: bs.drop (hfit n 1 bs).1)
def hin (at_ : Int) (x : Int × Int) : Prop := x.1 ≤ at_ ∧ at_ < x.1 + x.2
/-- The block that begins at a place, taken away. -/
def hfree (bs : List (Int × Int)) (at_ : Int) : Option (List (Int × Int)) :=
  match bs with
  | [] => none
  | (a, s) :: r => if a = at_ then some r else (hfree r at_).map ((a, s) :: ·)
theorem HOK.mono {size : Int} : ∀ {bs : List (Int × Int)} {lo lo' : Int}, HOK size lo bs → lo' ≤ lo → HOK size lo' bs
  | [], _, _, h, hl => Int.le_trans hl h
  | (_, _) :: _, _, _, ⟨h1, h2, h3⟩, hl => ⟨Int.le_trans hl h1, h2, h3⟩
theorem HOK.end_ {size : Int} : ∀ {bs : List (Int × Int)} {lo : Int}, HOK size lo bs → lo ≤ size + 1
  | [], _, h => h
  | (a, s) :: r, lo, ⟨h1, h2, h3⟩ => by have := HOK.end_ h3; omega
theorem HOK.len {size : Int} : ∀ {bs : List (Int × Int)} {lo : Int}, HOK size lo bs → (bs.length : Int) ≤ size + 1 - lo
  | [], lo, h => by have : lo ≤ size + 1 := h; simp; omega
  | (a, s) :: r, lo, ⟨h1, h2, h3⟩ => by have := HOK.len h3; simp only [List.length_cons]; omega
/-- What is said of a block by its number. -/
theorem HOK.at {size : Int} : ∀ {bs : List (Int × Int)} {lo : Int}, HOK size lo bs → ∀ {i : Nat} {a s : Int}, bs[i]? = some (a, s) → lo ≤ a ∧ 1 ≤ s ∧ a + s ≤ size + 1
  | [], _, _, i, _, _, h => by simp at h
  | (a, s) :: r, lo, ⟨h1, h2, h3⟩, 0, a', s', h => by
    simp at h
    obtain ⟨rfl, rfl⟩ := h
    exact ⟨h1, h2, HOK.end_ h3⟩
  | (a, s) :: r, lo, ⟨h1, h2, h3⟩, i + 1, a', s', h => by
    have := HOK.at h3 (i := i) (by simpa using h)
    exact ⟨by omega, this.2⟩
theorem HOK.lt {size : Int} : ∀ {bs : List (Int × Int)} {lo : Int}, HOK size lo bs → ∀ {i j : Nat} {a s a' s' : Int}, i < j → bs[i]? = some (a, s) → bs[j]? = some (a', s') → a + s ≤ a'
  | [], _, _, i, _, _, _, _, _, _, h, _ => by simp at h
  | (x, y) :: r, lo, ⟨h1, h2, h3⟩, 0, j + 1, a, s, a', s', _, h, h' => by
    simp at h
    obtain ⟨rfl, rfl⟩ := h
    exact (HOK.at h3 (i := j) (by simpa using h')).1
  | (x, y) :: r, lo, ⟨h1, h2, h3⟩, i + 1, j + 1, a, s, a', s', hl, h, h' => HOK.lt h3 (i := i) (j := j) (by omega) (by simpa using h) (by simpa using h')
theorem HOK.put {size n : Int} (hn : 1 ≤ n) : ∀ {bs : List (Int × Int)} {lo : Int}, HOK size lo bs → (hfit n lo bs).2 ≤ size - n + 1 → HOK size lo (bs.take (hfit n lo bs).1 ++ ((hfit n lo bs).2, n) :: bs.drop (hfit n lo bs).1)
  | [], lo, h, hp => by
    have hp' : lo ≤ size - n + 1 := hp
    exact ⟨Int.le_refl _, hn, show lo + n ≤ size + 1 by omega⟩
  | (a, s) :: r, lo, ⟨h1, h2, h3⟩, hp => by
    unfold hfit at hp ⊢
    split
    · rename_i hc
      rw [if_pos hc] at hp
      exact ⟨h1, h2, HOK.put hn h3 hp⟩
    · rename_i hc
      exact ⟨Int.le_refl _, hn, ⟨by simp; omega, h2, h3⟩⟩
theorem HOK.free {size : Int} : ∀ {bs : List (Int × Int)} {lo at_ : Int} {bs' : List (Int × Int)}, HOK size lo bs → hfree bs at_ = some bs' → HOK size lo bs'
  | [], _, _, _, _, h => by simp [hfree] at h
  | (a, s) :: r, lo, at_, bs', ⟨h1, h2, h3⟩, h => by
    unfold hfree at h
    split at h
    · obtain rfl := Option.some.inj h
      exact h3.mono (by omega)
    · cases hr : hfree r at_ with
      | none => rw [hr] at h; simp at h
      | some r' =>
        rw [hr] at h
        obtain rfl := Option.some.inj h
        exact ⟨h1, h2, HOK.free h3 hr⟩
theorem hfree_at {size : Int} : ∀ {bs : List (Int × Int)} {lo : Int}, HOK size lo bs → ∀ {k : Nat} {a s : Int}, bs[k]? = some (a, s) → hfree bs a = some (bs.take k ++ bs.drop (k + 1))
  | [], _, _, k, _, _, h => by simp at h
  | (x, y) :: r, lo, _, 0, a, s, h => by
    simp at h
    obtain ⟨rfl, rfl⟩ := h
    simp [hfree]
  | (x, y) :: r, lo, h0, k + 1, a, s, h => by
    have hr : r[k]? = some (a, s) := by simpa using h
    have := HOK.lt h0 (i := 0) (j := k + 1) (by omega) rfl h
    have h2 := h0.2.1
    unfold hfree
    rw [if_neg (by omega), hfree_at h0.2.2 hr]
    rfl
theorem hfree_none : ∀ {bs : List (Int × Int)} {at_ : Int}, (∀ x ∈ bs, x.1 ≠ at_) → hfree bs at_ = none
  | [], _, _ => rfl
  | (a, s) :: r, at_, h => by
    unfold hfree
    rw [if_neg (h (a, s) (by simp)), hfree_none (fun x hx => h x (by simp [hx]))]
    rfl
end Go.Proofs.Ytpoepbmomfohlaa
namespace Go.Proofs.Ytpoepbmomfohlaa
open Go.RowKit
set_option linter.all false
def bkC (x : Int × Int) : List Value := [.int .i64 x.1, .int .i64 x.2]
/-- The document's heap in memory. -/
structure HP (w : World) (base hb : Nat) (size : Int) (bo : Option Addr) (cp : Nat) (bs : List (Int × Int)) : Prop where
  blk : w.heap[hb]? = some (.cells #[.int .i64 size, .slice bo bs.length cp] 68 (0, 0))
  row : w.ownsRow base 105 2 (.slice bo bs.length cp) bs.length (bs.map bkC).flatten
  hb : base ≤ hb
  ok : HOK size 1 bs
  sz : size ≤ 4611686018427387904
theorem bkC_len {bs : List (Int × Int)} : ∀ x ∈ bs.map bkC, x.length = 2 := fun x hx => by
  obtain ⟨y, _, rfl⟩ := List.mem_map.1 hx
  rfl
theorem HP.below {w w' : World} {base hb : Nat} {size : Int} {bo : Option Addr} {cp : Nat} {bs : List (Int × Int)} (h : HP w base hb size bo cp bs) (k : Below w.heap.size w w') : HP w' base hb size bo cp bs :=
  ⟨(k.block _ (Array.getElem?_eq_some_iff.1 h.blk).1).trans h.blk, ownsRow_same h.row (fun b _ hl => k.block b hl), h.hb, h.ok, h.sz⟩
theorem HP.nth {w : World} {base hb : Nat} {size : Int} {bo : Option Addr} {cp : Nat} {bs : List (Int × Int)} (h : HP w base hb size bo cp bs) {i : Nat} {a s : Int} (hx : bs[i]? = some (a, s)) : ∃ g, bo = some ⟨g, 0, none⟩ ∧ g < w.heap.size ∧ w.cell? ⟨g, i * 2, none⟩ = some (.int .i64 a) ∧ w.cell? ⟨g, i * 2 + 1, none⟩ = some (.int .i64 s) := by
  obtain ⟨g, c, e, hl, _, hc⟩ := ownsRow_nth h.row (by simp) bkC_len (i := i) (x := bkC (a, s)) (by rw [List.getElem?_map, hx]; rfl)
  simp at e
  exact ⟨g, e.1, hl, hc 0 (by decide), hc 1 (by decide)⟩
theorem HP.drewN {w : World} {base hb : Nat} {size : Int} {bo : Option Addr} {cp : Nat} {bs : List (Int × Int)} (h : HP w base hb size bo cp bs) (m : Nat) : HP (w.drewN m) base hb size bo cp bs := ⟨h.blk, h.row, h.hb, h.ok, h.sz⟩
/-- In which block a word is; -1: in none. -/
def hfindI (bs : List (Int × Int)) (at_ : Int) : Int :=
  match bs.findIdx? (fun x => decide (x.1 ≤ at_ ∧ at_ < x.1 + x.2)) with
  | some k => k
  | none => -1
def I64 (x : Int) : Prop := -9223372036854775808 ≤ x ∧ x ≤ 9223372036854775807
/-- What a call gives that only reads. -/
def Gives (w : World) (v : Value) (e : Ending) (w' : World) : Prop := e = .returned v ∧ ∃ m, w' = w.drewN m
end Go.Proofs.Ytpoepbmomfohlaa
namespace Go.Proofs.Ytpoepbmomfohlaa
open Go.RowKit
set_option linter.all false
theorem KX.drewN {X : Nat → Prop} {B : Nat} {a w : World} (h : KX X B a w) (m : Nat) : KX X B a (w.drewN m) := ⟨h.os, h.tape, h.output, h.size, h.block⟩
end Go.Proofs.Ytpoepbmomfohlaa
