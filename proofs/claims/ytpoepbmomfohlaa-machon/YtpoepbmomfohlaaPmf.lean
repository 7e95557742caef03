/- The project's machine: what holds between its calls. -/
import Derived.Test.YtpoepbmomfohlaaMdg
namespace Go.Proofs.Ytpoepbmomfohlaa
open Go.RowKit
set_option linter.all false
/-- What stays as it is in a run. -/
structure Ct where
  w0 : World
  base : Nat
  mb : Nat
  hb : Nat
  co : Option Addr
  cc : Nat
  code : List Mi
/-- Picks that are left. -/
structure PK (w : World) (base : Nat) (pv : Value) (ps : List Int) : Prop where
  ex : ∃ o c, pv = .slice o ps.length c ∧ ps.length ≤ c ∧ c ≤ 9223372036854775807 ∧ ∀ (i : Nat) (x : Int), ps[i]? = some x → I64 x ∧ ∃ b f, o = some ⟨b, f, none⟩ ∧ b < base ∧ w.cell? ⟨b, f + i, none⟩ = some (.int .i64 x)
/-- The machine between two calls. -/
structure PS (C : Ct) (N : Nat) (K : Nat → Obj → Prop) (w : World) (ps : List Int) (tb : List Nat) (m : Mc) : Prop where
  pr : ∃ pv own L, PR w C.base C.mb C.hb (.slice C.co C.code.length C.cc) pv C.code K own L tb m ∧ PK w C.base pv ps
  cd : CD w C.base C.co C.code
  ok : OKM N m
  c64 : ∀ x ∈ C.code, x.ok
  bl : Below C.base C.w0 w
section
variable {C : Ct} {N N' : Nat} {K : Nat → Obj → Prop} {w w' : World} {ps : List Int} {tb tb' : List Nat} {m m' : Mc} {t b : Nat} {th th' : Th} {own own' : Nat → Option (Nat × Nat)} {G : Nat → Prop} {L L' : Pl} {pv : Value}
theorem PK.below {base : Nat} (h : PK w base pv ps) (k : Below base w w') : PK w' base pv ps := by
  obtain ⟨o, c, e, h1, h2, h3⟩ := h.ex
  refine ⟨o, c, e, h1, h2, fun i x hx => ?_⟩
  obtain ⟨hi, b, f, e1, hb, hc⟩ := h3 i x hx
  exact ⟨hi, b, f, e1, hb, (k.cell (p := ⟨b, f + i, none⟩) hb).trans hc⟩
theorem PS.next (h : PS C N K w ps tb m) (hp : PR w C.base C.mb C.hb (.slice C.co C.code.length C.cc) pv C.code K own L tb m) (hk : PK w C.base pv ps) (k : CG own own' G C.base w w') (hp' : PR w' C.base C.mb C.hb (.slice C.co C.code.length C.cc) pv C.code K own' L' tb' m') (ho : OKM N' m') : PS C N' K w' ps tb' m' :=
  have kb := k.bel hp.ow
  ⟨⟨pv, own', L', hp', hk.below kb⟩, h.cd.below kb, ho, h.c64, h.bl.trans kb⟩
theorem PS.below (h : PS C N K w ps tb m) (hb : Below w.heap.size w w') : PS C N K w' ps tb m := by
  obtain ⟨pv, own, L, hp, hk⟩ := h.pr
  have k : CG own own (fun _ => False) C.base w w' := CG.below hp.ow hb
  exact h.next hp hk k (hp.cg k) h.ok
theorem PS.drewN (h : PS C N K w ps tb m) (k : Nat) : PS C N K (w.drewN k) ps tb m := h.below ⟨rfl, rfl, rfl, Nat.le_refl _, fun _ _ => rfl⟩
theorem PS.drew (h : PS C N K w ps tb m) : PS C N K w.drew ps tb m := h.drewN 1
theorem PR.how {base mb hb : Nat} {cv : Value} {code : List Mi} (h : PR w base mb hb cv pv code K own L tb m) (k j : Int) : PR w base mb hb cv pv code K own L tb { m with how := k, left := j } := ⟨h.ow, h.blk, h.omb, h.hm, h.wd, h.tr, h.otr, h.tl, h.th, h.few, h.ou, h.or_, h.hz, h.kk⟩
theorem PS.how (h : PS C N K w ps tb m) (k j : Int) : PS C N K w ps tb { m with how := k, left := j } := by
  obtain ⟨pv, own, L, hp, hk⟩ := h.pr
  exact ⟨⟨pv, own, L, hp.how k j, hk⟩, h.cd, ⟨h.ok.mem, h.ok.th, h.ok.outs, h.ok.order, h.ok.steps, h.ok.big⟩, h.c64, h.bl⟩
theorem PS.fin (h : PS C N K w ps tb m) (k : Int) : PS C N K w ps tb (m.fin k) := by
  unfold Mc.fin
  split
  · exact h.how k m.left
  · exact h
theorem PS.few (h : PS C N K w ps tb m) : m.ths.length ≤ 12 := by
  obtain ⟨pv, own, L, hp, hk⟩ := h.pr
  exact hp.few
theorem PS.tl (h : PS C N K w ps tb m) : tb.length = m.ths.length := by
  obtain ⟨pv, own, L, hp, hk⟩ := h.pr
  exact hp.tl
theorem PS.size (h : PS C N K w ps tb m) : C.mb < w.heap.size := by
  obtain ⟨pv, own, L, hp, hk⟩ := h.pr
  exact hp.lt
/-- The machine's cells. -/
theorem PS.mch (h : PS C N K w ps tb m) : w.cell? ⟨C.mb, 0, none⟩ = some (.slice C.co C.code.length C.cc) ∧ w.cell? ⟨C.mb, 2, none⟩ = some (ptr C.hb) ∧ w.cell? ⟨C.mb, 5, none⟩ = some (.bool m.failed) ∧ w.cell? ⟨C.mb, 6, none⟩ = some (.int .i64 m.value) ∧ w.cell? ⟨C.mb, 7, none⟩ = some (.int .i64 m.steps) ∧ C.mb < w.heap.size ∧ ∀ o, w.frozen? ⟨C.mb, o, none⟩ = false := by
  obtain ⟨pv, own, L, hp, hk⟩ := h.pr
  have c := fun o => cell_of_row w _ o _ 41 (0, 0) hp.blk
  exact ⟨c 0, c 2, c 5, c 6, c 7, hp.lt, fun o => frozen_of_row w _ o _ 41 hp.blk⟩
/-- A thread's cells. -/
theorem PS.thr (h : PS C N K w ps tb m) (ht : m.ths[t]? = some th) (hb : tb[t]? = some b) : ∃ at_ : Int, (th.abo = false → at_ = th.pc) ∧ w.cell? ⟨b, 0, none⟩ = some (ptr C.mb) ∧ w.cell? ⟨b, 1, none⟩ = some (.int .i64 t) ∧ w.cell? ⟨b, 3, none⟩ = some (.int .i64 (th.frame - stk t)) ∧ w.cell? ⟨b, 5, none⟩ = some (.int .i64 at_) ∧ w.cell? ⟨b, 6, none⟩ = some (.bool th.unw) ∧ w.cell? ⟨b, 7, none⟩ = some (.bool th.abo) ∧ w.cell? ⟨b, 8, none⟩ = some (.bool th.over) ∧ b < w.heap.size ∧ (∀ o, w.frozen? ⟨b, o, none⟩ = false) ∧ 0 ≤ th.frame - stk t ∧ th.frame - stk t < 4194304 := by
  obtain ⟨pv, own, L, hp, hk⟩ := h.pr
  obtain ⟨l, T⟩ := hp.th t b th ht hb
  have c := fun o => cell_of_row w _ o _ 50 (0, 0) T.blk
  obtain ⟨f1, f2⟩ := T.fr
  unfold stk at f1 f2 ⊢
  exact ⟨l.at_, T.at_, c 0, c 1, c 3, c 5, c 6, c 7, c 8, (Array.getElem?_eq_some_iff.1 T.blk).1, fun o => frozen_of_row w _ o _ 50 T.blk, by omega, by omega⟩
/-- The row of threads. -/
theorem PS.row (h : PS C N K w ps tb m) : ∃ o c, w.cell? ⟨C.mb, 4, none⟩ = some (.slice o m.ths.length c) ∧ ∀ (t b : Nat), tb[t]? = some b → ∃ q, o = some ⟨q, 0, none⟩ ∧ q < w.heap.size ∧ w.cell? ⟨q, t, none⟩ = some (ptr b) := by
  obtain ⟨pv, own, L, hp, hk⟩ := h.pr
  refine ⟨L.to_, L.tc, cell_of_row w _ 4 _ 41 (0, 0) hp.blk, fun t b hb => ?_⟩
  have hl := (List.getElem?_eq_some_iff.1 hb).1
  have htl := hp.tl
  rcases hp.tr.2 with ⟨h1, h2⟩ | ⟨q, cap, cur, h1, hb', hg, hnc, hcm, hcs, htake⟩
  · omega
  · simp at h1
    refine ⟨q, h1.1, (Array.getElem?_eq_some_iff.1 hg).1, ?_⟩
    rw [cell_of_row w q t cur 44 (0, 0) hg]
    have e : (cur.toList.take (m.ths.length * 1))[t]? = some (ptr b) := by rw [htake, List.getElem?_map, hb]; rfl
    rw [List.getElem?_take, if_pos (by omega)] at e
    simpa using e
/-- A word of a thread's stack; of the heap. -/
theorem PS.getT (h : PS C N K w ps tb m) (ht : m.ths[t]? = some th) (hb : tb[t]? = some b) (a : Nat) (ha : a < 4194304) : Calls Try.prog 34 #[.pointer (some ⟨b, 2, none⟩), .int .i64 a] w (Gives w (.int .i64 (m.mem ((t + 1) * 4194304 + a)))) := by
  obtain ⟨pv, own, L, hp, hk⟩ := h.pr
  obtain ⟨l, T⟩ := hp.th t b th ht hb
  exact get61 T.pg (cell_of_row w _ 2 _ 50 (0, 0) T.blk) (Array.getElem?_eq_some_iff.1 T.blk).1 a ha
theorem PS.getH (h : PS C N K w ps tb m) (a : Nat) (ha : a < 4194304) : Calls Try.prog 34 #[.pointer (some ⟨C.mb, 3, none⟩), .int .i64 a] w (Gives w (.int .i64 (m.mem a))) := by
  obtain ⟨pv, own, L, hp, hk⟩ := h.pr
  exact get61 hp.wd (cell_of_row w _ 3 _ 41 (0, 0) hp.blk) hp.lt a ha
/-- What a call leaves. -/
def PP (C : Ct) (N : Nat) (K : Nat → Obj → Prop) (ps : List Int) (tb : List Nat) (v : Value) (m : Mc) (e : Ending) (w' : World) : Prop := e = .returned v ∧ PS C N K w' ps tb m
theorem memT_upd {mem : Nat → Int} {a : Nat} {n : Int} : memT (upd mem ((t + 1) * 4194304 + a) n) t = upd (memT mem t) a n := by
  funext x
  unfold memT upd
  by_cases e : x = a
  · rw [if_pos e, if_pos (by rw [e])]
  · rw [if_neg e, if_neg (fun h => e (Nat.add_left_cancel h))]
theorem ths_same (ht : m.ths[t]? = some th) : m.ths.set t th = m.ths := by
  obtain ⟨h1, h2⟩ := List.getElem?_eq_some_iff.1 ht
  rw [← h2, List.set_getElem_self]
/-- A word of a thread's stack is written. -/
theorem PS.setT (h : PS C N K w ps tb m) (ht : m.ths[t]? = some th) (hb : tb[t]? = some b) (a : Nat) (ha : a < 4194304) {n : Int} (hn : I64 n) : Calls Try.prog 17 #[.pointer (some ⟨b, 2, none⟩), .int .i64 a, .int .i64 n] w (PP C N K ps tb (.tuple #[]) { m with mem := upd m.mem ((t + 1) * 4194304 + a) n }) := by
  obtain ⟨pv, own, L, hp, hk⟩ := h.pr
  obtain ⟨l, T⟩ := hp.th t b th ht hb
  have W : WS C.base (3 * t + 11) b 2 (3 * t + 10, 0) (tdC C.mb t th l) 50 (memT m.mem t) own l.po l.pc l.pg w := ⟨hp.ow, T.pg, T.blk, T.otb, (by show 2 < 9; decide), by simp⟩
  refine (set38 W a ha n).mono ?_
  rintro e w' ⟨rfl, own', po', pc', pg', W', k⟩
  refine ⟨rfl, ?_⟩
  have T' : TD w' C.base own' C.code C.mb t b th { l with po := po', pc := pc', pg := pg' } (upd m.mem ((t + 1) * 4194304 + a) n) := by
    refine ⟨W'.blk, W'.ob, ?_, ownsRow_same T.row (fun b hb _ => k.same b _ (T.orow b hb) (by show ¬ (3 * t + 12 = 3 * t + 11 ∨ 3 * t + 12 = 3 * t + 10); omega)), fun b hb => k.kp b _ (T.orow b hb) (by show ¬ (3 * t + 12 = 3 * t + 11 ∨ 3 * t + 12 = 3 * t + 10); omega), T.cok, T.at_, T.fr⟩
    rw [memT_upd]
    exact W'.pz
  have hp' := hp.setTd ht hb k (fun x hx => by
    rcases hx with e | e
    · exact .inr (.inl e)
    · exact .inl e) T' (fun x hx => by unfold upd; rw [if_neg (by omega)])
  rw [ths_same ht] at hp'
  exact h.next hp hk k hp' (h.ok.mem' hn _)
theorem TD.mem {base mb : Nat} {code : List Mi} {l : Tl} {mem mem' : Nat → Int} (h : TD w base own code mb t b th l mem) (e : memT mem' t = memT mem t) : TD w base own code mb t b th l mem' := ⟨h.blk, h.otb, e ▸ h.pg, h.row, h.orow, h.cok, h.at_, h.fr⟩
/-- A word of the heap is written. -/
theorem PS.setH (h : PS C N K w ps tb m) (a : Nat) (ha : a < 4194304) {n : Int} (hn : I64 n) : Calls Try.prog 17 #[.pointer (some ⟨C.mb, 3, none⟩), .int .i64 a, .int .i64 n] w (PP C N K ps tb (.tuple #[]) { m with mem := upd m.mem a n }) := by
  obtain ⟨pv, own, L, hp, hk⟩ := h.pr
  have W : WS C.base 2 C.mb 3 (0, 0) (pmC (.slice C.co C.code.length C.cc) pv C.hb L m) 41 m.mem own L.po L.pc L.pg w := ⟨hp.ow, hp.wd, hp.blk, hp.omb, (by show 3 < 10; decide), by decide⟩
  refine (set38 W a ha n).mono ?_
  rintro e w' ⟨rfl, own', po', pc', pg', W', k⟩
  refine ⟨rfl, ?_⟩
  have k' : CG own own' (fun x => x = 2 ∨ x = 0) C.base w w' := k
  refine h.next (L' := { L with po := po', pc := pc', pg := pg' }) hp hk k ⟨k.ow, W'.blk, W'.ob, hp.hm.cg hp.ow k, W'.pz, ownsRow_same hp.tr (fun b hb _ => k'.same b _ (hp.otr b hb) (by decide)), fun b hb => k'.kp b _ (hp.otr b hb) (by decide), hp.tl, fun t b x hx hb => ?_, hp.few, hp.ou.cg k' (by decide), hp.or_.cg k' (by decide), fun x hx => ?_, kk_cg hp.kk k⟩ (h.ok.mem' hn _)
  · obtain ⟨l, T⟩ := hp.th t b x hx hb
    refine ⟨l, (T.cg k' (by show ¬ (3 * t + 10 = 2 ∨ 3 * t + 10 = 0); omega) (by show ¬ (3 * t + 11 = 2 ∨ 3 * t + 11 = 0); omega) (by show ¬ (3 * t + 12 = 2 ∨ 3 * t + 12 = 0); omega)).mem ?_⟩
    funext y
    unfold memT upd
    exact if_neg (by omega)
  · show upd m.mem a n x = 0
    have hx' : (m.ths.length + 1) * 4194304 ≤ x := hx
    clear hx
    unfold upd
    rw [if_neg (by omega)]
    exact hp.hz x hx'
end
end Go.Proofs.Ytpoepbmomfohlaa
namespace Go.Proofs.Ytpoepbmomfohlaa
open Go.RowKit
set_option linter.all false
section
variable {C : Ct} {N N' : Nat} {K : Nat → Obj → Prop} {w w' w1 : World} {ps : List Int} {tb tb' : List Nat} {m m' : Mc} {t b : Nat} {th th' : Th} {own own' : Nat → Option (Nat × Nat)} {G : Nat → Prop} {L L' : Pl} {pv : Value}
theorem PS.mset (h : PS C N K w ps tb m) (o : Nat) (u : Value) (he : ∀ pv L, (pmC (.slice C.co C.code.length C.cc) pv C.hb L m).setIfInBounds o u = pmC (.slice C.co C.code.length C.cc) pv C.hb L m') (h1 : m'.hp = m.hp) (h2 : m'.mem = m.mem) (h3 : m'.ths = m.ths) (h4 : m'.outs = m.outs) (h5 : m'.order = m.order) (ho : OKM N' m') : PS C N' K (w.setCell ⟨C.mb, o, none⟩ u) ps tb m' := by
  obtain ⟨pv, own, L, hp, hk⟩ := h.pr
  have q := hp.set (pv' := pv) o u (he pv L) h1 h2 h3 h4 h5
  exact h.next hp hk q.2 q.1 ho
theorem PS.failed (h : PS C N K w ps tb m) : PS C N K (w.setCell ⟨C.mb, 5, none⟩ (.bool true)) ps tb { m with failed := true } := h.mset 5 _ (fun _ _ => rfl) rfl rfl rfl rfl rfl ⟨h.ok.mem, h.ok.th, h.ok.outs, h.ok.order, h.ok.steps, h.ok.big⟩
theorem PS.value (h : PS C N K w ps tb m) (n : Int) : PS C N K (w.setCell ⟨C.mb, 6, none⟩ (.int .i64 n)) ps tb { m with value := n } := h.mset 6 _ (fun _ _ => rfl) rfl rfl rfl rfl rfl ⟨h.ok.mem, h.ok.th, h.ok.outs, h.ok.order, h.ok.steps, h.ok.big⟩
theorem PS.steps (h : PS C N K w ps tb m) (hN : N + 1 ≤ 1000000) : PS C (N + 1) K (w.setCell ⟨C.mb, 7, none⟩ (.int .i64 (m.steps + 1))) ps tb { m with steps := m.steps + 1 } :=
  have h2 := h.ok.up (Nat.le_succ N) hN
  h.mset 7 _ (fun _ _ => rfl) rfl rfl rfl rfl rfl ⟨h2.mem, h2.th, h2.outs, h2.order, ⟨by show 0 ≤ m.steps + 1; have := h.ok.steps.1; omega, by show m.steps + 1 ≤ _; have := h.ok.steps.2; omega⟩, hN⟩
theorem PS.pick (h : PS C N K w ps tb m) {x : Int} {r : List Int} (hps : ps = x :: r) : ∃ q f c, w.cell? ⟨C.mb, 1, none⟩ = some (.slice (some ⟨q, f, none⟩) ps.length c) ∧ ps.length ≤ c ∧ c ≤ 9223372036854775807 ∧ q < w.heap.size ∧ w.cell? ⟨q, f, none⟩ = some (.int .i64 x) ∧ PS C N K (w.setCell ⟨C.mb, 1, none⟩ (.slice (some ⟨q, f + 1, none⟩) r.length (c - 1))) r tb m := by
  obtain ⟨pv, own, L, hp, hk⟩ := h.pr
  obtain ⟨o, c, e, h1, h2, h3⟩ := hk.ex
  obtain ⟨hx, q, f, e1, hq, hc⟩ := h3 0 x (by rw [hps]; rfl)
  subst e e1
  have hbs := hp.ow.bs
  refine ⟨q, f, c, cell_of_row w _ 1 _ 41 (0, 0) hp.blk, h1, h2, by omega, hc, ?_⟩
  have s := hp.set (pv' := .slice (some ⟨q, f + 1, none⟩) r.length (c - 1)) (m' := m) 1 (.slice (some ⟨q, f + 1, none⟩) r.length (c - 1)) rfl rfl rfl rfl rfl rfl
  have kb := s.2.bel hp.ow
  refine ⟨⟨_, own, L, s.1, ⟨_, _, rfl, by rw [hps] at h1; simp at h1; omega, by omega, fun i y hy => ?_⟩⟩, h.cd.below kb, h.ok, h.c64, h.bl.trans kb⟩
  obtain ⟨hi, q', f', e', hq', hc'⟩ := h3 (i + 1) y (by rw [hps]; simpa using hy)
  simp at e'
  obtain ⟨rfl, rfl⟩ := e'
  exact ⟨hi, q, f + 1, rfl, hq, by rw [kb.cell (p := ⟨q, f + 1 + i, none⟩) hq, show f + 1 + i = f + (i + 1) by omega]; exact hc'⟩
/-- A thread's cell is written. -/
theorem PS.tcell (h : PS C N K w ps tb m) (ht : m.ths[t]? = some th) (hb : tb[t]? = some b) (o : Nat) (u : Value) (f : Int → Int) (he : ∀ l : Tl, (tdC C.mb t th l).setIfInBounds o u = tdC C.mb t th' { l with at_ := f l.at_ }) (hc : th'.calls = th.calls) (hat : ∀ a : Int, (th.abo = false → a = th.pc) → th'.abo = false → f a = th'.pc) (hfr : stk t ≤ th'.frame ∧ th'.frame < stk (t + 1)) (ho : OKM N' { m with ths := m.ths.set t th' }) : PS C N' K (w.setCell ⟨b, o, none⟩ u) ps tb { m with ths := m.ths.set t th' } := by
  obtain ⟨pv, own, L, hp, hk⟩ := h.pr
  obtain ⟨l, T⟩ := hp.th t b th ht hb
  have k := CG.set (G := fun x => x = 3 * t + 10) hp.ow T.otb rfl o u
  have T' : TD (w.setCell ⟨b, o, none⟩ u) C.base own C.code C.mb t b th' { l with at_ := f l.at_ } m.mem := by
    refine ⟨?_, T.otb, T.pg.cg k (by show ¬ (3 * t + 11 = 3 * t + 10); omega), ?_, ?_, by rw [hc]; exact T.cok, hat l.at_ T.at_, hfr⟩
    · rw [heap_setCell_same w b o _ 50 u T.blk, he]
    · show World.ownsRow _ _ _ _ (.slice l.co th'.calls.length l.cc) th'.calls.length (th'.calls.map (clC t)).flatten
      rw [hc]
      exact ownsRow_same T.row (fun b hb _ => k.same b _ (T.orow b hb) (by show ¬ (3 * t + 12 = 3 * t + 10); omega))
    · show ∀ b, (Value.slice l.co th'.calls.length l.cc).ownBlock = some b → _
      rw [hc]
      exact T.orow
  exact h.next hp hk k (hp.setTd ht hb k (fun x hx => .inl hx) T' (fun _ _ => rfl)) ho
theorem PS.goto (h : PS C N K w ps tb m) (ht : m.ths[t]? = some th) (hb : tb[t]? = some b) {pc : Int} (hpc : I64 pc) : PS C N K (w.setCell ⟨b, 5, none⟩ (.int .i64 pc)) ps tb { m with ths := m.ths.set t { th with pc := pc } } := by
  obtain ⟨pv, own, L, hp, hk⟩ := h.pr
  obtain ⟨l, T⟩ := hp.th t b th ht hb
  exact h.tcell ht hb 5 _ (fun _ => pc) (fun _ => rfl) rfl (fun _ _ _ => rfl) T.fr (h.ok.setTh ht hpc rfl)
theorem PS.over (h : PS C N K w ps tb m) (ht : m.ths[t]? = some th) (hb : tb[t]? = some b) : PS C N K (w.setCell ⟨b, 8, none⟩ (.bool true)) ps tb { m with ths := m.ths.set t { th with over := true } } := by
  obtain ⟨pv, own, L, hp, hk⟩ := h.pr
  obtain ⟨l, T⟩ := hp.th t b th ht hb
  exact h.tcell ht hb 8 _ (fun a => a) (fun _ => rfl) rfl (fun _ h => h) T.fr (h.ok.setTh ht (h.ok.th t th ht).1 rfl)
theorem infI3 : (Try.prog.info? 3).map (fun i => (i.zero, i.size, i.bytes)) = some (some (.int .i64 0), 1, 8) := by kernel_rfl
/-- A number more is told. -/
theorem PS.out (h : PS C N K w ps tb m) (n : Int) (hN : m.outs.length + 1 ≤ N) : ∃ o c, w.cell? ⟨C.mb, 8, none⟩ = some (.slice o m.outs.length c) ∧ ∀ (ty : TypeId) {ad : Nat} (had : ad = w.heap.size), ∃ v' w1, (Builtin.append_ #[23, 23] ty #[.slice o m.outs.length c, .slice (some ⟨ad, 0, none⟩) 1 1]).run Try.prog (w.alloc (.cells #[.int .i64 n] 3)) = .ok v' w1 ∧ (∃ o' c', v' = .slice o' (m.outs.length + 1) c') ∧ (∃ u, w1.cell? ⟨C.mb, 8, none⟩ = some u) ∧ w1.frozen? ⟨C.mb, 8, none⟩ = false ∧ C.mb < w1.heap.size ∧ PS C N K (w1.setCell ⟨C.mb, 8, none⟩ v') ps tb { m with outs := m.outs ++ [n] } := by
  obtain ⟨pv, own, L, hp, hk⟩ := h.pr
  refine ⟨L.oo, L.oc, cell_of_row w _ 8 _ 41 (0, 0) hp.blk, fun ty ad had => ?_⟩
  have hbg := h.ok.big
  obtain ⟨v', w1, hr, A⟩ := app1 (W := w) Try.underlying23 infI3 rfl (by decide) hp.ou.row hp.ow.bs #[.int .i64 n] rfl (fun u hu => by simp at hu; subst hu; rfl) (by unfold maxLen; omega) (by omega) ty had
  obtain ⟨own', k1, k2, k3, k4⟩ := CG.grown (G := fun x => x = 4 ∨ x = 0) hp.ow (al1 w _).1 A (t := (4, 0)) (.inl rfl) (by decide) (by decide) hp.ou.orow
  obtain ⟨o', c', rfl⟩ := A.shape
  have hmb : w1.heap[C.mb]? = some (.cells (pmC (.slice C.co C.code.length C.cc) pv C.hb L m) 41 (0, 0)) := (k4 C.mb _ hp.omb (by decide)).trans hp.blk
  have om : own' C.mb = some (0, 0) := k3 _ _ hp.omb (by decide)
  have k5 := CG.set (G := fun x => x = 4 ∨ x = 0) k1.ow om (.inr rfl) 8 (.slice o' (m.outs.length + 1) c')
  refine ⟨_, w1, hr, ⟨o', c', rfl⟩, ⟨_, cell_of_row w1 _ 8 _ 41 (0, 0) hmb⟩, frozen_of_row w1 _ 8 _ 41 hmb, (Array.getElem?_eq_some_iff.1 hmb).1, ?_⟩
  have k := k1.trans k5
  refine h.next (L' := { L with oo := o', oc := c' }) hp hk k ⟨k.ow, ?_, om, hp.hm.cg hp.ow k, hp.wd.cg k (by decide), ownsRow_same hp.tr (fun b hb _ => k.same b _ (hp.otr b hb) (by decide)), fun b hb => k.kp b _ (hp.otr b hb) (by decide), hp.tl, fun t b x hx hb => ?_, hp.few, ?_, hp.or_.cg k (by decide), hp.hz, kk_cg hp.kk k⟩ ⟨h.ok.mem, h.ok.th, by simp; omega, h.ok.order, h.ok.steps, h.ok.big⟩
  · rw [heap_setCell_same w1 C.mb 8 _ 41 _ hmb]
    simp [pmC]
  · obtain ⟨l, T⟩ := hp.th t b x hx hb
    exact ⟨l, T.cg k (by show ¬ (3 * t + 10 = 4 ∨ 3 * t + 10 = 0); omega) (by show ¬ (3 * t + 11 = 4 ∨ 3 * t + 11 = 0); omega) (by show ¬ (3 * t + 12 = 4 ∨ 3 * t + 12 = 0); omega)⟩
  · have hrow : w1.ownsRow C.base 3 1 (.slice o' (m.outs ++ [n]).length c') (m.outs ++ [n]).length ((m.outs ++ [n]).map (Value.int .i64)) := by
      rw [List.map_append, List.length_append]
      exact A.row
    exact ⟨ownsRow_same hrow (fun b hb _ => Below.heap_setCell _ _ _ _ (fun e => by
      have e3 : b = C.mb := e
      have := k2 b (by simpa using hb)
      rw [e3, om] at this
      simp at this)), fun b hb => k2 b (by simpa using hb)⟩
theorem PS.ord (h : PS C N K w ps tb m) (n : Int) (hN : m.order.length + 1 ≤ N) : ∃ o c, w.cell? ⟨C.mb, 9, none⟩ = some (.slice o m.order.length c) ∧ ∀ (ty : TypeId) {ad : Nat} (had : ad = w.heap.size), ∃ v' w1, (Builtin.append_ #[23, 23] ty #[.slice o m.order.length c, .slice (some ⟨ad, 0, none⟩) 1 1]).run Try.prog (w.alloc (.cells #[.int .i64 n] 3)) = .ok v' w1 ∧ (∃ o' c', v' = .slice o' (m.order.length + 1) c') ∧ (∃ u, w1.cell? ⟨C.mb, 9, none⟩ = some u) ∧ w1.frozen? ⟨C.mb, 9, none⟩ = false ∧ C.mb < w1.heap.size ∧ PS C N K (w1.setCell ⟨C.mb, 9, none⟩ v') ps tb { m with order := m.order ++ [n] } := by
  obtain ⟨pv, own, L, hp, hk⟩ := h.pr
  refine ⟨L.ro_, L.rc, cell_of_row w _ 9 _ 41 (0, 0) hp.blk, fun ty ad had => ?_⟩
  have hbg := h.ok.big
  obtain ⟨v', w1, hr, A⟩ := app1 (W := w) Try.underlying23 infI3 rfl (by decide) hp.or_.row hp.ow.bs #[.int .i64 n] rfl (fun u hu => by simp at hu; subst hu; rfl) (by unfold maxLen; omega) (by omega) ty had
  obtain ⟨own', k1, k2, k3, k4⟩ := CG.grown (G := fun x => x = 5 ∨ x = 0) hp.ow (al1 w _).1 A (t := (5, 0)) (.inl rfl) (by decide) (by decide) hp.or_.orow
  obtain ⟨o', c', rfl⟩ := A.shape
  have hmb : w1.heap[C.mb]? = some (.cells (pmC (.slice C.co C.code.length C.cc) pv C.hb L m) 41 (0, 0)) := (k4 C.mb _ hp.omb (by decide)).trans hp.blk
  have om : own' C.mb = some (0, 0) := k3 _ _ hp.omb (by decide)
  have k5 := CG.set (G := fun x => x = 5 ∨ x = 0) k1.ow om (.inr rfl) 9 (.slice o' (m.order.length + 1) c')
  refine ⟨_, w1, hr, ⟨o', c', rfl⟩, ⟨_, cell_of_row w1 _ 9 _ 41 (0, 0) hmb⟩, frozen_of_row w1 _ 9 _ 41 hmb, (Array.getElem?_eq_some_iff.1 hmb).1, ?_⟩
  have k := k1.trans k5
  refine h.next (L' := { L with ro_ := o', rc := c' }) hp hk k ⟨k.ow, ?_, om, hp.hm.cg hp.ow k, hp.wd.cg k (by decide), ownsRow_same hp.tr (fun b hb _ => k.same b _ (hp.otr b hb) (by decide)), fun b hb => k.kp b _ (hp.otr b hb) (by decide), hp.tl, fun t b x hx hb => ?_, hp.few, hp.ou.cg k (by decide), ?_, hp.hz, kk_cg hp.kk k⟩ ⟨h.ok.mem, h.ok.th, h.ok.outs, by simp; omega, h.ok.steps, h.ok.big⟩
  · rw [heap_setCell_same w1 C.mb 9 _ 41 _ hmb]
    simp [pmC]
  · obtain ⟨l, T⟩ := hp.th t b x hx hb
    exact ⟨l, T.cg k (by show ¬ (3 * t + 10 = 5 ∨ 3 * t + 10 = 0); omega) (by show ¬ (3 * t + 11 = 5 ∨ 3 * t + 11 = 0); omega) (by show ¬ (3 * t + 12 = 5 ∨ 3 * t + 12 = 0); omega)⟩
  · have hrow : w1.ownsRow C.base 3 1 (.slice o' (m.order ++ [n]).length c') (m.order ++ [n]).length ((m.order ++ [n]).map (Value.int .i64)) := by
      rw [List.map_append, List.length_append]
      exact A.row
    exact ⟨ownsRow_same hrow (fun b hb _ => Below.heap_setCell _ _ _ _ (fun e => by
      have e3 : b = C.mb := e
      have := k2 b (by simpa using hb)
      rw [e3, om] at this
      simp at this)), fun b hb => k2 b (by simpa using hb)⟩
/-- The heap has changed. -/
theorem PS.heap (h : PS C N K w ps tb m) {v : Value} {bs : List (Int × Int)} {e : Ending} (hh : HmPost w C.base C.hb 4194303 v bs e w') : e = .returned v ∧ PS C N K w' ps tb { m with hp := bs } := by
  obtain ⟨pv, own, L, hp, hk⟩ := h.pr
  obtain ⟨e1, h1, h2, h3⟩ := hh
  have hs : ∀ b t, own b = some t → w'.heap[b]? = w.heap[b]? := fun b t e => by
    obtain ⟨c, ty, hc, n1, n2⟩ := hp.ow.nh b (by rw [e]; simp)
    exact h3 b c ty _ hc ⟨n1, n2⟩
  have hno : OW own C.base w' := ⟨fun b hn => ⟨(hp.ow.olt b hn).1, Nat.lt_of_lt_of_le (hp.ow.olt b hn).2 h2.size⟩, fun b hn => by
    obtain ⟨c, ty, hc, n⟩ := hp.ow.nh b hn
    exact ⟨c, ty, (h3 b c ty _ hc n).trans hc, n⟩, Nat.le_trans hp.ow.bs h2.size⟩
  refine ⟨e1, ⟨⟨pv, own, L, ⟨hno, (hs _ _ hp.omb).trans hp.blk, hp.omb, h1, hp.wd.same (fun b s e => ⟨hs b _ e, e⟩), ownsRow_same hp.tr (fun b hb _ => hs b _ (hp.otr b hb)), hp.otr, hp.tl, fun t b x hx hb => ?_, hp.few, ⟨ownsRow_same hp.ou.row (fun b hb _ => hs b _ (hp.ou.orow b hb)), hp.ou.orow⟩, ⟨ownsRow_same hp.or_.row (fun b hb _ => hs b _ (hp.or_.orow b hb)), hp.or_.orow⟩, hp.hz, fun b o hb => ?_⟩, hk.below h2⟩, h.cd.below h2, ⟨h.ok.mem, h.ok.th, h.ok.outs, h.ok.order, h.ok.steps, h.ok.big⟩, h.c64, h.bl.trans h2⟩⟩
  · obtain ⟨l, T⟩ := hp.th t b x hx hb
    exact ⟨l, (hs _ _ T.otb).trans T.blk, T.otb, T.pg.same (fun b s e => ⟨hs b _ e, e⟩), ownsRow_same T.row (fun b hb _ => hs b _ (T.orow b hb)), T.orow, T.cok, T.at_, T.fr⟩
  · obtain ⟨q1, q2, c, ty, z, rfl, n⟩ := hp.kk b o hb
    exact ⟨q1, (h3 b c ty z q2 n).trans q2, c, ty, z, rfl, n⟩
end
end Go.Proofs.Ytpoepbmomfohlaa
