/- The project's machine: calls, and new threads. -/
import Derived.Test.YtpoepbmomfohlaaPmf
namespace Go.Proofs.Ytpoepbmomfohlaa
open Go.RowKit
set_option linter.all false
theorem infCl : (Try.prog.info? 85).map (fun i => (i.zero, i.size, i.bytes)) = some (some (.agg #[.int .i64 0, .int .i64 0]), 2, 16) := by kernel_rfl
theorem infTh : (Try.prog.info? 44).map (fun i => (i.zero, i.size, i.bytes)) = some (some (.pointer none), 1, 8) := by kernel_rfl
theorem clC_len {t : Nat} {cs : List (Int × Int × Int)} : ∀ x ∈ cs.map (clC t), x.length = 2 := fun x hx => by
  obtain ⟨y, _, rfl⟩ := List.mem_map.1 hx
  rfl
theorem cl_flat {t : Nat} : ∀ {cs : List (Int × Int × Int)}, ((cs.map (clC t)).flatten).length = cs.length * 2
  | [] => rfl
  | c :: cs => by
    rw [List.map_cons, List.flatten_cons, List.length_append, cl_flat]
    show 2 + _ = _
    simp
    omega
theorem cl_pop {w : World} {base t : Nat} {bo : Option Addr} {cp : Nat} {cs : List (Int × Int × Int)} {c : Int × Int × Int} (h : w.ownsRow base 85 2 (.slice bo (cs ++ [c]).length cp) (cs ++ [c]).length ((cs ++ [c]).map (clC t)).flatten) : w.ownsRow base 85 2 (.slice bo cs.length cp) cs.length (cs.map (clC t)).flatten := by
  refine ⟨cl_flat, ?_⟩
  rcases h.2 with ⟨h1, h2⟩ | ⟨g, cap, cur, h1, h2, h3, h4, h5, h6, h7⟩
  · simp at h2
  · simp at h1
    obtain ⟨rfl, rfl⟩ := h1
    refine .inr ⟨g, cp, cur, rfl, h2, h3, by simp at h4; omega, h5, h6, ?_⟩
    have e : (cur.toList.take ((cs ++ [c]).length * 2)).take (cs.length * 2) = cur.toList.take (cs.length * 2) := by rw [List.take_take, Nat.min_eq_left (by simp; omega)]
    rw [← e, h7, List.map_append, List.flatten_append, List.take_append_of_le_length (by rw [cl_flat]; exact Nat.le_refl _), List.take_of_length_le (by rw [cl_flat]; exact Nat.le_refl _)]
section
variable {C : Ct} {N N' : Nat} {K : Nat → Obj → Prop} {w w' w1 : World} {ps : List Int} {tb tb' : List Nat} {m m' : Mc} {t b : Nat} {th th' : Th} {own own' : Nat → Option (Nat × Nat)} {G : Nat → Prop} {L L' : Pl} {pv : Value} {mem : Nat → Int}
theorem PS.push (h : PS C N K w ps tb m) (ht : m.ths[t]? = some th) (hb : tb[t]? = some b) (ha : th.abo = false) {e : Int} (he : I64 e) (hc1 : 1 ≤ th.pc) (hc2 : th.pc ≤ C.code.length) (hc3 : (insAt C.code (th.pc - 1)).1.e = e) (hN : N + 1 ≤ 1000000) : ∃ o c, w.cell? ⟨b, 4, none⟩ = some (.slice o th.calls.length c) ∧ ∀ (ty : TypeId) {ad : Nat} (had : ad = w.heap.size), ∃ v' w1, (Builtin.append_ #[48, 48] ty #[.slice o th.calls.length c, .slice (some ⟨ad, 0, none⟩) 1 1]).run Try.prog (w.alloc (.cells #[.int .i64 (th.pc - 1), .int .i64 (th.frame - stk t)] 85)) = .ok v' w1 ∧ (∃ o' c', v' = .slice o' (th.calls.length + 1) c') ∧ w1.heap[b]? = w.heap[b]? ∧ (∃ u, w1.cell? ⟨b, 4, none⟩ = some u) ∧ w1.frozen? ⟨b, 4, none⟩ = false ∧ b < w1.heap.size ∧ PS C (N + 1) K (w1.setCell ⟨b, 4, none⟩ v') ps tb { m with ths := m.ths.set t { th with calls := th.calls ++ [(th.pc, e, th.frame)] } } := by
  obtain ⟨pv, own, L, hp, hk⟩ := h.pr
  obtain ⟨l, T⟩ := hp.th t b th ht hb
  refine ⟨l.co, l.cc, cell_of_row w _ 4 _ 50 (0, 0) T.blk, fun ty ad had => ?_⟩
  have hbg := h.ok.big
  have hcl := (h.ok.th t th ht).2.1
  obtain ⟨v', w1, hr, A⟩ := app1 (W := w) Try.underlying48 infCl rfl (by decide) T.row hp.ow.bs #[.int .i64 (th.pc - 1), .int .i64 (th.frame - stk t)] rfl (fun u hu => by simp at hu; rcases hu with rfl | rfl <;> rfl) (by unfold maxLen; omega) (by omega) ty had
  obtain ⟨own', k1, k2, k3, k4⟩ := CG.grown (G := fun x => x = 3 * t + 12 ∨ x = 3 * t + 10) hp.ow (al1 w _).1 A (t := (3 * t + 12, 0)) (.inl rfl) (by decide) (by decide) T.orow
  obtain ⟨o', c', rfl⟩ := A.shape
  have hs := k4 b _ T.otb (by simp)
  have hbb : w1.heap[b]? = some (.cells (tdC C.mb t th l) 50 (0, 0)) := hs.trans T.blk
  have ob : own' b = some (3 * t + 10, 0) := k3 _ _ T.otb (by simp)
  have k5 := CG.set (G := fun x => x = 3 * t + 12 ∨ x = 3 * t + 10) k1.ow ob (.inr rfl) 4 (.slice o' (th.calls.length + 1) c')
  refine ⟨_, w1, hr, ⟨o', c', rfl⟩, hs, ⟨_, cell_of_row w1 _ 4 _ 50 (0, 0) hbb⟩, frozen_of_row w1 _ 4 _ 50 hbb, (Array.getElem?_eq_some_iff.1 hbb).1, ?_⟩
  have k := k1.trans k5
  have T' : TD (w1.setCell ⟨b, 4, none⟩ (.slice o' (th.calls.length + 1) c')) C.base own' C.code C.mb t b { th with calls := th.calls ++ [(th.pc, e, th.frame)] } { l with co := o', cc := c' } m.mem := by
    refine ⟨?_, ob, T.pg.cg k (by show ¬ (3 * t + 11 = 3 * t + 12 ∨ 3 * t + 11 = 3 * t + 10); omega), ?_, fun b hb => k2 b (by simpa using hb), ?_, T.at_, T.fr⟩
    · rw [heap_setCell_same w1 b 4 _ 50 _ hbb]
      simp [tdC]
    · have hrow : w1.ownsRow C.base 85 2 (.slice o' (th.calls ++ [(th.pc, e, th.frame)]).length c') (th.calls ++ [(th.pc, e, th.frame)]).length ((th.calls ++ [(th.pc, e, th.frame)]).map (clC t)).flatten := by
        rw [List.map_append, List.length_append, List.flatten_append]
        exact A.row
      exact ownsRow_same hrow (fun b' hb' _ => Below.heap_setCell _ _ _ _ (fun e2 => by
        have e3 : b' = b := e2
        have := k2 b' (by simpa using hb')
        rw [e3, ob] at this
        simp at this))
    · intro c hc
      rcases List.mem_append.1 hc with hc | hc
      · exact T.cok c hc
      · have : c = (th.pc, e, th.frame) := by simpa using hc
        subst this
        exact ⟨hc1, hc2, hc3⟩
  exact h.next hp hk k (hp.setTd ht hb k (fun x hx => by rcases hx with e | e; exact .inr (.inr e); exact .inl e) T' (fun _ _ => rfl)) (h.ok.push ht (th' := { th with calls := th.calls ++ [(th.pc, e, th.frame)] }) ⟨(h.ok.th t th ht).1, he, T.fr⟩ (h.ok.th t th ht).1 rfl hN)
theorem PS.pop (h : PS C N K w ps tb m) (ht : m.ths[t]? = some th) (hb : tb[t]? = some b) {cs : List (Int × Int × Int)} {c : Int × Int × Int} (hc : th.calls = cs ++ [c]) : ∃ q cp, w.cell? ⟨b, 4, none⟩ = some (.slice (some ⟨q, 0, none⟩) (cs.length + 1) cp) ∧ cs.length + 1 ≤ cp ∧ cs.length ≤ 1000000 ∧ q < w.heap.size ∧ w.cell? ⟨q, cs.length * 2, none⟩ = some (.int .i64 (c.1 - 1)) ∧ w.cell? ⟨q, cs.length * 2 + 1, none⟩ = some (.int .i64 (c.2.2 - stk t)) ∧ (1 ≤ c.1 ∧ c.1 ≤ C.code.length ∧ (insAt C.code (c.1 - 1)).1.e = c.2.1) ∧ (stk t ≤ c.2.2 ∧ c.2.2 < stk (t + 1)) ∧ PS C N K (w.setCell ⟨b, 4, none⟩ (.slice (some ⟨q, 0, none⟩) cs.length cp)) ps tb { m with ths := m.ths.set t { th with calls := cs } } := by
  obtain ⟨pv, own, L, hp, hk⟩ := h.pr
  obtain ⟨l, T⟩ := hp.th t b th ht hb
  have hcl := (h.ok.th t th ht).2.1
  have hbg := h.ok.big
  have row := T.row
  rw [hc] at row hcl
  obtain ⟨q, cp, e, hl, -, hx⟩ := ownsRow_nth row (by simp) clC_len (i := cs.length) (x := clC t c) (by simp)
  simp at e
  obtain ⟨e1, e2⟩ := e
  have hcap : cs.length + 1 ≤ l.cc := by
    rcases row.2 with ⟨h1, h2⟩ | ⟨g, cap, cur, h1, h2, h3, h4, _⟩
    · simp at h2
    · simp at h1
      simp at h4
      omega
  have c4 := cell_of_row w _ 4 _ 50 (0, 0) T.blk
  refine ⟨q, l.cc, ?_, hcap, by simp at hcl; omega, hl, hx 0 (by decide), hx 1 (by decide), T.cok c (by rw [hc]; simp), ((h.ok.th t th ht).2.2 c (by rw [hc]; simp)).2.2, ?_⟩
  · rw [c4]
    show some (Value.slice l.co th.calls.length l.cc) = _
    rw [hc, e1]
    simp
  · have k := CG.set (G := fun x => x = 3 * t + 10) hp.ow T.otb rfl 4 (.slice (some ⟨q, 0, none⟩) cs.length l.cc)
    have hpo := cl_pop row
    have T' : TD (w.setCell ⟨b, 4, none⟩ (.slice (some ⟨q, 0, none⟩) cs.length l.cc)) C.base own C.code C.mb t b { th with calls := cs } l m.mem := by
      refine ⟨?_, T.otb, T.pg.cg k (by show ¬ (3 * t + 11 = 3 * t + 10); omega), ?_, ?_, fun x hx => T.cok x (by rw [hc]; simp; exact .inl hx), T.at_, T.fr⟩
      · rw [heap_setCell_same w b 4 _ 50 _ T.blk, ← e1]
        rfl
      · refine ownsRow_same hpo (fun b' hb' _ => k.same b' _ (T.orow b' ?_) (by show ¬ (3 * t + 12 = 3 * t + 10); omega))
        rw [e1] at hb' ⊢
        exact hb'
      · intro b' hb'
        refine T.orow b' ?_
        have hb2 : (Value.slice l.co cs.length l.cc).ownBlock = some b' := hb'
        rw [e1] at hb2 ⊢
        exact hb2
    exact h.next hp hk k (hp.setTd ht hb k (fun x hx => .inl hx) T' (fun _ _ => rfl)) (h.ok.pop ht (th' := { th with calls := cs }) hc (h.ok.th t th ht).1 rfl)
/-- The machine, and a thread that is not in its row yet. -/
structure PN (C : Ct) (N : Nat) (K : Nat → Obj → Prop) (w : World) (ps : List Int) (tb : List Nat) (m : Mc) (b : Nat) (th : Th) (mem : Nat → Int) : Prop where
  pr : ∃ pv own L l, PR w C.base C.mb C.hb (.slice C.co C.code.length C.cc) pv C.code K own L tb m ∧ PK w C.base pv ps ∧ TD w C.base own C.code C.mb m.ths.length b th l mem
  cd : CD w C.base C.co C.code
  ok : OKM N m
  c64 : ∀ x ∈ C.code, x.ok
  bl : Below C.base C.w0 w
theorem PR.cgN {base mb hb : Nat} {cv : Value} {code : List Mi} (h : PR w base mb hb cv pv code K own L tb m) (k : CG own own' G base w w') (hG : ∀ x, G x → 3 * m.ths.length + 10 ≤ x) : PR w' base mb hb cv pv code K own' L tb m := by
  have hn : ∀ x, x < 10 → ¬ G x := fun x hx hg => by have := hG x hg; omega
  exact ⟨k.ow, (k.same mb _ h.omb (hn 0 (by decide))).trans h.blk, k.kp mb _ h.omb (hn 0 (by decide)), h.hm.cg h.ow k, h.wd.cg k (hn 2 (by decide)), ownsRow_same h.tr (fun b hb _ => k.same b _ (h.otr b hb) (hn 3 (by decide))), fun b hb => k.kp b _ (h.otr b hb) (hn 3 (by decide)), h.tl, fun t b x hx hb => by
    have htl := (List.getElem?_eq_some_iff.1 hx).1
    obtain ⟨l, hl⟩ := h.th t b x hx hb
    exact ⟨l, hl.cg k (fun hg => by have := hG _ hg; omega) (fun hg => by have := hG _ hg; omega) (fun hg => by have := hG _ hg; omega)⟩, h.few, h.ou.cg k (hn 4 (by decide)), h.or_.cg k (hn 5 (by decide)), h.hz, kk_cg h.kk k⟩
theorem PN.start (h : PS C N K w ps tb m) (pc : Int) : PN C N K (w.alloc (.cells #[ptr C.mb, .int .i64 m.ths.length, .slice none 0 0, .int .i64 0, .slice none 0 0, .int .i64 pc, .bool false, .bool false, .bool false] 50)) ps tb m w.heap.size (Th.new pc (stk m.ths.length)) m.mem := by
  obtain ⟨pv, own, L, hp, hk⟩ := h.pr
  have k := CG.new (G := fun _ => False) hp.ow (c := #[ptr C.mb, .int .i64 m.ths.length, .slice none 0 0, .int .i64 0, .slice none 0 0, .int .i64 pc, .bool false, .bool false, .bool false]) (ty := 50) (by decide) (by decide) (3 * m.ths.length + 10, 0)
  have kb := k.bel hp.ow
  have hz : ∀ a, memT m.mem m.ths.length a = 0 := fun a => by
    unfold memT
    exact hp.hz _ (Nat.le_add_right _ _)
  refine ⟨⟨pv, _, L, ⟨none, 0, [], none, 0, pc⟩, hp.cg k, hk.below kb, ⟨?_, own1_at, ⟨World.ownsRow_nil _ _ _ _, fun b e => by simp [Value.ownBlock] at e, fun i q hq => by simp at hq, fun a _ _ => hz a, Nat.zero_le _⟩, World.ownsRow_nil _ _ _ _, fun b e => by simp [Value.ownBlock, Th.new] at e, fun c hc => by simp [Th.new] at hc, fun _ => rfl, ?_⟩⟩, h.cd.below kb, h.ok, h.c64, h.bl.trans kb⟩
  · rw [(al1 w _).2]
    simp [tdC, Th.new]
  · unfold stk Th.new
    simp
    omega
theorem PN.set (h : PN C N K w ps tb m b th m.mem) (a : Nat) (ha : a < 4194304) (n : Int) : Calls Try.prog 17 #[.pointer (some ⟨b, 2, none⟩), .int .i64 a, .int .i64 n] w (fun e w' => e = .returned (.tuple #[]) ∧ PN C N K w' ps tb m b th (upd m.mem ((m.ths.length + 1) * 4194304 + a) n)) := by
  obtain ⟨pv, own, L, l, hp, hk, T⟩ := h.pr
  have W : WS C.base (3 * m.ths.length + 11) b 2 (3 * m.ths.length + 10, 0) (tdC C.mb m.ths.length th l) 50 (memT m.mem m.ths.length) own l.po l.pc l.pg w := ⟨hp.ow, T.pg, T.blk, T.otb, (by show 2 < 9; decide), by simp⟩
  refine (set38 W a ha n).mono ?_
  rintro e w' ⟨rfl, own', po', pc', pg', W', k⟩
  have kb := k.bel hp.ow
  refine ⟨rfl, ⟨⟨pv, own', L, { l with po := po', pc := pc', pg := pg' }, hp.cgN k (fun x hx => by rcases hx with e | e <;> omega), hk.below kb, ⟨W'.blk, W'.ob, ?_, ownsRow_same T.row (fun b hb _ => k.same b _ (T.orow b hb) (by show ¬ (_ = _ ∨ _ = _); omega)), fun b hb => k.kp b _ (T.orow b hb) (by show ¬ (_ = _ ∨ _ = _); omega), T.cok, T.at_, T.fr⟩⟩, h.cd.below kb, h.ok, h.c64, h.bl.trans kb⟩⟩
  rw [memT_upd]
  exact W'.pz
theorem PN.done (h : PN C N K w ps tb m b th mem) (hm1 : ∀ a, a < (m.ths.length + 1) * 4194304 → mem a = m.mem a) (hm2 : ∀ a, (m.ths.length + 2) * 4194304 ≤ a → mem a = 0) (hlen : m.ths.length < 12) (ho : OKM N { m with ths := m.ths ++ [th], mem := mem }) : ∃ o c, w.cell? ⟨C.mb, 4, none⟩ = some (.slice o m.ths.length c) ∧ ∀ (ty : TypeId) {ad : Nat} (had : ad = w.heap.size), ∃ v' w1, (Builtin.append_ #[39, 39] ty #[.slice o m.ths.length c, .slice (some ⟨ad, 0, none⟩) 1 1]).run Try.prog (w.alloc (.cells #[ptr b] 44)) = .ok v' w1 ∧ (∃ o' c', v' = .slice o' (m.ths.length + 1) c') ∧ (∃ u, w1.cell? ⟨C.mb, 4, none⟩ = some u) ∧ w1.frozen? ⟨C.mb, 4, none⟩ = false ∧ C.mb < w1.heap.size ∧ PS C N K (w1.setCell ⟨C.mb, 4, none⟩ v') ps (tb ++ [b]) { m with ths := m.ths ++ [th], mem := mem } := by
  obtain ⟨pv, own, L, l, hp, hk, T⟩ := h.pr
  refine ⟨L.to_, L.tc, cell_of_row w _ 4 _ 41 (0, 0) hp.blk, fun ty ad had => ?_⟩
  obtain ⟨v', w1, hr, A⟩ := app1 (W := w) Try.underlying39 infTh rfl (by decide) hp.tr hp.ow.bs #[ptr b] rfl (fun u hu => by simp at hu; subst hu; rfl) (by unfold maxLen; omega) (by omega) ty had
  obtain ⟨own', k1, k2, k3, k4⟩ := CG.grown (G := fun x => x = 3 ∨ x = 0) hp.ow (al1 w _).1 A (t := (3, 0)) (.inl rfl) (by decide) (by decide) hp.otr
  obtain ⟨o', c', rfl⟩ := A.shape
  have hmb : w1.heap[C.mb]? = some (.cells (pmC (.slice C.co C.code.length C.cc) pv C.hb L m) 41 (0, 0)) := (k4 C.mb _ hp.omb (by decide)).trans hp.blk
  have om : own' C.mb = some (0, 0) := k3 _ _ hp.omb (by decide)
  have k5 := CG.set (G := fun x => x = 3 ∨ x = 0) k1.ow om (.inr rfl) 4 (.slice o' (m.ths.length + 1) c')
  refine ⟨_, w1, hr, ⟨o', c', rfl⟩, ⟨_, cell_of_row w1 _ 4 _ 41 (0, 0) hmb⟩, frozen_of_row w1 _ 4 _ 41 hmb, (Array.getElem?_eq_some_iff.1 hmb).1, ?_⟩
  have k := k1.trans k5
  have kb := k.bel hp.ow
  have hl2 : (m.ths ++ [th]).length = m.ths.length + 1 := by simp
  have hlt := hp.tl
  refine ⟨⟨pv, own', { L with to_ := o', tc := c' }, ⟨k.ow, ?_, om, hp.hm.cg hp.ow k, ?_, ?_, ?_, by simp [hp.tl], ?_, by rw [hl2]; omega, hp.ou.cg k (by decide), hp.or_.cg k (by decide), ?_, kk_cg hp.kk k⟩, hk.below kb⟩, h.cd.below kb, ho, h.c64, h.bl.trans kb⟩
  · rw [heap_setCell_same w1 C.mb 4 _ 41 _ hmb]
    simp [pmC]
  · have hq := hp.wd.cg k (by decide)
    refine ⟨hq.row, hq.orow, fun i q e => ?_, fun a ha e => ?_, hq.few⟩
    · obtain ⟨q1, q2⟩ := hq.page i q e
      have hi : i < L.pg.length := (List.getElem?_eq_some_iff.1 e).1
      have hfew := hq.few
      refine ⟨q1, ?_⟩
      show _ = some (Obj.cells (pageA mem i) 73 (0, 0))
      rw [pageA_congr (mem := m.mem) (fun k hk => hm1 _ (by omega))]
      exact q2
    · show mem a = 0
      rw [hm1 a (by omega)]
      exact hq.zero a ha e
  · have hrow : w1.ownsRow C.base 44 1 (.slice o' (m.ths ++ [th]).length c') (m.ths ++ [th]).length ((tb ++ [b]).map ptr) := by
      rw [List.map_append, List.length_append]
      exact A.row
    exact ownsRow_same hrow (fun b' hb' _ => Below.heap_setCell _ _ _ _ (fun e => by
      have e3 : b' = C.mb := e
      have := k2 b' (by simpa using hb')
      rw [e3, om] at this
      simp at this))
  · intro b' hb'
    exact k2 b' (by simpa using hb')
  · intro t b' x hx hb'
    have hx' : (m.ths ++ [th])[t]? = some x := hx
    have hg : ∀ s, ¬ (3 * t + 10 + s = 3 ∨ 3 * t + 10 + s = 0) := fun s => by omega
    rcases Nat.lt_or_ge t m.ths.length with hl | hl
    · rw [List.getElem?_append_left hl] at hx'
      rw [List.getElem?_append_left (by omega)] at hb'
      obtain ⟨l', T'⟩ := hp.th t b' x hx' hb'
      have T2 := T'.cg k (hg 0) (hg 1) (hg 2)
      refine ⟨l', T2.blk, T2.otb, ?_, T2.row, T2.orow, T2.cok, T2.at_, T2.fr⟩
      have ee : ∀ a, a < 4194304 → memT mem t a = memT m.mem t a := fun a ha => hm1 _ (by omega)
      refine ⟨T2.pg.row, T2.pg.orow, fun i q e => ?_, fun a ha e => ?_, T2.pg.few⟩
      · obtain ⟨q1, q2⟩ := T2.pg.page i q e
        have hi := (List.getElem?_eq_some_iff.1 e).1
        have hfew := T2.pg.few
        refine ⟨q1, ?_⟩
        show _ = some (Obj.cells (pageA (memT mem t) i) 73 (0, 0))
        rw [pageA_congr (mem := memT m.mem t) (fun k hk => ee _ (by omega))]
        exact q2
      · show memT mem t a = 0
        rw [ee a ha]
        exact T2.pg.zero a ha e
    · have htl : t = m.ths.length := by
        have := (List.getElem?_eq_some_iff.1 hx').1
        simp at this
        omega
      subst htl
      rw [List.getElem?_append_right (Nat.le_refl _), Nat.sub_self] at hx'
      rw [List.getElem?_append_right (by omega), hlt, Nat.sub_self] at hb'
      have e1 : th = x := by simpa using hx'
      have e2 : b = b' := by simpa using hb'
      subst e1 e2
      exact ⟨l, T.cg k (hg 0) (hg 1) (hg 2)⟩
  · intro a ha
    have ha' : (m.ths.length + 2) * 4194304 ≤ a := by
      have h9 : ((m.ths ++ [th]).length + 1) * 4194304 ≤ a := ha
      rw [hl2] at h9
      exact h9
    exact hm2 a ha'
end
end Go.Proofs.Ytpoepbmomfohlaa
namespace Go.Proofs.Ytpoepbmomfohlaa
open Go.RowKit
set_option linter.all false
/-- What a call leaves that throws, and has only read. -/
def Tw (w : World) (k : Int) (e : Ending) (w' : World) : Prop := e = .panicked [{ v := .iface 31 (.int .i64 k), recovered := false }] ∧ Below w.heap.size w w'
/-- What a call gives that only reads, and may make blocks. -/
def Gv (w : World) (v : Value) (e : Ending) (w' : World) : Prop := e = .returned v ∧ Below w.heap.size w w'
theorem Gives.gv {w : World} {v : Value} {e : Ending} {w' : World} (h : Gives w v e w') : Gv w v e w' := ⟨h.1, by
  obtain ⟨-, k, rfl⟩ := h
  exact ⟨rfl, rfl, rfl, Nat.le_refl _, fun _ _ => rfl⟩⟩
theorem stk_succ (t : Nat) : stk ((t : Int) + 1) = stk t + 4194304 := by unfold stk; omega
section
variable {C : Ct} {N N' : Nat} {K : Nat → Obj → Prop} {w w' w1 : World} {ps : List Int} {tb tb' : List Nat} {m m' : Mc} {t b : Nat} {th th' : Th}
set_option maxRecDepth 100000 in
set_option maxHeartbeats 1000000 in
theorem has72 {f k : Int} (c3 : w.cell? ⟨b, 3, none⟩ = some (.int .i64 f)) (lb : b < w.heap.size) (hf0 : 0 ≤ f) (hf1 : f < 4194304) (hk : I64 k) : Calls Try.prog 43 #[ptr b, .int .i64 k] w (Gives w (.bool (decide (0 ≤ k) && decide (k < 4194304 - f)))) := by
  have hw : wrap64 (4194304 - f) = 4194304 - f := by unfold wrap64; omega
  obtain ⟨v, hv⟩ : ∃ v, v = (decide (0 ≤ k) && decide (k < 4194304 - f)) := ⟨_, rfl⟩
  rw [← hv]
  by_cases h0 : 0 ≤ k
  · by_cases h1 : k < 4194304 - f
    · have HE : Hid (v = true) := by show _ = _; rw [hv]; simp [h0, h1]
      clear hv
      go_enter Try.func43, Try.ntmps43
      go_wp2_with fail
      go_ret
      exact ⟨by rw [HE.out]; rfl, 0, rfl⟩
    · have HE : Hid (v = false) := by show _ = _; rw [hv]; simp [h0, h1]
      clear hv
      go_enter Try.func43, Try.ntmps43
      go_wp2_with fail
      go_ret
      exact ⟨by rw [HE.out]; rfl, 0, rfl⟩
  · have HE : Hid (v = false) := by show _ = _; rw [hv]; simp [h0]
    clear hv
    go_enter Try.func43, Try.ntmps43
    go_wp2_with fail
    go_ret
    exact ⟨by rw [HE.out]; rfl, 0, rfl⟩
theorem slotR_true {t : Nat} {fr k y : Int} (h : slotR fr t k = (y, true)) : 0 ≤ k ∧ k < 4194304 - (fr - stk t) ∧ y = fr + k := by
  unfold slotR at h
  rw [stk_succ] at h
  split at h
  · simp at h
  · split at h
    · simp at h
    · simp at h
      omega
theorem slotR_false {t : Nat} {fr k y : Int} (h : slotR fr t k = (y, false)) : (k < 0 ∧ y = 9) ∨ (0 ≤ k ∧ ¬ k < 4194304 - (fr - stk t) ∧ y = 8) := by
  unfold slotR at h
  rw [stk_succ] at h
  split at h
  · simp at h
    exact .inl ⟨by omega, h.symm⟩
  · split at h
    · simp at h
      exact .inr ⟨by omega, by omega, h.symm⟩
    · simp at h
set_option maxRecDepth 100000 in
set_option maxHeartbeats 1000000 in
theorem slot_p (h : PS C N K w ps tb m) (ht : m.ths[t]? = some th) (hb : tb[t]? = some b) {k y : Int} (hk : I64 k) (hy : slotR th.frame t k = (y, true)) : Calls Try.prog 33 #[ptr b, .int .i64 k] w (Gives w (.int .i64 (y - stk t))) := by
  obtain ⟨at_, -, c0, c1, c3, c5, c6, c7, c8, lb, fz, f0, f1⟩ := h.thr ht hb
  obtain ⟨y1, y2, y3⟩ := slotR_true hy
  obtain ⟨z, hz⟩ : ∃ z, z = y - stk t := ⟨_, rfl⟩
  rw [← hz]
  have HY : Hid (z = th.frame - stk t + k) := by show _ = _; omega
  obtain ⟨f, hf⟩ : ∃ f, f = th.frame - stk t := ⟨_, rfl⟩
  rw [← hf] at c3 f0 f1 y2 HY
  have HC := has72 c3 lb f0 f1 hk
  have e1 : (decide (0 ≤ k) && decide (k < 4194304 - f)) = true := by simp [y1, y2]
  rw [e1] at HC
  have hw : wrap64 (f + k) = z := by rw [HY.out]; unfold wrap64; omega
  have hk0 : ¬ k < 0 := by omega
  clear h ht hb hy y3 hz c0 c1 c5 c6 c7 c8 fz e1 y1 y2 hf
  go_enter Try.func33, Try.ntmps33
  go_wp2_with (go_at_call 43; refine HC.mono ?_; rintro e w2 ⟨rfl, j, rfl⟩)
  go_ret
  exact ⟨by rw [← hw]; rfl, j, rfl⟩
set_option maxRecDepth 100000 in
set_option maxHeartbeats 1000000 in
theorem slot_q (h : PS C N K w ps tb m) (ht : m.ths[t]? = some th) (hb : tb[t]? = some b) {k y : Int} (hk : I64 k) (hy : slotR th.frame t k = (y, false)) : Calls Try.prog 33 #[ptr b, .int .i64 k] w (Tw w y) := by
  obtain ⟨at_, -, c0, c1, c3, c5, c6, c7, c8, lb, fz, f0, f1⟩ := h.thr ht hb
  obtain ⟨f, hf⟩ : ∃ f, f = th.frame - stk t := ⟨_, rfl⟩
  rcases slotR_false hy with ⟨y1, rfl⟩ | ⟨y1, y2, rfl⟩
  · clear h ht hb hy c0 c1 c5 c6 c7 c8 fz hf
    go_enter Try.func33, Try.ntmps33
    go_wp2_with fail
    exact ⟨rfl, rfl, Below.refl _ _⟩
  · rw [← hf] at c3 f0 f1 y2
    have HC := has72 c3 lb f0 f1 hk
    have e1 : (decide (0 ≤ k) && decide (k < 4194304 - f)) = false := by simp [y2]
    rw [e1] at HC
    have hk0 : ¬ k < 0 := by omega
    clear h ht hb hy c0 c1 c5 c6 c7 c8 fz e1 y1 y2 hf
    go_enter Try.func33, Try.ntmps33
    go_wp2_with (go_at_call 43; refine HC.mono ?_; rintro e w2 ⟨rfl, j, rfl⟩)
    exact ⟨rfl, rfl, below_dN (Below.refl _ _) j⟩
end
end Go.Proofs.Ytpoepbmomfohlaa
namespace Go.Proofs.Ytpoepbmomfohlaa
open Go.RowKit
set_option linter.all false
section
variable {C : Ct} {N N' : Nat} {K : Nat → Obj → Prop} {w w' w1 : World} {ps : List Int} {tb tb' : List Nat} {m m' : Mc} {t b : Nat} {th th' : Th}
/-- Which word of its stack a slot is. -/
theorem PS.slotN (h : PS C N K w ps tb m) (ht : m.ths[t]? = some th) (hb : tb[t]? = some b) {k y : Int} (hy : slotR th.frame t k = (y, true)) : ∃ z : Nat, y - stk t = (z : Int) ∧ z < 4194304 ∧ y.toNat = (t + 1) * 4194304 + z := by
  obtain ⟨at_, -, c0, c1, c3, c5, c6, c7, c8, lb, fz, f0, f1⟩ := h.thr ht hb
  obtain ⟨y1, y2, y3⟩ := slotR_true hy
  refine ⟨(y - stk t).toNat, by omega, by omega, ?_⟩
  unfold stk at *
  omega
theorem wrap_id {x : Int} (h1 : -9223372036854775808 ≤ x) (h2 : x ≤ 9223372036854775807) : wrap64 x = x := by unfold wrap64; omega
theorem bel_drew {w w' : World} (h : Below w.drew.heap.size w.drew w') : Below w.heap.size w w' := ⟨h.os, h.tape, h.output, h.size, h.block⟩
/-- How a run ends. -/
abbrev thr (k : Int) : Ending := .panicked [{ v := .iface 31 (.int .i64 k), recovered := false }]
/-- A slot: which word it is, or the run ends. -/
def SlC (C : Ct) (N : Nat) (K : Nat → Obj → Prop) (ps : List Int) (tb : List Nat) (m : Mc) (t : Nat) (th : Th) (k : Int) (f : Int → Nat → Value) (e : Ending) (w' : World) : Prop := (∃ (y : Int) (z : Nat), Hid (slotR th.frame t k = (y, true) ∧ y - stk t = (z : Int) ∧ z < 4194304 ∧ y.toNat = (t + 1) * 4194304 + z) ∧ e = .returned (f y z) ∧ PS C N K w' ps tb m) ∨ (∃ y : Int, Hid (slotR th.frame t k = (y, false)) ∧ e = thr y ∧ PS C N K w' ps tb m)
theorem slot_c (h : PS C N K w ps tb m) (ht : m.ths[t]? = some th) (hb : tb[t]? = some b) {k : Int} (hk : I64 k) : Calls Try.prog 33 #[ptr b, .int .i64 k] w (SlC C N K ps tb m t th k (fun _ z => .int .i64 z)) := by
  rcases slot_cases th.frame t k with ⟨y, hy⟩ | ⟨y, hy⟩
  · obtain ⟨z, hz, hz1, hz2⟩ := h.slotN ht hb hy
    refine (slot_p h ht hb hk hy).mono ?_
    rintro e w' ⟨rfl, j, rfl⟩
    exact .inl ⟨y, z, ⟨hy, hz, hz1, hz2⟩, by rw [hz], h.drewN j⟩
  · refine (slot_q h ht hb hk hy).mono ?_
    rintro e w' ⟨rfl, hb2⟩
    exact .inr ⟨y, hy, rfl, h.below hb2⟩
set_option maxRecDepth 100000 in
set_option maxHeartbeats 1000000 in
theorem read_c (h : PS C N K w ps tb m) (ht : m.ths[t]? = some th) (hb : tb[t]? = some b) {k : Int} (hk : I64 k) : Calls Try.prog 23 #[ptr b, .int .i64 k] w (SlC C N K ps tb m t th k (fun y _ => .int .i64 (m.mem y.toNat))) := by
  have R1 : Hid (Calls Try.prog 33 #[ptr b, .int .i64 k] w.drew (SlC C N K ps tb m t th k (fun _ z => .int .i64 z))) := slot_c h.drew ht hb hk
  have HTB : Hid (m.ths[t]? = some th ∧ tb[t]? = some b) := ⟨ht, hb⟩
  clear h ht hb
  go_enter Try.func23, Try.ntmps23
  go_upto_region 1 with fail
  go_region_with (first | (go_at_call 34; refine (h2.getT HTB.out.1 HTB.out.2 z hz.out.2.2.1).mono ?_; rintro e w3 ⟨rfl, j, rfl⟩; have h3 := h2.drewN j; generalize w2.drewN j = w3 at h3 ⊢) | (go_at_call 33; refine R1.out.mono ?_; rintro e w2 (⟨y, z, hz, rfl, h2⟩ | ⟨y, hy, rfl, h2⟩); rotate_left; exact ⟨rfl, .inr ⟨y, hy, rfl, h2⟩⟩))
  all_goals
    go_wp2_with fail
    go_ret
    exact .inl ⟨y, z, hz, by show _ = Ending.returned (.int .i64 (m.mem y.toNat)); rw [hz.out.2.2.2]; rfl, h3⟩
end
end Go.Proofs.Ytpoepbmomfohlaa
namespace Go.Proofs.Ytpoepbmomfohlaa
open Go.RowKit
set_option linter.all false
section
variable {C : Ct} {N N' : Nat} {K : Nat → Obj → Prop} {w w' w1 : World} {ps : List Int} {tb tb' : List Nat} {m m' : Mc} {t b : Nat} {th th' : Th}
set_option maxRecDepth 100000 in
set_option maxHeartbeats 1000000 in
theorem write_c (h : PS C N K w ps tb m) (ht : m.ths[t]? = some th) (hb : tb[t]? = some b) {k n : Int} (hk : I64 k) (hn : I64 n) : Calls Try.prog 22 #[ptr b, .int .i64 k, .int .i64 n] w (fun e w' => (∃ y : Int, Hid (slotR th.frame t k = (y, true)) ∧ e = .returned (.tuple #[]) ∧ PS C N K w' ps tb { m with mem := upd m.mem y.toNat n }) ∨ (∃ y : Int, Hid (slotR th.frame t k = (y, false)) ∧ e = thr y ∧ PS C N K w' ps tb m)) := by
  have R1 : Hid (Calls Try.prog 33 #[ptr b, .int .i64 k] w.drew (SlC C N K ps tb m t th k (fun _ z => .int .i64 z))) := slot_c h.drew ht hb hk
  have HTB : Hid (m.ths[t]? = some th ∧ tb[t]? = some b ∧ I64 n) := ⟨ht, hb, hn⟩
  clear h ht hb hn
  go_enter Try.func22, Try.ntmps22
  go_upto_region 0 with fail
  go_region_with (first | (go_at_call 17; refine (h2.setT HTB.out.1 HTB.out.2.1 z hz.out.2.2.1 HTB.out.2.2).mono ?_; rintro e w3 ⟨rfl, h3⟩) | (go_at_call 33; refine R1.out.mono ?_; rintro e w2 (⟨y, z, hz, rfl, h2⟩ | ⟨y, hy, rfl, h2⟩); rotate_left; exact ⟨rfl, .inr ⟨y, hy, rfl, h2⟩⟩))
  all_goals
    go_wp2_with fail
    go_end0
    exact .inl ⟨y, hz.out.1, rfl, by rw [hz.out.2.2.2]; exact h3⟩
end
end Go.Proofs.Ytpoepbmomfohlaa
