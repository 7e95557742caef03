/- For every text: 'lexer.Tokens' answers the tokens, or the fault and its place, that the document's own answer gives (LexTokens), on the tied card. -/
import Derived.Test.YtfelokbicifclaaDoorWordsProof
import Derived.Test.YtfelokbicifclaaDoorLaw3
namespace Go.Proofs.YtfelokbicifclaaDoor
open Go.ChangeShapes Go.WideShapes Go.ChangeAt Go.WideMaps Go.WideElems Go.RowKit
open Go.ChangeMaps (open_string shut_string)

theorem gSigns : Tryd.prog.globalNamed "holdfast/lexer.signs" = some 0 := by kernel_rfl
theorem tSigns : (Tryd.prog.globals[0]?).map (·.type) = some 38 := by kernel_rfl
theorem cells38 : Tryd.prog.cellsOf 38 = 30 := by kernel_rfl
theorem gRange : Tryd.prog.globalNamed "strconv.ErrRange" = some 4 := by kernel_rfl
theorem tRange : (Tryd.prog.globals[4]?).map (·.type) = some 49 := by kernel_rfl
theorem signs_datum : (Rows.laid_holdfast_lexer_signs : DataW Unit) = .agg (signsB.map fun b => .lit (.string b.data.toList)) := by kernel_rfl

/-- What the listed variables give the walks. -/
theorem globals_of_laid {W : World} (h : laidMetH Tryd.prog Rows.lexTokensRow.laid W) : Globals W ∧ ∃ tt fr, W.heap[0]? = some (.cells signsC tt fr) := by
  rw [MakeChecks.laidMetH_plain _ _ _ (by kernel_rfl)] at h
  obtain ⟨ps, ⟨g0, t0, cs0, f0, p0, q0, hg0, ht0, hv0, hd0, ⟨g1, t1, cs1, f1, p1, q1, hg1, ht1, hv1, hd1, ⟨g2, t2, cs2, f2, p2, q2, hg2, ht2, hv2, hd2, ⟨g3, t3, cs3, f3, p3, q3, hg3, ht3, hv3, hd3, ⟨g4, t4, cs4, f4, p4, q4, hg4, ht4, hv4, hd4, ⟨g5, t5, cs5, f5, p5, q5, hg5, ht5, hv5, hd5, ⟨g6, t6, cs6, f6, p6, q6, hg6, ht6, hv6, hd6, _, _⟩, _⟩, _⟩, _⟩, _⟩, _⟩, _⟩, _, _⟩ := h
  obtain rfl := Option.some.inj (gRange.symm.trans hg3)
  obtain rfl := Option.some.inj (tRange.symm.trans ht3)
  obtain rfl := Option.some.inj (gWords.symm.trans hg5)
  obtain rfl := Option.some.inj (tWords.symm.trans ht5)
  obtain rfl := Option.some.inj (gSigns.symm.trans hg6)
  obtain rfl := Option.some.inj (tSigns.symm.trans ht6)
  rw [words_datum] at hd5
  rw [signs_datum] at hd6
  have hw := cells_of_strs Tryd.underlying41 Tryd.underlying9 cells9 cells41 hd5
  have hs := cells_of_strs Tryd.underlying38 Tryd.underlying9 cells9 cells38 hd6
  have ew : cs5 = wordsC := Array.toList_inj.1 (by rw [hw]; rfl)
  have es : cs6 = signsC := Array.toList_inj.1 (by rw [hs]; rfl)
  obtain ⟨tt, fr, hh5⟩ := heap_of_var hg5 hv5
  obtain ⟨tt', fr', hh6⟩ := heap_of_var hg6 hv6
  obtain ⟨_, u, v, hcs, _, _⟩ := iface_of_trod Tryd.underlying49 hd3
  have hc := World.var?_cell hg3 hv3 0
  have e3 : cs3 = #[.iface u v] := by cases cs3; simp at hcs; rw [hcs]
  rw [e3] at hc
  obtain ⟨t3, fr3, hh3⟩ := heap_of_var hg3 hv3
  refine ⟨⟨⟨tt, fr, by rw [hh5, ew]⟩, ⟨.iface u v, by simpa using hc, .inr ⟨u, v, rfl⟩⟩, (Array.getElem?_eq_some_iff.1 hh3).1⟩, tt', fr', by rw [hh6, es]⟩

theorem door_met_tokens (os : Os) (args : Array Value) : laidMetH Tryd.prog Rows.lexTokensRow.laid ((World.doorLaid Tryd.prog 400 os).forCall (fun _ _ => 0) ⟨#[], args, []⟩).memory :=
  laidMetH_of_parts3 (fuel := 8) (laidMet_of_run' 8 (by kernel_rfl) (by kernel_rfl)) (by kernel_rfl) (by kernel_rfl)

set_option maxRecDepth 100000 in
theorem lexTokens_lifted (os : Os) (started : os.Started) (H : Type) (enc : TypeId × Value → H) :
    ReturnsInHanded {} Tryd.checked os 3 .any (fun w args => (Rows.lexTokensSpec.pre enc Tryd.prog Tryd.f3 [] false w args ∧ laidMetH Tryd.prog Rows.lexTokensRow.laid w) ∧ sizedMet enc Tryd.prog Tryd.f3 (OpenSpec.ofChange Rows.lexTokensSpec) false w args)
      (Rows.lexTokensSpec.post enc Tryd.prog Tryd.f3 false true false false) := by
  refine returnsInHanded_of_change_and (C := Tryd.checked) (X := fun w _ => laidMetH Tryd.prog Rows.lexTokensRow.laid w) (fun _ _ _ hh h => h.of_heap hh) ownTryd started (by kernel_rfl) Tryd.func3
    (ChangeSpec.witness_shaped (enc := enc) (C := Tryd.checked) (os := os) (X := fun w _ => laidMetH Tryd.prog Rows.lexTokensRow.laid w) false (World.doorLaid Tryd.prog 400 os) #[.string ⟨#[]⟩] 8 rfl (World.shaped_of_RefB (by kernel_rfl) (by kernel_rfl)) (by kernel_rfl) (by kernel_rfl) (by kernel_rfl) (door_met_tokens os _)) ?_
  intro W base args ds gs before hval0 hW _ _ hL _
  have hval : ∀ (j : Nat) t v, Tryd.f3.params[j]? = some t → args[j]? = some v → Value.okWide Tryd.prog W .any base t v := hval0
  have hW' := hW
  obtain ⟨p, q, hA0, hV, rfl, hfz, hnd⟩ := hW
  have hA : DataW.TrodAll enc Tryd.prog W 0 (fun _ => true) true Tryd.f3.params.toList args.toList ds p := hA0
  rw [Tryd.params3] at hA hval
  obtain ⟨v0, d0, rfl, rfl, h0⟩ := trodAll_one hA
  obtain ⟨rfl, rfl⟩ := trodVars_none hV
  obtain ⟨s, rfl, rfl, rfl, hs⟩ := open_string Tryd.underlying9 (hval 0 9 v0 rfl rfl) h0
  obtain ⟨hG, tt, fr, hg⟩ := globals_of_laid hL
  clear hA0 hval0
  simp only [List.append_nil] at hW'
  have e1 : Rows.lexTokensSpec.fn H ([.lit (.string s.data.toList)] ++ []) = { results := [.lit (.bool true)], args := [.lit (.string s.data.toList)] } := by simp [Rows.lexTokensSpec]
  refine (law3 s W hs hG tt fr hg).mono fun e W' ⟨he, hb⟩ => ?_
  subst he
  refine ⟨_, rfl, _, _, _, [], [], [], hW', ?_, ?_, ?_, hb.frame _, fun h => by cases h⟩
  · rw [e1]; exact trodAll_mk1 (shut_bool Tryd.underlying4 true)
  · rw [e1]; exact trodAll_mk1 (shut_string Tryd.underlying9 hs)
  · rw [e1]; rfl

theorem lexTokens_holds : Rows.LexTokensSaid :=
  OpenClaim.holds_of_wide 3 Tryd.f3 rfl rfl rfl rfl rfl rfl rfl ⟨rfl, rfl, rfl, rfl, rfl⟩ rfl rfl rfl rfl rfl (by kernel_rfl) Tryd.func3 (by kernel_rfl)
    (of_decide_eq_true (by kernel_rfl)) (by unfold Func.isWrapper; rw [if_neg (of_decide_eq_false (by kernel_rfl))]; exact ⟨rfl, rfl⟩)
    (fun os started H enc _ => lexTokens_lifted os started H enc)

theorem lexTokens_card_holds : Rows.LexTokensCardSaid :=
  Claim7.holds_tied_plain_at .later [] [.data, .data, .data, .sentinel, .sentinel, .data, .data] true (true, "93d4baf787dac56b689851183c544a6128acdd3cedc15f9d1cc74b7988d98f41") true
    lexTokens_holds (fun _ h => by cases h) (by kernel_rfl) (fun _ h => by cases h) lexTokens_row_tie rfl ⟨rfl, rfl⟩ (by kernel_rfl) rfl
    (fun f fn hf hfn => by
      obtain rfl : f = 3 := Option.some.inj ((show Tryd.prog.funcNamed "holdfast/holdfastlaw.LexTokens" = some 3 by kernel_rfl).symm.trans hf) |>.symm
      obtain rfl : fn = Tryd.f3 := (Option.some.inj (Tryd.func3.symm.trans hfn)).symm
      exact ⟨by kernel_rfl, fun j t ht => by
        rw [Tryd.params3] at ht
        have h9 : t = 9 := by
          rcases j with _ | j
          · simpa using ht.symm
          · simp at ht
        subst h9
        exact (show Tryd.prog.wantsStandIn 9 = false by kernel_rfl)⟩)
    (by kernel_rfl)
#print axioms lexTokens_card_holds
end Go.Proofs.YtfelokbicifclaaDoor
