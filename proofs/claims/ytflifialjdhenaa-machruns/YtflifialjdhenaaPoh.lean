/- x -/
import Derived.Test.YtflifialjdhenaaPog
import Derived.Test.YtflifialjdhenaaMdh
namespace Go.Proofs.Ytflifialjdhenaa
open Go.RowKit
set_option linter.all false
section
variable {base mb : Nat} {co : Option Addr} {cc : Nat} {code : List Mi} {N ib : Nat} {x : Mi} {w w' : World} {L L' : Ly} {m m' : Mc} {t : Nat} {th th' : Th}
theorem pt_s (h : MS base mb co cc code N w L m) (a : Nat) (ha : a < 61000000) {n : Int} (hn : I64 n) : Calls Try.prog 13 #[.pointer (some ⟨mb, 0, none⟩), .int .i64 a, .int .i64 n] w (fun e w' => e = .returned (.tuple #[]) ∧ ∃ L', MS base mb co cc code N w' L' { m with mem := upd m.mem a n } ∧ Kf L L' w w') := by
  refine (put18 h.mr a ha n).mono ?_
  rintro e w' ⟨rfl, L', hm, kf⟩
  exact ⟨rfl, L', h.next hm kf (h.ok.mem' hn a), kf⟩
set_option maxRecDepth 100000 in
set_option maxHeartbeats 1000000 in
theorem run6 {po : Option Addr} {pl pc : Nat} {picks : List Int} {arg fuel : Int} (harg : I64 arg) (hf3 : fuel ≤ 100000) (cd : CD w w.heap.size co code) (c64 : ∀ x ∈ code, x.ok) (pk : PK w w.heap.size (.slice po pl pc) picks) : Calls Try.prog 6 #[.slice co code.length cc, .int .i64 arg, .int .i64 fuel, .slice po pl pc] w (RunP w (runM code picks fuel ((max fuel 0).toNat + 1) 0 (Mc.init arg))) := by
  have BA := al1 w (.cells #[.int .i64 0, .int .i64 0, .int .i64 0, .int .i64 0, .slice none 0 0, .slice none 0 0, .int .i64 0, .int .i64 0] 26)
  have hz : (w.alloc (.cells #[.int .i64 0, .int .i64 0, .int .i64 0, .int .i64 0, .slice none 0 0, .slice none 0 0, .int .i64 0, .int .i64 0] 26)).heap.size = w.heap.size + 1 := by simp
  obtain ⟨L0, MR0, hL0⟩ := MR.init (w.alloc (.cells #[.int .i64 0, .int .i64 0, .int .i64 0, .int .i64 0, .slice none 0 0, .slice none 0 0, .int .i64 0, .int .i64 0] 26)) (.slice co code.length cc)
  have hb3 := (al3 (w.alloc (.cells #[.int .i64 0, .int .i64 0, .int .i64 0, .int .i64 0, .slice none 0 0, .slice none 0 0, .int .i64 0, .int .i64 0] 26)) (.cells #[.int .i64 4194303, .slice none 0 0] 68) (.cells (thN 0 4194304) 41) (.cells (mcI (.slice co code.length cc) (w.alloc (.cells #[.int .i64 0, .int .i64 0, .int .i64 0, .int .i64 0, .slice none 0 0, .slice none 0 0, .int .i64 0, .int .i64 0] 26)).heap.size) 45)).1
  rw [hz] at hb3 MR0 hL0
  have hf4 : fuel < 4000000 := by omega
  have HFX : Hid ((max fuel 0).toNat ≤ 100000) := by show _ ≤ _; omega
  have ST : Hid (∀ W : World, Calls Try.prog 12 #[.int .i64 0] W (fun e w' => e = .returned (.int .i64 4194304) ∧ w' = W)) := fun W => stack17 0 (by decide) (by decide)
  replace MR0 : MR ((((w.alloc (.cells #[.int .i64 0, .int .i64 0, .int .i64 0, .int .i64 0, .slice none 0 0, .slice none 0 0, .int .i64 0, .int .i64 0] 26)).alloc (.cells #[.int .i64 4194303, .slice none 0 0] 68)).alloc (.cells #[.int .i64 0, .int .i64 4194304, .slice none 0 0, .bool false, .bool false, .bool false] 41)).alloc (.cells #[.slice co code.length cc, .slice none 0 0, .pointer (some ⟨w.heap.size + 1, 0, none⟩), .slice (some ⟨w.heap.size + 1 + 1, 0, none⟩) 1 1, .bool false, .int .i64 0, .int .i64 0, .int .i64 0, .int .i64 0, .slice none 0 0, .slice none 0 0, .int .i64 0, .int .i64 0] 45)) (w.heap.size + 1) (w.heap.size + 1 + 1 + 1) (.slice co code.length cc) L0 Mc.zero := MR0
  replace hb3 : Below (w.heap.size + 1) (w.alloc (.cells #[.int .i64 0, .int .i64 0, .int .i64 0, .int .i64 0, .slice none 0 0, .slice none 0 0, .int .i64 0, .int .i64 0] 26)) ((((w.alloc (.cells #[.int .i64 0, .int .i64 0, .int .i64 0, .int .i64 0, .slice none 0 0, .slice none 0 0, .int .i64 0, .int .i64 0] 26)).alloc (.cells #[.int .i64 4194303, .slice none 0 0] 68)).alloc (.cells #[.int .i64 0, .int .i64 4194304, .slice none 0 0, .bool false, .bool false, .bool false] 41)).alloc (.cells #[.slice co code.length cc, .slice none 0 0, .pointer (some ⟨w.heap.size + 1, 0, none⟩), .slice (some ⟨w.heap.size + 1 + 1, 0, none⟩) 1 1, .bool false, .int .i64 0, .int .i64 0, .int .i64 0, .int .i64 0, .slice none 0 0, .slice none 0 0, .int .i64 0, .int .i64 0] 45)) := hb3
  have M0 : Hid (MS (w.heap.size + 1) (w.heap.size + 1 + 1 + 1) co cc code 0 ((((w.alloc (.cells #[.int .i64 0, .int .i64 0, .int .i64 0, .int .i64 0, .slice none 0 0, .slice none 0 0, .int .i64 0, .int .i64 0] 26)).alloc (.cells #[.int .i64 4194303, .slice none 0 0] 68)).alloc (.cells #[.int .i64 0, .int .i64 4194304, .slice none 0 0, .bool false, .bool false, .bool false] 41)).alloc (.cells #[.slice co code.length cc, .slice none 0 0, .pointer (some ⟨w.heap.size + 1, 0, none⟩), .slice (some ⟨w.heap.size + 1 + 1, 0, none⟩) 1 1, .bool false, .int .i64 0, .int .i64 0, .int .i64 0, .int .i64 0, .slice none 0 0, .slice none 0 0, .int .i64 0, .int .i64 0] 45)) L0 Mc.zero) := ⟨MR0, (cd.up BA.1 (Nat.le_succ _)).below hb3, OKM.init, c64⟩
  have PK1 : Hid (PK ((((w.alloc (.cells #[.int .i64 0, .int .i64 0, .int .i64 0, .int .i64 0, .slice none 0 0, .slice none 0 0, .int .i64 0, .int .i64 0] 26)).alloc (.cells #[.int .i64 4194303, .slice none 0 0] 68)).alloc (.cells #[.int .i64 0, .int .i64 4194304, .slice none 0 0, .bool false, .bool false, .bool false] 41)).alloc (.cells #[.slice co code.length cc, .slice none 0 0, .pointer (some ⟨w.heap.size + 1, 0, none⟩), .slice (some ⟨w.heap.size + 1 + 1, 0, none⟩) 1 1, .bool false, .int .i64 0, .int .i64 0, .int .i64 0, .int .i64 0, .slice none 0 0, .slice none 0 0, .int .i64 0, .int .i64 0] 45)) (w.heap.size + 1) (.slice po pl pc) picks) := (pk.up BA.1 (Nat.le_succ _)).below hb3
  have HB0 : Hid (Below w.heap.size w ((((w.alloc (.cells #[.int .i64 0, .int .i64 0, .int .i64 0, .int .i64 0, .slice none 0 0, .slice none 0 0, .int .i64 0, .int .i64 0] 26)).alloc (.cells #[.int .i64 4194303, .slice none 0 0] 68)).alloc (.cells #[.int .i64 0, .int .i64 4194304, .slice none 0 0, .bool false, .bool false, .bool false] 41)).alloc (.cells #[.slice co code.length cc, .slice none 0 0, .pointer (some ⟨w.heap.size + 1, 0, none⟩), .slice (some ⟨w.heap.size + 1 + 1, 0, none⟩) 1 1, .bool false, .int .i64 0, .int .i64 0, .int .i64 0, .int .i64 0, .slice none 0 0, .slice none 0 0, .int .i64 0, .int .i64 0] 45)) ∧ ((((w.alloc (.cells #[.int .i64 0, .int .i64 0, .int .i64 0, .int .i64 0, .slice none 0 0, .slice none 0 0, .int .i64 0, .int .i64 0] 26)).alloc (.cells #[.int .i64 4194303, .slice none 0 0] 68)).alloc (.cells #[.int .i64 0, .int .i64 4194304, .slice none 0 0, .bool false, .bool false, .bool false] 41)).alloc (.cells #[.slice co code.length cc, .slice none 0 0, .pointer (some ⟨w.heap.size + 1, 0, none⟩), .slice (some ⟨w.heap.size + 1 + 1, 0, none⟩) 1 1, .bool false, .int .i64 0, .int .i64 0, .int .i64 0, .int .i64 0, .slice none 0 0, .slice none 0 0, .int .i64 0, .int .i64 0] 45)).heap[w.heap.size]? = some (.cells #[.int .i64 0, .int .i64 0, .int .i64 0, .int .i64 0, .slice none 0 0, .slice none 0 0, .int .i64 0, .int .i64 0] 26 (0, 0)) ∧ ∀ b, b < w.heap.size + 1 → L0.own b = none) := ⟨BA.1.trans (hb3.mono (Nat.le_succ _)), (hb3.block w.heap.size (Nat.lt_succ_self _)).trans BA.2, hL0⟩
  have HA : Hid (I64 arg) := harg
  clear MR0 hb3 BA hz hL0 cd c64 pk harg
  go_enter Try.func6, Try.ntmps6
  go_upto_region 2 with (first | (go_at_call 12; refine (ST.out _).mono ?_; rintro e wx ⟨rfl, hwx⟩; replace hwx := hwx.symm; subst hwx) | (go_at_call 11; refine new16.mono ?_; rintro e wy ⟨rfl, rfl⟩))
  generalize ((((w.alloc (.cells #[.int .i64 0, .int .i64 0, .int .i64 0, .int .i64 0, .slice none 0 0, .slice none 0 0, .int .i64 0, .int .i64 0] 26)).alloc (.cells #[.int .i64 4194303, .slice none 0 0] 68)).alloc (.cells #[.int .i64 0, .int .i64 4194304, .slice none 0 0, .bool false, .bool false, .bool false] 41)).alloc (.cells #[.slice co code.length cc, .slice none 0 0, .pointer (some ⟨w.heap.size + 1, 0, none⟩), .slice (some ⟨w.heap.size + 1 + 1, 0, none⟩) 1 1, .bool false, .int .i64 0, .int .i64 0, .int .i64 0, .int .i64 0, .slice none 0 0, .slice none 0 0, .int .i64 0, .int .i64 0] 45)) = W4 at *
  obtain ⟨mb, hmb⟩ : ∃ mb, mb = w.heap.size + 1 + 1 + 1 := ⟨_, rfl⟩
  rw [← hmb] at M0 ⊢
  obtain ⟨base, hbase⟩ : ∃ base, base = w.heap.size + 1 := ⟨_, rfl⟩
  rw [← hbase] at M0 PK1 HB0
  obtain ⟨ib, hib⟩ : ∃ ib, ib = w.heap.size := ⟨_, rfl⟩
  rw [← hib]
  have HIB : Hid (ib = w.heap.size ∧ base = w.heap.size + 1) := ⟨hib, hbase⟩
  have HB1 : Hid (W4.heap[ib]? = some (.cells #[.int .i64 0, .int .i64 0, .int .i64 0, .int .i64 0, .slice none 0 0, .slice none 0 0, .int .i64 0, .int .i64 0] 26 (0, 0))) := by rw [hib]; exact HB0.out.2.1
  clear hmb hbase hib
  have PT := pt_s M0.out 4194304 (by decide) HA.out
  go_wp2_with (first | (go_at_call 13; refine PT.mono ?_; rintro e w1 ⟨rfl, L1, M1, K1⟩) | (go_at_call 12; refine (ST.out _).mono ?_; rintro e wx ⟨rfl, hwx⟩; replace hwx := hwx.symm; subst hwx))
  have HE1 : Hid (Below base W4 w1) := Kf.below M0.out.mr K1
  have HPK : Hid (∀ (k : Nat) {W : World}, Below base W4 W → (k < picks.length → ∃ q f, po = some ⟨q, f, none⟩ ∧ q < W.heap.size ∧ W.cell? ⟨q, f + k, none⟩ = some (.int .i64 ((picks[k]?).getD 0)))) := fun k {W} hW hk => by
    obtain ⟨o, c, e, h1, h2, h3⟩ := (PK1.out.below hW).ex
    obtain ⟨-, q, f, e1, hq, hc⟩ := h3 k picks[k] (List.getElem?_eq_getElem hk)
    have e2 : po = o := by injection e
    refine ⟨q, f, e2.trans e1, Nat.lt_of_lt_of_le hq ?_, ?_⟩
    · have h5 := M0.out.mr.hbase
      have h6 := M0.out.mr.lt
      have h7 := hW.size
      omega
    · rw [List.getElem?_eq_getElem hk]
      exact hc
  have HPL : Hid (pl = picks.length) := by
    obtain ⟨o, c, e, h1, h2, h3⟩ := PK1.out.ex
    show pl = _
    injection e
  go_loopg [11] ((max fuel 0).toNat + 1) (fun gg uk wr => ∃ (L1 : Ly) (m1 : Mc) (k s : Nat), gg = (max fuel 0).toNat + 1 - s ∧ uk = .int .i64 (k : Int) ∧ Hid (k ≤ s) ∧ Hid (m1.steps = (s : Int)) ∧ Hid (s ≤ (max fuel 0).toNat) ∧ Hid (runM code picks fuel ((max fuel 0).toNat + 1) 0 (Mc.init arg) = runM code picks fuel gg k m1) ∧ Hid (MS base mb co cc code (2 * s) wr L1 m1) ∧ Hid (Below base W4 wr))
  case atStart => exact ⟨L1, Mc.init arg, 0, 0, rfl, rfl, Nat.le_refl _, rfl, Nat.zero_le _, rfl, M1, HE1.out⟩
  case round =>
    obtain ⟨L2, m1, k, s, hgk, rfl, HKS, HMS, HSF, HR, HM, HBW⟩ := hrel
    have HG : Hid (gk = (max fuel 0).toNat + 1 - s) := hgk
    clear hgk
    have GO := going19 HM.out.mr
    obtain ⟨n, hn⟩ : ∃ n, gk = n + 1 := ⟨(max fuel 0).toNat - s, by rw [HG.out]; have := HSF.out; omega⟩
    have HN1 : Hid (gk = n + 1) := hn
    clear hn
    have HFM : Hid ((max fuel 0).toNat ≤ 100000) := HFX.out
    have hkB : (k : Int) ≤ 100000 := by have := HKS.out; have := HSF.out; have := HFM.out; omega
    have hk0 : (0 : Int) ≤ (k : Int) := by omega
    have hwk : wrap64 ((k : Int) + 1) = (k : Int) + 1 := wrap_id (by omega) (by omega)
    by_cases h0 : m1.how = 0
    · have GO2 : Hid (Calls Try.prog 14 #[.pointer (some ⟨mb, 0, none⟩)] wr (fun e w' => e = .returned (.bool true) ∧ w' = wr)) := by
        have e : (m1.how == 0) = true := by simpa using h0
        rw [e] at GO
        exact GO
      have H0 : Hid (m1.how = 0) := h0
      clear GO h0
      have AL0 := alone20 HM.out
      rcases alone_spec m1 code m1.ths 0 with ⟨ha, -⟩ | ⟨t, th, ha, ht, -⟩
      · have AL : Hid (Calls Try.prog 15 #[.pointer (some ⟨mb, 0, none⟩)] wr (fun e w' => e = .returned (.int .i64 (-1)) ∧ Below wr.heap.size wr w')) := by rw [ha] at AL0; exact AL0
        have HAL : Hid (aloneI m1 code 0 m1.ths = -1) := ha
        clear AL0 ha
        obtain ⟨pk, hpk⟩ : ∃ pk, pk = (picks[k]?).getD 0 := ⟨_, rfl⟩
        have HPKV : Hid (pk = (picks[k]?).getD 0) := hpk
        have HPB : Hid (∀ {W : World}, Below wr.heap.size wr W → Below base W4 W) := fun {W} hW => HBW.out.trans (Kf.below HM.out.mr (HM.out.below hW).2)
        by_cases hkp : k < picks.length
        · have hkl : (k : Int) < (pl : Int) := by rw [HPL.out]; omega
          obtain ⟨q, f, epo, -, -⟩ := HPK.out k HBW.out hkp
          have HPQ : Hid (∀ {W : World}, Below wr.heap.size wr W → q < W.heap.size ∧ W.cell? ⟨q, f + k, none⟩ = some (.int .i64 pk)) := fun {W} hW => by
            obtain ⟨q', f', e', h1, h2⟩ := HPK.out k (HPB.out hW) hkp
            rw [epo] at e'
            simp at e'
            obtain ⟨rfl, rfl⟩ := e'
            rw [hpk]
            exact ⟨h1, h2⟩
          clear hpk
          subst epo
          rcases choose_spec m1 code pk m1.ths 0 (-1) with hc | ⟨t, th, hc, ht, -⟩
          · have CH : Hid (∀ {W : World}, Below wr.heap.size wr W → Calls Try.prog 16 #[.pointer (some ⟨mb, 0, none⟩), .int .i64 pk] W (fun e w' => e = .returned (.int .i64 (-1)) ∧ Below W.heap.size W w')) := fun {W} hW => by
              have := choose21 (HM.out.below hW).1 pk
              rw [hc] at this
              exact this
            have HEE : Hid (runM code picks fuel ((max fuel 0).toNat + 1) 0 (Mc.init arg) = m1.finM) := by show _ = _; rw [HR.out, HN1.out]; exact run_end H0.out HAL.out (by rw [← HPKV.out, hc]; decide)
            clear hc
            go_upto_region 14 with (first | (go_at_call 16; refine (CH.out hb2).mono ?_; rintro e w3 ⟨rfl, hb3⟩) | (go_at_call 15; refine AL.out.mono ?_; rintro e w2 ⟨rfl, hb2⟩; obtain ⟨lq, cq⟩ := HPQ.out hb2) | (go_at_call 14; refine GO2.out.mono ?_; rintro e wx ⟨rfl, hwx⟩; replace hwx := hwx.symm; subst hwx))
            have hb23 : Below wr.heap.size wr w3 := hb2.trans (hb3.mono hb2.size)
            have MZ : Hid (MS base mb co cc code (2 * s) w3 L2 m1 ∧ Below base W4 w3) := ⟨(HM.out.below hb23).1, HPB.out hb23⟩
            have FI := finish22 MZ.out.1
            go_upto_region 17 with (go_at_call 17; refine FI.mono ?_; rintro e w5 ⟨rfl, L5, M5, K5⟩)
            obtain ⟨mf, hmf⟩ : ∃ mf, mf = m1.finM := ⟨_, rfl⟩
            rw [← hmf] at M5 HEE
            clear hmf
            have HFF : Hid _ := M5
            have HBF : Hid _ := (MZ.out.2.trans (Kf.below MZ.out.1.mr K5))
            have HEF : Hid (runM code picks fuel ((max fuel 0).toNat + 1) 0 (Mc.init arg) = mf) := HEE.out
            have cF := fun o => cell_of_row w5 mb o _ 45 (0, 0) HFF.out.mr.blk
            have d5 := cF 5
            have d6 := cF 6
            have d7 := cF 7
            have d8 := cF 8
            have d9 := cF 9
            have d10 := cF 10
            have d11 := cF 11
            have d12 := cF 12
            simp at d5 d6 d7 d8 d9 d10 d11 d12
            clear cF
            have lF := HFF.out.mr.lt
            have bF := (HBF.out.block ib (by rw [HIB.out.1, HIB.out.2]; exact Nat.lt_succ_self _)).trans HB1.out
            have i0 := fun o => cell_of_row w5 ib o _ 26 (0, 0) bF
            have j0 := fun o => frozen_of_row w5 ib o _ 26 bF
            have li := (Array.getElem?_eq_some_iff.1 bF).1
            have HBFb : Hid _ := bF
            clear bF
            go_wp2_with fail
            have hlt : ib < base := by rw [HIB.out.1, HIB.out.2]; exact Nat.lt_succ_self _
            have hbl : Below w.heap.size w w5 := HB0.out.1.trans (HBF.out.mono (by rw [HIB.out.2]; exact Nat.le_succ _))
            have BL := bel8 hbl (by rw [HIB.out.1]; exact Nat.le_refl _ : w.heap.size ≤ ib) (.int .i64 mf.how) (.int .i64 0) (.int .i64 mf.value) (.int .i64 mf.steps) (.slice L5.oo mf.outs.length L5.oc) (.slice L5.ro_ mf.order.length L5.rc) (.int .i64 mf.left) (.int .i64 0)
            refine bodyPost_ret (res26 Try.results6 rfl (set8 HBFb.out)) rfl ?_
            rw [HEF.out]
            refine ⟨L5.oo, L5.oc, L5.ro_, L5.rc, rfl, ?_, ?_, BL, Nat.le_trans HFF.out.ok.outs HFF.out.ok.big, Nat.le_trans HFF.out.ok.order HFF.out.ok.big⟩
            · rw [← HIB.out.1]
              exact row8 HFF.out.mr.ou.row hlt _ _ _ _ _ _ _ _
            · rw [← HIB.out.1]
              exact row8 HFF.out.mr.or_.row hlt _ _ _ _ _ _ _ _
          · rw [Nat.zero_add] at hc
            have CH : Hid (∀ {W : World}, Below wr.heap.size wr W → Calls Try.prog 16 #[.pointer (some ⟨mb, 0, none⟩), .int .i64 pk] W (fun e w' => e = .returned (.int .i64 (t : Int)) ∧ Below W.heap.size W w')) := fun {W} hW => by
              have := choose21 (HM.out.below hW).1 pk
              rw [hc] at this
              exact this
            have HT : Hid (m1.ths[t]? = some th ∧ chooseI m1 code ((picks[k]?).getD 0) 0 (-1) m1.ths = (t : Int)) := ⟨ht, by rw [← HPKV.out]; exact hc⟩
            have ht0 : (0 : Int) ≤ (t : Int) := by omega
            have htn : ¬ (t : Int) < 0 := by omega
            clear hc ht
            go_upto_region 15 with (first | (go_at_call 16; refine (CH.out hb2).mono ?_; rintro e w3 ⟨rfl, hb3⟩) | (go_at_call 15; refine AL.out.mono ?_; rintro e w2 ⟨rfl, hb2⟩; obtain ⟨lq, cq⟩ := HPQ.out hb2) | (go_at_call 14; refine GO2.out.mono ?_; rintro e wx ⟨rfl, hwx⟩; replace hwx := hwx.symm; subst hwx))
            have hb23 : Below wr.heap.size wr w3 := hb2.trans (hb3.mono hb2.size)
            have MZ : Hid (MS base mb co cc code (2 * s) w3 L2 m1 ∧ Below base W4 w3) := ⟨(HM.out.below hb23).1, HBW.out.trans (Kf.below HM.out.mr (HM.out.below hb23).2)⟩
            have c8 : w3.cell? ⟨mb, 8, none⟩ = some (.int .i64 (s : Int)) := by rw [← HMS.out]; exact cell_of_row w3 mb 8 _ 45 (0, 0) MZ.out.1.mr.blk
            have lz := MZ.out.1.mr.lt
            by_cases hst : fuel ≤ (s : Int)
            · have HEE : Hid (runM code picks fuel ((max fuel 0).toNat + 1) 0 (Mc.init arg) = m1) := by show _ = _; rw [HR.out, HN1.out]; exact run_full H0.out (by rw [HMS.out]; exact hst) (.inr (by rw [HT.out.2]; omega))
              go_upto_region 17 with fail
              clear c8
              have HFF : Hid _ := MZ.out.1
              have HBF : Hid _ := MZ.out.2
              have HEF : Hid (runM code picks fuel ((max fuel 0).toNat + 1) 0 (Mc.init arg) = m1) := HEE.out
              have cF := fun o => cell_of_row w3 mb o _ 45 (0, 0) HFF.out.mr.blk
              have d5 := cF 5
              have d6 := cF 6
              have d7 := cF 7
              have d8 := cF 8
              have d9 := cF 9
              have d10 := cF 10
              have d11 := cF 11
              have d12 := cF 12
              simp at d5 d6 d7 d8 d9 d10 d11 d12
              clear cF
              have lF := HFF.out.mr.lt
              have bF := (HBF.out.block ib (by rw [HIB.out.1, HIB.out.2]; exact Nat.lt_succ_self _)).trans HB1.out
              have i0 := fun o => cell_of_row w3 ib o _ 26 (0, 0) bF
              have j0 := fun o => frozen_of_row w3 ib o _ 26 bF
              have li := (Array.getElem?_eq_some_iff.1 bF).1
              have HBFb : Hid _ := bF
              clear bF
              go_wp2_with fail
              have hlt : ib < base := by rw [HIB.out.1, HIB.out.2]; exact Nat.lt_succ_self _
              have hbl : Below w.heap.size w w3 := HB0.out.1.trans (HBF.out.mono (by rw [HIB.out.2]; exact Nat.le_succ _))
              have BL := bel8 hbl (by rw [HIB.out.1]; exact Nat.le_refl _ : w.heap.size ≤ ib) (.int .i64 m1.how) (.int .i64 0) (.int .i64 m1.value) (.int .i64 m1.steps) (.slice L2.oo m1.outs.length L2.oc) (.slice L2.ro_ m1.order.length L2.rc) (.int .i64 m1.left) (.int .i64 0)
              refine bodyPost_ret (res26 Try.results6 rfl (set8 HBFb.out)) rfl ?_
              rw [HEF.out]
              refine ⟨L2.oo, L2.oc, L2.ro_, L2.rc, rfl, ?_, ?_, BL, Nat.le_trans HFF.out.ok.outs HFF.out.ok.big, Nat.le_trans HFF.out.ok.order HFF.out.ok.big⟩
              · rw [← HIB.out.1]
                exact row8 HFF.out.mr.ou.row hlt _ _ _ _ _ _ _ _
              · rw [← HIB.out.1]
                exact row8 HFF.out.mr.or_.row hlt _ _ _ _ _ _ _ _
            · have HST : Hid (¬ fuel ≤ (s : Int)) := hst
              have SC := step23 MZ.out.1 HT.out.1 (by have := HFM.out; have := HSF.out; omega)
              have HRS : Hid (runM code picks fuel ((max fuel 0).toNat + 1) 0 (Mc.init arg) = runM code picks fuel n (k + 1) (m1.stepM code t th)) := by show _ = _; rw [HR.out, HN1.out]; exact run_meet H0.out (by rw [HMS.out]; exact HST.out) HAL.out HT.out.2 HT.out.1
              have HSS : Hid ((m1.stepM code t th).steps = ((s + 1 : Nat) : Int)) := by show _ = _; rw [stepM_steps, HMS.out]; rfl
              go_wp2_with (go_at_call 18; refine SC.mono ?_; rintro e w5 ⟨rfl, L5, M5, K5⟩)
              go_roundg n
              case measure => rw [HN1.out]; exact Nat.lt_succ_self n
              case rel => exact ⟨L5, _, (k + 1), s + 1, by have := HN1.out; have := HG.out; have := HSF.out; have := HST.out; omega, by go_num, by show (k + 1) ≤ s + 1; have := HKS.out; omega, HSS.out, by show s + 1 ≤ _; have := HST.out; omega, HRS.out, M5, MZ.out.2.trans (Kf.below MZ.out.1.mr K5)⟩
        · have hkl : ¬ (k : Int) < (pl : Int) := by rw [HPL.out]; omega
          obtain rfl : pk = 0 := by rw [hpk, List.getElem?_eq_none (by omega)]; rfl
          clear hpk
          rcases choose_spec m1 code 0 m1.ths 0 (-1) with hc | ⟨t, th, hc, ht, -⟩
          · have CH : Hid (∀ {W : World}, Below wr.heap.size wr W → Calls Try.prog 16 #[.pointer (some ⟨mb, 0, none⟩), .int .i64 0] W (fun e w' => e = .returned (.int .i64 (-1)) ∧ Below W.heap.size W w')) := fun {W} hW => by
              have := choose21 (HM.out.below hW).1 0
              rw [hc] at this
              exact this
            have HEE : Hid (runM code picks fuel ((max fuel 0).toNat + 1) 0 (Mc.init arg) = m1.finM) := by show _ = _; rw [HR.out, HN1.out]; exact run_end H0.out HAL.out (by rw [← HPKV.out, hc]; decide)
            clear hc
            go_upto_region 14 with (first | (go_at_call 16; refine (CH.out hb2).mono ?_; rintro e w3 ⟨rfl, hb3⟩) | (go_at_call 15; refine AL.out.mono ?_; rintro e w2 ⟨rfl, hb2⟩) | (go_at_call 14; refine GO2.out.mono ?_; rintro e wx ⟨rfl, hwx⟩; replace hwx := hwx.symm; subst hwx))
            have hb23 : Below wr.heap.size wr w3 := hb2.trans (hb3.mono hb2.size)
            have MZ : Hid (MS base mb co cc code (2 * s) w3 L2 m1 ∧ Below base W4 w3) := ⟨(HM.out.below hb23).1, HPB.out hb23⟩
            have FI := finish22 MZ.out.1
            go_upto_region 17 with (go_at_call 17; refine FI.mono ?_; rintro e w5 ⟨rfl, L5, M5, K5⟩)
            obtain ⟨mf, hmf⟩ : ∃ mf, mf = m1.finM := ⟨_, rfl⟩
            rw [← hmf] at M5 HEE
            clear hmf
            have HFF : Hid _ := M5
            have HBF : Hid _ := (MZ.out.2.trans (Kf.below MZ.out.1.mr K5))
            have HEF : Hid (runM code picks fuel ((max fuel 0).toNat + 1) 0 (Mc.init arg) = mf) := HEE.out
            have cF := fun o => cell_of_row w5 mb o _ 45 (0, 0) HFF.out.mr.blk
            have d5 := cF 5
            have d6 := cF 6
            have d7 := cF 7
            have d8 := cF 8
            have d9 := cF 9
            have d10 := cF 10
            have d11 := cF 11
            have d12 := cF 12
            simp at d5 d6 d7 d8 d9 d10 d11 d12
            clear cF
            have lF := HFF.out.mr.lt
            have bF := (HBF.out.block ib (by rw [HIB.out.1, HIB.out.2]; exact Nat.lt_succ_self _)).trans HB1.out
            have i0 := fun o => cell_of_row w5 ib o _ 26 (0, 0) bF
            have j0 := fun o => frozen_of_row w5 ib o _ 26 bF
            have li := (Array.getElem?_eq_some_iff.1 bF).1
            have HBFb : Hid _ := bF
            clear bF
            go_wp2_with fail
            have hlt : ib < base := by rw [HIB.out.1, HIB.out.2]; exact Nat.lt_succ_self _
            have hbl : Below w.heap.size w w5 := HB0.out.1.trans (HBF.out.mono (by rw [HIB.out.2]; exact Nat.le_succ _))
            have BL := bel8 hbl (by rw [HIB.out.1]; exact Nat.le_refl _ : w.heap.size ≤ ib) (.int .i64 mf.how) (.int .i64 0) (.int .i64 mf.value) (.int .i64 mf.steps) (.slice L5.oo mf.outs.length L5.oc) (.slice L5.ro_ mf.order.length L5.rc) (.int .i64 mf.left) (.int .i64 0)
            refine bodyPost_ret (res26 Try.results6 rfl (set8 HBFb.out)) rfl ?_
            rw [HEF.out]
            refine ⟨L5.oo, L5.oc, L5.ro_, L5.rc, rfl, ?_, ?_, BL, Nat.le_trans HFF.out.ok.outs HFF.out.ok.big, Nat.le_trans HFF.out.ok.order HFF.out.ok.big⟩
            · rw [← HIB.out.1]
              exact row8 HFF.out.mr.ou.row hlt _ _ _ _ _ _ _ _
            · rw [← HIB.out.1]
              exact row8 HFF.out.mr.or_.row hlt _ _ _ _ _ _ _ _
          · rw [Nat.zero_add] at hc
            have CH : Hid (∀ {W : World}, Below wr.heap.size wr W → Calls Try.prog 16 #[.pointer (some ⟨mb, 0, none⟩), .int .i64 0] W (fun e w' => e = .returned (.int .i64 (t : Int)) ∧ Below W.heap.size W w')) := fun {W} hW => by
              have := choose21 (HM.out.below hW).1 0
              rw [hc] at this
              exact this
            have HT : Hid (m1.ths[t]? = some th ∧ chooseI m1 code ((picks[k]?).getD 0) 0 (-1) m1.ths = (t : Int)) := ⟨ht, by rw [← HPKV.out]; exact hc⟩
            have ht0 : (0 : Int) ≤ (t : Int) := by omega
            have htn : ¬ (t : Int) < 0 := by omega
            clear hc ht
            go_upto_region 15 with (first | (go_at_call 16; refine (CH.out hb2).mono ?_; rintro e w3 ⟨rfl, hb3⟩) | (go_at_call 15; refine AL.out.mono ?_; rintro e w2 ⟨rfl, hb2⟩) | (go_at_call 14; refine GO2.out.mono ?_; rintro e wx ⟨rfl, hwx⟩; replace hwx := hwx.symm; subst hwx))
            have hb23 : Below wr.heap.size wr w3 := hb2.trans (hb3.mono hb2.size)
            have MZ : Hid (MS base mb co cc code (2 * s) w3 L2 m1 ∧ Below base W4 w3) := ⟨(HM.out.below hb23).1, HBW.out.trans (Kf.below HM.out.mr (HM.out.below hb23).2)⟩
            have c8 : w3.cell? ⟨mb, 8, none⟩ = some (.int .i64 (s : Int)) := by rw [← HMS.out]; exact cell_of_row w3 mb 8 _ 45 (0, 0) MZ.out.1.mr.blk
            have lz := MZ.out.1.mr.lt
            by_cases hst : fuel ≤ (s : Int)
            · have HEE : Hid (runM code picks fuel ((max fuel 0).toNat + 1) 0 (Mc.init arg) = m1) := by show _ = _; rw [HR.out, HN1.out]; exact run_full H0.out (by rw [HMS.out]; exact hst) (.inr (by rw [HT.out.2]; omega))
              go_upto_region 17 with fail
              clear c8
              have HFF : Hid _ := MZ.out.1
              have HBF : Hid _ := MZ.out.2
              have HEF : Hid (runM code picks fuel ((max fuel 0).toNat + 1) 0 (Mc.init arg) = m1) := HEE.out
              have cF := fun o => cell_of_row w3 mb o _ 45 (0, 0) HFF.out.mr.blk
              have d5 := cF 5
              have d6 := cF 6
              have d7 := cF 7
              have d8 := cF 8
              have d9 := cF 9
              have d10 := cF 10
              have d11 := cF 11
              have d12 := cF 12
              simp at d5 d6 d7 d8 d9 d10 d11 d12
              clear cF
              have lF := HFF.out.mr.lt
              have bF := (HBF.out.block ib (by rw [HIB.out.1, HIB.out.2]; exact Nat.lt_succ_self _)).trans HB1.out
              have i0 := fun o => cell_of_row w3 ib o _ 26 (0, 0) bF
              have j0 := fun o => frozen_of_row w3 ib o _ 26 bF
              have li := (Array.getElem?_eq_some_iff.1 bF).1
              have HBFb : Hid _ := bF
              clear bF
              go_wp2_with fail
              have hlt : ib < base := by rw [HIB.out.1, HIB.out.2]; exact Nat.lt_succ_self _
              have hbl : Below w.heap.size w w3 := HB0.out.1.trans (HBF.out.mono (by rw [HIB.out.2]; exact Nat.le_succ _))
              have BL := bel8 hbl (by rw [HIB.out.1]; exact Nat.le_refl _ : w.heap.size ≤ ib) (.int .i64 m1.how) (.int .i64 0) (.int .i64 m1.value) (.int .i64 m1.steps) (.slice L2.oo m1.outs.length L2.oc) (.slice L2.ro_ m1.order.length L2.rc) (.int .i64 m1.left) (.int .i64 0)
              refine bodyPost_ret (res26 Try.results6 rfl (set8 HBFb.out)) rfl ?_
              rw [HEF.out]
              refine ⟨L2.oo, L2.oc, L2.ro_, L2.rc, rfl, ?_, ?_, BL, Nat.le_trans HFF.out.ok.outs HFF.out.ok.big, Nat.le_trans HFF.out.ok.order HFF.out.ok.big⟩
              · rw [← HIB.out.1]
                exact row8 HFF.out.mr.ou.row hlt _ _ _ _ _ _ _ _
              · rw [← HIB.out.1]
                exact row8 HFF.out.mr.or_.row hlt _ _ _ _ _ _ _ _
            · have HST : Hid (¬ fuel ≤ (s : Int)) := hst
              have SC := step23 MZ.out.1 HT.out.1 (by have := HFM.out; have := HSF.out; omega)
              have HRS : Hid (runM code picks fuel ((max fuel 0).toNat + 1) 0 (Mc.init arg) = runM code picks fuel n (k + 1) (m1.stepM code t th)) := by show _ = _; rw [HR.out, HN1.out]; exact run_meet H0.out (by rw [HMS.out]; exact HST.out) HAL.out HT.out.2 HT.out.1
              have HSS : Hid ((m1.stepM code t th).steps = ((s + 1 : Nat) : Int)) := by show _ = _; rw [stepM_steps, HMS.out]; rfl
              go_wp2_with (go_at_call 18; refine SC.mono ?_; rintro e w5 ⟨rfl, L5, M5, K5⟩)
              go_roundg n
              case measure => rw [HN1.out]; exact Nat.lt_succ_self n
              case rel => exact ⟨L5, _, (k + 1), s + 1, by have := HN1.out; have := HG.out; have := HSF.out; have := HST.out; omega, by go_num, by show (k + 1) ≤ s + 1; have := HKS.out; omega, HSS.out, by show s + 1 ≤ _; have := HST.out; omega, HRS.out, M5, MZ.out.2.trans (Kf.below MZ.out.1.mr K5)⟩
      · rw [Nat.zero_add] at ha
        have AL : Hid (Calls Try.prog 15 #[.pointer (some ⟨mb, 0, none⟩)] wr (fun e w' => e = .returned (.int .i64 (t : Int)) ∧ Below wr.heap.size wr w')) := by rw [ha] at AL0; exact AL0
        have HT : Hid (m1.ths[t]? = some th ∧ aloneI m1 code 0 m1.ths = (t : Int)) := ⟨ht, ha⟩
        have ht0 : (0 : Int) ≤ (t : Int) := by omega
        have htn : ¬ (t : Int) < 0 := by omega
        clear AL0 ha ht
        go_upto_region 15 with (first | (go_at_call 15; refine AL.out.mono ?_; rintro e w2 ⟨rfl, hb2⟩) | (go_at_call 14; refine GO2.out.mono ?_; rintro e wx ⟨rfl, hwx⟩; replace hwx := hwx.symm; subst hwx))
        have MZ : Hid (MS base mb co cc code (2 * s) w2 L2 m1 ∧ Below base W4 w2) := ⟨(HM.out.below hb2).1, HBW.out.trans (Kf.below HM.out.mr (HM.out.below hb2).2)⟩
        have c8 : w2.cell? ⟨mb, 8, none⟩ = some (.int .i64 (s : Int)) := by rw [← HMS.out]; exact cell_of_row w2 mb 8 _ 45 (0, 0) MZ.out.1.mr.blk
        have lz := MZ.out.1.mr.lt
        by_cases hst : fuel ≤ (s : Int)
        · have HEE : Hid (runM code picks fuel ((max fuel 0).toNat + 1) 0 (Mc.init arg) = m1) := by show _ = _; rw [HR.out, HN1.out]; exact run_full H0.out (by rw [HMS.out]; exact hst) (.inl (by rw [HT.out.2]; omega))
          go_upto_region 17 with fail
          clear c8
          have HFF : Hid _ := MZ.out.1
          have HBF : Hid _ := MZ.out.2
          have HEF : Hid (runM code picks fuel ((max fuel 0).toNat + 1) 0 (Mc.init arg) = m1) := HEE.out
          have cF := fun o => cell_of_row w2 mb o _ 45 (0, 0) HFF.out.mr.blk
          have d5 := cF 5
          have d6 := cF 6
          have d7 := cF 7
          have d8 := cF 8
          have d9 := cF 9
          have d10 := cF 10
          have d11 := cF 11
          have d12 := cF 12
          simp at d5 d6 d7 d8 d9 d10 d11 d12
          clear cF
          have lF := HFF.out.mr.lt
          have bF := (HBF.out.block ib (by rw [HIB.out.1, HIB.out.2]; exact Nat.lt_succ_self _)).trans HB1.out
          have i0 := fun o => cell_of_row w2 ib o _ 26 (0, 0) bF
          have j0 := fun o => frozen_of_row w2 ib o _ 26 bF
          have li := (Array.getElem?_eq_some_iff.1 bF).1
          have HBFb : Hid _ := bF
          clear bF
          go_wp2_with fail
          have hlt : ib < base := by rw [HIB.out.1, HIB.out.2]; exact Nat.lt_succ_self _
          have hbl : Below w.heap.size w w2 := HB0.out.1.trans (HBF.out.mono (by rw [HIB.out.2]; exact Nat.le_succ _))
          have BL := bel8 hbl (by rw [HIB.out.1]; exact Nat.le_refl _ : w.heap.size ≤ ib) (.int .i64 m1.how) (.int .i64 0) (.int .i64 m1.value) (.int .i64 m1.steps) (.slice L2.oo m1.outs.length L2.oc) (.slice L2.ro_ m1.order.length L2.rc) (.int .i64 m1.left) (.int .i64 0)
          refine bodyPost_ret (res26 Try.results6 rfl (set8 HBFb.out)) rfl ?_
          rw [HEF.out]
          refine ⟨L2.oo, L2.oc, L2.ro_, L2.rc, rfl, ?_, ?_, BL, Nat.le_trans HFF.out.ok.outs HFF.out.ok.big, Nat.le_trans HFF.out.ok.order HFF.out.ok.big⟩
          · rw [← HIB.out.1]
            exact row8 HFF.out.mr.ou.row hlt _ _ _ _ _ _ _ _
          · rw [← HIB.out.1]
            exact row8 HFF.out.mr.or_.row hlt _ _ _ _ _ _ _ _
        · have HST : Hid (¬ fuel ≤ (s : Int)) := hst
          have SC := step23 MZ.out.1 HT.out.1 (by have := HFM.out; have := HSF.out; omega)
          have HRS : Hid (runM code picks fuel ((max fuel 0).toNat + 1) 0 (Mc.init arg) = runM code picks fuel n k (m1.stepM code t th)) := by show _ = _; rw [HR.out, HN1.out]; exact run_alone H0.out (by rw [HMS.out]; exact HST.out) HT.out.2 HT.out.1
          have HSS : Hid ((m1.stepM code t th).steps = ((s + 1 : Nat) : Int)) := by show _ = _; rw [stepM_steps, HMS.out]; rfl
          go_wp2_with (go_at_call 18; refine SC.mono ?_; rintro e w5 ⟨rfl, L5, M5, K5⟩)
          go_roundg n
          case measure => rw [HN1.out]; exact Nat.lt_succ_self n
          case rel => exact ⟨L5, _, k, s + 1, by have := HN1.out; have := HG.out; have := HSF.out; have := HST.out; omega, by go_num, by show k ≤ s + 1; have := HKS.out; omega, HSS.out, by show s + 1 ≤ _; have := HST.out; omega, HRS.out, M5, MZ.out.2.trans (Kf.below MZ.out.1.mr K5)⟩
    · have GO2 : Hid (Calls Try.prog 14 #[.pointer (some ⟨mb, 0, none⟩)] wr (fun e w' => e = .returned (.bool false) ∧ w' = wr)) := by
        have e : (m1.how == 0) = false := by simpa using h0
        rw [e] at GO
        exact GO
      have HEE : Hid (runM code picks fuel ((max fuel 0).toNat + 1) 0 (Mc.init arg) = m1) := by show _ = _; rw [HR.out]; exact run_how h0
      clear GO h0 hwk
      go_upto_region 17 with (go_at_call 14; refine GO2.out.mono ?_; rintro e wx ⟨rfl, hwx⟩; replace hwx := hwx.symm; subst hwx)
      have HFF : Hid _ := HM.out
      have HBF : Hid _ := HBW.out
      have HEF : Hid (runM code picks fuel ((max fuel 0).toNat + 1) 0 (Mc.init arg) = m1) := HEE.out
      have cF := fun o => cell_of_row wr mb o _ 45 (0, 0) HFF.out.mr.blk
      have d5 := cF 5
      have d6 := cF 6
      have d7 := cF 7
      have d8 := cF 8
      have d9 := cF 9
      have d10 := cF 10
      have d11 := cF 11
      have d12 := cF 12
      simp at d5 d6 d7 d8 d9 d10 d11 d12
      clear cF
      have lF := HFF.out.mr.lt
      have bF := (HBF.out.block ib (by rw [HIB.out.1, HIB.out.2]; exact Nat.lt_succ_self _)).trans HB1.out
      have i0 := fun o => cell_of_row wr ib o _ 26 (0, 0) bF
      have j0 := fun o => frozen_of_row wr ib o _ 26 bF
      have li := (Array.getElem?_eq_some_iff.1 bF).1
      have HBFb : Hid _ := bF
      clear bF
      go_wp2_with fail
      have hlt : ib < base := by rw [HIB.out.1, HIB.out.2]; exact Nat.lt_succ_self _
      have hbl : Below w.heap.size w wr := HB0.out.1.trans (HBF.out.mono (by rw [HIB.out.2]; exact Nat.le_succ _))
      have BL := bel8 hbl (by rw [HIB.out.1]; exact Nat.le_refl _ : w.heap.size ≤ ib) (.int .i64 m1.how) (.int .i64 0) (.int .i64 m1.value) (.int .i64 m1.steps) (.slice L2.oo m1.outs.length L2.oc) (.slice L2.ro_ m1.order.length L2.rc) (.int .i64 m1.left) (.int .i64 0)
      refine bodyPost_ret (res26 Try.results6 rfl (set8 HBFb.out)) rfl ?_
      rw [HEF.out]
      refine ⟨L2.oo, L2.oc, L2.ro_, L2.rc, rfl, ?_, ?_, BL, Nat.le_trans HFF.out.ok.outs HFF.out.ok.big, Nat.le_trans HFF.out.ok.order HFF.out.ok.big⟩
      · rw [← HIB.out.1]
        exact row8 HFF.out.mr.ou.row hlt _ _ _ _ _ _ _ _
      · rw [← HIB.out.1]
        exact row8 HFF.out.mr.or_.row hlt _ _ _ _ _ _ _ _
end
end Go.Proofs.Ytflifialjdhenaa
