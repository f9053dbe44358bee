/-
  What the statements of layer 6 ask first, and PhysMakes: walks over the translation.
-/
import Derived.Test.YtkkhecaajbgggaaPhysC
import Derived.Test.YtkkhecaajbgggaaRefC06
namespace Go.Proofs.Ytkkhecaajbgggaa
open Go.RowKit
set_option linter.unusedVariables false
set_option linter.unusedSimpArgs false

theorem MemP.x {w : World} {mp mb fr n : Nat} {pg : Nat → Option Nat} {C : Nat → List Int} (h : MemP w mp mb fr n pg C) : MemX w mp fr n C (FpP mb pg) := ⟨mb, pg, h, rfl⟩
theorem newX (n : Nat) (w : World) (h1 : 1 ≤ n) (h2 : n ≤ 1048576) : Calls Try.prog 7 #[.int .i64 n] w fun e w' => ∃ mp F, e = .returned (.tuple #[.pointer (some ⟨mp, 0, none⟩), .int .i64 0]) ∧ w.heap.size ≤ mp ∧ (∀ k, F k → w.heap.size ≤ k) ∧ MemX w' mp n 0 (fun _ => List.replicate 4096 0) F ∧ Chg no w w' := by
  refine (new_yes n w h1 h2).mono ?_
  rintro e w' ⟨mp, mb, rfl, hm, hb, hM, hc⟩
  refine ⟨mp, _, rfl, hm, ?_, hM.x, hc⟩
  rintro k (rfl | ⟨f, hf⟩)
  · exact hb
  · cases hf
theorem errs : errL 2 4096 8 = 0 ∧ errL 2 4096 2 = 0 ∧ errL 2 8192 1 = 61 ∧ errL 2 2 4 = 60 := by
  refine ⟨?_, ?_, ?_, ?_⟩ <;> simp [errL, SzI]
theorem byt258 : byt 258 8 = [2, 1, 0, 0, 0, 0, 0, 0] := by decide
/-- the page of first -/
theorem c258 : ∃ r, layC (fun _ => List.replicate 4096 0) 4096 8 258 1 = 2 :: 1 :: r := by
  refine ⟨[0, 0, 0, 0, 0, 0] ++ (List.replicate 4096 0).drop 8, ?_⟩
  show updC _ (4096 / 4096) (lay (List.replicate 4096 0) (4096 % 4096) (byt 258 8)) 1 = _
  rw [byt258]
  rfl
theorem w258 : wordC (layC (fun _ => List.replicate 4096 0) 4096 8 258) 4096 2 = 258 := by
  obtain ⟨r, hr⟩ := c258
  unfold wordC
  rw [show 4096 / 4096 = 1 from rfl, hr]
  rfl
set_option maxHeartbeats 1000000 in
theorem first_true (w : World) : Calls Try.prog 6 #[] w fun e w' => e = .returned (.bool true) ∧ Chg no w w' := by
  obtain ⟨e1, e2, e3, e4⟩ := errs
  have hnew : Calls Try.prog 7 #[.int .i64 2] w _ := newX 2 w (by omega) (by omega)
  have HN := Lib.hid hnew
  clear hnew
  go_enter Try.func6, Try.ntmps6
  go_wp2_with fail
  refine HN.out.mono ?_
  rintro e w1 ⟨mp, F1, rfl, hmp, hF1, hM1, hc1⟩
  have hst : Calls Try.prog 8 #[.pointer (some ⟨mp, 0, none⟩), .int .u64 4096, .int .i64 8, .int .u64 258] w1 _ := store_ok mp 2 0 4096 8 258 _ F1 w1 hM1 (by omega) e1 (by omega) (by omega) (by omega)
  have HS := Lib.hid hst; have HF1 := Lib.hid hF1; have HC1 := Lib.hid hc1
  clear hst hF1 hc1 hM1
  go_wp2_with fail
  refine HS.out.mono ?_
  rintro e w2 ⟨rfl, F2, hM2, hx2, hc2⟩
  have hc : Chg no w w2 := HC1.out.thenExt hc2 (fun j hj => .inr (HF1.out j hj))
  have hF2 : ∀ k, F2 k → w.heap.size ≤ k := fun k hk => (hx2 k hk).elim (HF1.out k) (fun h => Nat.le_trans HC1.out.size h)
  have hpg : Calls Try.prog 14 #[.pointer (some ⟨mp, 0, none⟩), .int .i64 1] w2 _ := page_ok mp 2 1 1 _ F2 w2 hM2 (by omega)
  have HP := Lib.hid hpg; have HM2 := Lib.hid hM2; have HC := Lib.hid hc; have HF2 := Lib.hid hF2
  clear hpg hM2 hc2 hx2 hc hF2
  go_wp2_with fail
  refine HP.out.mono ?_
  rintro e w3 ⟨rfl, hb3, hc3⟩
  obtain ⟨r, hr⟩ := c258
  rw [show (8 : Int).toNat = 8 from rfl, hr] at hb3
  have hM3 := HM2.out.chg hc3 (fun h => h) (fun _ _ h => h)
  have hsw : Calls Try.prog 10 #[.pointer (some ⟨mp, 0, none⟩), .int .u64 4096, .int .i64 2, .int .u64 7] w3 _ := swap_ok mp 2 1 4096 2 7 _ F2 w3 hM3 (by omega) e2 (by omega) (by omega) (by omega)
  rw [show (2 : Int).toNat = 2 from rfl, show (8 : Int).toNat = 8 from rfl, w258] at hsw
  have hF2lt := HM2.out.lt
  have HS3 := Lib.hid hsw; have HB3 := Lib.hid hb3; have HC3 := Lib.hid hc3; have HF2lt := Lib.hid hF2lt
  have hs2 := HC.out.size
  clear hsw hM3 hr hb3 hc3 hF2lt
  go_wp2_with fail
  refine HS3.out.mono ?_
  rintro e w4 ⟨rfl, F4, hM4, hx4, hc4⟩
  have hb4 := HB3.out.chg hc4 (fun h => by have := HF2lt.out _ h; omega)
  have k0 : w4.cell? ⟨w2.heap.size, 0, none⟩ = some (.int .u8 2) := hb4.cell 0
  have k1 : w4.cell? ⟨w2.heap.size, 1, none⟩ = some (.int .u8 1) := hb4.cell 1
  have hcc : Chg no w w4 := (HC.out.trans HC3.out).thenExt hc4 (fun j hj => .inr (HF2.out j hj))
  have hl1 : Calls Try.prog 16 #[.pointer (some ⟨mp, 0, none⟩), .int .u64 8192, .int .i64 1] w4 _ := load_bad mp 2 8192 1 w4 hM4.c0 (by omega) (by omega) (by omega)
  have hl2 : Calls Try.prog 16 #[.pointer (some ⟨mp, 0, none⟩), .int .u64 2, .int .i64 4] w4 _ := load_bad mp 2 2 4 w4 hM4.c0 (by omega) (by omega) (by omega)
  rw [e3] at hl1
  rw [e4] at hl2
  have HL1 := Lib.hid hl1; have HL2 := Lib.hid hl2; have HCC := Lib.hid hcc
  clear hl1 hl2 hb4 hM4 hx4 hc4 hcc e1 e2 e3 e4
  go_wp2_with fail
  refine HL1.out.mono ?_
  rintro e w5 ⟨rfl, rfl⟩
  go_wp2_with fail
  refine HL2.out.mono ?_
  rintro e w5 ⟨rfl, rfl⟩
  go_wp2
  go_ret
  exact ⟨rfl, HCC.out⟩
theorem errL_last (n : Nat) (h1 : 1 ≤ n) : errL n (4096 * n - 8) 8 = 0 := by
  unfold errL
  rw [if_pos sz8, show (8 : Int).toNat = 8 from rfl, if_pos (by omega), if_pos (by omega)]
theorem errL_behind (n : Nat) : errL n (4096 * n) 8 = 61 := by
  unfold errL
  rw [if_pos sz8, show (8 : Int).toNat = 8 from rfl, if_pos (by omega), if_neg (by omega)]
set_option maxHeartbeats 1000000 in
theorem makes_yes (n : Nat) (a : Int) (w : World) (h1 : 1 ≤ n) (h2 : n ≤ 1048576) :
    Calls Try.prog 4 #[.int .i64 n, .int .u64 a] w fun e w' => e = .returned (.bool true) ∧ Below w.heap.size w w' := by
  have hf := first_true w
  have hnew := fun w => newX n w h1 h2
  have el := errL_last n h1
  have eb := errL_behind n
  have HF := Lib.hid hf; have HN := Lib.hid hnew
  clear hf hnew
  go_enter Try.func4, Try.ntmps4
  go_wp2_with fail
  refine HF.out.mono ?_
  rintro e w1 ⟨rfl, hc1⟩
  have HC1 := Lib.hid hc1; clear hc1
  go_wp2_with fail
  refine (HN.out w1).mono ?_
  rintro e w2 ⟨mp, F, rfl, hmp, hF, hM, hc2⟩
  have hc : Chg no w w2 := HC1.out.trans hc2
  have hl1 := load_ok mp n 0 (4096 * n - 8) 8 _ F w2 hM (by omega) el
  have hl2 := load_bad mp n (4096 * n) 8 w2 hM.c0 (by omega) h2 (by omega)
  rw [eb] at hl2
  have hfr := frames_at mp n w2 hM.c0
  obtain ⟨v1, hv1⟩ : ∃ v, v = wordC (fun _ => List.replicate 4096 0) (4096 * n - 8) (8 : Int).toNat := ⟨_, rfl⟩
  rw [← hv1] at hl1
  obtain ⟨q1, hq1⟩ : ∃ q : Nat, q = 4096 * n - 8 := ⟨_, rfl⟩
  obtain ⟨q2, hq2⟩ : ∃ q : Nat, q = 4096 * n := ⟨_, rfl⟩
  rw [← hq1] at hl1
  rw [← hq2] at hl2
  have i2 : 4096 * (n : Int) = (q2 : Int) := by omega
  have i1 : (q2 : Int) - 8 = (q1 : Int) := by omega
  have HL1 := Lib.hid hl1; have HL2 := Lib.hid hl2; have HFR := Lib.hid hfr; have HC := Lib.hid hc
  clear hc2 hM hF hl1 hl2 hfr hc hv1 hq1 hq2 el eb
  go_wp2_with fail
  refine HL1.out.mono ?_
  rintro e w5 ⟨rfl, rfl⟩
  go_wp2_with fail
  refine HL2.out.mono ?_
  rintro e w5 ⟨rfl, rfl⟩
  go_wp2_with fail
  refine HFR.out.mono ?_
  rintro e w5 ⟨rfl, rfl⟩
  go_wp2
  go_ret
  exact ⟨by simp [go_sem], HC.out.none⟩
set_option maxHeartbeats 1000000 in
theorem makes_no (n a : Int) (w : World) (h : ¬ (1 ≤ n ∧ n ≤ 1048576)) :
    Calls Try.prog 4 #[.int .i64 n, .int .u64 a] w fun e w' => e = .returned (.bool true) ∧ Below w.heap.size w w' := by
  have hf := first_true w
  have hnew := fun w => new_no n w h
  have HF := Lib.hid hf; have HN := Lib.hid hnew
  clear hf hnew
  obtain ⟨p, hp⟩ : ∃ p : Bool, p = decide (1 ≤ n) := ⟨_, rfl⟩
  by_cases h1 : 1 ≤ n
  · have h2 : ¬ n ≤ 1048576 := fun h2 => h ⟨h1, h2⟩
    clear h hp
    go_enter Try.func4, Try.ntmps4
    go_wp2_with fail
    refine HF.out.mono ?_
    rintro e w1 ⟨rfl, hc1⟩
    have HC1 := Lib.hid hc1; clear hc1
    have hl := load_nil a 8 w1
    have hpg := page_nil 0 w1
    have hsw := swap_nil a 1 0 w1
    have hst := store_nil a 8 1 w1
    have hsp := setpage_nil 0 none 0 0 w1
    have hfr := frames_nil w1
    have HL := Lib.hid hl; have HPG := Lib.hid hpg; have HSW := Lib.hid hsw; have HST := Lib.hid hst; have HSP := Lib.hid hsp; have HFR := Lib.hid hfr
    clear hl hpg hsw hst hsp hfr
    go_wp2_with fail
    refine (HN.out w1).mono ?_
    rintro e w2 ⟨rfl, rfl⟩
    go_wp2_with fail
    refine HL.out.mono ?_
    rintro e w2 ⟨rfl, rfl⟩
    go_wp2_with fail
    refine HPG.out.mono ?_
    rintro e w2 ⟨rfl, rfl⟩
    go_wp2_with fail
    refine HSW.out.mono ?_
    rintro e w2 ⟨rfl, rfl⟩
    go_wp2_with fail
    refine HST.out.mono ?_
    rintro e w2 ⟨rfl, rfl⟩
    go_wp2_with fail
    refine HSP.out.mono ?_
    rintro e w2 ⟨rfl, rfl⟩
    go_wp2_with fail
    refine HFR.out.mono ?_
    rintro e w2 ⟨rfl, rfl⟩
    go_wp2
    go_ret
    exact ⟨rfl, HC1.out.none⟩
  · clear h hp
    go_enter Try.func4, Try.ntmps4
    go_wp2_with fail
    refine HF.out.mono ?_
    rintro e w1 ⟨rfl, hc1⟩
    have HC1 := Lib.hid hc1; clear hc1
    have hl := load_nil a 8 w1
    have hpg := page_nil 0 w1
    have hsw := swap_nil a 1 0 w1
    have hst := store_nil a 8 1 w1
    have hsp := setpage_nil 0 none 0 0 w1
    have hfr := frames_nil w1
    have HL := Lib.hid hl; have HPG := Lib.hid hpg; have HSW := Lib.hid hsw; have HST := Lib.hid hst; have HSP := Lib.hid hsp; have HFR := Lib.hid hfr
    clear hl hpg hsw hst hsp hfr
    go_wp2_with fail
    refine (HN.out w1).mono ?_
    rintro e w2 ⟨rfl, rfl⟩
    go_wp2_with fail
    refine HL.out.mono ?_
    rintro e w2 ⟨rfl, rfl⟩
    go_wp2_with fail
    refine HPG.out.mono ?_
    rintro e w2 ⟨rfl, rfl⟩
    go_wp2_with fail
    refine HSW.out.mono ?_
    rintro e w2 ⟨rfl, rfl⟩
    go_wp2_with fail
    refine HST.out.mono ?_
    rintro e w2 ⟨rfl, rfl⟩
    go_wp2_with fail
    refine HSP.out.mono ?_
    rintro e w2 ⟨rfl, rfl⟩
    go_wp2_with fail
    refine HFR.out.mono ?_
    rintro e w2 ⟨rfl, rfl⟩
    go_wp2
    go_ret
    exact ⟨rfl, HC1.out.none⟩
theorem makes_walk (n a : Int) (w : World) : Calls Try.prog 4 #[.int .i64 n, .int .u64 a] w fun e w' => e = .returned (.bool true) ∧ Below w.heap.size w w' := by
  by_cases h : 1 ≤ n ∧ n ≤ 1048576
  · obtain ⟨k, rfl⟩ : ∃ k : Nat, n = k := ⟨n.toNat, by omega⟩
    exact makes_yes k a w (by omega) (by omega)
  · exact makes_no n a w h
end Go.Proofs.Ytkkhecaajbgggaa
