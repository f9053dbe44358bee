/-
  What each function of the document's answer for layer 8 (package runrigref08) answers and leaves in memory: contracts over the translation. Each says its own conditions.
-/
import Derived.Test.YtdakfgefnapglaaPte08
import Derived.Test.YtdakfgefnapglaaHeap
import Derived.Deep.RegionWith
import Derived.Deep.RegionHeld3
namespace Go.Proofs.Ytdakfgefnapglaa
open Go.RowKit
set_option linter.unusedVariables false
set_option linter.unusedSimpArgs false
attribute [local go_sem] setCell_drewN alloc_drewN

theorem quiet_sum_same {P : Program} {f : FuncId} {args : Array Value} {W : World} {a n : Nat} {v : Value} (h : Calls P f args (W.drewN (a + n)) fun e w' => e = .returned v ∧ W.drewN (a + n) = w') :
    Calls P f args (W.drewN (a + n)) fun e w'' => e = .returned v ∧ ∃ m, w'' = W.drewN (a + m) :=
  h.mono fun _ _ ⟨he, hm⟩ => ⟨he, n, hm.symm⟩
theorem quiet_same {P : Program} {f : FuncId} {args : Array Value} {w : World} {n : Nat} {v : Value} (h : Calls P f args (w.drewN n) fun e w' => e = .returned v ∧ w.drewN n = w') :
    Calls P f args (w.drewN n) fun e w'' => e = .returned v ∧ ∃ m, w'' = w.drewN m :=
  h.mono fun _ _ ⟨he, hm⟩ => ⟨he, n, hm.symm⟩
theorem pow_any (k : Nat) (w : World) (hk : k < 64) : Calls Try.prog 54 #[.int .i64 k] w fun e w' => e = .returned (.int .u64 (2 ^ k : Nat)) ∧ w = w' := by
  go_enter Try.func54, Try.ntmps54
  go_wp2
  go_loop [3, 4] (fun p i => ∃ j : Nat, j ≤ k ∧ p = .int .u64 (2 ^ j : Nat) ∧ i = .int .i64 (j : Int)) (fun _ i => k - (intOf i).toNat)
  case atStart => exact ⟨0, Nat.zero_le _, rfl, rfl⟩
  case round =>
    obtain ⟨j, hj, rfl, rfl⟩ := hrel
    by_cases h0 : j < k
    · have e1 : 2 ^ (j + 1) = 2 ^ j * 2 := Nat.pow_succ 2 j
      have hb := pow_b (show j + 1 < 64 by omega)
      obtain ⟨P, hP⟩ : ∃ P, P = 2 ^ j := ⟨_, rfl⟩
      rw [e1, ← hP] at hb
      rw [← hP] at e1 ⊢
      have E1 := Lib.hid e1; clear e1 hP
      have hb2 := hb.2
      clear hb
      go_wp2
      go_round
      case rel => exact ⟨j + 1, by omega, int_eqB (by rw [E1.out]; omega), by go_num⟩
      case measure => simp [intOf]; omega
    · obtain rfl : j = k := by omega
      go_wp2
      go_ret
      exact ⟨rfl, rfl⟩
theorem pow_int (i : Int) (k : Nat) (P : Nat) (w : World) (hi : i = k) (hk : k < 64) (hP : P = 2 ^ k) : Calls Try.prog 54 #[.int .i64 i] w fun e w' => e = .returned (.int .u64 (P : Nat)) ∧ w = w' := by
  subst hi hP
  exact pow_any k w hk
theorem one_any (b : Bool) (w : World) : Calls Try.prog 72 #[.bool b] w fun e w' => e = .returned (.int .u64 (one b : Nat)) ∧ w = w' := by
  cases b
  all_goals
    go_enter Try.func72, Try.ntmps72
    go_wp2
    go_ret
    exact ⟨rfl, rfl⟩
theorem field_any (x at_ n : Nat) (w : World) (hx : x < 18446744073709551616) (ha : at_ < 64) (hn : n < 64) (hs : at_ + n ≤ 64) : Calls Try.prog 53 #[.int .u64 x, .int .i64 at_, .int .i64 n] w fun e w' => e = .returned (.int .u64 (fld x at_ n : Nat)) ∧ ∃ k, w' = w.drewN k := by
  have ba := (pow_b ha)
  have bn := (pow_b hn)
  have hA := fun w => pow_any at_ w ha
  have hN := fun w => pow_any n w hn
  by_cases h : at_ + n = 64
  · have e1 : fld x at_ n = x / 2 ^ at_ := by
      unfold fld
      refine Nat.mod_eq_of_lt ?_
      refine Nat.div_lt_of_lt_mul ?_
      rw [← Nat.pow_add, h, p64]; exact hx
    rw [e1]
    have k1 : ((at_ : Int) + n == 64) = true := by simp; omega
    clear e1
    have hdl := Nat.div_le_self x (2 ^ at_)
    have hd : ((x : Int) / (2 ^ at_ : Nat)) = ((x / 2 ^ at_ : Nat) : Int) := (Int.natCast_ediv _ _).symm
    generalize 2 ^ at_ = A at ba hA hd hdl ⊢
    generalize 2 ^ n = N at bn hN
    obtain ⟨ba0, ba1⟩ := ba
    generalize x / A = D at hd hdl ⊢
    have HA := Lib.hid hA; clear hA hN h bn
    go_enter Try.func53, Try.ntmps53
    go_wp2_with fail
    refine (HA.out _).mono ?_
    rintro e w1 ⟨rfl, rfl⟩
    go_wp2
    go_ret
    exact ⟨rfl, 0, rfl⟩
  · have k1 : ((at_ : Int) + n == 64) = false := by simp; omega
    have hdl := Nat.div_le_self x (2 ^ at_)
    have hd : ((x : Int) / (2 ^ at_ : Nat)) = ((x / 2 ^ at_ : Nat) : Int) := (Int.natCast_ediv _ _).symm
    unfold fld
    generalize 2 ^ at_ = A at ba hA hd hdl ⊢
    generalize 2 ^ n = N at bn hN ⊢
    obtain ⟨ba0, ba1⟩ := ba
    obtain ⟨bn0, bn1⟩ := bn
    generalize x / A = D at hd hdl ⊢
    have hm : ((D : Int) % (N : Nat)) = ((D % N : Nat) : Int) := (Int.natCast_emod _ _).symm
    have hml := Nat.mod_le D N
    generalize D % N = M at hm hml ⊢
    have HA := Lib.hid hA; have HN := Lib.hid hN; clear hA hN h
    go_enter Try.func53, Try.ntmps53
    go_wp2
    go_quiet ((go_at_call 54; first | with_reducible exact Calls.quiet_of_same ((HA.out _).mono fun _ _ h => ⟨h.1, h.2.symm⟩) | with_reducible exact Calls.quiet_of_same ((HN.out _).mono fun _ _ h => ⟨h.1, h.2.symm⟩)))
    go_wp2
    go_ret
    exact ⟨ret_int hm, _, rfl⟩
theorem field_int (x at_ n : Nat) (ia ni : Int) (w : World) (hx : x < 18446744073709551616) (h1 : ia = at_) (h2 : ni = n) (ha : at_ < 64) (hn : n < 64) (hs : at_ + n ≤ 64) : Calls Try.prog 53 #[.int .u64 x, .int .i64 ia, .int .i64 ni] w fun e w' => e = .returned (.int .u64 (fld x at_ n : Nat)) ∧ ∃ k, w' = w.drewN k := by
  subst h1 h2
  exact field_any x at_ n w hx ha hn hs
theorem fbit (x k : Nat) : (((fld x k 1 : Nat) : Int) == 1) = (x / 2 ^ k % 2 == 1) := by
  unfold fld
  rw [show (2 : Nat) ^ 1 = 2 from rfl, Bool.eq_iff_iff]
  simp only [beq_iff_eq]
  omega
theorem ftop (x : Nat) (h : x < 18446744073709551616) : (((fld x 54 10 : Nat) : Int) == 0) = decide (x < 18014398509481984) := by
  unfold fld
  rw [show (2 : Nat) ^ 54 = 18014398509481984 from rfl, show (2 : Nat) ^ 10 = 1024 from rfl, Bool.eq_iff_iff]
  simp only [beq_iff_eq, decide_eq_true_eq]
  omega
set_option maxHeartbeats 2000000 in
theorem rget_any (x : Nat) (w : World) (hv : x < 18446744073709551616) : Calls Try.prog 55 #[.int .u64 x] w fun r w' => r = .returned (.tuple #[pv (entW x), .bool (decide (x < 18014398509481984))]) ∧ Below w.heap.size w w' := by
  have h0 := fun w => field_int x 0 1 0 1 w hv rfl rfl (by omega) (by omega) (by omega)
  have h1 := fun w => field_int x 1 1 1 1 w hv rfl rfl (by omega) (by omega) (by omega)
  have h2 := fun w => field_int x 2 1 2 1 w hv rfl rfl (by omega) (by omega) (by omega)
  have h3 := fun w => field_int x 3 1 3 1 w hv rfl rfl (by omega) (by omega) (by omega)
  have h4 := fun w => field_int x 4 1 4 1 w hv rfl rfl (by omega) (by omega) (by omega)
  have h5 := fun w => field_int x 5 1 5 1 w hv rfl rfl (by omega) (by omega) (by omega)
  have h6 := fun w => field_int x 6 1 6 1 w hv rfl rfl (by omega) (by omega) (by omega)
  have h7 := fun w => field_int x 7 1 7 1 w hv rfl rfl (by omega) (by omega) (by omega)
  have h8 := fun w => field_int x 8 2 8 2 w hv rfl rfl (by omega) (by omega) (by omega)
  have h9 := fun w => field_int x 10 44 10 44 w hv rfl rfl (by omega) (by omega) (by omega)
  have h10 := fun w => field_int x 54 10 54 10 w hv rfl rfl (by omega) (by omega) (by omega)
  have f1 : fld x 8 2 < 4 := fld_lt x 8 2
  have q1 := fld_rsw x
  have q2 := fld_ppn x
  obtain ⟨b0, e0⟩ : ∃ b, b = (x % 2 == 1) := ⟨_, rfl⟩
  have g0 : (((fld x 0 1 : Nat) : Int) == 1) = b0 := by rw [e0]; have := fbit x 0; rw [Nat.pow_zero, Nat.div_one] at this; exact this
  obtain ⟨b1, e1⟩ : ∃ b, b = (x / 2 % 2 == 1) := ⟨_, rfl⟩
  have g1 : (((fld x 1 1 : Nat) : Int) == 1) = b1 := by rw [e1]; exact fbit x 1
  obtain ⟨b2, e2⟩ : ∃ b, b = (x / 4 % 2 == 1) := ⟨_, rfl⟩
  have g2 : (((fld x 2 1 : Nat) : Int) == 1) = b2 := by rw [e2]; exact fbit x 2
  obtain ⟨b3, e3⟩ : ∃ b, b = (x / 8 % 2 == 1) := ⟨_, rfl⟩
  have g3 : (((fld x 3 1 : Nat) : Int) == 1) = b3 := by rw [e3]; exact fbit x 3
  obtain ⟨b4, e4⟩ : ∃ b, b = (x / 16 % 2 == 1) := ⟨_, rfl⟩
  have g4 : (((fld x 4 1 : Nat) : Int) == 1) = b4 := by rw [e4]; exact fbit x 4
  obtain ⟨b5, e5⟩ : ∃ b, b = (x / 32 % 2 == 1) := ⟨_, rfl⟩
  have g5 : (((fld x 5 1 : Nat) : Int) == 1) = b5 := by rw [e5]; exact fbit x 5
  obtain ⟨b6, e6⟩ : ∃ b, b = (x / 64 % 2 == 1) := ⟨_, rfl⟩
  have g6 : (((fld x 6 1 : Nat) : Int) == 1) = b6 := by rw [e6]; exact fbit x 6
  obtain ⟨b7, e7⟩ : ∃ b, b = (x / 128 % 2 == 1) := ⟨_, rfl⟩
  have g7 : (((fld x 7 1 : Nat) : Int) == 1) = b7 := by rw [e7]; exact fbit x 7
  have g8 := ftop x hv
  unfold pv entW
  dsimp only
  rw [← e0, ← e1, ← e2, ← e3, ← e4, ← e5, ← e6, ← e7, ← q1, ← q2]
  generalize decide (x < 18014398509481984) = c at g8 ⊢
  generalize fld x 0 1 = y0 at h0 g0 ⊢
  generalize fld x 1 1 = y1 at h1 g1 ⊢
  generalize fld x 2 1 = y2 at h2 g2 ⊢
  generalize fld x 3 1 = y3 at h3 g3 ⊢
  generalize fld x 4 1 = y4 at h4 g4 ⊢
  generalize fld x 5 1 = y5 at h5 g5 ⊢
  generalize fld x 6 1 = y6 at h6 g6 ⊢
  generalize fld x 7 1 = y7 at h7 g7 ⊢
  generalize fld x 8 2 = r at h8 f1 ⊢
  generalize fld x 10 44 = p at h9 ⊢
  generalize fld x 54 10 = t at h10 g8 ⊢
  have H0 := Lib.hid h0; have H1 := Lib.hid h1; have H2 := Lib.hid h2; have H3 := Lib.hid h3; have H4 := Lib.hid h4; have H5 := Lib.hid h5; have H6 := Lib.hid h6; have H7 := Lib.hid h7; have H8 := Lib.hid h8; have H9 := Lib.hid h9; have H10 := Lib.hid h10; clear h0 h1 h2 h3 h4 h5 h6 h7 h8 h9 h10 e0 e1 e2 e3 e4 e5 e6 e7 q1 q2
  go_enter Try.func55, Try.ntmps55
  go_wp2_with fail
  refine (H0.out _).mono ?_
  rintro e w1 ⟨rfl, n0, rfl⟩
  go_wp2_with fail
  refine (H1.out _).mono ?_
  rintro e w1 ⟨rfl, n1, rfl⟩
  go_wp2_with fail
  refine (H2.out _).mono ?_
  rintro e w1 ⟨rfl, n2, rfl⟩
  go_wp2_with fail
  refine (H3.out _).mono ?_
  rintro e w1 ⟨rfl, n3, rfl⟩
  go_wp2_with fail
  refine (H4.out _).mono ?_
  rintro e w1 ⟨rfl, n4, rfl⟩
  go_wp2_with fail
  refine (H5.out _).mono ?_
  rintro e w1 ⟨rfl, n5, rfl⟩
  go_wp2_with fail
  refine (H6.out _).mono ?_
  rintro e w1 ⟨rfl, n6, rfl⟩
  go_wp2_with fail
  refine (H7.out _).mono ?_
  rintro e w1 ⟨rfl, n7, rfl⟩
  go_wp2_with fail
  refine (H8.out _).mono ?_
  rintro e w1 ⟨rfl, n8, rfl⟩
  go_wp2_with fail
  refine (H9.out _).mono ?_
  rintro e w1 ⟨rfl, n9, rfl⟩
  go_wp2
  refine wp_region_held_drew (S := fun w' => w'.cell? ⟨w.heap.size + 1, 0, none⟩ = some (.bool b0) ∧ w'.cell? ⟨w.heap.size + 1, 1, none⟩ = some (.bool b1) ∧ w'.cell? ⟨w.heap.size + 1, 2, none⟩ = some (.bool b2) ∧ w'.cell? ⟨w.heap.size + 1, 3, none⟩ = some (.bool b3) ∧ w'.cell? ⟨w.heap.size + 1, 4, none⟩ = some (.bool b4) ∧ w'.cell? ⟨w.heap.size + 1, 5, none⟩ = some (.bool b5) ∧ w'.cell? ⟨w.heap.size + 1, 6, none⟩ = some (.bool b6) ∧ w'.cell? ⟨w.heap.size + 1, 7, none⟩ = some (.bool b7) ∧ w'.cell? ⟨w.heap.size + 1, 8, none⟩ = some (.int .i64 (r : Int)) ∧ w'.cell? ⟨w.heap.size + 1, 9, none⟩ = some (.int .u64 (p : Int))) (by kernel_rfl) (by simp [go_sem]) (fun hHeld => ?_)
  simp only [List.size_toArray, List.length_cons, List.length_nil, Nat.reduceAdd]
  rw [show Array.replicate 6 false = [false, false, false, false, false, false].toArray from rfl]
  refine wpAnyH_take (i := 0) (v := ?_) rfl (by kernel_rfl) (by kernel_rfl) (by kernel_rfl) (fun _ _ _ h => h) (Or.inl ⟨by rfl, ?yldq⟩) (by assumption) ?_
  case yldq => (intro w hSw; (try dsimp only at hSw); go_simp; try with_reducible rfl)
  try simp only [Act.put, List.setIfInBounds_toArray, List.set_cons_zero, List.set_cons_succ, List.getElem_toArray, List.getElem_cons_succ, List.getElem_cons_zero]
  refine wpAnyH_take (i := 1) (v := ?_) rfl (by kernel_rfl) (by kernel_rfl) (by kernel_rfl) (fun _ _ _ h => h) (Or.inl ⟨by rfl, ?yldq⟩) (by assumption) ?_
  case yldq => (intro w hSw; (try dsimp only at hSw); go_simp; try with_reducible rfl)
  try simp only [Act.put, List.setIfInBounds_toArray, List.set_cons_zero, List.set_cons_succ, List.getElem_toArray, List.getElem_cons_succ, List.getElem_cons_zero]
  refine wpAnyH_ready (rs := [2]) (by kernel_rfl) (by simp) ?_
  refine AllReadyH.cons rfl (fun K hK => ?_) AllReadyH.nil
  go_simp
  refine (H10.out _).mono ?_
  rintro e w1 ⟨rfl, n10, rfl⟩
  refine hK.out _ _ ?hS3 (fun _ => ?_)
  case hS3 => simp [go_sem]
  clear hK K
  refine wpAnyH_take (i := 3) (v := ?_) rfl (by kernel_rfl) (by kernel_rfl) (by kernel_rfl) (fun _ _ _ h => h) (Or.inl ⟨by rfl, ?yldq⟩) (by assumption) ?_
  case yldq => (intro w hSw; (try dsimp only at hSw); go_simp; try with_reducible rfl)
  try simp only [Act.put, List.setIfInBounds_toArray, List.set_cons_zero, List.set_cons_succ, List.getElem_toArray, List.getElem_cons_succ, List.getElem_cons_zero]
  refine wpAnyH_ready (rs := [4]) (by kernel_rfl) (by simp) ?_
  refine AllReadyH.cons rfl (fun K hK => ?_) AllReadyH.nil
  go_simp
  refine hK.out _ _ ?hS4 (fun _ => ?_)
  case hS4 => simp [go_sem]
  clear hK K
  refine wpAnyH_take (i := 5) (v := ?_) rfl (by kernel_rfl) (by kernel_rfl) (by kernel_rfl) (fun _ _ _ h => h) (Or.inl ⟨by rfl, ?yldq⟩) (by assumption) ?_
  case yldq => (intro w hSw; (try dsimp only at hSw); go_simp; try with_reducible rfl)
  try simp only [Act.put, List.setIfInBounds_toArray, List.set_cons_zero, List.set_cons_succ, List.getElem_toArray, List.getElem_cons_succ, List.getElem_cons_zero]
  refine wpAnyH_done (by kernel_rfl) ?_ _
  go_wp2
  refine bodyPost_ret (v := .tuple #[.agg #[.bool b0, .bool b1, .bool b2, .bool b3, .bool b4, .bool b5, .bool b6, .bool b7, .int .i64 (r : Int), .int .u64 (p : Int)], .bool c]) (by simp [results, Try.results55, go_sem]) rfl ⟨rfl, ?_⟩
  repeat (first | (with_reducible refine Below.setCell ?_ ?ybel _; case ybel => (first | omega | (simp <;> omega))) | (with_reducible refine Below.alloc ?_ ?ybel _; case ybel => (first | omega | (simp <;> omega))) | (with_reducible refine below_drewNsB ?_ _) | (with_reducible refine below_drewNs ?_ _) | (with_reducible refine Below.drew ?_) | (with_reducible exact Below.refl _ _))
theorem level_or (l : Int) : (decide (l = 0 ∨ l = 1 ∨ l = 2)) = (decide (0 ≤ l ∧ l < 3)) := by
  rw [Bool.eq_iff_iff]; simp only [decide_eq_true_eq]; omega
theorem rlevel_yes (l : Nat) (w : World) (h : l < 3) : Calls Try.prog 57 #[.int .i64 l] w fun e w' => e = .returned (.bool true) ∧ w = w' := by
  have h3 : l = 0 ∨ l = 1 ∨ l = 2 := by omega
  rcases h3 with rfl | rfl | rfl
  all_goals
    go_enter Try.func57, Try.ntmps57
    go_wp2
    go_ret
    exact ⟨rfl, rfl⟩
theorem rlevel_no (l : Int) (w : World) (h : ¬ (0 ≤ l ∧ l < 3)) : Calls Try.prog 57 #[.int .i64 l] w fun e w' => e = .returned (.bool false) ∧ w = w' := by
  have h0 : (l == 0) = false := by simp; omega
  have h1 : (l == 1) = false := by simp; omega
  have h2 : (l == 2) = false := by simp; omega
  clear h
  go_enter Try.func57, Try.ntmps57
  go_wp2
  go_ret
  exact ⟨rfl, rfl⟩
theorem rspan_no (l : Int) (w : World) (h : ¬ (0 ≤ l ∧ l < 3)) : Calls Try.prog 58 #[.int .i64 l] w fun e w' => e = .returned (.int .u64 0) ∧ w = w' := by
  go_enter Try.func58, Try.ntmps58
  go_wp2_with fail
  refine (rlevel_no l _ h).mono ?_
  rintro e w1 ⟨rfl, rfl⟩
  go_wp2
  go_ret
  exact ⟨rfl, rfl⟩
theorem rspan_yes (l : Nat) (w : World) (h : l < 3) : Calls Try.prog 58 #[.int .i64 l] w fun e w' => e = .returned (.int .u64 (2 ^ (12 + 9 * l) : Nat)) ∧ w = w' := by
  have hc := fun w => rlevel_yes l w h
  have hp := fun w => pow_int (12 + 9 * (l : Int)) (12 + 9 * l) _ w (by omega) (by omega) rfl
  generalize 2 ^ (12 + 9 * l) = S at hp ⊢
  have HC := Lib.hid hc; have HP := Lib.hid hp; clear hc hp
  go_enter Try.func58, Try.ntmps58
  go_wp2_with fail
  refine (HC.out _).mono ?_
  rintro e w1 ⟨rfl, rfl⟩
  go_wp2_with fail
  refine (HP.out _).mono ?_
  rintro e w1 ⟨rfl, rfl⟩
  go_wp2
  go_ret
  exact ⟨rfl, rfl⟩
set_option maxHeartbeats 2000000 in
theorem rput_any (e : Ent) (w : World) (hr : -9223372036854775808 ≤ e.rsw ∧ e.rsw ≤ 9223372036854775807) (hp : e.ppn < 18446744073709551616) : Calls Try.prog 56 #[pv e] w fun r w' => r = .returned (.int .u64 (wordE e : Nat)) ∧ Below w.heap.size w w' := by
  obtain ⟨v, r, x1, x, u, g, a, d, rsw, ppn⟩ := e
  unfold pv wordE
  dsimp only at hr hp ⊢
  obtain ⟨hr0, hr1⟩ := hr
  have hq := fun w => pow_int 44 44 17592186044416 w rfl (by omega) rfl
  have HQ := Lib.hid hq; clear hq
  obtain ⟨t1, t2, t3, t4⟩ := tmod4 rsw
  have q4 : (rsw % 4).toNat < 4 := by omega
  generalize (rsw % 4).toNat = q at t1 t2 q4 ⊢
  obtain ⟨t, ht⟩ : ∃ t, t = rsw.tmod 4 := ⟨_, rfl⟩
  rw [← ht] at t1 t2 t3 t4
  have hT : rsw.tmod 4 = t := ht.symm
  clear ht
  have k0 := one_le v
  have c0' := fun w => one_any v w
  generalize one v = o0 at k0 c0' ⊢
  have O0 := Lib.hid c0'; clear c0'
  have k1 := one_le r
  have c1' := fun w => one_any r w
  generalize one r = o1 at k1 c1' ⊢
  have O1 := Lib.hid c1'; clear c1'
  have k2 := one_le x1
  have c2' := fun w => one_any x1 w
  generalize one x1 = o2 at k2 c2' ⊢
  have O2 := Lib.hid c2'; clear c2'
  have k3 := one_le x
  have c3' := fun w => one_any x w
  generalize one x = o3 at k3 c3' ⊢
  have O3 := Lib.hid c3'; clear c3'
  have k4 := one_le u
  have c4' := fun w => one_any u w
  generalize one u = o4 at k4 c4' ⊢
  have O4 := Lib.hid c4'; clear c4'
  have k5 := one_le g
  have c5' := fun w => one_any g w
  generalize one g = o5 at k5 c5' ⊢
  have O5 := Lib.hid c5'; clear c5'
  have k6 := one_le a
  have c6' := fun w => one_any a w
  generalize one a = o6 at k6 c6' ⊢
  have O6 := Lib.hid c6'; clear c6'
  have k7 := one_le d
  have c7' := fun w => one_any d w
  generalize one d = o7 at k7 c7' ⊢
  have O7 := Lib.hid c7'; clear c7'
  by_cases hn : t < 0
  · have t1 := t1 hn
    clear t2
    go_enter Try.func56, Try.ntmps56
    go_wp2
    go_quiet ((go_at_call 72; first | with_reducible exact quiet_same (O0.out _) | with_reducible exact quiet_same (O1.out _) | with_reducible exact quiet_same (O2.out _) | with_reducible exact quiet_same (O3.out _) | with_reducible exact quiet_same (O4.out _) | with_reducible exact quiet_same (O5.out _) | with_reducible exact quiet_same (O6.out _) | with_reducible exact quiet_same (O7.out _)))
    go_wp2
    go_quiet ((go_at_call 54; with_reducible exact quiet_sum_same (HQ.out _)))
    go_wp2
    go_ret
    refine ⟨ret_int (by omega), ?_⟩
    repeat (first | (with_reducible refine Below.setCell ?_ ?ybel _; case ybel => (first | omega | (simp <;> omega))) | (with_reducible refine Below.alloc ?_ ?ybel _; case ybel => (first | omega | (simp <;> omega))) | (with_reducible refine below_drewNsB ?_ _) | (with_reducible refine below_drewNs ?_ _) | (with_reducible refine Below.drew ?_) | (with_reducible exact Below.refl _ _))
  · have t2 := t2 hn
    subst t2
    clear t1 t3 hn
    go_enter Try.func56, Try.ntmps56
    go_wp2
    go_quiet ((go_at_call 72; first | with_reducible exact quiet_same (O0.out _) | with_reducible exact quiet_same (O1.out _) | with_reducible exact quiet_same (O2.out _) | with_reducible exact quiet_same (O3.out _) | with_reducible exact quiet_same (O4.out _) | with_reducible exact quiet_same (O5.out _) | with_reducible exact quiet_same (O6.out _) | with_reducible exact quiet_same (O7.out _)))
    go_wp2
    go_quiet ((go_at_call 54; with_reducible exact quiet_sum_same (HQ.out _)))
    go_wp2
    go_ret
    refine ⟨ret_int (by omega), ?_⟩
    repeat (first | (with_reducible refine Below.setCell ?_ ?ybel _; case ybel => (first | omega | (simp <;> omega))) | (with_reducible refine Below.alloc ?_ ?ybel _; case ybel => (first | omega | (simp <;> omega))) | (with_reducible refine below_drewNsB ?_ _) | (with_reducible refine below_drewNs ?_ _) | (with_reducible refine Below.drew ?_) | (with_reducible exact Below.refl _ _))
theorem rcan_any (va : Nat) (w : World) (hv : va < 18446744073709551616) : Calls Try.prog 32 #[.int .u64 va] w fun e w' => e = .returned (.bool (canN va)) ∧ ∃ k, w' = w.drewN k := by
  have h0 := fun w => field_int va 38 26 38 26 w hv rfl rfl (by omega) (by omega) (by omega)
  have e0 : fld va 38 26 = va / 274877906944 := by
    show va / 274877906944 % 67108864 = va / 274877906944
    omega
  rw [e0] at h0
  have hq := fun w => pow_int 26 26 67108864 w rfl (by omega) rfl
  have HQ := Lib.hid hq; clear hq
  unfold canN
  have hm : va / 274877906944 < 67108864 := by omega
  generalize va / 274877906944 = m at h0 hm ⊢
  have H0 := Lib.hid h0; clear h0 e0 hv
  by_cases hz : m = 0
  · subst hz
    rw [decide_eq_true (.inl rfl)]
    clear hm
    go_enter Try.func32, Try.ntmps32
    go_wp2_with fail
    refine (H0.out _).mono ?_
    rintro e w1 ⟨rfl, n0, rfl⟩
    go_wp2
    go_ret
    exact ⟨rfl, _, rfl⟩
  · have k0 : ((m : Int) == 0) = false := by simp; omega
    have k1 : ((m : Int) == 67108863) = decide (m = 0 ∨ m = 67108863) := by rw [Bool.eq_iff_iff]; simp; omega
    generalize decide (m = 0 ∨ m = 67108863) = c at k1 ⊢
    clear hz
    go_enter Try.func32, Try.ntmps32
    go_wp2_with fail
    refine (H0.out _).mono ?_
    rintro e w1 ⟨rfl, n0, rfl⟩
    go_wp2_with fail
    refine (HQ.out _).mono ?_
    rintro e w1 ⟨rfl, rfl⟩
    go_wp2
    go_ret
    exact ⟨rfl, _, rfl⟩
end Go.Proofs.Ytdakfgefnapglaa
