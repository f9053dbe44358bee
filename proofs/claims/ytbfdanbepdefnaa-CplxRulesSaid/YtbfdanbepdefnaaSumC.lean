/-
  What the sum of the document's answer for layer 4 (package runrigref04) answers and leaves in memory: a contract over the translation, under its own conditions.
-/
import Derived.Test.YtbfdanbepdefnaaSumE
import Derived.Deep.LoopGhost
namespace Go.Proofs.Ytbfdanbepdefnaa
open Go.RowKit Ieee
set_option linter.unusedVariables false
attribute [local go_sem] setCell_drewN alloc_drewN

set_option maxRecDepth 100000 in
set_option maxHeartbeats 4000000 in
theorem rsum_C (s t : Bool) (m n : Nat) (e f : Int) (w : World) (hm : m ≠ 0) (hn : n ≠ 0) (hm8 : bl m ≤ 48) (hn8 : bl n ≤ 48) (he : -300 ≤ e) (he' : e ≤ 300) (hf : -300 ≤ f) (hf' : f ≤ 300) (hlt : (bl n : Int) + f < bl m + e) (hal : (e - (61 - bl m : Nat)) ≤ f) :
    Calls Try.prog 29 #[.agg #[.bool t, .int .u64 (n : Int), .int .i64 f, .int .i64 0], .agg #[.bool s, .int .u64 (m : Int), .int .i64 e, .int .i64 0]] w (SumTo (told (Datum.sum (.number t n f) (.number s m e))) w) := by
  have hD := duo_of hm hm8 hn8 he he' hf hf' (by omega)
  have hm64 : m < 18446744073709551616 := Nat.lt_of_lt_of_le (lt_of_bl hm8) (by decide)
  have hn64 : n < 18446744073709551616 := Nat.lt_of_lt_of_le (lt_of_bl hn8) (by decide)
  have k1 : ((m : Int) == 0) = false := by simp; exact hm
  have k2 : ((n : Int) == 0) = false := by simp; exact hn
  have hbm : bl m ≠ 0 := by rw [bl_pos hm]; omega
  have HM := Lib.hid hm; have HN := Lib.hid hn; have HD := Lib.hid hD; have HB := Lib.hid hbm
  clear hm hn hD hbm
  generalize hT : told (Datum.sum (.number t n f) (.number s m e)) = T
  have HT := Lib.hid hT; clear hT
  go_enter Try.func29, Try.ntmps29
  go_wp2
  go_quiet ((go_at_call 39; exact Calls.quiet_of_same ((rbitlen_any _ _ (by assumption)).mono fun _ _ h => ⟨h.1, h.2.symm⟩)))
  go_wp2
  go_loopg [] (61 - bl m) (fun g wr => ∃ j : Nat, j + g = 61 - bl m ∧ wr = ((((w.alloc (.cells #[.bool s, .int .u64 (m * 2 ^ j : Nat), .int .i64 (e - j), .int .i64 0] 41)).alloc (.cells #[.bool t, .int .u64 (n : Int), .int .i64 f, .int .i64 0] 41)).alloc (.cells #[.bool false, .int .u64 0, .int .i64 0, .int .i64 0] 41)).alloc (.cells #[.bool t, .int .u64 (n : Int), .int .i64 f, .int .i64 0] 41)).drewN nq)
  case atStart => exact ⟨0, by omega, by simp⟩
  case round =>
    obtain ⟨j, hj, rfl⟩ := hrel
    have hbl := bl_mul_pow HM.out j
    have hM61 : m * 2 ^ j < 2 ^ (bl m + j) := by rw [Nat.pow_add]; exact Nat.mul_lt_mul_of_pos_right (lt_bl m) (Nat.two_pow_pos j)
    cases gk with
    | succ g =>
      have hM60 : m * 2 ^ j ≤ 1152921504606846975 := by
        have : 2 ^ (bl m + j) ≤ 2 ^ 60 := Nat.pow_le_pow_right (by decide) (by omega)
        omega
      have hsucc : m * 2 ^ (j + 1) = m * 2 ^ j * 2 := by rw [Nat.pow_succ, Nat.mul_assoc]
      have c := fun w => rbitlen_any (m * 2 ^ j) w (by omega)
      rw [hbl] at c
      have hlt : ((bl m + j : Nat) : Int) < 61 := by omega
      have C := Lib.hid c; clear c
      have HS := Lib.hid hsucc
      clear hbl hM61 hsucc
      generalize m * 2 ^ j = M at hM60 C HS ⊢
      go_wp2_with (go_at_call 39; refine (C.out _).mono ?_; rintro x w' ⟨rfl, rfl⟩)
      go_roundg g
      case measure => omega
      case rel =>
        refine ⟨j + 1, by omega, ?_⟩
        rw [HS.out, show (e - ((j + 1 : Nat) : Int)) = e - j - 1 from by omega, Int.natCast_mul]
        rfl
    | zero =>
      obtain rfl : j = 61 - bl m := by omega
      have htop := HD.out.top
      have hlow := HD.out.low
      have hup := HD.out.up
      have hsm := HD.out.small
      clear hM61 hj hbl
      generalize m * 2 ^ (61 - bl m) = A at HD htop ⊢
      obtain ⟨E, hE⟩ : ∃ E : Int, E = e - (61 - bl m : Nat) := ⟨_, rfl⟩
      rw [← hE] at HD hlow hup hsm hal ⊢
      have hA60 := bl_le_self (n := A) (bl_ne (by rw [htop]; decide))
      have hA61 := lt_bl A
      rw [htop] at hA60 hA61
      have hA1 : 1152921504606846976 ≤ A := hA60
      have hA2 : A < 2305843009213693952 := hA61
      have c := fun w => rbitlen_any A w (by omega)
      rw [htop] at c
      have C := Lib.hid c
      clear c htop hA60 hA61 hE
      go_wp2_with (go_at_call 39; refine (C.out _).mono ?_; rintro x w' ⟨rfl, rfl⟩)
      obtain ⟨D, hDD⟩ : ∃ D : Nat, (D : Int) = f - E := ⟨(f - E).toNat, by omega⟩
      go_loopg [] D (fun g wr => ∃ j : Nat, j + g = D ∧ wr = ((((w.alloc (.cells #[.bool s, .int .u64 (A : Int), .int .i64 E, .int .i64 0] 41)).alloc (.cells #[.bool t, .int .u64 (n * 2 ^ j : Nat), .int .i64 (f - j), .int .i64 0] 41)).alloc (.cells #[.bool false, .int .u64 0, .int .i64 0, .int .i64 0] 41)).alloc (.cells #[.bool t, .int .u64 (n : Int), .int .i64 f, .int .i64 0] 41)).drewN nq)
      case atStart => exact ⟨0, by omega, by simp⟩
      case round =>
        obtain ⟨j, hj, rfl⟩ := hrel
        cases gk with
        | succ g =>
          have hB : alignB n f E = n * 2 ^ D := by unfold alignB; rw [if_pos hal, show (f - E).toNat = D from by omega]
          have hMle : n * 2 ^ j * 2 ≤ n * 2 ^ D := by
            rw [Nat.mul_assoc, ← Nat.pow_succ]
            exact Nat.mul_le_mul_left _ (Nat.pow_le_pow_right (by decide) (by omega))
          rw [hB] at hsm
          have hM60 : n * 2 ^ j ≤ 1152921504606846975 := by omega
          have hsucc : n * 2 ^ (j + 1) = n * 2 ^ j * 2 := by rw [Nat.pow_succ, Nat.mul_assoc]
          have hgt : E < f - j := by omega
          have HS := Lib.hid hsucc
          clear hB hMle hsm hsucc
          generalize n * 2 ^ j = M at hM60 HS ⊢
          go_wp2
          go_roundg g
          case measure => omega
          case rel =>
            refine ⟨j + 1, by omega, ?_⟩
            rw [HS.out, show (f - ((j + 1 : Nat) : Int)) = f - j - 1 from by omega, Int.natCast_mul]
            rfl
        | zero =>
          obtain rfl : j = D := by omega
          have hB : alignB n f E = n * 2 ^ j := by unfold alignB; rw [if_pos hal, show (f - E).toNat = j from by omega]
          have hO : oddB n f E = false := by unfold oddB; simp [hal]
          rw [hB, hO] at HD
          rw [hB] at hsm
          rw [show f - (j : Int) = E from by omega]
          clear hB hO hj hal hDD
          generalize n * 2 ^ j = B at HD hsm ⊢
          have hB2 : B < 2305843009213693952 := hsm
          clear hsm
          go_wp2
          refine wp_loop_rounds 1 ?_
          rw [rounds_succ]
          by_cases hst : s = t
          · subst hst
            have k3 : (s == s) = true := by simp
            have c := fun w => rfit_any s (A + B) E 0 (53 : Nat) (-1074) false w (by omega) (by omega) (by omega) (by omega) (by omega) (by omega) (by omega)
            rw [show ((A + B : Nat) : Int) = (A : Int) + B from by omega] at c
            have C := Lib.hid c; clear c
            go_wp2_with fail
            refine (C.out _).mono ?_
            rintro x w2 ⟨rfl, hb⟩
            have HBB := Lib.hid hb
            obtain ⟨hbc, hbf⟩ := bcell hb
            have hz : w.heap.size + 1 + 1 + 1 + 1 < w2.heap.size := by have := hb.size; simp at this; omega
            clear hb
            go_wp2
            refine bodyPost_ret (v := .agg #[.bool s, .int .u64 ((fitP 53 (-1074) false (A + B) E).1 : Nat), .int .i64 (fitP 53 (-1074) false (A + B) E).2, .int .i64 0]) (by simp [results, Try.results29, go_sem, hbc]) rfl ⟨.number s _ _, rfl, fit53_bd (A + B) E false (by omega) (by omega) (by omega) (by omega) s, ?_, ?_⟩
            · rw [← HT.out, sum_comm]
              exact (duo_same HD.out s he hf).symm
            · skip
              repeat (first | (with_reducible refine Below.setCell ?_ ?ybel _; case ybel => (first | omega | (simp <;> omega))) | (with_reducible refine Below.alloc ?_ ?ybel _; case ybel => (first | omega | (simp <;> omega))) | (with_reducible refine below_drewNs ?_ _) | (with_reducible refine Below.drew ?_) | (with_reducible exact Below.refl _ _))
              refine Below.trans ?_ (HBB.out.mono (by simp <;> omega))
              repeat (first | (with_reducible refine Below.setCell ?_ ?ybel _; case ybel => (first | omega | (simp <;> omega))) | (with_reducible refine Below.alloc ?_ ?ybel _; case ybel => (first | omega | (simp <;> omega))) | (with_reducible refine below_drewNs ?_ _) | (with_reducible refine Below.drew ?_) | (with_reducible exact Below.refl _ _))
          · have k3 : (s == t) = false := by simp; exact hst
            have HST := Lib.hid hst; clear hst
            by_cases hAB : A < B
            · go_wp2
              refine bodyPost_ret (v := .agg #[.bool t, .int .u64 ((B : Int) - A), .int .i64 E, .int .i64 0]) (by simp [results, Try.results29, go_sem]) rfl ⟨.number t (B - A) E, (by show _ = Ending.returned (.agg #[.bool t, .int .u64 ((B - A : Nat) : Int), .int .i64 E, .int .i64 0]); rw [show ((B - A : Nat) : Int) = (B : Int) - A from by omega]), ?_, ?_, ?_⟩
              · show Okz _; simp only [Okz]; omega
              · rw [← HT.out, sum_comm]
                exact (duo_less HD.out HST.out hAB he hf).symm
              · skip
                repeat (first | (with_reducible refine Below.setCell ?_ ?ybel _; case ybel => (first | omega | (simp <;> omega))) | (with_reducible refine Below.alloc ?_ ?ybel _; case ybel => (first | omega | (simp <;> omega))) | (with_reducible refine below_drewNs ?_ _) | (with_reducible refine Below.drew ?_) | (with_reducible exact Below.refl _ _))
            · have hBA : B ≤ A := by omega
              by_cases h0 : A = B
              · have k4 : ((A : Int) - B == 0) = true := by simp; omega
                have H0 := Lib.hid h0; clear h0
                go_wp2
                refine bodyPost_ret (v := .agg #[.bool false, .int .u64 0, .int .i64 0, .int .i64 0]) (by simp [results, Try.results29, go_sem]) rfl ⟨.number false 0 0, rfl, ?_, ?_, ?_⟩
                · show Okz _; simp only [Okz]; omega
                · rw [← HT.out, sum_comm]
                  exact (duo_zero HD.out HST.out H0.out rfl he hf).symm
                · skip
                  repeat (first | (with_reducible refine Below.setCell ?_ ?ybel _; case ybel => (first | omega | (simp <;> omega))) | (with_reducible refine Below.alloc ?_ ?ybel _; case ybel => (first | omega | (simp <;> omega))) | (with_reducible refine below_drewNs ?_ _) | (with_reducible refine Below.drew ?_) | (with_reducible exact Below.refl _ _))
              · have k4 : ((A : Int) - B == 0) = false := by simp; omega
                have c := fun w => rfit_any s (A - B) E 0 (53 : Nat) (-1074) false w (by omega) (by omega) (by omega) (by omega) (by omega) (by omega) (by omega)
                rw [show ((A - B : Nat) : Int) = (A : Int) - B from by omega] at c
                have C := Lib.hid c; clear c
                go_wp2_with fail
                refine (C.out _).mono ?_
                rintro x w2 ⟨rfl, hb⟩
                have HBB := Lib.hid hb
                obtain ⟨hbc, hbf⟩ := bcell hb
                have hz : w.heap.size + 1 + 1 + 1 + 1 < w2.heap.size := by have := hb.size; simp at this; omega
                clear hb
                go_wp2
                refine bodyPost_ret (v := .agg #[.bool s, .int .u64 ((fitP 53 (-1074) false (A - B) E).1 : Nat), .int .i64 (fitP 53 (-1074) false (A - B) E).2, .int .i64 0]) (by simp [results, Try.results29, go_sem, hbc]) rfl ⟨.number s _ _, rfl, fit53_bd (A - B) E false (by omega) (by omega) (by omega) (by omega) s, ?_, ?_⟩
                · rw [← HT.out, sum_comm]
                  exact (duo_more HD.out HST.out hBA (A - B) (by simp) (by omega) he hf).symm
                · skip
                  repeat (first | (with_reducible refine Below.setCell ?_ ?ybel _; case ybel => (first | omega | (simp <;> omega))) | (with_reducible refine Below.alloc ?_ ?ybel _; case ybel => (first | omega | (simp <;> omega))) | (with_reducible refine below_drewNs ?_ _) | (with_reducible refine Below.drew ?_) | (with_reducible exact Below.refl _ _))
                  refine Below.trans ?_ (HBB.out.mono (by simp <;> omega))
                  repeat (first | (with_reducible refine Below.setCell ?_ ?ybel _; case ybel => (first | omega | (simp <;> omega))) | (with_reducible refine Below.alloc ?_ ?ybel _; case ybel => (first | omega | (simp <;> omega))) | (with_reducible refine below_drewNs ?_ _) | (with_reducible refine Below.drew ?_) | (with_reducible exact Below.refl _ _))
set_option maxRecDepth 100000 in
set_option maxHeartbeats 4000000 in
theorem rsum_D (s t : Bool) (m n : Nat) (e f : Int) (w : World) (hm : m ≠ 0) (hn : n ≠ 0) (hm8 : bl m ≤ 48) (hn8 : bl n ≤ 48) (he : -300 ≤ e) (he' : e ≤ 300) (hf : -300 ≤ f) (hf' : f ≤ 300) (hlt : (bl n : Int) + f < bl m + e) (hal : f < (e - (61 - bl m : Nat))) :
    Calls Try.prog 29 #[.agg #[.bool t, .int .u64 (n : Int), .int .i64 f, .int .i64 0], .agg #[.bool s, .int .u64 (m : Int), .int .i64 e, .int .i64 0]] w (SumTo (told (Datum.sum (.number t n f) (.number s m e))) w) := by
  have hD := duo_of hm hm8 hn8 he he' hf hf' (by omega)
  have hm64 : m < 18446744073709551616 := Nat.lt_of_lt_of_le (lt_of_bl hm8) (by decide)
  have hn64 : n < 18446744073709551616 := Nat.lt_of_lt_of_le (lt_of_bl hn8) (by decide)
  have k1 : ((m : Int) == 0) = false := by simp; exact hm
  have k2 : ((n : Int) == 0) = false := by simp; exact hn
  have hbm : bl m ≠ 0 := by rw [bl_pos hm]; omega
  have HM := Lib.hid hm; have HN := Lib.hid hn; have HD := Lib.hid hD; have HB := Lib.hid hbm
  clear hm hn hD hbm
  generalize hT : told (Datum.sum (.number t n f) (.number s m e)) = T
  have HT := Lib.hid hT; clear hT
  go_enter Try.func29, Try.ntmps29
  go_wp2
  go_quiet ((go_at_call 39; exact Calls.quiet_of_same ((rbitlen_any _ _ (by assumption)).mono fun _ _ h => ⟨h.1, h.2.symm⟩)))
  go_wp2
  go_loopg [] (61 - bl m) (fun g wr => ∃ j : Nat, j + g = 61 - bl m ∧ wr = ((((w.alloc (.cells #[.bool s, .int .u64 (m * 2 ^ j : Nat), .int .i64 (e - j), .int .i64 0] 41)).alloc (.cells #[.bool t, .int .u64 (n : Int), .int .i64 f, .int .i64 0] 41)).alloc (.cells #[.bool false, .int .u64 0, .int .i64 0, .int .i64 0] 41)).alloc (.cells #[.bool t, .int .u64 (n : Int), .int .i64 f, .int .i64 0] 41)).drewN nq)
  case atStart => exact ⟨0, by omega, by simp⟩
  case round =>
    obtain ⟨j, hj, rfl⟩ := hrel
    have hbl := bl_mul_pow HM.out j
    have hM61 : m * 2 ^ j < 2 ^ (bl m + j) := by rw [Nat.pow_add]; exact Nat.mul_lt_mul_of_pos_right (lt_bl m) (Nat.two_pow_pos j)
    cases gk with
    | succ g =>
      have hM60 : m * 2 ^ j ≤ 1152921504606846975 := by
        have : 2 ^ (bl m + j) ≤ 2 ^ 60 := Nat.pow_le_pow_right (by decide) (by omega)
        omega
      have hsucc : m * 2 ^ (j + 1) = m * 2 ^ j * 2 := by rw [Nat.pow_succ, Nat.mul_assoc]
      have c := fun w => rbitlen_any (m * 2 ^ j) w (by omega)
      rw [hbl] at c
      have hlt : ((bl m + j : Nat) : Int) < 61 := by omega
      have C := Lib.hid c; clear c
      have HS := Lib.hid hsucc
      clear hbl hM61 hsucc
      generalize m * 2 ^ j = M at hM60 C HS ⊢
      go_wp2_with (go_at_call 39; refine (C.out _).mono ?_; rintro x w' ⟨rfl, rfl⟩)
      go_roundg g
      case measure => omega
      case rel =>
        refine ⟨j + 1, by omega, ?_⟩
        rw [HS.out, show (e - ((j + 1 : Nat) : Int)) = e - j - 1 from by omega, Int.natCast_mul]
        rfl
    | zero =>
      obtain rfl : j = 61 - bl m := by omega
      have htop := HD.out.top
      have hlow := HD.out.low
      have hup := HD.out.up
      have hsm := HD.out.small
      clear hM61 hj hbl
      generalize m * 2 ^ (61 - bl m) = A at HD htop ⊢
      obtain ⟨E, hE⟩ : ∃ E : Int, E = e - (61 - bl m : Nat) := ⟨_, rfl⟩
      rw [← hE] at HD hlow hup hsm hal ⊢
      have hA60 := bl_le_self (n := A) (bl_ne (by rw [htop]; decide))
      have hA61 := lt_bl A
      rw [htop] at hA60 hA61
      have hA1 : 1152921504606846976 ≤ A := hA60
      have hA2 : A < 2305843009213693952 := hA61
      have c := fun w => rbitlen_any A w (by omega)
      rw [htop] at c
      have C := Lib.hid c
      clear c htop hA60 hA61 hE
      go_wp2_with (go_at_call 39; refine (C.out _).mono ?_; rintro x w' ⟨rfl, rfl⟩)
      refine wp_loop_rounds 1 ?_
      rw [rounds_succ]
      go_wp2
      obtain ⟨D, hDD⟩ : ∃ D : Nat, (D : Int) = E - f := ⟨(E - f).toNat, by omega⟩
      go_loopg [6] D (fun g o wr => ∃ j : Nat, j + g = D ∧ o = .bool (decide (n % 2 ^ j ≠ 0)) ∧ wr = ((((w.alloc (.cells #[.bool s, .int .u64 (A : Int), .int .i64 E, .int .i64 0] 41)).alloc (.cells #[.bool t, .int .u64 (n / 2 ^ j : Nat), .int .i64 (f + j), .int .i64 0] 41)).alloc (.cells #[.bool false, .int .u64 0, .int .i64 0, .int .i64 0] 41)).alloc (.cells #[.bool t, .int .u64 (n : Int), .int .i64 f, .int .i64 0] 41)).drewN nq)
      case atStart => exact ⟨0, by omega, by simp [Nat.mod_one], by simp⟩
      case round =>
        obtain ⟨j, hj, rfl, rfl⟩ := hrel
        cases gk with
        | succ g =>
          have d1 := div_succ n j
          have d2 : decide (n % 2 ^ (j + 1) ≠ 0) = (decide (n % 2 ^ j ≠ 0) || decide (n / 2 ^ j % 2 = 1)) := by
            rw [mod_succ, Bool.eq_iff_iff]
            have := Nat.two_pow_pos j
            rcases Nat.mod_two_eq_zero_or_one (n / 2 ^ j) with e | e <;> rw [e] <;> simp <;> omega
          have hM60 : n / 2 ^ j ≤ 18446744073709551615 := Nat.le_trans (Nat.div_le_self _ _) (by omega)
          have hlt : f + j < E := by omega
          have D1 := Lib.hid d1; have D2 := Lib.hid d2
          clear d1 d2
          generalize decide (n % 2 ^ j ≠ 0) = O at D2 ⊢
          generalize n / 2 ^ j = M at hM60 D1 D2 ⊢
          cases O
          all_goals
            go_wp2
            go_roundg g
            case measure => omega
            case rel =>
              refine ⟨j + 1, by omega, congrArg Value.bool (by rw [D2.out, Bool.eq_iff_iff]; simp <;> omega), ?_⟩
              rw [D1.out, show (f + ((j + 1 : Nat) : Int)) = f + j + 1 from by omega, show ((M / 2 : Nat) : Int) = (M : Int) / 2 from by omega]
        | zero =>
          obtain rfl : j = D := by omega
          have hle : ¬ E ≤ f := by omega
          have hB : alignB n f E = n / 2 ^ j := by unfold alignB; rw [if_neg hle, show (E - f).toNat = j from by omega]
          have hO : oddB n f E = decide (n % 2 ^ j ≠ 0) := by unfold oddB; rw [show (E - f).toNat = j from by omega]; simp [hle]
          rw [hB, hO] at HD
          rw [hB] at hsm
          rw [show f + (j : Int) = E from by omega]
          clear hB hO hj hal hDD hle
          generalize decide (n % 2 ^ j ≠ 0) = O at HD ⊢
          generalize n / 2 ^ j = B at HD hsm ⊢
          have hB2 : B < 2305843009213693952 := hsm
          clear hsm
          by_cases hst : s = t
          · subst hst
            have k3 : (s == s) = true := by simp
            have c := fun w => rfit_any s (A + B) E 0 (53 : Nat) (-1074) O w (by omega) (by omega) (by omega) (by omega) (by omega) (by omega) (by omega)
            rw [show ((A + B : Nat) : Int) = (A : Int) + B from by omega] at c
            have C := Lib.hid c; clear c
            go_wp2_with fail
            refine (C.out _).mono ?_
            rintro x w2 ⟨rfl, hb⟩
            have HBB := Lib.hid hb
            obtain ⟨hbc, hbf⟩ := bcell hb
            have hz : w.heap.size + 1 + 1 + 1 + 1 < w2.heap.size := by have := hb.size; simp at this; omega
            clear hb
            go_wp2
            refine bodyPost_ret (v := .agg #[.bool s, .int .u64 ((fitP 53 (-1074) O (A + B) E).1 : Nat), .int .i64 (fitP 53 (-1074) O (A + B) E).2, .int .i64 0]) (by simp [results, Try.results29, go_sem, hbc]) rfl ⟨.number s _ _, rfl, fit53_bd (A + B) E O (by omega) (by omega) (by omega) (by omega) s, ?_, ?_⟩
            · rw [← HT.out, sum_comm]
              exact (duo_same HD.out s he hf).symm
            · skip
              repeat (first | (with_reducible refine Below.setCell ?_ ?ybel _; case ybel => (first | omega | (simp <;> omega))) | (with_reducible refine Below.alloc ?_ ?ybel _; case ybel => (first | omega | (simp <;> omega))) | (with_reducible refine below_drewNs ?_ _) | (with_reducible refine Below.drew ?_) | (with_reducible exact Below.refl _ _))
              refine Below.trans ?_ (HBB.out.mono (by simp <;> omega))
              repeat (first | (with_reducible refine Below.setCell ?_ ?ybel _; case ybel => (first | omega | (simp <;> omega))) | (with_reducible refine Below.alloc ?_ ?ybel _; case ybel => (first | omega | (simp <;> omega))) | (with_reducible refine below_drewNs ?_ _) | (with_reducible refine Below.drew ?_) | (with_reducible exact Below.refl _ _))
          · have k3 : (s == t) = false := by simp; exact hst
            have HST := Lib.hid hst; clear hst
            by_cases hAB : A < B
            · go_wp2
              refine bodyPost_ret (v := .agg #[.bool t, .int .u64 ((B : Int) - A), .int .i64 E, .int .i64 0]) (by simp [results, Try.results29, go_sem]) rfl ⟨.number t (B - A) E, (by show _ = Ending.returned (.agg #[.bool t, .int .u64 ((B - A : Nat) : Int), .int .i64 E, .int .i64 0]); rw [show ((B - A : Nat) : Int) = (B : Int) - A from by omega]), ?_, ?_, ?_⟩
              · show Okz _; simp only [Okz]; omega
              · rw [← HT.out, sum_comm]
                exact (duo_less HD.out HST.out hAB he hf).symm
              · skip
                repeat (first | (with_reducible refine Below.setCell ?_ ?ybel _; case ybel => (first | omega | (simp <;> omega))) | (with_reducible refine Below.alloc ?_ ?ybel _; case ybel => (first | omega | (simp <;> omega))) | (with_reducible refine below_drewNs ?_ _) | (with_reducible refine Below.drew ?_) | (with_reducible exact Below.refl _ _))
            · cases O
              · have hBA : B ≤ A := by omega
                by_cases h0 : A = B
                · have k4 : ((A : Int) - B == 0) = true := by simp; omega
                  have H0 := Lib.hid h0; clear h0
                  go_wp2
                  refine bodyPost_ret (v := .agg #[.bool false, .int .u64 0, .int .i64 0, .int .i64 0]) (by simp [results, Try.results29, go_sem]) rfl ⟨.number false 0 0, rfl, ?_, ?_, ?_⟩
                  · show Okz _; simp only [Okz]; omega
                  · rw [← HT.out, sum_comm]
                    exact (duo_zero HD.out HST.out H0.out rfl he hf).symm
                  · skip
                    repeat (first | (with_reducible refine Below.setCell ?_ ?ybel _; case ybel => (first | omega | (simp <;> omega))) | (with_reducible refine Below.alloc ?_ ?ybel _; case ybel => (first | omega | (simp <;> omega))) | (with_reducible refine below_drewNs ?_ _) | (with_reducible refine Below.drew ?_) | (with_reducible exact Below.refl _ _))
                · have k4 : ((A : Int) - B == 0) = false := by simp; omega
                  have c := fun w => rfit_any s (A - B) E 0 (53 : Nat) (-1074) false w (by omega) (by omega) (by omega) (by omega) (by omega) (by omega) (by omega)
                  rw [show ((A - B : Nat) : Int) = (A : Int) - B from by omega] at c
                  have C := Lib.hid c; clear c
                  go_wp2_with fail
                  refine (C.out _).mono ?_
                  rintro x w2 ⟨rfl, hb⟩
                  have HBB := Lib.hid hb
                  obtain ⟨hbc, hbf⟩ := bcell hb
                  have hz : w.heap.size + 1 + 1 + 1 + 1 < w2.heap.size := by have := hb.size; simp at this; omega
                  clear hb
                  go_wp2
                  refine bodyPost_ret (v := .agg #[.bool s, .int .u64 ((fitP 53 (-1074) false (A - B) E).1 : Nat), .int .i64 (fitP 53 (-1074) false (A - B) E).2, .int .i64 0]) (by simp [results, Try.results29, go_sem, hbc]) rfl ⟨.number s _ _, rfl, fit53_bd (A - B) E false (by omega) (by omega) (by omega) (by omega) s, ?_, ?_⟩
                  · rw [← HT.out, sum_comm]
                    exact (duo_more HD.out HST.out hBA (A - B) (by simp) (by omega) he hf).symm
                  · skip
                    repeat (first | (with_reducible refine Below.setCell ?_ ?ybel _; case ybel => (first | omega | (simp <;> omega))) | (with_reducible refine Below.alloc ?_ ?ybel _; case ybel => (first | omega | (simp <;> omega))) | (with_reducible refine below_drewNs ?_ _) | (with_reducible refine Below.drew ?_) | (with_reducible exact Below.refl _ _))
                    refine Below.trans ?_ (HBB.out.mono (by simp <;> omega))
                    repeat (first | (with_reducible refine Below.setCell ?_ ?ybel _; case ybel => (first | omega | (simp <;> omega))) | (with_reducible refine Below.alloc ?_ ?ybel _; case ybel => (first | omega | (simp <;> omega))) | (with_reducible refine below_drewNs ?_ _) | (with_reducible refine Below.drew ?_) | (with_reducible exact Below.refl _ _))
              · have hhalf := HD.out.half rfl
                have hB47 : B < 140737488355328 := hhalf
                clear hhalf
                have hBA : B ≤ A := by omega
                have k4 : ((A : Int) - B - 1 == 0) = false := by simp; omega
                have c := fun w => rfit_any s (A - B - 1) E 0 (53 : Nat) (-1074) true w (by omega) (by omega) (by omega) (by omega) (by omega) (by omega) (by omega)
                rw [show ((A - B - 1 : Nat) : Int) = (A : Int) - B - 1 from by omega] at c
                have C := Lib.hid c; clear c
                go_wp2_with fail
                refine (C.out _).mono ?_
                rintro x w2 ⟨rfl, hb⟩
                have HBB := Lib.hid hb
                obtain ⟨hbc, hbf⟩ := bcell hb
                have hz : w.heap.size + 1 + 1 + 1 + 1 < w2.heap.size := by have := hb.size; simp at this; omega
                clear hb
                go_wp2
                refine bodyPost_ret (v := .agg #[.bool s, .int .u64 ((fitP 53 (-1074) true (A - B - 1) E).1 : Nat), .int .i64 (fitP 53 (-1074) true (A - B - 1) E).2, .int .i64 0]) (by simp [results, Try.results29, go_sem, hbc]) rfl ⟨.number s _ _, rfl, fit53_bd (A - B - 1) E true (by omega) (by omega) (by omega) (by omega) s, ?_, ?_⟩
                · rw [← HT.out, sum_comm]
                  exact (duo_more HD.out HST.out hBA (A - B - 1) (by simp) (by omega) he hf).symm
                · skip
                  repeat (first | (with_reducible refine Below.setCell ?_ ?ybel _; case ybel => (first | omega | (simp <;> omega))) | (with_reducible refine Below.alloc ?_ ?ybel _; case ybel => (first | omega | (simp <;> omega))) | (with_reducible refine below_drewNs ?_ _) | (with_reducible refine Below.drew ?_) | (with_reducible exact Below.refl _ _))
                  refine Below.trans ?_ (HBB.out.mono (by simp <;> omega))
                  repeat (first | (with_reducible refine Below.setCell ?_ ?ybel _; case ybel => (first | omega | (simp <;> omega))) | (with_reducible refine Below.alloc ?_ ?ybel _; case ybel => (first | omega | (simp <;> omega))) | (with_reducible refine below_drewNs ?_ _) | (with_reducible refine Below.drew ?_) | (with_reducible exact Below.refl _ _))
end Go.Proofs.Ytbfdanbepdefnaa
