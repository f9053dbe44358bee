/-
  What the word of a number is in the document's answer for layer 4 (package runrigref04): a contract over the translation, under its own conditions.
-/
import Derived.Test.YtbfdanbepdefnaaSumE
import Derived.Deep.Cut
namespace Go.Proofs.Ytbfdanbepdefnaa
open Go.RowKit Ieee
set_option linter.unusedVariables false
attribute [local go_sem] setCell_drewN alloc_drewN

theorem rbits_nan (s : Bool) (w : World) : Calls Try.prog 38 #[.agg #[.bool s, .int .u64 ((0 : Nat) : Int), .int .i64 0, .int .i64 2]] w fun r w' => r = .returned (.int .u64 2143289344) ∧ Below w.heap.size w w' := by
  cases s
  all_goals
    go_enter Try.func38, Try.ntmps38
    go_wp2
    go_ret
    exact ⟨rfl, (Below.refl _ _).alloc (Nat.le_refl _) _⟩
theorem rbits_inf (s : Bool) (w : World) : Calls Try.prog 38 #[.agg #[.bool s, .int .u64 ((0 : Nat) : Int), .int .i64 0, .int .i64 1]] w fun r w' => r = .returned (.int .u64 (bitsD (.infinity s) : Nat)) ∧ Below w.heap.size w w' := by
  have c := fun w => rfit_any s 0 0 1 (24 : Nat) (-149) false w (by decide) (by decide) (by decide) (by decide) (by decide) (by decide) (by decide)
  rw [show fitP 24 (-149) false 0 0 = (0, 0) from rfl] at c
  have C := Lib.hid c; clear c
  cases s
  all_goals
    go_enter Try.func38, Try.ntmps38
    go_wp2_with fail
    refine (C.out _).mono ?_
    rintro x w2 ⟨rfl, hb⟩
    have HB := Lib.hid hb
    obtain ⟨hbc, hbf⟩ := bcell hb
    have hz : w.heap.size < w2.heap.size := by have := hb.size; simp at this; omega
    clear hb
    go_wp2
    go_quiet (fail)
    go_wp2
    go_ret
    refine ⟨rfl, ?_⟩
    repeat (first | (with_reducible refine Below.setCell ?_ ?ybel _; case ybel => (first | omega | (simp <;> omega))) | (with_reducible refine Below.alloc ?_ ?ybel _; case ybel => (first | omega | (simp <;> omega))) | (with_reducible refine below_drewNs ?_ _) | (with_reducible refine Below.drew ?_) | (with_reducible exact Below.refl _ _))
    refine Below.trans ?_ (HB.out.mono (by simp <;> omega))
    repeat (first | (with_reducible refine Below.setCell ?_ ?ybel _; case ybel => (first | omega | (simp <;> omega))) | (with_reducible refine Below.alloc ?_ ?ybel _; case ybel => (first | omega | (simp <;> omega))) | (with_reducible refine below_drewNs ?_ _) | (with_reducible refine Below.drew ?_) | (with_reducible exact Below.refl _ _))
/-- a box that holds a number -/
def BoxAt (w : World) (B : Nat) (s : Bool) (m e k : Int) : Prop := w.cell? ⟨B, 0, none⟩ = some (.bool s) ∧ w.cell? ⟨B, 1, none⟩ = some (.int .u64 m) ∧ w.cell? ⟨B, 2, none⟩ = some (.int .i64 e) ∧ w.cell? ⟨B, 3, none⟩ = some (.int .i64 k) ∧ ∀ o, w.frozen? ⟨B, o, none⟩ = false
theorem fit24_nought (m : Nat) (e : Int) (h : m = 0 → e ≤ 100) (hm : m < 4611686018427387904) (he : e ≤ 1400) : ((fitP 24 (-149) false m e).1 = 0 → (fitP 24 (-149) false m e).2 ≤ 100) ∧ (fitP 24 (-149) false m e).2 ≤ 2000 := by
  have hb : bl m ≤ 62 := bl_le hm
  unfold fitP
  by_cases hc : max ((bl m : Int) - (24 : Nat)) (-149 - e) ≤ 0
  · rw [if_pos hc]
    exact ⟨fun h0 => h h0, by show e ≤ 2000; omega⟩
  · rw [if_neg hc]
    obtain ⟨c, hcc⟩ : ∃ c : Nat, max ((bl m : Int) - (24 : Nat)) (-149 - e) = c := ⟨(max ((bl m : Int) - (24 : Nat)) (-149 - e)).toNat, by omega⟩
    rw [hcc, Int.toNat_natCast]
    by_cases hb2 : bl (rns m c false) ≤ 24
    · rw [if_pos hb2]
      refine ⟨fun h0 => ?_, by show e + c ≤ 2000; omega⟩
      have h0 : rns m c false = 0 := h0
      show e + c ≤ 100
      by_cases hm0 : m = 0
      · subst hm0; rw [bl_zero] at hcc; omega
      · rcases Int.lt_or_le ((bl m : Int) - (24 : Nat)) (-149 - e) with h1 | h1
        · omega
        · exfalso
          have hge : 1 ≤ m / 2 ^ c := by
            refine (Nat.le_div_iff_mul_le (Nat.two_pow_pos c)).2 ?_
            rw [Nat.one_mul]
            exact Nat.le_trans (Nat.pow_le_pow_right (by decide) (by omega)) (bl_le_self hm0)
          have hge2 : m / 2 ^ c ≤ rns m c false := Nat.le_add_right _ _
          omega
    · rw [if_neg hb2]
      exact ⟨fun h0 => absurd h0 (by show ¬ 2 ^ 23 = 0; decide), by show e + c + 1 ≤ 2000; omega⟩
set_option maxRecDepth 100000 in
set_option maxHeartbeats 1000000 in
theorem rbits_over_f (m M : Nat) (e X : Int) (w : World) (C : Hid (∀ w : World, Calls Try.prog 40 #[.agg #[.bool false, .int .u64 (m : Int), .int .i64 e, .int .i64 0], .int .i64 ((24 : Nat) : Int), .int .i64 (-149), .bool false] w fun x w' => x = .returned (.agg #[.bool false, .int .u64 (M : Int), .int .i64 X, .int .i64 0]) ∧ Below w.heap.size w w'))
    (hM : M < 16777216) (hX : -149 ≤ X) (hX2 : X ≤ 2000) (hb24 : bl M ≤ 24) (hov : 128 < (bl M : Int) + X) : Calls Try.prog 38 #[.agg #[.bool false, .int .u64 (m : Int), .int .i64 e, .int .i64 0]] w fun r w' => r = .returned (.int .u64 (0 + 2139095040)) ∧ Below w.heap.size w w' := by
  have hM64 : M < 18446744073709551616 := by omega
  go_enter Try.func38, Try.ntmps38
  go_wp2_with fail
  refine (C.out _).mono ?_
  rintro x w2 ⟨rfl, hb⟩
  have HB := Lib.hid hb
  obtain ⟨hbc, hbf⟩ := bcell hb
  have hz : w.heap.size < w2.heap.size := by have := hb.size; simp at this; omega
  clear hb
  go_wp2
  go_quiet ((go_at_call 39; exact Calls.quiet_of_same ((rbitlen_any _ _ (by assumption)).mono fun _ _ h => ⟨h.1, h.2.symm⟩)))
  go_wp2
  go_ret
  refine ⟨ret_int (by omega), ?_⟩
  repeat (first | (with_reducible refine Below.setCell ?_ ?ybel _; case ybel => (first | omega | (simp <;> omega))) | (with_reducible refine Below.alloc ?_ ?ybel _; case ybel => (first | omega | (simp <;> omega))) | (with_reducible refine below_drewNs ?_ _) | (with_reducible refine Below.drew ?_) | (with_reducible exact Below.refl _ _))
  refine Below.trans ?_ (HB.out.mono (by simp <;> omega))
  repeat (first | (with_reducible refine Below.setCell ?_ ?ybel _; case ybel => (first | omega | (simp <;> omega))) | (with_reducible refine Below.alloc ?_ ?ybel _; case ybel => (first | omega | (simp <;> omega))) | (with_reducible refine below_drewNs ?_ _) | (with_reducible refine Below.drew ?_) | (with_reducible exact Below.refl _ _))
set_option maxRecDepth 100000 in
set_option maxHeartbeats 4000000 in
theorem rbits_loop_f (m M : Nat) (e X : Int) (w : World) (C : Hid (∀ w : World, Calls Try.prog 40 #[.agg #[.bool false, .int .u64 (m : Int), .int .i64 e, .int .i64 0], .int .i64 ((24 : Nat) : Int), .int .i64 (-149), .bool false] w fun x w' => x = .returned (.agg #[.bool false, .int .u64 (M : Int), .int .i64 X, .int .i64 0]) ∧ Below w.heap.size w w'))
    (hM : M < 16777216) (hX : -149 ≤ X) (hX2 : X ≤ 2000) (hb24 : bl M ≤ 24) (hov : ¬ 128 < (bl M : Int) + X) (T : Nat)
    (hT : ∀ (j : Nat), bl (M * 2 ^ j) ≤ 24 → -149 ≤ X - j → (M * 2 ^ j = 0 ∨ bl (M * 2 ^ j) = 24 ∨ X - j = -149) → (M * 2 ^ j ≠ 0 → bl (M * 2 ^ j) + (X - j) ≤ 128) → T = 0 + (if M * 2 ^ j < 8388608 then M * 2 ^ j else (X - j + 150).toNat * 8388608 + M * 2 ^ j - 8388608)) :
    Calls Try.prog 38 #[.agg #[.bool false, .int .u64 (m : Int), .int .i64 e, .int .i64 0]] w fun r w' => r = .returned (.int .u64 (T : Int)) ∧ Below w.heap.size w w' := by
  have hM64 : M < 18446744073709551616 := by omega
  have HT := Lib.hid hT; clear hT
  have kov : decide (128 < (bl M : Int) + X) = false := decide_eq_false hov
  have HOV := Lib.hid hov; clear hov
  go_enter Try.func38, Try.ntmps38
  go_wp2_with fail
  refine (C.out _).mono ?_
  rintro x w2 ⟨rfl, hb⟩
  have HB := Lib.hid hb
  obtain ⟨hbc, hbf⟩ := bcell hb
  have hz : w.heap.size < w2.heap.size := by have := hb.size; simp at this; omega
  clear hb
  go_wp2
  go_quiet ((go_at_call 39; exact Calls.quiet_of_same ((rbitlen_any _ _ (by assumption)).mono fun _ _ h => ⟨h.1, h.2.symm⟩)))
  go_wp2
  obtain ⟨g0, hg0⟩ : ∃ g0 : Nat, g0 = (X + 149).toNat := ⟨_, rfl⟩
  have HG := Lib.hid hg0; clear hg0
  go_loopg [] g0 (fun g wr => ∃ j : Nat, j + g = g0 ∧ (M = 0 → j = 0) ∧ (j : Int) ≤ X + 149 ∧ bl M + j ≤ max 24 (bl M) ∧ BoxAt wr w.heap.size false ((M * 2 ^ j : Nat) : Int) (X - j) 0 ∧ Below w.heap.size w wr)
  case atStart =>
    refine ⟨0, by omega, fun _ => rfl, by omega, by omega, ⟨by simp [go_sem, hbc], by simp [go_sem, hbc], by simp [go_sem, hbc], by simp [go_sem, hbc], fun o => by simp [go_sem, hbf]⟩, ?_⟩
    repeat (first | (with_reducible refine Below.setCell ?_ ?ybel _; case ybel => (first | omega | (simp <;> omega))) | (with_reducible refine Below.alloc ?_ ?ybel _; case ybel => (first | omega | (simp <;> omega))) | (with_reducible refine below_drewNs ?_ _) | (with_reducible refine Below.drew ?_) | (with_reducible exact Below.refl _ _))
    refine Below.trans ?_ (HB.out.mono (by simp <;> omega))
    repeat (first | (with_reducible refine Below.setCell ?_ ?ybel _; case ybel => (first | omega | (simp <;> omega))) | (with_reducible refine Below.alloc ?_ ?ybel _; case ybel => (first | omega | (simp <;> omega))) | (with_reducible refine below_drewNs ?_ _) | (with_reducible refine Below.drew ?_) | (with_reducible exact Below.refl _ _))
  case round =>
    obtain ⟨j, hj, hz0, hjX, hjb, ⟨b0, b1, b2, b3, bf⟩, hbel⟩ := hrel
    have HBEL := Lib.hid hbel; clear hbel
    have hT := HT.out j
    have hov := HOV.out
    by_cases h0 : M = 0
    · obtain rfl := hz0 h0
      subst h0
      rw [Nat.zero_mul] at hT b1
      have hT := hT (by decide) (by omega) (.inl rfl) (fun h => absurd rfl h)
      have HT2 := Lib.hid hT; clear hT HT hov
      go_wp2
      go_ret
      exact ⟨ret_int (by have := HT2.out; simp at this; omega), HBEL.out⟩
    · have hbl := bl_mul_pow h0 j
      have hQ := lt_bl (M * 2 ^ j)
      rw [hbl] at hQ hT
      have hjb2 : bl M + j ≤ 24 := by omega
      have hQ24 : M * 2 ^ j < 16777216 := Nat.lt_of_lt_of_le hQ (Nat.pow_le_pow_right (by decide) hjb2)
      have hQ0 : M * 2 ^ j ≠ 0 := Nat.mul_ne_zero h0 (Nat.ne_of_gt (Nat.two_pow_pos j))
      have hsucc : M * 2 ^ (j + 1) = M * 2 ^ j * 2 := by rw [Nat.pow_succ, Nat.mul_assoc]
      have c := fun w => rbitlen_any (M * 2 ^ j) w (by omega)
      rw [hbl] at c
      obtain ⟨bq, hbq⟩ : ∃ bq : Nat, bq = bl M + j := ⟨_, rfl⟩
      rw [← hbq] at c hT hjb2
      have HBQ := Lib.hid hbq; clear hbq
      have CB := Lib.hid c; clear c
      have HS := Lib.hid hsucc
      have H0 := Lib.hid h0
      clear hbl hQ hsucc hz0 h0
      generalize M * 2 ^ j = Q at hQ24 hQ0 CB HS hT b1 ⊢
      have hQp : 0 < Q := by omega
      by_cases hlt : bq < 24
      · by_cases hx : -149 < X - j
        · have hlt2 : (bq : Int) < 24 := by omega
          clear hT hQ0 hov
          go_wp2_with (go_at_call 39; refine (CB.out _).mono ?_; rintro x w' ⟨rfl, rfl⟩)
          go_roundg (gk - 1)
          case measure => have := HG.out; omega
          case rel =>
            refine ⟨j + 1, by have := HG.out; omega, fun h => absurd h H0.out, by omega, by have := HBQ.out; omega, ⟨by simp [go_sem, b0], ?_, ?_, by simp [go_sem, b3], fun o => by simp [go_sem, bf]⟩, ?_⟩
            · rw [HS.out]; simp [go_sem, b1]
            · rw [show (X - ((j + 1 : Nat) : Int)) = X - j - 1 from by omega]; simp [go_sem, b2]
            · repeat (first | (refine Hid.out ?_; assumption) | (with_reducible refine Below.setCell ?_ ?ybel _; case ybel => (first | omega | (simp <;> omega))) | (with_reducible refine below_drewNs ?_ _) | (with_reducible refine Below.drew ?_))
        · have hlt2 : (bq : Int) < 24 := by omega
          have hT := hT hjb2 (by omega) (.inr (.inr (by omega))) (fun _ => by have := HBQ.out; omega)
          have HT2 := Lib.hid hT; clear hT HT hov
          by_cases h23 : Q < 8388608
          · go_wp2_with fail
            refine (CB.out _).mono ?_
            rintro x w' ⟨rfl, rfl⟩
            go_upto_region 12 with (fail)
            have kd : decide ((Q : Int) < 8388608) = true := by simp; omega
            go_wp2
            go_ret
            refine ⟨ret_int ?_, HBEL.out⟩
            have := HT2.out; rw [if_pos h23] at this
            omega
          · go_wp2_with fail
            refine (CB.out _).mono ?_
            rintro x w' ⟨rfl, rfl⟩
            go_upto_region 12 with (fail)
            have kd : decide ((Q : Int) < 8388608) = false := by simp; omega
            go_wp2
            go_ret
            refine ⟨ret_int ?_, HBEL.out⟩
            have := HT2.out; rw [if_neg h23] at this
            omega
      · have hlt2 : ¬ (bq : Int) < 24 := by omega
        have hT := hT hjb2 (by have := HG.out; omega) (.inr (.inl (by omega))) (fun _ => by have := HBQ.out; omega)
        have HT2 := Lib.hid hT; clear hT HT hov
        by_cases h23 : Q < 8388608
        · go_wp2_with fail
          refine (CB.out _).mono ?_
          rintro x w' ⟨rfl, rfl⟩
          go_upto_region 12 with (fail)
          have kd : decide ((Q : Int) < 8388608) = true := by simp; omega
          go_wp2
          go_ret
          refine ⟨ret_int ?_, HBEL.out⟩
          have := HT2.out; rw [if_pos h23] at this
          omega
        · go_wp2_with fail
          refine (CB.out _).mono ?_
          rintro x w' ⟨rfl, rfl⟩
          go_upto_region 12 with (fail)
          have kd : decide ((Q : Int) < 8388608) = false := by simp; omega
          go_wp2
          go_ret
          refine ⟨ret_int ?_, HBEL.out⟩
          have := HT2.out; rw [if_neg h23] at this
          omega
set_option maxRecDepth 100000 in
set_option maxHeartbeats 1000000 in
theorem rbits_over_t (m M : Nat) (e X : Int) (w : World) (C : Hid (∀ w : World, Calls Try.prog 40 #[.agg #[.bool true, .int .u64 (m : Int), .int .i64 e, .int .i64 0], .int .i64 ((24 : Nat) : Int), .int .i64 (-149), .bool false] w fun x w' => x = .returned (.agg #[.bool true, .int .u64 (M : Int), .int .i64 X, .int .i64 0]) ∧ Below w.heap.size w w'))
    (hM : M < 16777216) (hX : -149 ≤ X) (hX2 : X ≤ 2000) (hb24 : bl M ≤ 24) (hov : 128 < (bl M : Int) + X) : Calls Try.prog 38 #[.agg #[.bool true, .int .u64 (m : Int), .int .i64 e, .int .i64 0]] w fun r w' => r = .returned (.int .u64 (2147483648 + 2139095040)) ∧ Below w.heap.size w w' := by
  have hM64 : M < 18446744073709551616 := by omega
  go_enter Try.func38, Try.ntmps38
  go_wp2_with fail
  refine (C.out _).mono ?_
  rintro x w2 ⟨rfl, hb⟩
  have HB := Lib.hid hb
  obtain ⟨hbc, hbf⟩ := bcell hb
  have hz : w.heap.size < w2.heap.size := by have := hb.size; simp at this; omega
  clear hb
  go_wp2
  go_quiet ((go_at_call 39; exact Calls.quiet_of_same ((rbitlen_any _ _ (by assumption)).mono fun _ _ h => ⟨h.1, h.2.symm⟩)))
  go_wp2
  go_ret
  refine ⟨ret_int (by omega), ?_⟩
  repeat (first | (with_reducible refine Below.setCell ?_ ?ybel _; case ybel => (first | omega | (simp <;> omega))) | (with_reducible refine Below.alloc ?_ ?ybel _; case ybel => (first | omega | (simp <;> omega))) | (with_reducible refine below_drewNs ?_ _) | (with_reducible refine Below.drew ?_) | (with_reducible exact Below.refl _ _))
  refine Below.trans ?_ (HB.out.mono (by simp <;> omega))
  repeat (first | (with_reducible refine Below.setCell ?_ ?ybel _; case ybel => (first | omega | (simp <;> omega))) | (with_reducible refine Below.alloc ?_ ?ybel _; case ybel => (first | omega | (simp <;> omega))) | (with_reducible refine below_drewNs ?_ _) | (with_reducible refine Below.drew ?_) | (with_reducible exact Below.refl _ _))
set_option maxRecDepth 100000 in
set_option maxHeartbeats 4000000 in
theorem rbits_loop_t (m M : Nat) (e X : Int) (w : World) (C : Hid (∀ w : World, Calls Try.prog 40 #[.agg #[.bool true, .int .u64 (m : Int), .int .i64 e, .int .i64 0], .int .i64 ((24 : Nat) : Int), .int .i64 (-149), .bool false] w fun x w' => x = .returned (.agg #[.bool true, .int .u64 (M : Int), .int .i64 X, .int .i64 0]) ∧ Below w.heap.size w w'))
    (hM : M < 16777216) (hX : -149 ≤ X) (hX2 : X ≤ 2000) (hb24 : bl M ≤ 24) (hov : ¬ 128 < (bl M : Int) + X) (T : Nat)
    (hT : ∀ (j : Nat), bl (M * 2 ^ j) ≤ 24 → -149 ≤ X - j → (M * 2 ^ j = 0 ∨ bl (M * 2 ^ j) = 24 ∨ X - j = -149) → (M * 2 ^ j ≠ 0 → bl (M * 2 ^ j) + (X - j) ≤ 128) → T = 2147483648 + (if M * 2 ^ j < 8388608 then M * 2 ^ j else (X - j + 150).toNat * 8388608 + M * 2 ^ j - 8388608)) :
    Calls Try.prog 38 #[.agg #[.bool true, .int .u64 (m : Int), .int .i64 e, .int .i64 0]] w fun r w' => r = .returned (.int .u64 (T : Int)) ∧ Below w.heap.size w w' := by
  have hM64 : M < 18446744073709551616 := by omega
  have HT := Lib.hid hT; clear hT
  have kov : decide (128 < (bl M : Int) + X) = false := decide_eq_false hov
  have HOV := Lib.hid hov; clear hov
  go_enter Try.func38, Try.ntmps38
  go_wp2_with fail
  refine (C.out _).mono ?_
  rintro x w2 ⟨rfl, hb⟩
  have HB := Lib.hid hb
  obtain ⟨hbc, hbf⟩ := bcell hb
  have hz : w.heap.size < w2.heap.size := by have := hb.size; simp at this; omega
  clear hb
  go_wp2
  go_quiet ((go_at_call 39; exact Calls.quiet_of_same ((rbitlen_any _ _ (by assumption)).mono fun _ _ h => ⟨h.1, h.2.symm⟩)))
  go_wp2
  obtain ⟨g0, hg0⟩ : ∃ g0 : Nat, g0 = (X + 149).toNat := ⟨_, rfl⟩
  have HG := Lib.hid hg0; clear hg0
  go_loopg [] g0 (fun g wr => ∃ j : Nat, j + g = g0 ∧ (M = 0 → j = 0) ∧ (j : Int) ≤ X + 149 ∧ bl M + j ≤ max 24 (bl M) ∧ BoxAt wr w.heap.size true ((M * 2 ^ j : Nat) : Int) (X - j) 0 ∧ Below w.heap.size w wr)
  case atStart =>
    refine ⟨0, by omega, fun _ => rfl, by omega, by omega, ⟨by simp [go_sem, hbc], by simp [go_sem, hbc], by simp [go_sem, hbc], by simp [go_sem, hbc], fun o => by simp [go_sem, hbf]⟩, ?_⟩
    repeat (first | (with_reducible refine Below.setCell ?_ ?ybel _; case ybel => (first | omega | (simp <;> omega))) | (with_reducible refine Below.alloc ?_ ?ybel _; case ybel => (first | omega | (simp <;> omega))) | (with_reducible refine below_drewNs ?_ _) | (with_reducible refine Below.drew ?_) | (with_reducible exact Below.refl _ _))
    refine Below.trans ?_ (HB.out.mono (by simp <;> omega))
    repeat (first | (with_reducible refine Below.setCell ?_ ?ybel _; case ybel => (first | omega | (simp <;> omega))) | (with_reducible refine Below.alloc ?_ ?ybel _; case ybel => (first | omega | (simp <;> omega))) | (with_reducible refine below_drewNs ?_ _) | (with_reducible refine Below.drew ?_) | (with_reducible exact Below.refl _ _))
  case round =>
    obtain ⟨j, hj, hz0, hjX, hjb, ⟨b0, b1, b2, b3, bf⟩, hbel⟩ := hrel
    have HBEL := Lib.hid hbel; clear hbel
    have hT := HT.out j
    have hov := HOV.out
    by_cases h0 : M = 0
    · obtain rfl := hz0 h0
      subst h0
      rw [Nat.zero_mul] at hT b1
      have hT := hT (by decide) (by omega) (.inl rfl) (fun h => absurd rfl h)
      have HT2 := Lib.hid hT; clear hT HT hov
      go_wp2
      go_ret
      exact ⟨ret_int (by have := HT2.out; simp at this; omega), HBEL.out⟩
    · have hbl := bl_mul_pow h0 j
      have hQ := lt_bl (M * 2 ^ j)
      rw [hbl] at hQ hT
      have hjb2 : bl M + j ≤ 24 := by omega
      have hQ24 : M * 2 ^ j < 16777216 := Nat.lt_of_lt_of_le hQ (Nat.pow_le_pow_right (by decide) hjb2)
      have hQ0 : M * 2 ^ j ≠ 0 := Nat.mul_ne_zero h0 (Nat.ne_of_gt (Nat.two_pow_pos j))
      have hsucc : M * 2 ^ (j + 1) = M * 2 ^ j * 2 := by rw [Nat.pow_succ, Nat.mul_assoc]
      have c := fun w => rbitlen_any (M * 2 ^ j) w (by omega)
      rw [hbl] at c
      obtain ⟨bq, hbq⟩ : ∃ bq : Nat, bq = bl M + j := ⟨_, rfl⟩
      rw [← hbq] at c hT hjb2
      have HBQ := Lib.hid hbq; clear hbq
      have CB := Lib.hid c; clear c
      have HS := Lib.hid hsucc
      have H0 := Lib.hid h0
      clear hbl hQ hsucc hz0 h0
      generalize M * 2 ^ j = Q at hQ24 hQ0 CB HS hT b1 ⊢
      have hQp : 0 < Q := by omega
      by_cases hlt : bq < 24
      · by_cases hx : -149 < X - j
        · have hlt2 : (bq : Int) < 24 := by omega
          clear hT hQ0 hov
          go_wp2_with (go_at_call 39; refine (CB.out _).mono ?_; rintro x w' ⟨rfl, rfl⟩)
          go_roundg (gk - 1)
          case measure => have := HG.out; omega
          case rel =>
            refine ⟨j + 1, by have := HG.out; omega, fun h => absurd h H0.out, by omega, by have := HBQ.out; omega, ⟨by simp [go_sem, b0], ?_, ?_, by simp [go_sem, b3], fun o => by simp [go_sem, bf]⟩, ?_⟩
            · rw [HS.out]; simp [go_sem, b1]
            · rw [show (X - ((j + 1 : Nat) : Int)) = X - j - 1 from by omega]; simp [go_sem, b2]
            · repeat (first | (refine Hid.out ?_; assumption) | (with_reducible refine Below.setCell ?_ ?ybel _; case ybel => (first | omega | (simp <;> omega))) | (with_reducible refine below_drewNs ?_ _) | (with_reducible refine Below.drew ?_))
        · have hlt2 : (bq : Int) < 24 := by omega
          have hT := hT hjb2 (by omega) (.inr (.inr (by omega))) (fun _ => by have := HBQ.out; omega)
          have HT2 := Lib.hid hT; clear hT HT hov
          by_cases h23 : Q < 8388608
          · go_wp2_with fail
            refine (CB.out _).mono ?_
            rintro x w' ⟨rfl, rfl⟩
            go_upto_region 12 with (fail)
            have kd : decide ((Q : Int) < 8388608) = true := by simp; omega
            go_wp2
            go_ret
            refine ⟨ret_int ?_, HBEL.out⟩
            have := HT2.out; rw [if_pos h23] at this
            omega
          · go_wp2_with fail
            refine (CB.out _).mono ?_
            rintro x w' ⟨rfl, rfl⟩
            go_upto_region 12 with (fail)
            have kd : decide ((Q : Int) < 8388608) = false := by simp; omega
            go_wp2
            go_ret
            refine ⟨ret_int ?_, HBEL.out⟩
            have := HT2.out; rw [if_neg h23] at this
            omega
      · have hlt2 : ¬ (bq : Int) < 24 := by omega
        have hT := hT hjb2 (by have := HG.out; omega) (.inr (.inl (by omega))) (fun _ => by have := HBQ.out; omega)
        have HT2 := Lib.hid hT; clear hT HT hov
        by_cases h23 : Q < 8388608
        · go_wp2_with fail
          refine (CB.out _).mono ?_
          rintro x w' ⟨rfl, rfl⟩
          go_upto_region 12 with (fail)
          have kd : decide ((Q : Int) < 8388608) = true := by simp; omega
          go_wp2
          go_ret
          refine ⟨ret_int ?_, HBEL.out⟩
          have := HT2.out; rw [if_pos h23] at this
          omega
        · go_wp2_with fail
          refine (CB.out _).mono ?_
          rintro x w' ⟨rfl, rfl⟩
          go_upto_region 12 with (fail)
          have kd : decide ((Q : Int) < 8388608) = false := by simp; omega
          go_wp2
          go_ret
          refine ⟨ret_int ?_, HBEL.out⟩
          have := HT2.out; rw [if_neg h23] at this
          omega
theorem rbits_num (s : Bool) (m : Nat) (e : Int) (w : World) (hz : Okz (.number s m e)) : Calls Try.prog 38 #[.agg #[.bool s, .int .u64 (m : Int), .int .i64 e, .int .i64 0]] w fun r w' => r = .returned (.int .u64 (bitsD (.number s m e) : Nat)) ∧ Below w.heap.size w w' := by
  obtain ⟨hz1, hz2, hz3, hz4⟩ := hz
  have c := fun w => rfit_any s m e 0 (24 : Nat) (-149) false w (by omega) (by omega) (by omega) (by decide) (by decide) (by decide) (by decide)
  obtain ⟨f1, f2, f3⟩ := fit24 s m e
  obtain ⟨f4, f5⟩ := fit24_nought m e hz4 hz1 hz3
  rw [show bitsD (.number s m e) = Ieee.single.nearest s m e from rfl, ← f3]
  generalize fitP 24 (-149) false m e = p at c f1 f2 f3 f4 f5 ⊢
  obtain ⟨M, X⟩ := p
  simp only at c f1 f2 f3 f4 f5 ⊢
  have hM : M < 16777216 := lt_of_bl f1
  by_cases hov : 128 < (bl M : Int) + X
  · have h0 : M ≠ 0 := by
      intro h0
      have := f4 h0
      rw [h0, bl_zero] at hov
      omega
    rw [bits_inf s h0 f1 f2 hov]
    cases s
    · exact rbits_over_f m M e X w c hM f2 f5 f1 hov
    · exact rbits_over_t m M e X w c hM f2 f5 f1 hov
  · have hT : ∀ (j : Nat), bl (M * 2 ^ j) ≤ 24 → -149 ≤ X - j → (M * 2 ^ j = 0 ∨ bl (M * 2 ^ j) = 24 ∨ X - j = -149) → (M * 2 ^ j ≠ 0 → bl (M * 2 ^ j) + (X - j) ≤ 128) → Ieee.single.nearest s M X = (if s = true then 2147483648 else 0) + (if M * 2 ^ j < 8388608 then M * 2 ^ j else (X - j + 150).toNat * 8388608 + M * 2 ^ j - 8388608) := by
      intro j j1 j2 j3 j4
      rw [← nearest_scale Ieee.single s M X j]
      exact bits_end s j1 j2 j3 j4
    cases s
    · exact rbits_loop_f m M e X w c hM f2 f5 f1 hov _ hT
    · exact rbits_loop_t m M e X w c hM f2 f5 f1 hov _ hT
theorem rbits_any (z : Datum) (w : World) (hz : Okz z) : Calls Try.prog 38 #[dv z] w fun r w' => r = .returned (.int .u64 (bitsD z : Nat)) ∧ Below w.heap.size w w' := by
  cases z with
  | number s m e => exact rbits_num s m e w hz
  | infinity s => exact rbits_inf s w
  | nan s t => exact rbits_nan s w
end Go.Proofs.Ytbfdanbepdefnaa
