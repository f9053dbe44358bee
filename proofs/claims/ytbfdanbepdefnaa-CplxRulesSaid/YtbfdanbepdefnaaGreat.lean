/-
  Numbers of binary64 about the greatest one of binary32: how they stand to it, and how they are written as binary32.
-/
import Derived.Test.YtbfdanbepdefnaaFr
namespace Go.Proofs.Ytbfdanbepdefnaa
open Ieee
set_option linter.unusedVariables false
set_option linter.unusedSimpArgs false

theorem cmp_lt {a b : Nat} (h : a < b) : compare (a : Int) (b : Int) = .lt := by
  show compareOfLessAndEq (a : Int) (b : Int) = .lt
  unfold compareOfLessAndEq; rw [if_pos (by omega)]
theorem cmp_eq {a b : Nat} (h : a = b) : compare (a : Int) (b : Int) = .eq := by
  show compareOfLessAndEq (a : Int) (b : Int) = .eq
  unfold compareOfLessAndEq; rw [if_neg (by omega), if_pos (by omega)]
theorem cmp_gt {a b : Nat} (h : b < a) : compare (a : Int) (b : Int) = .gt := by
  show compareOfLessAndEq (a : Int) (b : Int) = .gt
  unfold compareOfLessAndEq; rw [if_neg (by omega), if_neg (by omega)]
theorem order_num (m n : Nat) (i j : Int) : (Datum.number false m i).order (.number false n j) = some (compare ((m * 2 ^ (i - min i j).toNat : Nat) : Int) ((n * 2 ^ (j - min i j).toNat : Nat) : Int)) := by
  simp only [Datum.order, signed, Nat.shiftLeft_eq, Bool.false_eq_true, if_false]
/-- a number from nought on, as binary64 holds it -/
def Pos64 (m : Nat) (e : Int) : Prop := (m < 4503599627370496 ∧ e = -1074) ∨ (4503599627370496 ≤ m ∧ m < 9007199254740992 ∧ -1074 ≤ e)
theorem pos_cases (q : Nat) (hs : q / 9223372036854775808 % 2 = 0) (hn : (Ieee.double.read q).isNaN = false) :
    Ieee.double.read q = .infinity false ∨ ∃ m e, Ieee.double.read q = .number false m e ∧ Pos64 m e := by
  unfold Format.read at hn ⊢
  rw [show Ieee.double.signWeight = 9223372036854775808 from by decide, show Ieee.double.binade = 4503599627370496 from by decide, show Ieee.double.infRung = 9218868437227405312 from by decide, double_least] at *
  simp only at hn ⊢
  rw [hs] at *
  by_cases h1 : q % 9223372036854775808 < 4503599627370496
  · rw [if_pos h1]; exact .inr ⟨_, _, rfl, .inl ⟨h1, rfl⟩⟩
  · rw [if_neg h1] at hn ⊢
    by_cases h2 : q % 9223372036854775808 < 9218868437227405312
    · rw [if_pos h2]; exact .inr ⟨_, _, rfl, .inr ⟨by omega, by omega, by omega⟩⟩
    · rw [if_neg h2] at hn ⊢
      by_cases h3 : q % 9223372036854775808 = 9218868437227405312
      · rw [if_pos h3]; exact .inl rfl
      · rw [if_neg h3] at hn; cases hn
theorem ord_low {m c : Nat} {e : Int} (h : Pos64 m e) (h1 : 4503599627370496 ≤ c) (he : e < 75) : (Datum.number false m e).order (.number false c 75) = some .lt := by
  rw [order_num, Int.min_eq_left (by omega), Int.sub_self, Int.toNat_zero, Nat.pow_zero, Nat.mul_one]
  refine congrArg some (cmp_lt ?_)
  have hk : 2 ^ 1 ≤ 2 ^ (75 - e).toNat := Nat.pow_le_pow_right (by decide) (by omega)
  have := Nat.mul_le_mul h1 hk
  have : m < 9007199254740992 := by unfold Pos64 at h; omega
  omega
theorem ord_high {m c : Nat} {e : Int} (h : Pos64 m e) (h2 : c < 9007199254740992) (he : 75 < e) : (Datum.number false m e).order (.number false c 75) = some .gt := by
  rw [order_num, Int.min_eq_right (by omega), Int.sub_self, Int.toNat_zero, Nat.pow_zero, Nat.mul_one]
  refine congrArg some (cmp_gt ?_)
  have hk : 2 ^ 1 ≤ 2 ^ (e - 75).toNat := Nat.pow_le_pow_right (by decide) (by omega)
  have hm : 4503599627370496 ≤ m := by unfold Pos64 at h; omega
  have := Nat.mul_le_mul hm hk
  omega
theorem ord_at {m c : Nat} {e : Int} (he : e = 75) : (Datum.number false m e).order (.number false c 75) = some (compare (m : Int) (c : Int)) := by
  subst he
  rw [order_num, Int.min_eq_right (by omega), Int.sub_self, Int.toNat_zero, Nat.pow_zero, Nat.mul_one, Nat.mul_one]
theorem bl53 {m : Nat} (h1 : 4503599627370496 ≤ m) (h2 : m < 9007199254740992) : bl m = 53 := bl_eq (k := 52) (by show 4503599627370496 ≤ m; omega) (by show m < 9007199254740992; omega)
theorem word_false (r : Nat) : Ieee.single.word false r = r := rfl
/-- a number with all its places, written as binary32 -/
theorem near53 {m : Nat} {e : Int} (h1 : 4503599627370496 ≤ m) (h2 : m < 9007199254740992) (he : -178 ≤ e) : Ieee.single.nearest false m e = min ((e + 178).toNat * 8388608 + rn m 29) 2139095040 := by
  have hb := bl53 h1 h2
  have hl : lst 24 (-149) m e = e + 29 := by unfold lst; rw [hb]; omega
  rw [near24 false e (by omega), word_false]
  unfold kept
  rw [hl, show (e - (e + 29)).toNat = 0 from by omega, show (e + 29 - e).toNat = 29 from by omega, Nat.pow_zero, Nat.mul_one, show e + 29 + 149 = e + 178 from by omega]
theorem rn29 (m : Nat) : rn m 29 = m / 536870912 + (if 536870912 < 2 * (m % 536870912) ∨ (536870912 = 2 * (m % 536870912) ∧ m / 536870912 % 2 = 1) then 1 else 0) := rfl
theorem near_beyond {m : Nat} {e : Int} (h : Pos64 m e) (he : 75 < e) : Ieee.single.nearest false m e = 2139095040 := by
  unfold Pos64 at h
  rw [near53 (by omega) (by omega) (by omega)]
  have := le_rn m 29 23 (by show 4503599627370496 ≤ m; omega)
  have : 8388608 ≤ rn m 29 := this
  omega
theorem near_at_inf {m : Nat} (h1 : 9007198986305536 ≤ m) (h2 : m < 9007199254740992) : Ieee.single.nearest false m 75 = 2139095040 := by
  rw [near53 (by omega) (by omega) (by omega), rn29]
  split <;> omega
theorem near_at_top {m : Nat} (h1 : 9007198717870080 < m) (h2 : m < 9007198986305536) : Ieee.single.nearest false m 75 = 2139095039 := by
  rw [near53 (by omega) (by omega) (by omega), rn29]
  split <;> omega
theorem near_at_less {m : Nat} (h1 : 4503599627370496 ≤ m) (h2 : m ≤ 9007198717870080) : Ieee.single.nearest false m 75 < 2139095040 := by
  rw [near53 (by omega) (by omega) (by omega), rn29]
  split <;> omega
theorem near_less {m : Nat} {e : Int} (h : Pos64 m e) (he : e < 75) : Ieee.single.nearest false m e < 2139095040 := by
  by_cases h0 : m = 0
  · subst h0; rw [nearest_zero]; decide
  · have hb : bl m ≤ 53 := bl_le (k := 53) (by show m < 9007199254740992; unfold Pos64 at h; omega)
    have hk := kept_le 24 (-149) m e
    have hk : kept 24 (-149) m e ≤ 16777216 := hk
    have hl : lst 24 (-149) m e ≤ 103 := by unfold lst; omega
    rw [near24 false e h0, word_false]
    omega
theorem finite_read {W : Nat} (h : W < 2139095040) : (Ieee.single.read W).isInfinity = false := by
  unfold Format.read
  rw [show Ieee.single.signWeight = 2147483648 from by decide, show Ieee.single.binade = 8388608 from by decide, show Ieee.single.infRung = 2139095040 from by decide]
  simp only
  by_cases h1 : W % 2147483648 < 8388608
  · rw [if_pos h1]; rfl
  · rw [if_neg h1, if_pos (by omega)]; rfl
/-- beyond the greatest number by half of its last place -/
def g1 (q : Nat) : Bool := Ieee.double.order q 5183643170835005440 == some .gt || Ieee.double.order q 5183643170835005440 == some .eq
/-- beyond the greatest number -/
def g2 (q : Nat) : Bool := Ieee.double.order q 5183643170566569984 == some .gt
theorem read_c1 : Ieee.double.read 5183643170835005440 = .number false 9007198986305536 75 := by decide +kernel
theorem read_c2 : Ieee.double.read 5183643170566569984 = .number false 9007198717870080 75 := by decide +kernel
theorem top_cases (q : Nat) (hs : q / 9223372036854775808 % 2 = 0) (hn : (Ieee.double.read q).isNaN = false) :
    (g1 q = true ∧ Ieee.single.write (Ieee.double.read q) = 2139095040) ∨
    (g1 q = false ∧ g2 q = true ∧ Ieee.single.write (Ieee.double.read q) = 2139095039) ∨
    (g1 q = false ∧ g2 q = false ∧ (Ieee.single.read (Ieee.single.write (Ieee.double.read q))).isInfinity = false) := by
  unfold g1 g2 Format.order
  rw [read_c1, read_c2]
  rcases pos_cases q hs hn with hq | ⟨m, e, hq, h⟩
  · rw [hq]; exact .inl ⟨rfl, by decide⟩
  · rw [hq]
    rw [show Ieee.single.write (.number false m e) = Ieee.single.nearest false m e from rfl]
    rcases Int.lt_trichotomy e 75 with he | he | he
    · rw [ord_low h (by omega) he, ord_low h (by omega) he]
      exact .inr (.inr ⟨rfl, rfl, finite_read (near_less h he)⟩)
    · rw [ord_at he, ord_at he]
      subst he
      have hm : 4503599627370496 ≤ m ∧ m < 9007199254740992 := by unfold Pos64 at h; omega
      by_cases h1 : 9007198986305536 ≤ m
      · refine .inl ⟨?_, near_at_inf h1 hm.2⟩
        rcases Nat.lt_or_eq_of_le h1 with h1 | h1
        · rw [cmp_gt h1]; rfl
        · rw [cmp_eq h1.symm]; rfl
      · have c1 := cmp_lt (Nat.lt_of_not_le h1)
        rw [c1]
        by_cases h2 : 9007198717870080 < m
        · rw [cmp_gt h2]
          exact .inr (.inl ⟨rfl, rfl, near_at_top h2 (by omega)⟩)
        · refine .inr (.inr ⟨rfl, ?_, finite_read (near_at_less hm.1 (by omega))⟩)
          rcases Nat.lt_or_eq_of_le (Nat.le_of_not_lt h2) with h2 | h2
          · rw [cmp_lt h2]; rfl
          · rw [cmp_eq h2]; rfl
    · rw [ord_high h (by omega) he]
      exact .inl ⟨rfl, near_beyond h he⟩
/-- the sign of what binary64 holds -/
theorem read_neg64 (q : Nat) : (Ieee.double.read q).neg = (q / 9223372036854775808 % 2 == 1) := by
  unfold Format.read
  rw [show Ieee.double.signWeight = 9223372036854775808 from by decide]
  simp only
  split
  · rfl
  · split
    · rfl
    · split <;> rfl
theorem neg_parts (q : Nat) : (q ^^^ 9223372036854775808) / 9223372036854775808 % 2 = 1 - q / 9223372036854775808 % 2 ∧ (q ^^^ 9223372036854775808) % 9223372036854775808 = q % 9223372036854775808 := by
  have h1 : (q ^^^ 9223372036854775808) / 9223372036854775808 = q / 9223372036854775808 ^^^ 1 := Nat.xor_div_two_pow (n := 63)
  have h2 : (q ^^^ 9223372036854775808) % 9223372036854775808 = q % 9223372036854775808 ^^^ 0 := Nat.xor_mod_two_pow (n := 63)
  rw [Nat.xor_zero] at h2
  refine ⟨?_, h2⟩
  rw [h1, show (q / 9223372036854775808 ^^^ 1) % 2 = (q / 9223372036854775808) % 2 ^^^ 1 from Nat.xor_mod_two_pow (n := 1)]
  rcases Nat.mod_two_eq_zero_or_one (q / 9223372036854775808) with h | h <;> rw [h] <;> rfl
theorem read_opp (q : Nat) : Ieee.double.read (q ^^^ 9223372036854775808) = (Ieee.double.read q).opposite := by
  obtain ⟨h1, h2⟩ := neg_parts q
  have h3 : ((q ^^^ 9223372036854775808) / 9223372036854775808 % 2 == 1) = !(q / 9223372036854775808 % 2 == 1) := by
    rw [h1]
    rcases Nat.mod_two_eq_zero_or_one (q / 9223372036854775808) with h | h <;> rw [h] <;> rfl
  unfold Format.read
  rw [show Ieee.double.signWeight = 9223372036854775808 from by decide]
  simp only [h2, h3]
  split
  · rfl
  · split
    · rfl
    · split <;> rfl
/-- a number below nought is written as its opposite, and the sign -/
theorem write_opp (d : Datum) (hn : d.isNaN = false) (hs : d.neg = true) : Ieee.single.write d = 2147483648 + Ieee.single.write d.opposite ∧ Ieee.single.write d.opposite < 2147483648 := by
  have key : ∀ r, r ≤ 2139095040 → Ieee.single.word true r = 2147483648 + Ieee.single.word false r ∧ Ieee.single.word false r < 2147483648 := by
    intro r hr; rw [word_single, word_single]; exact ⟨by simp, by simp; omega⟩
  cases d with
  | nan s t => cases hn
  | infinity s => cases s with
    | false => cases hs
    | true => exact key 2139095040 (Nat.le_refl _)
  | number s m e => cases s with
    | false => cases hs
    | true =>
      show Ieee.single.nearest true m e = 2147483648 + Ieee.single.nearest false m e ∧ _
      show _ ∧ Ieee.single.nearest false m e < _
      by_cases h : m = 0
      · subst h; rw [nearest_zero, nearest_zero]; exact key 0 (Nat.zero_le _)
      · rw [near24 true e h, near24 false e h]; exact key _ (Nat.min_le_right _ _)
end Go.Proofs.Ytbfdanbepdefnaa
