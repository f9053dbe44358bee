/-
  A buffer with one entry, as numbers: what is found in it, what a fence does to it. No function of the program stands here.
-/
import Derived.Test.YtfibdkiibnajhaaTlb11
import Derived.Laws.BitsLemmas
namespace Go.Proofs.Ytfibdkiibnajhaa
open Go.RowKit
set_option linter.unusedVariables false
set_option linter.unusedSimpArgs false

theorem xor_ne (a : Int) : bits .xor .i64 a 1 ≠ a := by
  intro h
  have h2 : IntKind.i64.wrap ((BitVec.ofInt 64 a ^^^ BitVec.ofInt 64 1).toNat : Int) = a := h
  generalize hA : BitVec.ofInt 64 a = A at h2
  generalize hX : A ^^^ BitVec.ofInt 64 1 = X at h2
  have e : BitVec.ofInt 64 a = X := by
    rw [← h2, IntKind.wrap_i64]
    apply BitVec.eq_of_toNat_eq
    rw [BitVec.toNat_ofInt]
    have := X.isLt
    omega
  rw [hA] at e
  rw [e] at hX
  have h3 : X ^^^ (X ^^^ BitVec.ofInt 64 1) = X ^^^ X := by rw [hX]
  rw [← BitVec.xor_assoc, BitVec.xor_self, BitVec.zero_xor] at h3
  exact absurd h3 (by decide)
/-- a buffer with one entry -/
def one1 (s : Nat) (Y : Wy) : Nat → Nat → Wy := updB (fun _ _ => zw) s 0 Y
theorem one_at (s : Nat) (Y : Wy) (i j : Nat) : one1 s Y i j = if i = s ∧ j = 0 then Y else zw := by
  unfold one1 updB updW
  by_cases e : i = s
  · rw [if_pos e]
    by_cases e2 : j = 0
    · rw [if_pos e2, if_pos ⟨e, e2⟩]
    · rw [if_neg e2, if_neg (fun h => e2 h.2)]
  · rw [if_neg e, if_neg (fun h => e h.1)]
theorem roomZ (x : Wy) (pk : Int) : roomW (fun _ => zw) 2 x pk = 0 := by
  have e0 : fst1 (fun i => sameW ((fun _ => zw) i) x) 2 = 2 := fst1_no (fun _ _ => rfl)
  have e1 : fst1 (fun i => !((fun _ => zw) i : Wy).full) 2 = 0 := fst1_yes (by decide) rfl (fun i hi => by omega)
  unfold roomW
  rw [e0, e1]
  rfl
theorem fil_one (va : Nat) (a : Int) (l : Lf) (pk : Int) : filT (fun _ _ => zw) 4 2 va a l pk = one1 (numN va l.lv % 4) ⟨true, a, numN va l.lv, l⟩ := by
  unfold filT one1
  rw [roomZ]
theorem matZ (va : Nat) (a : Int) : matW zw va a = false := rfl
theorem fnd_none (R : Nat → Nat → Wy) (n m va : Nat) (a : Int) (h : ∀ i j, matW (R i j) va a = false) : ∀ k l, fndT R n m va a k l = (zl, false)
  | 0, _ => rfl
  | k + 1, l => by
    rw [fndT, fst1_no (fun j _ => h _ j), if_neg (by omega)]
    exact fnd_none R n m va a h k (l + 1)
theorem fnd_zero (va : Nat) (a : Int) : fndT (fun _ _ => zw) 4 2 va a 3 0 = (zl, false) := fnd_none _ _ _ _ _ (fun _ _ => rfl) _ _
theorem fnd_one_no (s : Nat) (Y : Wy) (va : Nat) (a : Int) (h : matW Y va a = false) : fndT (one1 s Y) 4 2 va a 3 0 = (zl, false) := by
  refine fnd_none _ _ _ _ _ (fun i j => ?_) _ _
  rw [one_at]
  split
  · exact h
  · rfl
theorem fnd_step (s : Nat) (Y : Wy) (va : Nat) (a : Int) (h : matW Y va a = true) (k l : Nat) : fndT (one1 s Y) 4 2 va a (k + 1) l = if numN va l % 4 = s then (Y.l, true) else fndT (one1 s Y) 4 2 va a k (l + 1) := by
  rw [fndT]
  by_cases e : numN va l % 4 = s
  · rw [if_pos e]
    have e1 : fst1 (fun j => matW (one1 s Y (numN va l % 4) j) va a) 2 = 0 := fst1_yes (by decide) (by rw [one_at, if_pos ⟨e, rfl⟩]; exact h) (fun i hi => by omega)
    rw [e1, if_pos (by decide), one_at, if_pos ⟨e, rfl⟩]
  · rw [if_neg e]
    have e1 : fst1 (fun j => matW (one1 s Y (numN va l % 4) j) va a) 2 = 2 := fst1_no (fun j _ => by rw [one_at, if_neg (fun h => e h.1)]; rfl)
    rw [e1, if_neg (by decide)]
theorem fnd_one_yes (Y : Wy) (va : Nat) (a : Int) (h : matW Y va a = true) (hl : Y.l.lv < 3) : fndT (one1 (numN va Y.l.lv % 4) Y) 4 2 va a 3 0 = (Y.l, true) := by
  rw [fnd_step _ _ _ _ h, fnd_step _ _ _ _ h, fnd_step _ _ _ _ h]
  have h3 : Y.l.lv = 0 ∨ Y.l.lv = 1 ∨ Y.l.lv = 2 := by omega
  by_cases h0 : numN va 0 % 4 = numN va Y.l.lv % 4
  · rw [if_pos h0]
  · rw [if_neg h0]
    by_cases h1 : numN va (0 + 1) % 4 = numN va Y.l.lv % 4
    · rw [if_pos h1]
    · rw [if_neg h1, if_pos]
      rcases h3 with e | e | e
      · rw [e] at h0; exact absurd rfl h0
      · rw [e] at h1; exact absurd rfl h1
      · rw [e]
theorem cnt_one (q : Wy → Bool) (s : Nat) (Y : Wy) (hz : q zw = false) (hs : s < 4) : cnt2 (fun i j => q (one1 s Y i j)) 2 4 = if q Y then 1 else 0 := by
  have : s = 0 ∨ s = 1 ∨ s = 2 ∨ s = 3 := by omega
  rcases this with rfl | rfl | rfl | rfl <;> simp [cnt2, cnt1, one_at, hz]
theorem cnt_zero (q : Wy → Bool) (hz : q zw = false) : cnt2 (fun i j => q ((fun _ _ => zw : Nat → Nat → Wy) i j)) 2 4 = 0 := by
  simp [cnt2, cnt1, hz]
theorem goesZ (va : Option Nat) (a : Option Int) : goes zw va a = false := rfl
theorem fen_one_no (s : Nat) (Y : Wy) (va : Option Nat) (a : Option Int) (h : goes Y va a = false) : fenT (one1 s Y) va a = one1 s Y := by
  funext i j
  unfold fenT
  rw [one_at]
  by_cases e : i = s ∧ j = 0
  · rw [if_pos e, if_neg (by simp [h])]
  · rw [if_neg e, if_neg (by simp [goesZ])]
theorem fen_one_yes (s : Nat) (Y : Wy) (va : Option Nat) (a : Option Int) (h : goes Y va a = true) : fenT (one1 s Y) va a = fun _ _ => zw := by
  funext i j
  unfold fenT
  rw [one_at]
  by_cases e : i = s ∧ j = 0
  · rw [if_pos e, if_pos h]
  · rw [if_neg e, if_neg (by simp [goesZ])]
/-- an address of the same page -/
def inP (va oth l : Nat) : Nat := va - va % 2 ^ (12 + 9 * l) + oth % 2 ^ (12 + 9 * l)
theorem span_dvd (l : Nat) (hl : l < 3) : ∃ q, 18446744073709551616 = 2 ^ (12 + 9 * l) * q := by
  have h3 : l = 0 ∨ l = 1 ∨ l = 2 := by omega
  rcases h3 with rfl | rfl | rfl
  · exact ⟨4503599627370496, by decide⟩
  · exact ⟨8796093022208, by decide⟩
  · exact ⟨17179869184, by decide⟩
theorem inP_div (va oth l : Nat) : inP va oth l / 2 ^ (12 + 9 * l) = va / 2 ^ (12 + 9 * l) := by
  unfold inP
  have hp := Nat.two_pow_pos (12 + 9 * l)
  generalize 2 ^ (12 + 9 * l) = S at *
  have h1 := Nat.div_add_mod va S
  have h2 : va - va % S = S * (va / S) := by omega
  rw [h2, Nat.add_comm, Nat.add_mul_div_left _ _ hp, Nat.div_eq_of_lt (Nat.mod_lt _ hp), Nat.zero_add]
theorem inP_lt (va oth l : Nat) (hl : l < 3) (hv : va < 18446744073709551616) : inP va oth l < 18446744073709551616 := by
  obtain ⟨q, hq⟩ := span_dvd l hl
  have hp := Nat.two_pow_pos (12 + 9 * l)
  have hd := inP_div va oth l
  generalize inP va oth l = X at *
  generalize 2 ^ (12 + 9 * l) = S at *
  rw [hq] at hv ⊢
  have h1 : va / S < q := Nat.div_lt_of_lt_mul hv
  rw [← hd] at h1
  have h2 := (Nat.div_lt_iff_lt_mul hp).1 h1
  rw [Nat.mul_comm]
  exact h2
theorem inP_num (va oth l : Nat) (hl : l < 3) : numN (inP va oth l) l = numN va l := by
  rw [numN_eq _ _ hl, numN_eq _ _ hl, inP_div]
end Go.Proofs.Ytfibdkiibnajhaa
