/-
  The document's way to round and to add, as whole numbers: it comes to the rounding of binary64 and binary32. Nothing of the program.
-/
import Derived.Test.YtbfdanbepdefnaaFl
namespace Go.Proofs.Ytbfdanbepdefnaa
open Ieee

/-- rounded with something more behind -/
def rns (m c : Nat) (odd : Bool) : Nat := m / 2 ^ c + (if 2 ^ c < 2 * (m % 2 ^ c) ∨ (2 ^ c = 2 * (m % 2 ^ c) ∧ (odd = true ∨ m / 2 ^ c % 2 = 1)) then 1 else 0)
theorem rns_false (m c : Nat) : rns m c false = rn m c := by unfold rns rn; simp
/-- the digit that was cut last, and what was cut ahead of it -/
def hfB (m i : Nat) : Bool := decide (2 ^ i ≤ 2 * (m % 2 ^ i))
def rsB (odd : Bool) (m i : Nat) : Bool := odd || decide (m % 2 ^ (i - 1) ≠ 0)
theorem hfB_zero (m : Nat) : hfB m 0 = false := by unfold hfB; simp [Nat.mod_one]
theorem rsB_zero (odd : Bool) (m : Nat) : rsB odd m 0 = odd := by unfold rsB; simp [Nat.mod_one]
theorem mod_succ (m i : Nat) : m % 2 ^ (i + 1) = m % 2 ^ i + 2 ^ i * (m / 2 ^ i % 2) := by rw [Nat.pow_succ, Nat.mod_mul]
theorem div_succ (m i : Nat) : m / 2 ^ (i + 1) = m / 2 ^ i / 2 := by rw [Nat.div_div_eq_div_mul, ← Nat.pow_succ]
theorem hfB_succ (m i : Nat) : hfB m (i + 1) = decide (m / 2 ^ i % 2 = 1) := by
  unfold hfB
  rw [mod_succ, Nat.pow_succ]
  have h := Nat.mod_lt m (Nat.two_pow_pos i)
  rcases Nat.mod_two_eq_zero_or_one (m / 2 ^ i) with e | e <;> rw [e] <;> simp <;> omega
theorem rsB_succ (odd : Bool) (m i : Nat) : rsB odd m (i + 1) = (rsB odd m i || hfB m i) := by
  unfold rsB
  rw [Bool.or_assoc]
  congr 1
  rw [Nat.add_sub_cancel]
  cases i with
  | zero => simp [hfB_zero, Nat.mod_one]
  | succ j =>
    rw [hfB_succ, Nat.add_sub_cancel, mod_succ, Bool.eq_iff_iff]
    have := Nat.two_pow_pos j
    rcases Nat.mod_two_eq_zero_or_one (m / 2 ^ j) with e | e <;> rw [e] <;> simp <;> omega
theorem fit_up (m c : Nat) (odd : Bool) (hc : 1 ≤ c) : (if (hfB m c && (rsB odd m c || decide (m / 2 ^ c % 2 = 1))) = true then m / 2 ^ c + 1 else m / 2 ^ c) = rns m c odd := by
  obtain ⟨j, rfl⟩ : ∃ j, c = j + 1 := ⟨c - 1, by omega⟩
  unfold rns
  generalize hq : m / 2 ^ (j + 1) % 2 = q
  rw [hfB_succ]
  unfold rsB
  rw [Nat.add_sub_cancel, mod_succ, show 2 ^ (j + 1) = 2 * 2 ^ j from by rw [Nat.pow_succ]; omega]
  have h := Nat.mod_lt m (Nat.two_pow_pos j)
  generalize m % 2 ^ j = r at h
  generalize 2 ^ j = Q at *
  rcases Nat.mod_two_eq_zero_or_one (m / Q) with e | e <;> rw [e] <;> simp
  · omega
  · cases odd <;> simp
    · by_cases hr : r = 0
      · subst hr; simp; split <;> rfl
      · rw [if_pos (by omega), if_pos (by omega)]
    · omega
theorem sticky (T k c : Nat) (hc : 1 ≤ c) : rn T (c + k) = rns (T / 2 ^ k) c (decide (T % 2 ^ k ≠ 0)) := by
  obtain ⟨j, rfl⟩ : ∃ j, c = j + 1 := ⟨c - 1, by omega⟩
  unfold rn rns
  have e1 : T / 2 ^ (j + 1 + k) = T / 2 ^ k / 2 ^ (j + 1) := by rw [Nat.div_div_eq_div_mul, ← Nat.pow_add, Nat.add_comm]
  have e2 : T % 2 ^ (j + 1 + k) = T % 2 ^ k + 2 ^ k * (T / 2 ^ k % 2 ^ (j + 1)) := by rw [Nat.add_comm (j + 1), Nat.pow_add, Nat.mod_mul]
  rw [e1, e2]
  have ht := Nat.mod_lt T (Nat.two_pow_pos k)
  congr 1
  rw [show 2 ^ (j + 1 + k) = 2 ^ k * (2 * 2 ^ j) from by rw [Nat.add_comm, Nat.pow_add, Nat.pow_succ, Nat.mul_comm (2 ^ j)], show 2 ^ (j + 1) = 2 * 2 ^ j from by rw [Nat.pow_succ, Nat.mul_comm]]
  generalize T / 2 ^ k / (2 * 2 ^ j) % 2 = q
  generalize T / 2 ^ k % (2 * 2 ^ j) = r
  generalize T % 2 ^ k = t at ht
  generalize 2 ^ k = Q at *
  generalize 2 ^ j = h
  have hl : Q * (2 * h) = 2 * (Q * h) := Nat.mul_left_comm _ _ _
  rw [hl]
  rcases Nat.lt_trichotomy r h with hrh | hrh | hrh
  · have hm : Q * (r + 1) ≤ Q * h := Nat.mul_le_mul_left _ hrh
    rw [Nat.mul_succ] at hm
    rw [if_neg (by omega), if_neg (by omega)]
  · subst hrh
    simp
    by_cases h0 : t = 0
    · subst h0; simp
    · rw [if_pos (by omega), if_pos (by omega)]
  · have hm : Q * (h + 1) ≤ Q * r := Nat.mul_le_mul_left _ hrh
    rw [Nat.mul_succ] at hm
    rw [if_pos (by omega), if_pos (by omega)]
theorem rns_le (m c w : Nat) (odd : Bool) (h : m < 2 ^ (w + c)) : rns m c odd ≤ 2 ^ w := by
  have : m / 2 ^ c < 2 ^ w := Nat.div_lt_of_lt_mul (by rw [← Nat.pow_add, Nat.add_comm]; exact h)
  unfold rns; split <;> omega

/-- to w digits at the most, not below 2 ^ l -/
def fitP (w : Nat) (l : Int) (odd : Bool) (m : Nat) (e : Int) : Nat × Int :=
  if max ((bl m : Int) - w) (l - e) ≤ 0 then (m, e)
  else if bl (rns m (max ((bl m : Int) - w) (l - e)).toNat odd) ≤ w then (rns m (max ((bl m : Int) - w) (l - e)).toNat odd, e + max ((bl m : Int) - w) (l - e))
  else (2 ^ (w - 1), e + max ((bl m : Int) - w) (l - e) + 1)
theorem near_of (s : Bool) (m : Nat) (e : Int) (V : Nat) (h : m * sh e = R53 V) (he : -2200 ≤ e) : Ieee.single.nearest s m e = Ieee.single.nearest s (R53 V) (-2200) := by
  have := nearest_scale Ieee.single s m e (e + 2200).toNat
  rw [show e - ((e + 2200).toNat : Int) = -2200 from by omega] at this
  rw [← h]; exact this.symm
/-- cut by 53 digits: of what is T -/
theorem fit53 (T M : Nat) (E : Int) (odd : Bool) (hE : -1074 ≤ E) (hM : M = T / sh E) (ho : odd = decide (T % sh E ≠ 0)) (h54 : odd = true → 54 ≤ bl M) :
    (fitP 53 (-1074) odd M E).1 * sh (fitP 53 (-1074) odd M E).2 = R53 T ∧ E ≤ (fitP 53 (-1074) odd M E).2 := by
  have hT : T = M * sh E + T % sh E := by rw [hM, Nat.mul_comm]; exact (Nat.div_add_mod _ _).symm
  unfold fitP
  by_cases hc : bl M ≤ 53
  · have e0 : max ((bl M : Int) - (53 : Nat)) (-1074 - E) ≤ 0 := by omega
    rw [if_pos e0]
    have hz : T % sh E = 0 := by
      by_cases hz : T % sh E = 0
      · exact hz
      · have := h54 (by rw [ho]; exact decide_eq_true hz); omega
    rw [hz, Nat.add_zero] at hT
    refine ⟨?_, Int.le_refl _⟩
    show M * sh E = R53 T
    rw [hT]
    exact (R53_exact M _ (lt_of_bl hc) (by omega)).symm
  · have hMne : M ≠ 0 := bl_ne (by omega)
    obtain ⟨c, hcc⟩ : ∃ c : Nat, bl M = c + 53 := ⟨bl M - 53, by omega⟩
    have e0 : max ((bl M : Int) - (53 : Nat)) (-1074 - E) = c := by omega
    rw [e0, if_neg (by omega), Int.toNat_natCast]
    have hbT : bl T = bl M + (E + 2200).toNat := by
      have : T / 2 ^ (E + 2200).toNat ≠ 0 := by show T / sh E ≠ 0; rw [← hM]; exact hMne
      rw [bl_of_div this]; show bl (T / sh E) + _ = _; rw [← hM]
    have hR : R53 T = rns M c odd * 2 ^ (c + (E + 2200).toNat) := by
      unfold R53
      rw [show max (bl T - 53) 1126 = c + (E + 2200).toNat from by omega, sticky T _ c (by omega)]
      rw [show T / 2 ^ (E + 2200).toNat = M from hM.symm, show decide (T % 2 ^ (E + 2200).toNat ≠ 0) = odd from ho.symm]
    have hle := rns_le M c 53 odd (by have := lt_bl M; rw [hcc, Nat.add_comm] at this; exact this)
    by_cases hb : bl (rns M c odd) ≤ 53
    · rw [if_pos hb]
      refine ⟨?_, by show E ≤ E + c; omega⟩
      rw [hR, Nat.pow_add]
      show rns M c odd * sh (E + c) = _
      rw [sh_add _ _ (by omega)]; rfl
    · rw [if_neg hb]
      refine ⟨?_, by show E ≤ E + c + 1; omega⟩
      have : rns M c odd = 2 ^ 53 := by
        rcases Nat.lt_or_ge (rns M c odd) (2 ^ 53) with h' | h'
        · exact absurd (bl_le h') hb
        · omega
      rw [hR, this]
      show 2 ^ 52 * sh (E + c + 1) = _
      rw [show E + (c : Int) + 1 = E + ((c + 1 : Nat) : Int) from by omega, sh_add _ _ (by omega), show (2 : Nat) ^ 53 = 2 ^ 52 * 2 from by rw [← Nat.pow_succ], Nat.pow_add 2 c (E + 2200).toNat, Nat.pow_succ 2 c]
      show 2 ^ 52 * (2 ^ c * 2 * 2 ^ (E + 2200).toNat) = _
      generalize 2 ^ (E + 2200).toNat = X
      generalize 2 ^ c = Y
      rw [Nat.mul_comm Y 2, Nat.mul_assoc 2 Y X, ← Nat.mul_assoc]

/-- two that are added, the first one the greater: both as far up as they go -/
theorem bl_up {m : Nat} (h : m ≠ 0) (k : Nat) (hk : bl m ≤ k) : bl (m * 2 ^ (k - bl m)) = k := by rw [bl_mul_pow h]; omega
/-- one number's worth, by another's place -/
def alignB (n : Nat) (f E : Int) : Nat := if E ≤ f then n * 2 ^ (f - E).toNat else n / 2 ^ (E - f).toNat
def oddB (n : Nat) (f E : Int) : Bool := decide (¬ E ≤ f) && decide (n % 2 ^ (E - f).toNat ≠ 0)
theorem align_div (n : Nat) (f E : Int) (hf : -2200 ≤ f) (hE : -2200 ≤ E) : alignB n f E = n * sh f / sh E ∧ oddB n f E = decide (n * sh f % sh E ≠ 0) := by
  unfold alignB oddB
  by_cases h : E ≤ f
  · have e : sh f = 2 ^ (f - E).toNat * sh E := by rw [← sh_add E _ hE]; congr 1; omega
    rw [if_pos h, e, ← Nat.mul_assoc, Nat.mul_div_cancel _ (sh_pos E), Nat.mul_mod_left]
    simp [h]
  · have e : sh E = 2 ^ (E - f).toNat * sh f := by rw [← sh_add f _ hf]; congr 1; omega
    rw [if_neg h, e, Nat.mul_mod_mul_right, Nat.mul_div_mul_right _ _ (sh_pos f)]
    refine ⟨rfl, ?_⟩
    have hp := sh_pos f
    have hz : n % 2 ^ (E - f).toNat * sh f = 0 ↔ n % 2 ^ (E - f).toNat = 0 := by
      rw [Nat.mul_eq_zero]
      exact ⟨fun h => h.elim id (fun h => by omega), .inl⟩
    simp only [h, hz, ne_eq]
    rfl
theorem add_parts (A B Q : Nat) (hQ : 0 < Q) : (A * Q + B) / Q = A + B / Q ∧ (A * Q + B) % Q = B % Q := by
  rw [Nat.add_comm (A * Q), Nat.add_mul_div_right _ _ hQ, Nat.add_mul_mod_self_right]
  exact ⟨Nat.add_comm _ _, rfl⟩
theorem sub_parts (A B Q : Nat) (hQ : 0 < Q) (h : B / Q ≤ A) (hr : B % Q ≠ 0 → B / Q < A) :
    (A * Q - B) / Q = (if B % Q ≠ 0 then A - B / Q - 1 else A - B / Q) ∧ ((A * Q - B) % Q ≠ 0 ↔ B % Q ≠ 0) := by
  have hB := Nat.div_add_mod B Q
  have hlt := Nat.mod_lt B hQ
  by_cases hz : B % Q = 0
  · have e : A * Q - B = (A - B / Q) * Q := by rw [Nat.sub_mul, Nat.mul_comm (B / Q)]; omega
    rw [e, Nat.mul_div_cancel _ hQ, Nat.mul_mod_left, hz]
    simp
  · have h1 := hr hz
    have e : A * Q - B = (Q - B % Q) + (A - B / Q - 1) * Q := by
      have e1 : (A - B / Q - 1) * Q + Q = (A - B / Q) * Q := by rw [← Nat.succ_mul]; congr 1; omega
      have e2 : (A - B / Q) * Q = A * Q - Q * (B / Q) := by rw [Nat.sub_mul, Nat.mul_comm (B / Q)]
      have e3 : Q * (B / Q) ≤ Q * A := Nat.mul_le_mul_left _ h
      rw [Nat.mul_comm Q A] at e3
      omega
    have hlt' : Q - B % Q < Q := by omega
    rw [e, Nat.add_mul_div_right _ _ hQ, Nat.add_mul_mod_self_right, Nat.div_eq_of_lt hlt', Nat.mod_eq_of_lt hlt', if_pos hz]
    generalize B % Q = r at *
    omega

theorem sum_comm (d d' : Datum) : d.sum d' = d'.sum d := by
  cases d with
  | nan s t => rw [sum_nan_r (d := d') rfl]; rfl
  | infinity s =>
    cases d' with
    | nan t u => rfl
    | number t n f => rfl
    | infinity t =>
      by_cases h : s = t
      · subst h; rfl
      · rw [show (Datum.infinity s).sum (.infinity t) = none from if_neg h, show (Datum.infinity t).sum (.infinity s) = none from if_neg (fun e => h e.symm)]
  | number s m e =>
    cases d' with
    | nan t u => rfl
    | infinity t => rfl
    | number t n f =>
      show some (Datum.number (if signed s m (e - min e f).toNat + signed t n (f - min e f).toNat = 0 then s && t else decide (signed s m (e - min e f).toNat + signed t n (f - min e f).toNat < 0)) (signed s m (e - min e f).toNat + signed t n (f - min e f).toNat).natAbs (min e f)) = some (Datum.number (if signed t n (f - min f e).toNat + signed s m (e - min f e).toNat = 0 then t && s else decide (signed t n (f - min f e).toNat + signed s m (e - min f e).toNat < 0)) (signed t n (f - min f e).toNat + signed s m (e - min f e).toNat).natAbs (min f e))
      rw [Int.min_comm f e, Int.add_comm (signed t n _), Bool.and_comm]
/-- a word as the document tells a number -/
def bitsD : Datum → Nat
  | .number s m e => Ieee.single.nearest s m e
  | .infinity s => Ieee.single.word s Ieee.single.infRung
  | .nan _ _ => 2143289344
theorem told_sum {d d' : Datum} {s t : Bool} {V U : Nat} (h : Val (-2148) d s V) (h' : Val (-2148) d' t U) : told (d.sum d') = Ieee.single.nearest (sumS s t V U) (R53 (sumV s t V U)) (-2200) := by
  obtain ⟨z, h1, h2⟩ := sum_val h h' (by decide)
  rw [h1, told_val h2]
/-- two numbers under way, the first one the greater, both by the place E, with what was lost -/
structure Duo (m : Nat) (e : Int) (n : Nat) (f : Int) (A : Nat) (E : Int) (B : Nat) (odd : Bool) : Prop where
  low : -1000 ≤ E
  up : E ≤ 400
  top : bl A = 61
  worth : m * sh e = A * sh E
  other : B = n * sh f / sh E
  more : odd = decide (n * sh f % sh E ≠ 0)
  small : B < 2 ^ 61
  half : odd = true → B < 2 ^ 47
  long : ∃ p, A = p * 2 ^ 13
  longB : 2 ^ 60 ≤ B → ∃ p, B = p * 2 ^ 13
theorem duo_of {m n : Nat} {e f : Int} (hm : m ≠ 0) (hm8 : bl m ≤ 48) (hn8 : bl n ≤ 48) (he : -300 ≤ e) (he' : e ≤ 300) (hf : -300 ≤ f) (hf' : f ≤ 300) (hg : (bl n : Int) + f ≤ bl m + e) :
    Duo m e n f (m * 2 ^ (61 - bl m)) (e - (61 - bl m : Nat)) (alignB n f (e - (61 - bl m : Nat))) (oddB n f (e - (61 - bl m : Nat))) := by
  obtain ⟨k, hk⟩ : ∃ k, k = 61 - bl m := ⟨_, rfl⟩
  rw [← hk]
  have hA : bl (m * 2 ^ k) = 61 := by rw [hk]; exact bl_up hm 61 (by omega)
  obtain ⟨h1, h2⟩ := align_div n f (e - k) (by omega) (by omega)
  have hsmall : alignB n f (e - k) < 2 ^ 61 := by
    rw [h1]
    refine Nat.div_lt_of_lt_mul ?_
    refine Nat.lt_of_lt_of_le (Nat.mul_lt_mul_of_pos_right (lt_bl n) (sh_pos f)) ?_
    unfold sh
    rw [← Nat.pow_add, ← Nat.pow_add]
    exact Nat.pow_le_pow_right (by decide) (by omega)
  refine ⟨by omega, by omega, hA, ?_, h1, h2, hsmall, fun ho => ?_, ⟨m * 2 ^ (k - 13), by rw [Nat.mul_assoc, ← Nat.pow_add]; congr 2; omega⟩, fun hB => ?_⟩
  · rw [Nat.mul_assoc, ← sh_add _ _ (by omega)]; congr 2; omega
  · unfold oddB at ho
    have hlt : ¬ (e - k : Int) ≤ f := by
      intro h; rw [decide_eq_false (by simpa using h)] at ho; simp at ho
    unfold alignB
    rw [if_neg hlt]
    have hn' : n < 2 ^ 48 := lt_of_bl hn8
    have h2 : 2 ^ 1 ≤ 2 ^ (e - k - f).toNat := Nat.pow_le_pow_right (by decide) (by omega)
    refine Nat.div_lt_of_lt_mul ?_
    refine Nat.lt_of_lt_of_le hn' (Nat.le_trans (by decide) (Nat.mul_le_mul_right _ h2))
  · have hle : (e - k : Int) + 13 ≤ f := by
      rcases Int.lt_or_le f (e - k + 13) with h | h
      · exfalso
        have hlt : alignB n f (e - k) < 2 ^ 60 := by
          rw [h1]
          refine Nat.div_lt_of_lt_mul ?_
          refine Nat.lt_of_lt_of_le (Nat.mul_lt_mul_of_pos_right (lt_of_bl hn8) (sh_pos f)) ?_
          unfold sh
          rw [← Nat.pow_add, ← Nat.pow_add]
          exact Nat.pow_le_pow_right (by decide) (by omega)
        omega
      · exact h
    unfold alignB
    rw [if_pos (by omega)]
    exact ⟨n * 2 ^ ((f - (e - k)).toNat - 13), by rw [Nat.mul_assoc, ← Nat.pow_add]; congr 2; omega⟩

section
variable {m n A B : Nat} {e f E : Int} {odd : Bool}
theorem Duo.vals (D : Duo m e n f A E B odd) : 2 ^ 60 ≤ A ∧ A < 2 ^ 61 ∧ n * sh f = B * sh E + n * sh f % sh E ∧ (odd = false → n * sh f = B * sh E) := by
  have h0 : A ≠ 0 := bl_ne (by rw [D.top]; decide)
  have h1 := bl_le_self h0
  have h2 := lt_bl A
  rw [D.top] at h1 h2
  have h3 : n * sh f = B * sh E + n * sh f % sh E := by rw [D.other, Nat.mul_comm (n * sh f / sh E)]; exact (Nat.div_add_mod _ _).symm
  refine ⟨h1, h2, h3, fun ho => ?_⟩
  have h4 := D.more
  rw [ho] at h4
  have : n * sh f % sh E = 0 := by
    by_cases hz : n * sh f % sh E = 0
    · exact hz
    · rw [decide_eq_true hz] at h4; cases h4
  omega
theorem told_num (s t : Bool) (he : -300 ≤ e) (hf : -300 ≤ f) : told ((Datum.number s m e).sum (.number t n f)) = Ieee.single.nearest (sumS s t (m * sh e) (n * sh f)) (R53 (sumV s t (m * sh e) (n * sh f))) (-2200) :=
  told_sum ⟨m, e, rfl, by omega, rfl⟩ ⟨n, f, rfl, by omega, rfl⟩
theorem duo_same (D : Duo m e n f A E B odd) (s : Bool) (he : -300 ≤ e) (hf : -300 ≤ f) :
    told ((Datum.number s m e).sum (.number s n f)) = bitsD (.number s (fitP 53 (-1074) odd (A + B) E).1 (fitP 53 (-1074) odd (A + B) E).2) := by
  obtain ⟨h1, h2, _, _⟩ := D.vals
  have hl := D.low
  obtain ⟨p1, p2⟩ := add_parts A (n * sh f) (sh E) (sh_pos E)
  have hV : sumV s s (m * sh e) (n * sh f) = A * sh E + n * sh f := by
    rw [D.worth]; unfold sumV sg; cases s <;> simp <;> omega
  have hS : sumS s s (m * sh e) (n * sh f) = s := by
    rw [D.worth]
    have : 0 < A * sh E := Nat.mul_pos (by omega) (sh_pos E)
    unfold sumS sg; cases s <;> simp <;> omega
  obtain ⟨f1, f2⟩ := fit53 (A * sh E + n * sh f) (A + B) E odd (by omega) (by rw [p1, D.other]) (by rw [p2, D.more]) (fun _ => by have := le_bl (n := A + B) (k := 60) (by omega); omega)
  rw [told_num s s he hf, hV, hS, ← near_of s _ _ _ f1 (by omega)]
  rfl
theorem duo_less (D : Duo m e n f A E B odd) {s t : Bool} (hst : s ≠ t) (h : A < B) (he : -300 ≤ e) (hf : -300 ≤ f) :
    told ((Datum.number s m e).sum (.number t n f)) = bitsD (.number t (B - A) E) := by
  obtain ⟨h1, h2, _, h4⟩ := D.vals
  have hl := D.low
  have ho : odd = false := by
    cases hodd : odd with
    | false => rfl
    | true => have := D.half hodd; omega
  have hB := h4 ho
  have hlt : A * sh E < B * sh E := Nat.mul_lt_mul_of_pos_right h (sh_pos E)
  have hV : sumV s t (m * sh e) (n * sh f) = (B - A) * sh E := by
    rw [D.worth, hB, Nat.sub_mul]; unfold sumV sg; cases s <;> cases t <;> simp at hst ⊢ <;> omega
  have hS : sumS s t (m * sh e) (n * sh f) = t := by
    rw [D.worth, hB]
    unfold sumS sg; cases s <;> cases t <;> simp at hst ⊢ <;> omega
  have hx : R53 ((B - A) * sh E) = (B - A) * sh E := by
    obtain ⟨p, rfl⟩ := D.long
    obtain ⟨q, rfl⟩ := D.longB (by omega)
    have hs := D.small
    rw [← Nat.sub_mul, Nat.mul_assoc, ← sh_add _ _ (by omega)]
    exact R53_exact _ _ (by omega) (by omega)
  rw [told_num s t he hf, hV, hS, ← near_of t (B - A) E _ hx.symm (by omega)]
  rfl
theorem duo_zero (D : Duo m e n f A E B odd) {s t : Bool} (hst : s ≠ t) (h : A = B) (ho : odd = false) (he : -300 ≤ e) (hf : -300 ≤ f) :
    told ((Datum.number s m e).sum (.number t n f)) = bitsD (.number false 0 0) := by
  obtain ⟨h1, h2, _, h4⟩ := D.vals
  have hB := h4 ho
  have hV : sumV s t (m * sh e) (n * sh f) = 0 := by
    rw [D.worth, hB, h]; unfold sumV sg; cases s <;> cases t <;> simp at hst ⊢ <;> omega
  have hS : sumS s t (m * sh e) (n * sh f) = false := by
    rw [D.worth, hB, h]
    unfold sumS sg; cases s <;> cases t <;> simp at hst ⊢ <;> omega
  rw [told_num s t he hf, hV, hS, R53_zero, nearest_zero]
  show _ = Ieee.single.nearest false 0 0
  rw [nearest_zero]
theorem duo_more (D : Duo m e n f A E B odd) {s t : Bool} (hst : s ≠ t) (h : B ≤ A) (M : Nat) (hM : M = if odd = true then A - B - 1 else A - B) (h0 : M ≠ 0) (he : -300 ≤ e) (hf : -300 ≤ f) :
    told ((Datum.number s m e).sum (.number t n f)) = bitsD (.number s (fitP 53 (-1074) odd M E).1 (fitP 53 (-1074) odd M E).2) := by
  obtain ⟨h1, h2, h3, h4⟩ := D.vals
  have hl := D.low
  have hoth := D.other
  have hmore := D.more
  have hhalf := D.half
  have hlt : n * sh f < A * sh E := by
    cases hodd : odd with
    | false =>
      rw [hodd] at hM
      rw [h4 hodd]
      exact Nat.mul_lt_mul_of_pos_right (by simp at hM; omega) (sh_pos E)
    | true =>
      have := hhalf hodd
      have h5 : (B + 1) * sh E ≤ A * sh E := Nat.mul_le_mul_right _ (by omega)
      rw [Nat.succ_mul] at h5
      have := Nat.mod_lt (n * sh f) (sh_pos E)
      omega
  have hrb : n * sh f % sh E ≠ 0 → n * sh f / sh E < A := by
    intro hz
    have := hhalf (by rw [hmore]; exact decide_eq_true hz)
    omega
  obtain ⟨p1, p2⟩ := sub_parts A (n * sh f) (sh E) (sh_pos E) (by rw [← hoth]; exact h) hrb
  have hV : sumV s t (m * sh e) (n * sh f) = A * sh E - n * sh f := by
    rw [D.worth]; unfold sumV sg; cases s <;> cases t <;> simp at hst ⊢ <;> omega
  have hS : sumS s t (m * sh e) (n * sh f) = s := by
    rw [D.worth]
    unfold sumS sg; cases s <;> cases t <;> simp at hst ⊢ <;> omega
  have hq : (A * sh E - n * sh f) / sh E = M := by
    rw [p1, hM, ← hoth, hmore]
    by_cases hz : n * sh f % sh E ≠ 0
    · rw [if_pos hz, if_pos (decide_eq_true hz)]
    · rw [if_neg hz, if_neg (by simpa using hz)]
  obtain ⟨f1, f2⟩ := fit53 (A * sh E - n * sh f) M E odd (by omega) hq.symm (by rw [hmore]; exact decide_eq_decide.2 p2.symm) (fun hodd => by
    have := hhalf hodd
    rw [if_pos hodd] at hM
    have := le_bl (n := M) (k := 59) (by omega); omega)
  rw [told_num s t he hf, hV, hS, ← near_of s _ _ _ f1 (by omega)]
  rfl
end

theorem near24 (s : Bool) {M : Nat} (X : Int) (h : M ≠ 0) : Ieee.single.nearest s M X = Ieee.single.word s (min ((lst 24 (-149) M X + 149).toNat * 8388608 + kept 24 (-149) M X) 2139095040) := by
  have := nearest_eq Ieee.single s X h
  rw [single_least] at this
  exact this
theorem lst24 {M : Nat} {X : Int} (hb : bl M ≤ 24) (hX : -149 ≤ X) : lst 24 (-149) M X ≤ X := by unfold lst; omega
theorem kept24 {M : Nat} {X : Int} (hb : bl M ≤ 24) (hX : -149 ≤ X) : kept 24 (-149) M X = M * 2 ^ (X - lst 24 (-149) M X).toNat := by
  unfold kept
  have := lst24 hb hX
  rw [show (lst 24 (-149) M X - X).toNat = 0 from by omega, rn_zero]
theorem top24 (e : Int) (c : Nat) (hb2 : bl 8388608 = 24) (h : -149 ≤ e + c) : (lst 24 (-149) 8388608 (e + c + 1) + 149).toNat * 8388608 + kept 24 (-149) 8388608 (e + c + 1) = (e + c + 149).toNat * 8388608 + 2 ^ 24 := by
  have hl : lst 24 (-149) 8388608 (e + c + 1) = e + c + 1 := by unfold lst; rw [hb2]; omega
  have hk : kept 24 (-149) 8388608 (e + c + 1) = 8388608 := by
    rw [kept24 (Nat.le_of_eq hb2) (by omega), hl, Int.sub_self]
    exact Nat.mul_one _
  rw [hl, hk]
  omega
theorem fit24 (s : Bool) (m : Nat) (e : Int) : bl (fitP 24 (-149) false m e).1 ≤ 24 ∧ -149 ≤ (fitP 24 (-149) false m e).2 ∧ Ieee.single.nearest s (fitP 24 (-149) false m e).1 (fitP 24 (-149) false m e).2 = Ieee.single.nearest s m e := by
  unfold fitP
  by_cases hc : max ((bl m : Int) - (24 : Nat)) (-149 - e) ≤ 0
  · rw [if_pos hc]; exact ⟨by show bl m ≤ 24; omega, by show -149 ≤ e; omega, rfl⟩
  · rw [if_neg hc]
    obtain ⟨c, hcc⟩ : ∃ c : Nat, max ((bl m : Int) - (24 : Nat)) (-149 - e) = c := ⟨(max ((bl m : Int) - (24 : Nat)) (-149 - e)).toNat, by omega⟩
    rw [hcc, Int.toNat_natCast, rns_false]
    by_cases h0 : m = 0
    · subst h0
      rw [rn_nought, if_pos (by decide)]
      refine ⟨by show bl 0 ≤ 24; decide, by show -149 ≤ e + c; omega, ?_⟩
      rw [nearest_zero, nearest_zero]
    · have hl : lst 24 (-149) m e = e + c := by unfold lst; omega
      have hk : kept 24 (-149) m e = rn m c := by
        unfold kept; rw [hl, show (e - (e + (c : Int))).toNat = 0 from by omega, Nat.pow_zero, Nat.mul_one]; congr 1; omega
      have hle := kept_le 24 (-149) m e
      have hge := le_kept 24 (-149) e h0 (by decide)
      have hn := near24 s e h0
      have hlo : -149 ≤ lst 24 (-149) m e := Int.le_max_right _ _
      rw [hl, hk] at hn
      rw [hk] at hle hge
      rw [hl] at hge hlo
      by_cases hb : bl (rn m c) ≤ 24
      · rw [if_pos hb]
        refine ⟨hb, by show -149 ≤ e + c; omega, ?_⟩
        show Ieee.single.nearest s (rn m c) (e + c) = _
        by_cases hz : rn m c = 0
        · rw [hn, hz, nearest_zero]
          have : e + (c : Int) = -149 := by
            rcases Int.lt_or_le (-149) (e + c) with h | h
            · have := hge h; omega
            · omega
          rw [this]; simp
        · rw [hn, near24 s _ hz]
          refine congrArg (fun r => Ieee.single.word s (min r 2139095040)) ?_
          have hl2 := lst24 hb hlo
          rw [kept24 hb hlo]
          have : lst 24 (-149) (rn m c) (e + c) = e + c := by
            rcases Int.lt_or_le (-149) (e + c) with h | h
            · have := le_bl (hge h); unfold lst; omega
            · unfold lst; omega
          rw [this, Int.sub_self]
          simp
      · have e2 : rn m c = 2 ^ 24 := by
          rcases Nat.lt_or_ge (rn m c) (2 ^ 24) with h' | h'
          · exact absurd (bl_le h') hb
          · omega
        rw [if_neg hb, show (2 : Nat) ^ (24 - 1) = 8388608 from by decide]
        have hb2 : bl 8388608 = 24 := bl_eq (k := 23) (by decide) (by decide)
        refine ⟨by show bl 8388608 ≤ 24; rw [hb2]; decide, by show -149 ≤ e + c + 1; omega, ?_⟩
        show Ieee.single.nearest s 8388608 (e + c + 1) = _
        rw [hn, near24 s _ (by decide), e2]
        refine congrArg (fun r => Ieee.single.word s (min r 2139095040)) ?_
        exact top24 e c hb2 (by omega)
theorem word_single (s : Bool) (r : Nat) : Ieee.single.word s r = (if s = true then 2147483648 else 0) + r := by cases s <;> simp [Format.word, show Ieee.single.signWeight = 2147483648 from by decide]
theorem bits_inf (s : Bool) {M : Nat} {X : Int} (h : M ≠ 0) (hb : bl M ≤ 24) (hX : -149 ≤ X) (hi : 128 < bl M + X) : Ieee.single.nearest s M X = (if s = true then 2147483648 else 0) + 2139095040 := by
  rw [near24 s X h, word_single, Nat.min_eq_right]
  have h1 := lst24 hb hX
  rw [kept24 hb hX]
  have hl : lst 24 (-149) M X = X + bl M - 24 := by unfold lst; omega
  have h2 := bl_le_self h
  have : 2 ^ 23 ≤ M * 2 ^ (X - lst 24 (-149) M X).toNat := by
    rw [hl, show (X - (X + (bl M : Int) - 24)).toNat = 24 - bl M from by omega]
    have h3 : bl M ≠ 0 := by rw [bl_pos h]; omega
    refine Nat.le_trans ?_ (Nat.mul_le_mul_right _ h2)
    rw [← Nat.pow_add]
    exact Nat.pow_le_pow_right (by decide) (by omega)
  omega
theorem bits_end (s : Bool) {M : Nat} {X : Int} (hb : bl M ≤ 24) (hX : -149 ≤ X) (hend : M = 0 ∨ bl M = 24 ∨ X = -149) (hlim : M ≠ 0 → bl M + X ≤ 128) :
    Ieee.single.nearest s M X = (if s = true then 2147483648 else 0) + (if M < 8388608 then M else (X + 150).toNat * 8388608 + M - 8388608) := by
  by_cases h : M = 0
  · subst h; rw [nearest_zero, word_single]; rfl
  · have hl : lst 24 (-149) M X = X := by unfold lst; omega
    have hlt := lt_of_bl hb
    rw [near24 s X h, word_single, kept24 hb hX, hl, Int.sub_self]
    simp only [Int.toNat_zero, Nat.pow_zero, Nat.mul_one]
    congr 1
    by_cases h23 : M < 8388608
    · have : X = -149 := by
        rcases hend with h' | h' | h'
        · exact absurd h' h
        · have := bl_le_self h; rw [h'] at this; omega
        · exact h'
      subst this
      rw [if_pos h23]
      rw [show ((-149 : Int) + 149).toNat = 0 from rfl]
      omega
    · have := le_bl (n := M) (k := 23) (by omega)
      have := hlim h
      rw [if_neg h23]
      omega
end Go.Proofs.Ytbfdanbepdefnaa
