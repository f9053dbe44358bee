/-
  Floating point as whole numbers: rounding to the nearest, of two the even one, over a number's place; what is read behind what was written. Nothing of the program.
-/
import Ieee.Arith
import GoSem.Core.Float
namespace Go.Proofs.Ytbfdanbepdefnaa
open Ieee

/-- n without its last d digits, to the nearest, of two the even one -/
def rn (n d : Nat) : Nat := n / 2 ^ d + (if 2 ^ d < 2 * (n % 2 ^ d) ∨ (2 ^ d = 2 * (n % 2 ^ d) ∧ n / 2 ^ d % 2 = 1) then 1 else 0)
/-- how many binary digits -/
def bl (n : Nat) : Nat := if n = 0 then 0 else n.log2 + 1

theorem bl_zero : bl 0 = 0 := rfl
theorem bl_pos {n : Nat} (h : n ≠ 0) : bl n = n.log2 + 1 := if_neg h
theorem lt_bl (n : Nat) : n < 2 ^ bl n := by
  by_cases h : n = 0
  · subst h; decide
  · rw [bl_pos h]; exact Nat.lt_log2_self
theorem bl_le_self {n : Nat} (h : n ≠ 0) : 2 ^ (bl n - 1) ≤ n := by
  rw [bl_pos h]; exact Nat.log2_self_le h
theorem bl_eq {n k : Nat} (h1 : 2 ^ k ≤ n) (h2 : n < 2 ^ (k + 1)) : bl n = k + 1 := by
  have h0 : n ≠ 0 := by have := Nat.two_pow_pos k; omega
  rw [bl_pos h0, (Nat.log2_eq_iff h0).2 ⟨h1, h2⟩]
theorem bl_le {n k : Nat} (h : n < 2 ^ k) : bl n ≤ k := by
  by_cases h0 : n = 0
  · subst h0; exact Nat.zero_le _
  · have := bl_le_self h0
    rcases Nat.lt_or_ge k (bl n) with hlt | hge
    · have : 2 ^ k ≤ 2 ^ (bl n - 1) := Nat.pow_le_pow_right (by decide) (by omega)
      omega
    · exact hge
theorem le_bl {n k : Nat} (h : 2 ^ k ≤ n) : k + 1 ≤ bl n := by
  rcases Nat.lt_or_ge k (bl n) with hlt | hge
  · exact hlt
  · have h1 := lt_bl n
    have : 2 ^ bl n ≤ 2 ^ k := Nat.pow_le_pow_right (by decide) hge
    omega
theorem lt_of_bl {n k : Nat} (h : bl n ≤ k) : n < 2 ^ k := Nat.lt_of_lt_of_le (lt_bl n) (Nat.pow_le_pow_right (by decide) h)
theorem bl_ne {n : Nat} (h : bl n ≠ 0) : n ≠ 0 := fun e => h (by rw [e]; rfl)
theorem bl_mul_pow {n : Nat} (h : n ≠ 0) (k : Nat) : bl (n * 2 ^ k) = bl n + k := by
  have h1 := bl_le_self h
  have h2 := lt_bl n
  have h3 : bl n ≠ 0 := by rw [bl_pos h]; omega
  have e : bl n + k = (bl n - 1 + k) + 1 := by omega
  rw [e]
  refine bl_eq ?_ ?_
  · rw [Nat.pow_add]; exact Nat.mul_le_mul_right _ h1
  · rw [← e, Nat.pow_add]; exact Nat.mul_lt_mul_of_pos_right h2 (Nat.two_pow_pos k)
theorem bl_of_div {n k : Nat} (h : n / 2 ^ k ≠ 0) : bl n = bl (n / 2 ^ k) + k := by
  have h1 := bl_le_self h
  have h2 := lt_bl (n / 2 ^ k)
  have h3 : bl (n / 2 ^ k) ≠ 0 := by rw [bl_pos h]; omega
  have e : bl (n / 2 ^ k) + k = (bl (n / 2 ^ k) - 1 + k) + 1 := by omega
  rw [e]
  refine bl_eq ?_ ?_
  · rw [Nat.pow_add]; exact Nat.le_trans (Nat.mul_le_mul_right _ h1) (Nat.div_mul_le_self _ _)
  · rw [← e, Nat.pow_add]; exact Nat.lt_mul_of_div_lt h2 (Nat.two_pow_pos k)

theorem cut_eq (neg : Bool) (n d : Nat) : Toward.even.cut neg n d = rn n d := by
  have key : ∀ g : Nat, (n / g + (decide (g < 2 * (n % g)) || g == 2 * (n % g) && n / g % 2 == 1).toNat) = n / g + (if g < 2 * (n % g) ∨ (g = 2 * (n % g) ∧ n / g % 2 = 1) then 1 else 0) := by
    intro g
    congr 1
    generalize 2 * (n % g) = r
    generalize n / g % 2 = q
    by_cases h1 : g < r
    · rw [if_pos (.inl h1), decide_eq_true h1]; rfl
    · rw [decide_eq_false h1]
      by_cases h2 : g = r
      · by_cases h3 : q = 1
        · rw [if_pos (.inr ⟨h2, h3⟩), beq_iff_eq.2 h2, beq_iff_eq.2 h3]; rfl
        · rw [if_neg (by omega), beq_eq_false_iff_ne.2 h3]; simp
      · rw [if_neg (by omega), beq_eq_false_iff_ne.2 h2]; rfl
  refine Eq.trans (show _ = n / (1 <<< min d (n.log2 + 2)) + (decide ((1 <<< min d (n.log2 + 2)) < 2 * (n % (1 <<< min d (n.log2 + 2)))) || (1 <<< min d (n.log2 + 2)) == 2 * (n % (1 <<< min d (n.log2 + 2))) && n / (1 <<< min d (n.log2 + 2)) % 2 == 1).toNat from rfl) ?_
  rw [key]
  unfold rn
  by_cases hd : d ≤ n.log2 + 2
  · rw [Nat.min_eq_left hd, Nat.one_shiftLeft]
  · rw [Nat.min_eq_right (by omega), Nat.one_shiftLeft]
    have hlt : n < 2 ^ (n.log2 + 1) := Nat.lt_log2_self
    have e2 : 2 ^ (n.log2 + 2) = 2 * 2 ^ (n.log2 + 1) := by rw [Nat.pow_succ]; omega
    have hp : 2 ^ (n.log2 + 2) ≤ 2 ^ d := Nat.pow_le_pow_right (by decide) (by omega)
    generalize 2 ^ (n.log2 + 2) = g at *
    generalize 2 ^ d = g' at *
    generalize 2 ^ (n.log2 + 1) = g'' at *
    rw [Nat.div_eq_of_lt (show n < g by omega), Nat.mod_eq_of_lt (show n < g by omega), Nat.div_eq_of_lt (show n < g' by omega), Nat.mod_eq_of_lt (show n < g' by omega), if_neg (by omega), if_neg (by omega)]

theorem rn_zero (n : Nat) : rn n 0 = n := by unfold rn; simp [Nat.mod_one]
theorem rn_nought (d : Nat) : rn 0 d = 0 := by
  unfold rn
  have := Nat.two_pow_pos d
  rw [Nat.zero_div, Nat.zero_mod, if_neg (by omega)]
theorem div_scale (n k d : Nat) : n * 2 ^ k / 2 ^ (d + k) = n / 2 ^ d := by
  rw [Nat.pow_add, Nat.mul_comm (2 ^ d), ← Nat.div_div_eq_div_mul, Nat.mul_div_cancel _ (Nat.two_pow_pos k)]
theorem mod_scale (n k d : Nat) : n * 2 ^ k % 2 ^ (d + k) = n % 2 ^ d * 2 ^ k := by
  rw [Nat.pow_add, Nat.mul_mod_mul_right]
theorem rn_scale (n k d : Nat) : rn (n * 2 ^ k) (d + k) = rn n d := by
  unfold rn
  rw [div_scale, mod_scale, Nat.pow_add]
  have hp := Nat.two_pow_pos k
  have e1 : (2 ^ d * 2 ^ k < 2 * (n % 2 ^ d * 2 ^ k)) ↔ 2 ^ d < 2 * (n % 2 ^ d) := by
    rw [← Nat.mul_assoc]; exact Nat.mul_lt_mul_right hp
  have e2 : (2 ^ d * 2 ^ k = 2 * (n % 2 ^ d * 2 ^ k)) ↔ 2 ^ d = 2 * (n % 2 ^ d) := by
    rw [← Nat.mul_assoc]; exact Nat.mul_left_inj (by omega)
  simp only [e1, e2]
/-- what is a multiple loses nothing -/
theorem rn_exact (n k d : Nat) (h : d ≤ k) : rn (n * 2 ^ k) d = n * 2 ^ (k - d) := by
  have e : n * 2 ^ k = n * 2 ^ (k - d) * 2 ^ d := by rw [Nat.mul_assoc, ← Nat.pow_add, Nat.sub_add_cancel h]
  have := rn_scale (n * 2 ^ (k - d)) d 0
  rw [Nat.zero_add, rn_zero] at this
  rw [e]; exact this
theorem rn_le (n d w : Nat) (h : n < 2 ^ (w + d)) : rn n d ≤ 2 ^ w := by
  have : n / 2 ^ d < 2 ^ w := Nat.div_lt_of_lt_mul (by rw [← Nat.pow_add, Nat.add_comm]; exact h)
  unfold rn; split <;> omega
theorem le_rn (n d w : Nat) (h : 2 ^ (w + d) ≤ n) : 2 ^ w ≤ rn n d := by
  have : 2 ^ w ≤ n / 2 ^ d := (Nat.le_div_iff_mul_le (Nat.two_pow_pos d)).2 (by rw [← Nat.pow_add]; exact h)
  unfold rn; omega

/-- the place of the last digit that is kept -/
def lst (w : Nat) (l : Int) (m : Nat) (e : Int) : Int := max (e + bl m - w) l
/-- what is kept -/
def kept (w : Nat) (l : Int) (m : Nat) (e : Int) : Nat := rn (m * 2 ^ (e - lst w l m e).toNat) (lst w l m e - e).toNat

theorem lst_scale (w : Nat) (l : Int) {m : Nat} (h : m ≠ 0) (e : Int) (k : Nat) : lst w l (m * 2 ^ k) (e - k) = lst w l m e := by
  unfold lst; rw [bl_mul_pow h]; congr 1; omega
theorem kept_scale (w : Nat) (l : Int) {m : Nat} (h : m ≠ 0) (e : Int) (k : Nat) : kept w l (m * 2 ^ k) (e - k) = kept w l m e := by
  unfold kept
  rw [lst_scale w l h]
  generalize lst w l m e = L
  rcases Int.le_total L e with h1 | h1
  · rw [show (L - e).toNat = 0 from by omega, rn_zero]
    rcases Int.le_total L (e - k) with h2 | h2
    · rw [show (L - (e - k)).toNat = 0 from by omega, rn_zero, Nat.mul_assoc, ← Nat.pow_add]; congr 2; omega
    · rw [show (e - k - L).toNat = 0 from by omega, Nat.pow_zero, Nat.mul_one, rn_exact _ _ _ (by omega)]; congr 2; omega
  · rw [show (e - L).toNat = 0 from by omega, show (e - k - L).toNat = 0 from by omega, Nat.pow_zero, Nat.mul_one, Nat.mul_one]
    rw [show (L - (e - k)).toNat = (L - e).toNat + k from by omega, rn_scale]
theorem nearest_eq (f : Format) (neg : Bool) {m : Nat} (e : Int) (h : m ≠ 0) :
    f.nearest neg m e = f.word neg (min ((lst (f.fractionBits + 1) f.leastPlace m e - f.leastPlace).toNat * f.binade + kept (f.fractionBits + 1) f.leastPlace m e) f.infRung) := by
  unfold Format.nearest
  rw [if_neg h]
  simp only [cut_eq, Nat.shiftLeft_eq]
  have e1 : max (e + (m.log2 : Int) - f.fractionBits) f.leastPlace = lst (f.fractionBits + 1) f.leastPlace m e := by
    unfold lst; rw [bl_pos h]; congr 1; omega
  rw [e1]; rfl
theorem nearest_zero (f : Format) (neg : Bool) (e : Int) : f.nearest neg 0 e = f.word neg 0 := by
  unfold Format.nearest; rw [if_pos rfl]
theorem nearest_scale (f : Format) (neg : Bool) (m : Nat) (e : Int) (k : Nat) : f.nearest neg (m * 2 ^ k) (e - k) = f.nearest neg m e := by
  by_cases h : m = 0
  · subst h; rw [Nat.zero_mul, nearest_zero, nearest_zero]
  · rw [nearest_eq f neg e h, nearest_eq f neg (e - k) (Nat.mul_ne_zero h (Nat.ne_of_gt (Nat.two_pow_pos k))), lst_scale _ _ h, kept_scale _ _ h]
theorem kept_le (w : Nat) (l : Int) (m : Nat) (e : Int) : kept w l m e ≤ 2 ^ w := by
  unfold kept
  by_cases h : m = 0
  · subst h; rw [Nat.zero_mul, rn_nought]; exact Nat.zero_le _
  · refine rn_le _ _ _ ?_
    have hL : e + bl m - w ≤ lst w l m e := Int.le_max_left _ _
    generalize lst w l m e = L at *
    refine Nat.lt_of_lt_of_le (Nat.mul_lt_mul_of_pos_right (lt_bl m) (Nat.two_pow_pos _)) ?_
    rw [← Nat.pow_add]
    exact Nat.pow_le_pow_right (by decide) (by omega)
theorem le_kept (w : Nat) (l : Int) {m : Nat} (e : Int) (h : m ≠ 0) (hw : 0 < w) (hl : l < lst w l m e) : 2 ^ (w - 1) ≤ kept w l m e := by
  unfold kept
  have hL : lst w l m e = e + bl m - w := by unfold lst at hl ⊢; omega
  have hb : bl m ≠ 0 := by rw [bl_pos h]; omega
  rw [hL] at *
  refine le_rn _ _ _ ?_
  refine Nat.le_trans ?_ (Nat.mul_le_mul_right _ (bl_le_self h))
  rw [← Nat.pow_add]
  exact Nat.pow_le_pow_right (by decide) (by omega)

/-- a place as a number, all above 2 ^ -2200 -/
def sh (e : Int) : Nat := 2 ^ (e + 2200).toNat
theorem sh_pos (e : Int) : 0 < sh e := Nat.two_pow_pos _
theorem sh_add (e : Int) (k : Nat) (h : -2200 ≤ e) : sh (e + k) = 2 ^ k * sh e := by
  unfold sh
  rw [show (e + k + 2200).toNat = k + (e + 2200).toNat from by omega, Nat.pow_add]
/-- a number whose worth is V, of sign s, its place not below L -/
def Val (L : Int) (d : Datum) (s : Bool) (V : Nat) : Prop := ∃ m e, d = .number s m e ∧ L ≤ e ∧ V = m * sh e

theorem read_word (f : Format) (neg : Bool) (r : Nat) (h : r < f.signWeight) : f.read (f.word neg r) =
    if r < f.binade then .number neg r f.leastPlace
    else if r < f.infRung then .number neg (f.binade + r % f.binade) (f.leastPlace + (r / f.binade - 1 : Nat))
    else if r = f.infRung then .infinity neg else .nan neg (r - f.infRung) := by
  have e1 : f.word neg r / f.signWeight % 2 = if neg then 1 else 0 := by
    cases neg
    · show r / f.signWeight % 2 = 0
      rw [Nat.div_eq_of_lt h]
    · show (f.signWeight + r) / f.signWeight % 2 = 1
      rw [Nat.add_div_left _ (by omega), Nat.div_eq_of_lt h]
  have e2 : f.word neg r % f.signWeight = r := by
    cases neg
    · exact Nat.mod_eq_of_lt h
    · show (f.signWeight + r) % f.signWeight = r
      rw [Nat.add_mod_left, Nat.mod_eq_of_lt h]
  unfold Format.read
  simp only [e1, e2]
  have e3 : ((if neg = true then 1 else 0) == 1) = neg := by cases neg <;> rfl
  rw [e3]
theorem infRung_add (f : Format) : f.infRung + f.binade = f.signWeight := by
  have h : 0 < 2 ^ f.exponentBits := Nat.two_pow_pos _
  unfold Format.infRung Format.signWeight
  rw [Nat.pow_add, ← Nat.succ_mul]
  exact congrArg (· * f.binade) (by omega)
theorem read_number (f : Format) (neg : Bool) (D k : Nat) (hb : 0 < f.binade) (hk : k ≤ 2 * f.binade) (hD : k < f.binade → D = 0) (hi : D * f.binade + k < f.infRung) (hl : -2200 ≤ f.leastPlace) :
    Val f.leastPlace (f.read (f.word neg (D * f.binade + k))) neg (k * sh (f.leastPlace + D)) := by
  have hs := infRung_add f
  rw [read_word f neg _ (by omega)]
  by_cases h1 : k < f.binade
  · obtain rfl := hD h1
    rw [if_pos (by omega)]
    exact ⟨_, _, rfl, by omega, by simp⟩
  · rw [if_neg (by omega), if_pos hi]
    by_cases h2 : k < 2 * f.binade
    · have e : D * f.binade + k = (k - f.binade) + (D + 1) * f.binade := by rw [Nat.succ_mul]; omega
      have hd : (D * f.binade + k) / f.binade = D + 1 := by rw [e, Nat.add_mul_div_right _ _ hb, Nat.div_eq_of_lt (by omega)]; omega
      have hm : (D * f.binade + k) % f.binade = k - f.binade := by rw [e, Nat.add_mul_mod_self_right, Nat.mod_eq_of_lt (by omega)]
      rw [hd, hm]
      refine ⟨_, _, rfl, by omega, ?_⟩
      rw [show f.binade + (k - f.binade) = k from by omega, Nat.add_sub_cancel]
    · have e : D * f.binade + k = 0 + (D + 2) * f.binade := by rw [Nat.add_mul]; omega
      have hd : (D * f.binade + k) / f.binade = D + 2 := by rw [e, Nat.add_mul_div_right _ _ hb, Nat.zero_div]; omega
      have hm : (D * f.binade + k) % f.binade = 0 := by rw [e, Nat.add_mul_mod_self_right, Nat.zero_mod]
      rw [hd, hm]
      refine ⟨_, _, rfl, by omega, ?_⟩
      rw [show (f.leastPlace + (D + 2 - 1 : Nat) : Int) = f.leastPlace + D + (1 : Nat) from by omega, sh_add (f.leastPlace + D) 1 (by omega), show k = 2 * f.binade from by omega, Nat.add_zero, Nat.pow_one, Nat.mul_comm 2 f.binade, Nat.mul_assoc]
theorem read_nearest (f : Format) (neg : Bool) {m : Nat} (e : Int) (h : m ≠ 0) (hl : -2200 ≤ f.leastPlace)
    (hi : (lst (f.fractionBits + 1) f.leastPlace m e - f.leastPlace).toNat * f.binade + kept (f.fractionBits + 1) f.leastPlace m e < f.infRung) :
    Val f.leastPlace (f.read (f.nearest neg m e)) neg (kept (f.fractionBits + 1) f.leastPlace m e * sh (lst (f.fractionBits + 1) f.leastPlace m e)) := by
  rw [nearest_eq f neg e h, Nat.min_eq_left (by omega)]
  have hL : f.leastPlace ≤ lst (f.fractionBits + 1) f.leastPlace m e := Int.le_max_right _ _
  have h1 := kept_le (f.fractionBits + 1) f.leastPlace m e
  have h2 := le_kept (f.fractionBits + 1) f.leastPlace e h (by omega)
  have := read_number f neg (lst (f.fractionBits + 1) f.leastPlace m e - f.leastPlace).toNat (kept (f.fractionBits + 1) f.leastPlace m e) (Nat.two_pow_pos _) (by rw [Nat.pow_succ] at h1; unfold Format.binade; omega) (fun hk => ?_) hi hl
  · rw [show f.leastPlace + ((lst (f.fractionBits + 1) f.leastPlace m e - f.leastPlace).toNat : Int) = lst (f.fractionBits + 1) f.leastPlace m e from by omega] at this
    exact this
  · rcases Int.lt_or_le f.leastPlace (lst (f.fractionBits + 1) f.leastPlace m e) with h3 | h3
    · have := h2 h3
      unfold Format.binade at hk
      simp at this
      omega
    · omega

/-- rounded to 53 digits, in units of 2 ^ -2200 -/
def R53 (V : Nat) : Nat := rn V (max (bl V - 53) 1126) * 2 ^ (max (bl V - 53) 1126)
theorem R53_zero : R53 0 = 0 := by unfold R53; rw [rn_nought, Nat.zero_mul]
theorem R53_exact (p q : Nat) (hp : p < 2 ^ 53) (hq : 1126 ≤ q) : R53 (p * 2 ^ q) = p * 2 ^ q := by
  by_cases h : p = 0
  · subst h; rw [Nat.zero_mul]; exact R53_zero
  · unfold R53
    have hb := bl_mul_pow h q
    have hp' := bl_le hp
    rw [hb]
    generalize hT : max (bl p + q - 53) 1126 = T
    have hle : T ≤ q := by omega
    rw [rn_exact _ _ _ hle, Nat.mul_assoc, ← Nat.pow_add, Nat.sub_add_cancel hle]
theorem write_val (f : Format) {L : Int} {d : Datum} {s : Bool} {V : Nat} (h : Val L d s V) (hL : -2200 ≤ L) : f.write d = f.nearest s V (-2200) := by
  obtain ⟨m, e, rfl, he, rfl⟩ := h
  have := nearest_scale f s m e (e + 2200).toNat
  rw [show e - ((e + 2200).toNat : Int) = -2200 from by omega] at this
  exact this.symm
theorem double_least : Ieee.double.leastPlace = -1074 := by decide
theorem single_least : Ieee.single.leastPlace = -149 := by decide
theorem lst_far (w : Nat) (L : Nat) (V : Nat) (hL : L ≤ 2200) : lst w (-(L : Int)) V (-2200) = ((max (bl V - w) (2200 - L) : Nat) : Int) - 2200 := by
  unfold lst; omega
theorem read_double (s : Bool) (V : Nat) (hV : bl V ≤ 3200) : Val (-1074) (Ieee.double.read (Ieee.double.nearest s V (-2200))) s (R53 V) := by
  by_cases h : V = 0
  · subst h
    rw [nearest_zero, R53_zero]
    have := read_number Ieee.double s 0 0 (by decide) (by decide) (by decide) (by decide) (by rw [double_least]; decide)
    rw [Nat.zero_mul, Nat.zero_add, Nat.zero_mul, double_least] at this
    exact this
  · have e1 : lst 53 (-1074) V (-2200) = ((max (bl V - 53) 1126 : Nat) : Int) - 2200 := lst_far 53 1074 V (by decide)
    have e2 : kept 53 (-1074) V (-2200) = rn V (max (bl V - 53) 1126) := by
      unfold kept
      rw [e1, show ((-2200 : Int) - (((max (bl V - 53) 1126 : Nat) : Int) - 2200)).toNat = 0 from by omega, Nat.pow_zero, Nat.mul_one]
      congr 1; omega
    have e3 := kept_le 53 (-1074) V (-2200)
    have := read_nearest Ieee.double s (-2200) h (by rw [double_least]; decide) (by
      show (lst 53 Ieee.double.leastPlace V (-2200) - Ieee.double.leastPlace).toNat * 2 ^ 52 + kept 53 Ieee.double.leastPlace V (-2200) < 2047 * 2 ^ 52
      rw [double_least, e1]
      omega)
    have this : Val Ieee.double.leastPlace (Ieee.double.read (Ieee.double.nearest s V (-2200))) s (kept 53 Ieee.double.leastPlace V (-2200) * sh (lst 53 Ieee.double.leastPlace V (-2200))) := this
    rw [double_least, e1, e2] at this
    unfold sh at this
    rw [show (((max (bl V - 53) 1126 : Nat) : Int) - 2200 + 2200).toNat = max (bl V - 53) 1126 from by omega] at this
    exact this

/-- with its sign -/
def sg (s : Bool) (V : Nat) : Int := if s then -(V : Int) else V
def sumS (s t : Bool) (V U : Nat) : Bool := if sg s V + sg t U = 0 then s && t else decide (sg s V + sg t U < 0)
def sumV (s t : Bool) (V U : Nat) : Nat := (sg s V + sg t U).natAbs
theorem signed_sh (s : Bool) (m : Nat) (e base : Int) (hb : -2200 ≤ base) (he : base ≤ e) : signed s m (e - base).toNat * (sh base : Int) = sg s (m * sh e) := by
  have e1 : sh e = 2 ^ (e - base).toNat * sh base := by
    rw [← sh_add base _ hb]; congr 1; omega
  unfold signed sg
  rw [e1, Nat.shiftLeft_eq, ← Nat.mul_assoc]
  split
  · rw [Int.neg_mul, Int.natCast_mul]; rfl
  · rw [Int.natCast_mul]; rfl
theorem sum_val {L : Int} {d d' : Datum} {s t : Bool} {V U : Nat} (hd : Val L d s V) (hd' : Val L d' t U) (hL : -2200 ≤ L) :
    ∃ z, d.sum d' = some z ∧ Val L z (sumS s t V U) (sumV s t V U) := by
  obtain ⟨m, e, rfl, he, rfl⟩ := hd
  obtain ⟨n, f, rfl, hf, rfl⟩ := hd'
  have h1 := signed_sh s m e (min e f) (by omega) (by omega)
  have h2 := signed_sh t n f (min e f) (by omega) (by omega)
  have hsum : sg s (m * sh e) + sg t (n * sh f) = (signed s m (e - min e f).toNat + signed t n (f - min e f).toNat) * (sh (min e f) : Int) := by rw [Int.add_mul, h1, h2]
  have hp : (0 : Int) < (sh (min e f) : Int) := by have := sh_pos (min e f); omega
  have hS : sumS s t (m * sh e) (n * sh f) = (if signed s m (e - min e f).toNat + signed t n (f - min e f).toNat = 0 then s && t else decide (signed s m (e - min e f).toNat + signed t n (f - min e f).toNat < 0)) := by
    unfold sumS
    rw [hsum]
    generalize signed s m (e - min e f).toNat + signed t n (f - min e f).toNat = T
    generalize (sh (min e f) : Int) = Q at hp
    by_cases hT : T = 0
    · subst hT; rw [Int.zero_mul, if_pos rfl]
    · rw [if_neg hT, if_neg (Int.mul_ne_zero hT (by omega))]
      congr 1
      refine propext ⟨fun h => ?_, fun h => Int.mul_neg_of_neg_of_pos h hp⟩
      rcases Int.lt_or_le T 0 with h' | h'
      · exact h'
      · have := Int.mul_nonneg h' (Int.le_of_lt hp); omega
  refine ⟨_, rfl, (signed s m (e - min e f).toNat + signed t n (f - min e f).toNat).natAbs, min e f, ?_, by omega, ?_⟩
  · rw [hS]
  · unfold sumV; rw [hsum, Int.natAbs_mul, Int.natAbs_natCast]
theorem sh_mul (e f : Int) (he : -1100 ≤ e) (hf : -1100 ≤ f) : sh (e + f) * sh 0 = sh e * sh f := by
  unfold sh
  rw [← Nat.pow_add, ← Nat.pow_add]
  exact congrArg (fun k => 2 ^ k) (by omega)
theorem product_val {d d' : Datum} {s t : Bool} {V U : Nat} (hd : Val (-1074) d s V) (hd' : Val (-1074) d' t U) :
    ∃ z W, d.product d' = some z ∧ Val (-2148) z (s ^^ t) W ∧ W * sh 0 = V * U := by
  obtain ⟨m, e, rfl, he, rfl⟩ := hd
  obtain ⟨n, f, rfl, hf, rfl⟩ := hd'
  refine ⟨_, _, rfl, ⟨_, _, rfl, by omega, rfl⟩, ?_⟩
  have : sh (e + f) * sh 0 = sh e * sh f := sh_mul e f (by omega) (by omega)
  rw [Nat.mul_assoc, this, Nat.mul_assoc, Nat.mul_assoc, Nat.mul_left_comm n]

/-- a number that a binary32 word may stand for -/
def Short (m : Nat) (e : Int) : Prop := m < 16777216 ∧ -149 ≤ e ∧ e ≤ 104
theorem read_single (x : Nat) : (∃ s t, Ieee.single.read x = .nan s t) ∨ (∃ s, Ieee.single.read x = .infinity s) ∨ ∃ s m e, Ieee.single.read x = .number s m e ∧ Short m e := by
  unfold Format.read
  simp only [single_least]
  have e1 : Ieee.single.signWeight = 2147483648 := by decide
  have e2 : Ieee.single.binade = 8388608 := by decide
  have e3 : Ieee.single.infRung = 2139095040 := by decide
  rw [e1, e2, e3]
  split
  · exact .inr (.inr ⟨_, _, _, rfl, by omega, by omega, by omega⟩)
  · split
    · exact .inr (.inr ⟨_, _, _, rfl, by omega, by omega, by omega⟩)
    · split
      · exact .inr (.inl ⟨_, rfl⟩)
      · exact .inl ⟨_, _, rfl⟩
theorem Short.val {s : Bool} {m : Nat} {e : Int} (h : Short m e) : Val (-149) (.number s m e) s (m * sh e) := ⟨m, e, rfl, h.2.1, rfl⟩
theorem Short.exact {m : Nat} {e : Int} (h : Short m e) : R53 (m * sh e) = m * sh e := R53_exact _ _ (by have := h.1; omega) (by have := h.2.1; omega)
theorem bl_mul_sh (m : Nat) (e : Int) (k : Nat) (hm : m < 2 ^ k) : bl (m * sh e) ≤ k + (e + 2200).toNat := by
  refine bl_le ?_
  rw [Nat.pow_add]; exact Nat.mul_lt_mul_of_pos_right hm (Nat.two_pow_pos _)
theorem Short.small {m : Nat} {e : Int} (h : Short m e) : bl (m * sh e) ≤ 2328 := by
  have := bl_mul_sh m e 24 h.1; have := h.2.2; omega
/-- the binary64 word of a binary32 number -/
theorem Short.wide {s : Bool} {m : Nat} {e : Int} (h : Short m e) : Val (-1074) (Ieee.double.read (Ieee.double.write (.number s m e))) s (m * sh e) := by
  rw [write_val Ieee.double h.val (by decide)]
  have := read_double s (m * sh e) (by have := h.small; omega)
  rw [h.exact] at this
  exact this

/-- a datum that a binary32 word may stand for -/
def Sh32 (d : Datum) : Prop := (∃ s t, d = .nan s t) ∨ (∃ s, d = .infinity s) ∨ ∃ s m e, d = .number s m e ∧ Short m e
theorem sh_read (x : Nat) : Sh32 (Ieee.single.read x) := read_single x
/-- of one worth, of at most N digits -/
def EqD (N : Nat) (d D : Datum) : Prop := (d.isNaN = true ∧ D.isNaN = true) ∨ (∃ s, d = .infinity s ∧ D = .infinity s) ∨ ∃ s V, Val (-2148) d s V ∧ Val (-2148) D s V ∧ bl V ≤ N
theorem Val.low {L L' : Int} {d : Datum} {s : Bool} {V : Nat} (h : Val L d s V) (hL : L' ≤ L) : Val L' d s V := by
  obtain ⟨m, e, h1, h2, h3⟩ := h; exact ⟨m, e, h1, by omega, h3⟩
theorem Val.op {L : Int} {d : Datum} {s : Bool} {V : Nat} (h : Val L d s V) : Val L d.opposite (!s) V := by
  obtain ⟨m, e, rfl, h2, h3⟩ := h; exact ⟨m, e, rfl, h2, h3⟩
theorem EqD.mono {N M : Nat} {d D : Datum} (h : EqD N d D) (hN : N ≤ M) : EqD M d D := by
  rcases h with h | h | ⟨s, V, h1, h2, h3⟩
  · exact .inl h
  · exact .inr (.inl h)
  · exact .inr (.inr ⟨s, V, h1, h2, by omega⟩)
theorem EqD.op {N : Nat} {d D : Datum} (h : EqD N d D) : EqD N d.opposite D.opposite := by
  rcases h with ⟨h1, h2⟩ | ⟨s, rfl, rfl⟩ | ⟨s, V, h1, h2, h3⟩
  · refine .inl ⟨?_, ?_⟩
    · cases d <;> first | rfl | cases h1
    · cases D <;> first | rfl | cases h2
  · exact .inr (.inl ⟨!s, rfl, rfl⟩)
  · exact .inr (.inr ⟨!s, V, h1.op, h2.op, h3⟩)
theorem read_inf (f : Format) (s : Bool) (h : 0 < f.binade) (hl : f.binade ≤ f.infRung) : f.read (f.word s f.infRung) = .infinity s := by
  have := infRung_add f
  rw [read_word f s _ (by omega), if_neg (by omega), if_neg (by omega), if_pos rfl]
theorem read_inf64 (s : Bool) : Ieee.double.read (Ieee.double.write (.infinity s)) = .infinity s := read_inf Ieee.double s (by decide) (by decide)
/-- the wide word of a short datum -/
theorem EqD.wide {d : Datum} (h : Sh32 d) (hn : d.isNaN = false) : EqD 2328 d (Ieee.double.read (Ieee.double.write d)) := by
  rcases h with ⟨s, t, rfl⟩ | ⟨s, rfl⟩ | ⟨s, m, e, rfl, h⟩
  · cases hn
  · exact .inr (.inl ⟨s, rfl, read_inf64 s⟩)
  · exact .inr (.inr ⟨s, _, h.val.low (by decide), h.wide.low (by decide), h.small⟩)
theorem Val.num {L : Int} {d : Datum} {s : Bool} {V : Nat} (h : Val L d s V) : d.isNaN = false ∧ d.isInfinity = false := by
  obtain ⟨m, e, rfl, _⟩ := h; exact ⟨rfl, rfl⟩
theorem nan_cases {d : Datum} (h : d.isNaN = true) : ∃ s t, d = .nan s t := by
  cases d with
  | nan s t => exact ⟨s, t, rfl⟩
  | _ => cases h
theorem sum_nan_l {d d' : Datum} (h : d.isNaN = true) : d.sum d' = none := by obtain ⟨s, t, rfl⟩ := nan_cases h; rfl
theorem sum_nan_r {d d' : Datum} (h : d'.isNaN = true) : d.sum d' = none := by obtain ⟨s, t, rfl⟩ := nan_cases h; cases d <;> rfl
theorem mul_nan_l {d d' : Datum} (h : d.isNaN = true) : d.product d' = none := by obtain ⟨s, t, rfl⟩ := nan_cases h; rfl
theorem mul_nan_r {d d' : Datum} (h : d'.isNaN = true) : d.product d' = none := by obtain ⟨s, t, rfl⟩ := nan_cases h; cases d <;> rfl
theorem bl_add {a b k : Nat} (ha : bl a ≤ k) (hb : bl b ≤ k) : bl (a + b) ≤ k + 1 := by
  refine bl_le ?_
  have := lt_of_bl ha; have := lt_of_bl hb
  rw [Nat.pow_succ]; omega
theorem sumV_bl (s t : Bool) {V U k : Nat} (hV : bl V ≤ k) (hU : bl U ≤ k) : bl (sumV s t V U) ≤ k + 1 := by
  have h1 : sumV s t V U ≤ V + U := by unfold sumV sg; cases s <;> cases t <;> simp <;> omega
  have := lt_of_bl hV; have := lt_of_bl hU
  refine bl_le ?_
  rw [Nat.pow_succ]; omega
/-- the sum of two of like worth -/
theorem sum_eqd {N : Nat} {d D d' D' : Datum} (h : EqD N d D) (h' : EqD N d' D') :
    (d.sum d' = none ∧ D.sum D' = none) ∨ ∃ z Z, d.sum d' = some z ∧ D.sum D' = some Z ∧ z.isNaN = false ∧ EqD (N + 1) z Z := by
  rcases h with ⟨h1, h2⟩ | ⟨s, rfl, rfl⟩ | ⟨s, V, h1, h2, h3⟩
  · exact .inl ⟨sum_nan_l h1, sum_nan_l h2⟩
  · rcases h' with ⟨k1, k2⟩ | ⟨t, rfl, rfl⟩ | ⟨t, U, k1, k2, k3⟩
    · exact .inl ⟨sum_nan_r k1, sum_nan_r k2⟩
    · by_cases e : s = t
      · subst e
        refine .inr ⟨.infinity s, .infinity s, if_pos rfl, if_pos rfl, rfl, .inr (.inl ⟨s, rfl, rfl⟩)⟩
      · exact .inl ⟨if_neg e, if_neg e⟩
    · obtain ⟨m, e, rfl, _⟩ := k1
      obtain ⟨n, f, rfl, _⟩ := k2
      exact .inr ⟨_, _, rfl, rfl, rfl, .inr (.inl ⟨s, rfl, rfl⟩)⟩
  · rcases h' with ⟨k1, k2⟩ | ⟨t, rfl, rfl⟩ | ⟨t, U, k1, k2, k3⟩
    · exact .inl ⟨sum_nan_r k1, sum_nan_r k2⟩
    · obtain ⟨m, e, rfl, _⟩ := h1
      obtain ⟨n, f, rfl, _⟩ := h2
      exact .inr ⟨_, _, rfl, rfl, rfl, .inr (.inl ⟨t, rfl, rfl⟩)⟩
    · obtain ⟨z, a1, a2⟩ := sum_val h1 k1 (by decide)
      obtain ⟨Z, b1, b2⟩ := sum_val h2 k2 (by decide)
      exact .inr ⟨z, Z, a1, b1, a2.num.1, .inr (.inr ⟨_, _, a2, b2, sumV_bl s t h3 k3⟩)⟩
/-- a number or an infinity that was rounded to binary64 -/
def Fin64 (z : Datum) (q : Nat) : Prop := (∃ s, z = .infinity s ∧ Ieee.double.read q = .infinity s) ∨ ∃ s V, Val (-2148) z s V ∧ Val (-1074) (Ieee.double.read q) s (R53 V)
theorem write_fin {N : Nat} {z Z : Datum} (h : EqD N z Z) (hn : z.isNaN = false) (hN : N ≤ 3200) : Fin64 z (Ieee.double.write Z) := by
  rcases h with ⟨h1, h2⟩ | ⟨s, rfl, rfl⟩ | ⟨s, V, h1, h2, h3⟩
  · rw [h1] at hn; cases hn
  · exact .inl ⟨s, rfl, read_inf64 s⟩
  · refine .inr ⟨s, V, h1, ?_⟩
    rw [write_val Ieee.double h2 (by decide)]
    exact read_double s V (by omega)
/-- a sum of binary64 -/
theorem add64 {N : Nat} {d d' : Datum} {x y : Nat} (h : EqD N d (Ieee.double.read x)) (h' : EqD N d' (Ieee.double.read y)) (hN : N ≤ 3100) :
    (d.sum d' = none ∧ Ieee.double.add x y = none) ∨ ∃ z q, d.sum d' = some z ∧ Ieee.double.add x y = some q ∧ Fin64 z q := by
  unfold Format.add
  rcases sum_eqd h h' with ⟨h1, h2⟩ | ⟨z, Z, h1, h2, h3, h4⟩
  · exact .inl ⟨h1, by rw [h2]; rfl⟩
  · exact .inr ⟨z, _, h1, by rw [h2]; rfl, write_fin h4 h3 (by omega)⟩
theorem sub64 {N : Nat} {d d' : Datum} {x y : Nat} (h : EqD N d (Ieee.double.read x)) (h' : EqD N d' (Ieee.double.read y)) (hN : N ≤ 3100) :
    (d.sum d'.opposite = none ∧ Ieee.double.sub x y = none) ∨ ∃ z q, d.sum d'.opposite = some z ∧ Ieee.double.sub x y = some q ∧ Fin64 z q := by
  unfold Format.sub
  rcases sum_eqd h h'.op with ⟨h1, h2⟩ | ⟨z, Z, h1, h2, h3, h4⟩
  · exact .inl ⟨h1, by rw [h2]; rfl⟩
  · exact .inr ⟨z, _, h1, by rw [h2]; rfl, write_fin h4 h3 (by omega)⟩
theorem zero_of_val {L : Int} {d : Datum} {s : Bool} {m : Nat} {e : Int} (h : Val L d s (m * sh e)) : ∃ n f, d = .number s n f ∧ (n = 0 ↔ m = 0) ∧ n * sh f = m * sh e := by
  obtain ⟨n, f, rfl, _, hv⟩ := h
  refine ⟨n, f, rfl, ?_, hv.symm⟩
  have := sh_pos f; have := sh_pos e
  constructor
  · rintro rfl
    rw [Nat.zero_mul] at hv
    rcases Nat.mul_eq_zero.1 hv with h | h <;> omega
  · rintro rfl
    rw [Nat.zero_mul] at hv
    rcases Nat.mul_eq_zero.1 hv.symm with h | h <;> omega
/-- the binary64 word of what a binary32 word stands for; of a NaN: one -/
def Wide (d : Datum) (x : Nat) : Prop := (d.isNaN = true ∧ (Ieee.double.read x).isNaN = true) ∨ (d.isNaN = false ∧ x = Ieee.double.write d)
theorem Wide.eqd {d : Datum} {x : Nat} (h : Wide d x) (hs : Sh32 d) : EqD 2328 d (Ieee.double.read x) := by
  rcases h with h | ⟨h, rfl⟩
  · exact .inl h
  · exact EqD.wide hs h
theorem Short.mul {m n : Nat} {e f : Int} (h : Short m e) (k : Short n f) : R53 (m * n * sh (e + f)) = m * n * sh (e + f) ∧ bl (m * n * sh (e + f)) ≤ 2456 := by
  have h1 := h.1; have h2 := h.2.1; have h3 := h.2.2; have k1 := k.1; have k2 := k.2.1; have k3 := k.2.2
  have hp : m * n < 2 ^ 48 := Nat.lt_of_le_of_lt (Nat.mul_le_mul (show m ≤ 16777215 by omega) (show n ≤ 16777215 by omega)) (by decide)
  refine ⟨R53_exact _ _ (by omega) (by omega), ?_⟩
  have := bl_mul_sh (m * n) (e + f) 48 hp
  omega
/-- a product of binary64, of what binary32 has: nothing is lost -/
theorem mul64 {d d' : Datum} {x y : Nat} (hs : Sh32 d) (hs' : Sh32 d') (h : Wide d x) (h' : Wide d' y) :
    (d.product d' = none ∧ Ieee.double.mul x y = none) ∨ ∃ z q, d.product d' = some z ∧ Ieee.double.mul x y = some q ∧ z.isNaN = false ∧ EqD 2456 z (Ieee.double.read q) := by
  unfold Format.mul
  rcases h with ⟨h1, h2⟩ | ⟨h1, rfl⟩
  · exact .inl ⟨mul_nan_l h1, by rw [mul_nan_l h2]; rfl⟩
  rcases h' with ⟨k1, k2⟩ | ⟨k1, rfl⟩
  · exact .inl ⟨mul_nan_r k1, by rw [mul_nan_r k2]; rfl⟩
  rcases hs with ⟨s, u, rfl⟩ | ⟨s, rfl⟩ | ⟨s, m, e, rfl, hs⟩
  · cases h1
  · rw [read_inf64]
    rcases hs' with ⟨t, u, rfl⟩ | ⟨t, rfl⟩ | ⟨t, n, f, rfl, hs'⟩
    · cases k1
    · rw [read_inf64]
      exact .inr ⟨_, _, rfl, rfl, rfl, .inr (.inl ⟨_, rfl, read_inf64 _⟩)⟩
    · obtain ⟨n', f', h3, h4, _⟩ := zero_of_val hs'.wide
      rw [h3]
      by_cases hn : n = 0
      · exact .inl ⟨if_pos hn, by rw [show (Datum.infinity s).product (.number t n' f') = none from if_pos (h4.2 hn)]; rfl⟩
      · refine .inr ⟨.infinity (s ^^ t), _, if_neg hn, by rw [show (Datum.infinity s).product (.number t n' f') = some (.infinity (s ^^ t)) from if_neg (fun e => hn (h4.1 e))]; rfl, rfl, .inr (.inl ⟨_, rfl, read_inf64 _⟩)⟩
  · rcases hs' with ⟨t, u, rfl⟩ | ⟨t, rfl⟩ | ⟨t, n, f, rfl, hs'⟩
    · cases k1
    · rw [read_inf64]
      obtain ⟨m', e', h3, h4, _⟩ := zero_of_val hs.wide
      rw [h3]
      by_cases hn : m = 0
      · exact .inl ⟨if_pos hn, by rw [show (Datum.number s m' e').product (.infinity t) = none from if_pos (h4.2 hn)]; rfl⟩
      · refine .inr ⟨.infinity (t ^^ s), _, if_neg hn, by rw [show (Datum.number s m' e').product (.infinity t) = some (.infinity (t ^^ s)) from if_neg (fun e => hn (h4.1 e))]; rfl, rfl, .inr (.inl ⟨_, rfl, read_inf64 _⟩)⟩
    · obtain ⟨z, W, h3, h4, h5⟩ := product_val hs.wide hs'.wide
      have hW : W = m * n * sh (e + f) := by
        have h6 : sh (e + f) * sh 0 = sh e * sh f := by
          have a1 := hs.2.1; have a2 := hs'.2.1
          exact sh_mul e f (by omega) (by omega)
        refine Nat.eq_of_mul_eq_mul_right (sh_pos 0) ?_
        rw [h5, Nat.mul_assoc (m * n), h6, Nat.mul_assoc, Nat.mul_assoc, Nat.mul_left_comm n]
      obtain ⟨r1, r2⟩ := hs.mul hs'
      rw [hW] at h4
      refine .inr ⟨.number (s ^^ t) (m * n) (e + f), _, rfl, by rw [h3]; rfl, rfl, .inr (.inr ⟨s ^^ t, m * n * sh (e + f), ⟨_, _, rfl, ?_, rfl⟩, ?_, r2⟩)⟩
      · have a1 := hs.2.1; have a2 := hs'.2.1; omega
      · rw [write_val Ieee.double h4 (by decide)]
        have := read_double (s ^^ t) (m * n * sh (e + f)) (by omega)
        rw [r1] at this
        exact this.low (by decide)
/-- what is told of an exact answer: rounded to binary64, then to binary32; no answer: the one NaN -/
def told : Option Datum → Nat
  | some (.number s m e) => Ieee.single.nearest s (R53 (m * sh e)) (-2200)
  | some (.infinity s) => Ieee.single.word s Ieee.single.infRung
  | _ => 2143289344
theorem told_val {L : Int} {z : Datum} {s : Bool} {V : Nat} (h : Val L z s V) : told (some z) = Ieee.single.nearest s (R53 V) (-2200) := by
  obtain ⟨m, e, rfl, _, rfl⟩ := h; simp only [told]
/-- what binary64 holds, written as binary32 -/
theorem Fin64.told {z : Datum} {q : Nat} (h : Fin64 z q) : told (some z) = Ieee.single.write (Ieee.double.read q) := by
  rcases h with ⟨s, rfl, h⟩ | ⟨s, V, h1, h2⟩
  · rw [h]; rfl
  · rw [told_val h1, write_val Ieee.single h2 (by decide)]
end Go.Proofs.Ytbfdanbepdefnaa
