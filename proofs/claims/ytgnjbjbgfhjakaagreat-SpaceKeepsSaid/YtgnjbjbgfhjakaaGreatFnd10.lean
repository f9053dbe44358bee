/-
  From an address to an entry, as numbers: what a walk finds in a memory whose words are known. No function of the program stands here.
-/
import Derived.Test.YtgnjbjbgfhjakaaGreatLeaf
namespace Go.Proofs.YtgnjbjbgfhjakaaGreat
open Go.RowKit
set_option linter.unusedVariables false
set_option linter.unusedSimpArgs false

/-- where a table's entry of an address stands -/
def atN (t va l : Nat) : Nat := t % 4503599627370496 * 4096 + 8 * fld va (12 + 9 * l) 9
theorem atN_lt (t va l : Nat) : atN t va l < 18446744073709551616 := by
  have := fld_lt va (12 + 9 * l) 9
  rw [show (2 : Nat) ^ 9 = 512 from rfl] at this
  unfold atN
  omega
theorem atN_8 (t va l : Nat) : atN t va l % 8 = 0 := by unfold atN; omega
theorem fld9 (va l : Nat) : fld va (12 + 9 * l) 9 < 512 := fld_lt va (12 + 9 * l) 9
def okE (x : Nat) : Bool := decide (x < 18014398509481984) && ((entW x).v && ((entW x).r || !(entW x).w))
def lea (e : Ent) : Bool := e.r || e.x
def ent (fr : Nat) (M : Nat → Nat) (va l t : Nat) : Lf × Nat :=
  if fr ≤ atN t va l / 4096 then (zl, 61) else if okE (M (atN t va l)) then (⟨entW (M (atN t va l)), l, atN t va l⟩, 0) else (zl, 51)
/-- does an entry lead on? -/
def ledn (f : Lf) : Bool := !lea f.e && !f.e.u && !f.e.a && !f.e.d && decide (0 < f.lv)
/-- is it a page? -/
def pag (f : Lf) : Bool := lea f.e && f.e.ppn % 2 ^ (9 * f.lv) == 0
/-- what is found from a table on, so many levels being left -/
def fnd (fr : Nat) (M : Nat → Nat) (va : Nat) : Nat → Nat → Lf × Nat
  | 0, _ => (zl, 51)
  | l + 1, t => if (ent fr M va l t).2 ≠ 0 then (zl, (ent fr M va l t).2) else if ledn (ent fr M va l t).1 then fnd fr M va l (ent fr M va l t).1.e.ppn else if pag (ent fr M va l t).1 then ((ent fr M va l t).1, 0) else (zl, 51)
def findW (fr : Nat) (M : Nat → Nat) (S : Stp) (va : Nat) : Lf × Nat := if S.on then (if canN va then fnd fr M va 3 S.ppn else (zl, 51)) else (zl, 2)
section
variable {fr va l t : Nat} {M : Nat → Nat}
theorem entW_ppn (x : Nat) : (entW x).ppn < 17592186044416 := Nat.mod_lt _ (by decide)
theorem entW_rsw (x : Nat) : 0 ≤ (entW x).rsw ∧ (entW x).rsw < 4 := by
  have e : (entW x).rsw = ((x / 256 % 4 : Nat) : Int) := rfl
  omega
theorem ent_ppn : (ent fr M va l t).1.e.ppn < 17592186044416 := by
  unfold ent
  split
  · decide
  split
  · exact entW_ppn _
  · decide
theorem ent_lv : (ent fr M va l t).1.lv ≤ l := by
  unfold ent
  split
  · exact Nat.zero_le _
  split
  · exact Nat.le_refl _
  · exact Nat.zero_le _
theorem ledn_lv {f : Lf} (h : ledn f = true) : 0 < f.lv := by simp [ledn] at h; omega
theorem fnd_eq : fnd fr M va (l + 1) t = if (ent fr M va l t).2 ≠ 0 then (zl, (ent fr M va l t).2) else if ledn (ent fr M va l t).1 then fnd fr M va l (ent fr M va l t).1.e.ppn else if pag (ent fr M va l t).1 then ((ent fr M va l t).1, 0) else (zl, 51) := by rw [fnd]
theorem ent_two : (ent fr M va l t).2 = 0 ∨ (ent fr M va l t).2 = 51 ∨ (ent fr M va l t).2 = 61 := by
  unfold ent
  split
  · exact .inr (.inr rfl)
  split
  · exact .inl rfl
  · exact .inr (.inl rfl)
/-! ### The ways of a level -/
theorem fnd_bad (h : ¬ fr ≤ atN t va l / 4096) (h2 : okE (M (atN t va l)) = false) : fnd fr M va (l + 1) t = (zl, 51) := by
  have e : ent fr M va l t = (zl, 51) := by unfold ent; rw [if_neg h, h2]; rfl
  rw [fnd, e, if_pos (by decide)]
theorem ent_ok (h : ¬ fr ≤ atN t va l / 4096) (h2 : okE (M (atN t va l)) = true) : ent fr M va l t = (⟨entW (M (atN t va l)), l, atN t va l⟩, 0) := by
  unfold ent; rw [if_neg h, h2]; rfl
theorem fnd_leaf (h : ¬ fr ≤ atN t va l / 4096) (h2 : okE (M (atN t va l)) = true) (h3 : lea (entW (M (atN t va l))) = true) :
    fnd fr M va (l + 1) t = if (entW (M (atN t va l))).ppn % 2 ^ (9 * l) = 0 then (⟨entW (M (atN t va l)), l, atN t va l⟩, 0) else (zl, 51) := by
  rw [fnd, ent_ok h h2, if_neg (by simp)]
  dsimp only
  rw [if_neg (by simp [ledn, h3])]
  simp only [pag, h3, Bool.true_and, beq_iff_eq]
theorem fnd_on (h : ¬ fr ≤ atN t va l / 4096) (h2 : okE (M (atN t va l)) = true) (h3 : lea (entW (M (atN t va l))) = false)
    (h4 : ((entW (M (atN t va l))).u || (entW (M (atN t va l))).a || (entW (M (atN t va l))).d) = false) : fnd fr M va (l + 1) t = fnd fr M va l (entW (M (atN t va l))).ppn := by
  rw [fnd, ent_ok h h2, if_neg (by simp)]
  dsimp only
  simp only [Bool.or_eq_false_iff] at h4
  obtain ⟨⟨h4, h5⟩, h6⟩ := h4
  by_cases hl : 0 < l
  · rw [if_pos (by simp [ledn, h3, h4, h5, h6, hl])]
  · obtain rfl : l = 0 := by omega
    rw [if_neg (by simp [ledn]), if_neg (by simp [pag, h3])]
    rfl
end
end Go.Proofs.YtgnjbjbgfhjakaaGreat
