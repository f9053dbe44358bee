/-
  What is found, as numbers: that it hangs on the words alone, what a leaf that was found is, addresses of one page; and what 'first' asks. No function of the program stands here.
-/
import Derived.Test.YtibmjbfnjkmjbaaFind10
import Derived.Test.YtibmjbfnjkmjbaaLaid10
namespace Go.Proofs.Ytibmjbfnjkmjbaa
open Go.RowKit
set_option linter.unusedVariables false
set_option linter.unusedSimpArgs false

section
variable {fr va l t : Nat} {M M' : Nat → Nat}
theorem ent_congr (h : ∀ a, a % 8 = 0 → M a = M' a) : ent fr M va l t = ent fr M' va l t := by
  unfold ent
  rw [h _ (atN_8 t va l)]
theorem fnd_congr (h : ∀ a, a % 8 = 0 → M a = M' a) : ∀ l t, fnd fr M va l t = fnd fr M' va l t
  | 0, _ => rfl
  | l + 1, t => by
    rw [fnd_eq, fnd_eq, ent_congr h, fnd_congr h l]
theorem findW_congr (h : ∀ a, a % 8 = 0 → M a = M' a) (S : Stp) : findW fr M S va = findW fr M' S va := by
  unfold findW
  rw [fnd_congr h]
theorem walkW_congr (h : ∀ a, a % 8 = 0 → M a = M' a) (S : Stp) (k : Int) (m : Md) : walkW fr M S va k m = walkW fr M' S va k m := by
  unfold walkW
  rw [findW_congr h]
/-- what is found: an entry of a table in the memory, or nothing at all -/
theorem fnd_is : ∀ l t, ((fnd fr M va l t).2 = 0 ∧ (fnd fr M va l t).1.lv < l ∧ (fnd fr M va l t).1.e.ppn < 17592186044416 ∧ (fnd fr M va l t).1.pl % 8 = 0 ∧ (fnd fr M va l t).1.pl / 4096 < fr) ∨ ((fnd fr M va l t).2 ≠ 0 ∧ (fnd fr M va l t).1 = zl)
  | 0, _ => .inr ⟨by rw [fnd]; decide, rfl⟩
  | l + 1, t => by
    by_cases hb : fr ≤ atN t va l / 4096
    · rw [fnd_bound hb]; exact .inr ⟨by decide, rfl⟩
    by_cases ho : okE (M (atN t va l)) = true
    · by_cases hl : lea (entW (M (atN t va l))) = true
      · rw [fnd_leaf hb ho hl]
        split
        · exact .inl ⟨rfl, Nat.lt_succ_self l, entW_ppn _, atN_8 t va l, by dsimp only; omega⟩
        · exact .inr ⟨by decide, rfl⟩
      · rw [Bool.not_eq_true] at hl
        by_cases hd : ((entW (M (atN t va l))).u || (entW (M (atN t va l))).a || (entW (M (atN t va l))).d) = true
        · rw [fnd_dead hb ho hl hd]; exact .inr ⟨by decide, rfl⟩
        · rw [Bool.not_eq_true] at hd
          rw [fnd_on hb ho hl hd]
          rcases fnd_is l (entW (M (atN t va l))).ppn with ⟨h1, h2, h3⟩ | h
          · exact .inl ⟨h1, by omega, h3⟩
          · exact .inr h
    · rw [Bool.not_eq_true] at ho
      rw [fnd_bad hb ho]; exact .inr ⟨by decide, rfl⟩
theorem findW_is (S : Stp) : ((findW fr M S va).2 = 0 ∧ (findW fr M S va).1.lv < 3 ∧ (findW fr M S va).1.e.ppn < 17592186044416 ∧ (findW fr M S va).1.pl % 8 = 0 ∧ (findW fr M S va).1.pl / 4096 < fr) ∨ ((findW fr M S va).2 ≠ 0 ∧ (findW fr M S va).1 = zl) := by
  unfold findW
  split
  · split
    · exact fnd_is 3 _
    · exact .inr ⟨by decide, rfl⟩
  · exact .inr ⟨by decide, rfl⟩
theorem findW_lv (S : Stp) : (findW fr M S va).1.lv < 3 ∧ (findW fr M S va).1.e.ppn < 18446744073709551616 := by
  rcases findW_is (fr := fr) (M := M) (va := va) S with ⟨_, h, h2, _⟩ | ⟨_, h⟩
  · exact ⟨h, by omega⟩
  · rw [h]; decide
/-! ### Addresses of one page -/
theorem atN_page {b k : Nat} (h : b / 2 ^ (12 + 9 * k) = va / 2 ^ (12 + 9 * k)) (hk : k ≤ l) : atN t b l = atN t va l := by
  have e : ∀ x, fld x (12 + 9 * l) 9 = x / 2 ^ (12 + 9 * k) / 2 ^ (9 * (l - k)) % 2 ^ 9 := fun x => by
    unfold fld
    rw [Nat.div_div_eq_div_mul, ← Nat.pow_add, show 12 + 9 * k + 9 * (l - k) = 12 + 9 * l from by omega]
  unfold atN
  rw [e b, e va, h]
theorem fnd_page {b : Nat} : ∀ l t, (fnd fr M va l t).2 = 0 → b / 2 ^ (12 + 9 * (fnd fr M va l t).1.lv) = va / 2 ^ (12 + 9 * (fnd fr M va l t).1.lv) → fnd fr M b l t = fnd fr M va l t
  | 0, _, h, _ => by rw [fnd] at h; simp at h
  | l + 1, t, h, hp => by
    have hlv : (fnd fr M va (l + 1) t).1.lv ≤ l := by
      rcases fnd_is (fr := fr) (M := M) (va := va) (l + 1) t with ⟨_, h2, _⟩ | ⟨h2, _⟩
      · omega
      · exact absurd h h2
    have ea : atN t b l = atN t va l := atN_page hp hlv
    have ee : ent fr M b l t = ent fr M va l t := by unfold ent; rw [ea]
    rw [fnd_eq (va := va)] at h hp ⊢
    rw [fnd_eq (va := b), ee]
    split
    · rfl
    · rename_i h1
      rw [if_neg h1] at h hp
      split
      · rename_i h2
        rw [if_pos h2] at h hp
        exact fnd_page l _ h hp
      · rfl
theorem findW_page {b : Nat} (S : Stp) (h : (findW fr M S va).2 = 0) (hp : b / 2 ^ (12 + 9 * (findW fr M S va).1.lv) = va / 2 ^ (12 + 9 * (findW fr M S va).1.lv)) : findW fr M S b = findW fr M S va := by
  have hl := (findW_lv (fr := fr) (M := M) (va := va) S).1
  have hc : canN b = canN va := by
    have e : ∀ x, x / 274877906944 = x / 2 ^ (12 + 9 * (findW fr M S va).1.lv) / 2 ^ (26 - 9 * (findW fr M S va).1.lv) := fun x => by
      rw [Nat.div_div_eq_div_mul, ← Nat.pow_add, show 12 + 9 * (findW fr M S va).1.lv + (26 - 9 * (findW fr M S va).1.lv) = 38 from by omega]
    unfold canN
    rw [e b, e va, hp]
  unfold findW at h hp ⊢
  rw [hc]
  split
  · rename_i h1
    rw [if_pos h1] at h hp
    split
    · rename_i h2
      rw [if_pos h2] at h hp
      exact fnd_page 3 _ h hp
    · rfl
  · rfl
end
/-! ### What 'first' asks -/
def lay3 : List (Nat × Nat) := [(0, 1025), (4096, 2049), (8200, 3295)]
def M3 (a : Nat) : Nat := (le (bytesB (laidL 4 lay3) a 8)).toNat
theorem M3_of {C : Nat → List Int} (h : Agree C (laidL 4 lay3)) (a : Nat) (ha : a % 8 = 0) : Mw C a = M3 a := by
  unfold Mw M3 wordC
  rw [h.word a 8 (by omega)]
theorem l3 : laidL 4 lay3 = [(0, 1), (1, 4), (4096, 1), (4097, 8), (8200, 223), (8201, 12)] := by decide
theorem m3 : M3 0 = 1025 ∧ M3 4096 = 2049 ∧ M3 8200 = 3295 ∧ M3 8208 = 0 := by
  unfold M3; rw [l3]; decide
theorem fw1 : walkW 4 M3 ⟨true, 0, 0⟩ 4660 2 ⟨true, false, false⟩ = (⟨⟨true, true, true, true, true, false, true, true, 0, 3⟩, 0, 8200⟩, -1) := by kernel_rfl
theorem fw2 : walkW 4 M3 ⟨true, 0, 0⟩ 8756 1 ⟨true, false, false⟩ = (zl, 13) := by kernel_rfl
end Go.Proofs.Ytibmjbfnjkmjbaa
