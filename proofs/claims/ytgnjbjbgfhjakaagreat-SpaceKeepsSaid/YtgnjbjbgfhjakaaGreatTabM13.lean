/-
  Words of a memory behind a store, behind a page of noughts; the frames of a stock that gives none back. No function of the program stands here.
-/
import Derived.Test.YtgnjbjbgfhjakaaGreatMemW10
namespace Go.Proofs.YtgnjbjbgfhjakaaGreat
open Go.RowKit
set_option linter.unusedVariables false
set_option linter.unusedSimpArgs false

theorem win_at (l : List Int) (j k : Nat) (hk : k < 8) : ((l.drop j).take 8)[k]? = l[j + k]? := by
  rw [List.getElem?_take_of_lt hk, List.getElem?_drop]
theorem win_ext {l m : List Int} {i j : Nat} (h : ∀ k, k < 8 → l[i + k]? = m[j + k]?) : (l.drop i).take 8 = (m.drop j).take 8 := by
  apply List.ext_getElem?
  intro k
  by_cases hk : k < 8
  · rw [win_at l i k hk, win_at m j k hk, h k hk]
  · rw [List.getElem?_eq_none (by rw [List.length_take]; omega), List.getElem?_eq_none (by rw [List.length_take]; omega)]
theorem lay_at (p bs : List Int) (i : Nat) (hp : p.length = 4096) (hb : bs.length = 8) (hi : i + 8 ≤ 4096) (x : Nat) : (lay p i bs)[x]? = if i ≤ x ∧ x < i + 8 then bs[x - i]? else p[x]? := by
  unfold lay
  rw [hb]
  by_cases h1 : x < i
  · rw [if_neg (by omega), List.append_assoc, List.getElem?_append_left (by rw [List.length_take]; omega), List.getElem?_take_of_lt h1]
  · by_cases h2 : x < i + 8
    · rw [if_pos (by omega), List.append_assoc, List.getElem?_append_right (by rw [List.length_take]; omega), List.length_take, List.getElem?_append_left (by rw [hb]; omega)]
      congr 1
      omega
    · rw [if_neg (by omega), List.getElem?_append_right (by rw [List.length_append, List.length_take, hb]; omega), List.length_append, List.length_take, hb, List.getElem?_drop]
      congr 1
      omega
/-- the word at a place behind a store of a word -/
theorem Mw_lay {C : Nat → List Int} (hl : ∀ f, (C f).length = 4096) {a b v : Nat} (ha : a % 8 = 0) (hb : b % 8 = 0) (hv : v < 18446744073709551616) : Mw (layC C a 8 (v : Int)) b = if b = a then v else Mw C b := by
  have hbl := byt_len 8 (v : Int)
  by_cases e : b = a
  · subst e
    rw [if_pos rfl]
    unfold Mw wordC layC updC
    rw [if_pos rfl]
    have h : ((lay (C (b / 4096)) (b % 4096) (byt (v : Int) 8)).drop (b % 4096)).take 8 = ((byt (v : Int) 8).drop 0).take 8 := win_ext fun k hk => by
      rw [lay_at _ _ _ (hl _) hbl (by omega), if_pos (by omega)]
      congr 1
      omega
    rw [h, List.drop_zero, List.take_of_length_le (by omega), le_byt]
    have : (256 ^ 8 : Nat) = 18446744073709551616 := by decide
    rw [this]
    omega
  · rw [if_neg e]
    unfold Mw wordC layC updC
    by_cases hf : b / 4096 = a / 4096
    · rw [if_pos hf]
      have h : ((lay (C (a / 4096)) (a % 4096) (byt (v : Int) 8)).drop (b % 4096)).take 8 = ((C (a / 4096)).drop (b % 4096)).take 8 := win_ext fun k hk => by
        rw [lay_at _ _ _ (hl _) hbl (by omega), if_neg (by omega)]
      rw [h, hf]
    · rw [if_neg hf]
theorem errL_in {fr a : Nat} (ha : a % 8 = 0) (hf : a / 4096 < fr) : errL fr a 8 = 0 := by rw [errL_8 fr a ha, if_neg (by omega)]
theorem Mw_st {C : Nat → List Int} (hl : ∀ f, (C f).length = 4096) {fr a b v : Nat} (ha : a % 8 = 0) (hf : a / 4096 < fr) (hb : b % 8 = 0) (hv : v < 18446744073709551616) : Mw (stC fr C a 8 (v : Int)) b = if b = a then v else Mw C b := by
  unfold stC
  rw [if_pos (errL_in ha hf)]
  exact Mw_lay hl ha hb hv
/-- a page of noughts -/
theorem Mw_page {C : Nat → List Int} {f b : Nat} : Mw (updC C f (List.replicate 4096 0)) b = if b / 4096 = f then 0 else Mw C b := by
  unfold Mw wordC updC
  by_cases h : b / 4096 = f
  · rw [if_pos h, if_pos h, List.drop_replicate, List.take_replicate]
    have : ∀ n, le (List.replicate n 0) = 0 := fun n => by
      induction n with
      | zero => rfl
      | succ n ih => rw [List.replicate_succ, le, ih]; rfl
    rw [this]; rfl
  · rw [if_neg h, if_neg h]
theorem Mw_zero (b : Nat) : Mw (fun _ => List.replicate 4096 0) b = 0 := by
  have := @Mw_page (fun _ => List.replicate 4096 0) (b / 4096) b
  rw [if_pos rfl] at this
  have e : updC (fun _ => List.replicate 4096 (0 : Int)) (b / 4096) (List.replicate 4096 0) = fun _ => List.replicate 4096 0 := by
    funext k; unfold updC; split <;> rfl
  rw [e] at this
  exact this
end Go.Proofs.YtgnjbjbgfhjakaaGreat
