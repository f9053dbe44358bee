/-
  The program's memory, and the word at a place: contracts without cases. Each says its own conditions.
-/
import Derived.Test.YtgnjbjbgfhjakaaGreatPhysB
namespace Go.Proofs.YtgnjbjbgfhjakaaGreat
open Go.RowKit
set_option linter.unusedVariables false
set_option linter.unusedSimpArgs false

theorem MemP.x {w : World} {mp mb fr n : Nat} {pg : Nat → Option Nat} {C : Nat → List Int} (h : MemP w mp mb fr n pg C) : MemX w mp fr n C (FpP mb pg) := ⟨mb, pg, h, rfl⟩
theorem newX (n : Nat) (w : World) (h1 : 1 ≤ n) (h2 : n ≤ 1048576) : Calls Tryz.prog 32 #[.int .i64 n] w fun e w' => ∃ mp F, e = .returned (.tuple #[.pointer (some ⟨mp, 0, none⟩), .int .i64 0]) ∧ w.heap.size ≤ mp ∧ (∀ k, F k → w.heap.size ≤ k) ∧ MemX w' mp n 0 (fun _ => List.replicate 4096 0) F ∧ Chg no w w' := by
  refine (new_yes n w h1 h2).mono ?_
  rintro e w' ⟨mp, mb, rfl, hm, hb, hM, hc⟩
  refine ⟨mp, _, rfl, hm, ?_, hM.x, hc⟩
  rintro k (rfl | ⟨f, hf⟩)
  · exact hb
  · cases hf
/-- what a load answers -/
def ldV (fr : Nat) (C : Nat → List Int) (a : Nat) (s : Int) : Int := if errL fr a s = 0 then wordC C a s.toNat else 0
/-- what is there behind a store -/
def stC (fr : Nat) (C : Nat → List Int) (a : Nat) (s v : Int) : Nat → List Int := if errL fr a s = 0 then layC C a s.toNat v else C
theorem load_any (mp fr n a : Nat) (s : Int) (C : Nat → List Int) (F : Nat → Prop) (w : World) (h : MemX w mp fr n C F) (ha : a ≤ 18446744073709551615) :
    Calls Tryz.prog 91 #[.pointer (some ⟨mp, 0, none⟩), .int .u64 a, .int .i64 s] w fun e w' => e = .returned (.tuple #[.int .u64 (ldV fr C a s), .int .i64 (errL fr a s)]) ∧ w = w' := by
  unfold ldV
  by_cases he : errL fr a s = 0
  · rw [if_pos he, he]; exact load_ok mp fr n a s C F w h ha he
  · rw [if_neg he]; exact load_bad mp fr a s w h.c0 ha h.fr.2 he
theorem store_any (mp fr n a : Nat) (s v : Int) (C : Nat → List Int) (F : Nat → Prop) (w : World) (h : MemX w mp fr n C F) (ha : a ≤ 18446744073709551615) (hn : n < 1000) (h0 : 0 ≤ v) (hv : v ≤ 18446744073709551615) :
    Calls Tryz.prog 85 #[.pointer (some ⟨mp, 0, none⟩), .int .u64 a, .int .i64 s, .int .u64 v] w fun e w' => e = .returned (.int .i64 (errL fr a s)) ∧ ∃ F', MemX w' mp fr (n + 1) (stC fr C a s v) F' ∧ Ext w F F' ∧ Chg F w w' := by
  unfold stC
  by_cases he : errL fr a s = 0
  · rw [if_pos he, he]; exact store_ok mp fr n a s v C F w h ha he hn h0 hv
  · rw [if_neg he]
    refine (store_bad mp fr a s v w h.c0 ha h.fr.2 he).mono ?_
    rintro e w' ⟨rfl, rfl⟩
    exact ⟨rfl, F, h.mono (by omega), Ext.refl _ _, Chg.refl _ _⟩
/-- the word at a place -/
def Mw (C : Nat → List Int) (a : Nat) : Nat := (wordC C a 8).toNat
theorem MemX.word {w : World} {mp fr n : Nat} {C : Nat → List Int} {F : Nat → Prop} (h : MemX w mp fr n C F) (a : Nat) : wordC C a 8 = (Mw C a : Nat) ∧ Mw C a < 18446744073709551616 := by
  have hb := (h.byt (a / 4096)).1
  have hb' : Byt (((C (a / 4096)).drop (a % 4096)).take 8) := fun x hx => hb x (List.mem_of_mem_drop (List.mem_of_mem_take hx))
  have h0 := le_nn _ hb'
  have h1 := le_lt8 _ hb' (by rw [List.length_take]; omega)
  unfold Mw wordC
  omega
theorem errL_8 (fr a : Nat) (h : a % 8 = 0) : errL fr a 8 = if fr ≤ a / 4096 then 61 else 0 := by
  unfold errL
  have hs : SzI (8 : Int) := by unfold SzI; omega
  rw [if_pos hs, show (8 : Int).toNat = 8 from rfl, if_pos h]
  by_cases hf : fr ≤ a / 4096
  · rw [if_pos hf, if_neg (by omega)]
  · rw [if_neg hf, if_pos (by omega)]
end Go.Proofs.YtgnjbjbgfhjakaaGreat
