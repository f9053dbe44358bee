/-
  What the functions of package word that this layer calls answer and leave in memory: contracts over the translation. Each says its own conditions.
-/
import Derived.Test.YtgnjbjbgfhjakaaGreatMem
namespace Go.Proofs.YtgnjbjbgfhjakaaGreat
open Go.RowKit
set_option linter.unusedVariables false

theorem size_yes (n : Int) (w : World) (h : SzI n) : Calls Tryz.prog 113 #[.int .i64 n] w fun e w' => e = .returned (.bool true) ∧ w = w' := by
  rcases h with rfl | rfl | rfl | rfl
  all_goals
    go_enter Tryz.func113, Tryz.ntmps113
    go_wp2
    go_ret
    exact ⟨rfl, rfl⟩
theorem size_no (n : Int) (w : World) (h : ¬ SzI n) : Calls Tryz.prog 113 #[.int .i64 n] w fun e w' => e = .returned (.bool false) ∧ w = w' := by
  have h1 : ¬ n = 1 := fun e => h (.inl e)
  have h2 : ¬ n = 2 := fun e => h (.inr (.inl e))
  have h4 : ¬ n = 4 := fun e => h (.inr (.inr (.inl e)))
  have h8 : ¬ n = 8 := fun e => h (.inr (.inr (.inr e)))
  clear h
  go_enter Tryz.func113, Tryz.ntmps113
  go_wp2
  go_ret
  refine ⟨?_, rfl⟩
  simp [h1, h2, h4, h8]
theorem within_yes (n a s : Int) (w : World) (h : InB n a s) (hn : n ≤ 9223372036854775807) : Calls Tryz.prog 129 #[.int .i64 n, .int .i64 a, .int .i64 s] w fun e w' => e = .returned (.bool true) ∧ w = w' := by
  obtain ⟨hs, ha, hx⟩ := h
  have hs8 : 1 ≤ s ∧ s ≤ 8 := by rcases hs with h | h | h | h <;> omega
  have hs1 := hs8.1
  have hs2 := hs8.2
  clear hs8
  go_enter Tryz.func129, Tryz.ntmps129
  go_wp2_with (go_at_call 113; refine (size_yes _ _ hs).mono ?_; rintro e w' ⟨rfl, rfl⟩)
  go_ret
  refine ⟨?_, rfl⟩
  simp
theorem get_run (b off : Nat) (l : List Int) (cap a s : Nat) (w : World) (hb : Byt l) (hm : l.length ≤ 9223372036854775807) (hc : ∀ i, i < l.length → w.cell? ⟨b, off + i, none⟩ = some (.int .u8 (l.getD i 0))) (hs : s = 1 ∨ s = 2 ∨ s = 4 ∨ s = 8) (hx : a + s ≤ l.length) :
    Calls Tryz.prog 117 #[.slice (some ⟨b, off, none⟩) l.length cap, .int .i64 a, .int .i64 s] w fun e w' => e = .returned (.tuple #[.int .u64 (le ((l.drop a).take s)), .bool true]) ∧ w = w' := by
  have hl : ((l.drop a).take s).length = s := by simp; omega
  have hin : InB l.length a s := ⟨by unfold SzI; omega, by omega, by omega⟩
  have hs8 : s ≤ 8 := by omega
  go_enter Tryz.func117, Tryz.ntmps117
  go_wp2_with fail
  refine (within_yes _ _ _ _ hin (by omega)).mono ?_
  rintro e w' ⟨rfl, rfl⟩
  have HL := Lib.hid hl; clear hl hs hin
  go_wp2
  go_loop [8, 9] (fun v i => ∃ k : Nat, k ≤ s ∧ i = .int .i64 ((k : Int) - 1) ∧ v = .int .u64 (le ((((l.drop a).take s)).drop k))) (fun _ i => ((intOf i) + 1).toNat)
  case atStart => exact ⟨s, Nat.le_refl _, rfl, by rw [List.drop_eq_nil_of_le (by rw [HL.out]; exact Nat.le_refl _)]; rfl⟩
  case round =>
    obtain ⟨k, hk, rfl, rfl⟩ := hrel
    by_cases h0 : 1 ≤ k
    · have hcell := hc (a + (k - 1)) (by omega)
      have hq := hb.getD (a + (k - 1))
      obtain ⟨c, hC⟩ : ∃ c, c = l.getD (a + (k - 1)) 0 := ⟨_, rfl⟩
      rw [← hC] at hcell hq
      have hn : Byt (((l.drop a).take s).drop k) := ((hb.drop a).take s).drop k
      obtain ⟨L, hL⟩ : ∃ L, L = le (((l.drop a).take s).drop k) := ⟨_, rfl⟩
      have b1 : 0 ≤ L := hL ▸ le_nn _ hn
      have b2 : L < 72057594037927936 := hL ▸ le_lt7 _ hn (by rw [List.length_drop, HL.out]; omega)
      have h1 := le_drop ((l.drop a).take s) (k - 1) (by rw [HL.out]; omega)
      rw [show k - 1 + 1 = k from by omega, ← hL, show ((l.drop a).take s).getD (k - 1) 0 = c from by rw [hC]; simp [List.getD_eq_getElem?_getD, show k - 1 < s from by omega]] at h1
      rw [← hL]
      have H1 := Lib.hid h1; clear h1
      clear hn hc hb hC hL
      go_wp2
      go_round
      case rel => exact ⟨k - 1, by omega, int_eq (by omega), int_eq ((or_byte _ _ b1 b2 hq.1 hq.2).trans H1.out.symm)⟩
      case measure => simp [intOf]; omega
    · go_wp2
      obtain rfl : k = 0 := by omega
      go_ret2
      exact ⟨rfl, rfl⟩
theorem get_yes (A : Option Addr) (n : Nat) (l : List Int) (cap a s : Nat) (w : World) (hr : Rd w A l) (hn : l.length = n) (hin : InB n a s) :
    Calls Tryz.prog 117 #[.slice A n cap, .int .i64 a, .int .i64 s] w fun e w' => e = .returned (.tuple #[.int .u64 (le ((l.drop a).take s)), .bool true]) ∧ w = w' := by
  subst hn
  obtain ⟨hs, _, hx⟩ := hin
  have hs' : s = 1 ∨ s = 2 ∨ s = 4 ∨ s = 8 := by unfold SzI at hs; omega
  obtain ⟨b, off, rfl, hc⟩ := hr.2.2 (by omega)
  exact get_run b off l cap a s w hr.1 hr.2.1 hc hs' (by omega)
theorem wrap_u64 (x : Int) : IntKind.u64.wrap x = x % 18446744073709551616 := by simp [IntKind.wrap, IntKind.signed, IntKind.bits]
theorem pow_8 (v : Int) (k : Nat) : v / 2 ^ (8 * k) % 256 = v / (256 ^ k : Nat) % 256 := by
  rw [Int.pow_mul]; simp
end Go.Proofs.YtgnjbjbgfhjakaaGreat
