/-
  What Size and Bytes of the document's answer for layer 1 (package runrigref01) answer and leave in memory, where a later layer calls them: contracts over the translation. Each says its own conditions.
-/
import Derived.Test.YtmdfopbigkfbnaaDoorMem
import Derived.Deep.Onto
import Derived.OwnWalk
namespace Go.Proofs.YtmdfopbigkfbnaaDoor
open Go.RowKit
set_option linter.unusedVariables false

theorem rsize_yes (n : Int) (w : World) (h : SzI n) : Calls Tryd.prog 35 #[.int .i64 n] w fun e w' => e = .returned (.bool true) ∧ Below w.heap.size w w' := by
  rcases h with rfl | rfl | rfl | rfl
  all_goals
    go_enter Tryd.func35, Tryd.ntmps35
    go_wp2
    refine wp_loop_rounds 5 ?_
    repeat (rw [rounds_succ]; go_wp2)
    go_ret
    exact ⟨rfl, (Below.refl _ _).alloc (Nat.le_refl _) _⟩
theorem rsize_no (n : Int) (w : World) (h : ¬ SzI n) : Calls Tryd.prog 35 #[.int .i64 n] w fun e w' => e = .returned (.bool false) ∧ Below w.heap.size w w' := by
  have h1 : ¬ n = 1 := fun e => h (.inl e)
  have h2 : ¬ n = 2 := fun e => h (.inr (.inl e))
  have h4 : ¬ n = 4 := fun e => h (.inr (.inr (.inl e)))
  have h8 : ¬ n = 8 := fun e => h (.inr (.inr (.inr e)))
  clear h
  go_enter Tryd.func35, Tryd.ntmps35
  go_wp2
  refine wp_loop_rounds 5 ?_
  repeat (rw [rounds_succ]; go_wp2)
  go_ret
  exact ⟨rfl, (Below.refl _ _).alloc (Nat.le_refl _) _⟩

theorem rbytes_no (v s : Int) (w : World) (h : ¬ SzI s) : Calls Tryd.prog 34 #[.int .u64 v, .int .i64 s] w fun e w' => e = .returned (.slice none 0 0) ∧ Below w.heap.size w w' := by
  go_enter Tryd.func34, Tryd.ntmps34
  go_wp2
  refine wp_loop_rounds 1 ?_
  rw [rounds_succ]
  go_wp2_with (go_at_call 35; refine (rsize_no _ _ h).mono ?_; rintro e w' ⟨rfl, hb⟩)
  go_ret
  exact ⟨rfl, hb⟩
theorem rbytes_yes (v : Int) (s : Nat) (w : World) (h : SzI s) (h0 : 0 ≤ v) (h1 : v ≤ 18446744073709551615) : Calls Tryd.prog 34 #[.int .u64 v, .int .i64 s] w fun e w' => Owned w.heap.size (byt v s) e w w' := by
  obtain ⟨i0, hi, hz0, hz1, hz2⟩ := info_parts info_u8
  have hs8 : s ≤ 8 := by unfold SzI at h; omega
  go_enter Tryd.func34, Tryd.ntmps34
  go_wp2
  go_loopw [0, 5, 6] (fun x b c wr => ∃ (k : Nat) (y : Value), k ≤ s ∧ c = .int .i64 k ∧ x = .int .u64 (v / (256 ^ k : Nat)) ∧ y = b ∧ OwnV w.heap.size (byt v k) y wr ∧ Below w.heap.size w wr) (fun _ _ c _ => s - (intOf c).toNat)
  case atStart => exact ⟨0, _, Nat.zero_le _, rfl, by simp, rfl, World.ownsRow_nil _ _ _ _, Below.refl _ _⟩
  case round =>
    obtain ⟨k, b, hk, rfl, rfl, rfl, ho, hb⟩ := hrel
    obtain ⟨x, hX⟩ : ∃ x, x = v / (256 ^ k : Nat) := ⟨_, rfl⟩
    have x0 : 0 ≤ x := by rw [hX]; exact Int.ediv_nonneg h0 (Int.natCast_nonneg _)
    have x1 : x ≤ 18446744073709551615 := by rw [hX]; exact Int.le_trans (Int.ediv_le_self _ h0) h1
    rw [← hX]
    have HX := Lib.hid hX
    have HO := Lib.hid ho
    have HB := Lib.hid hb
    clear hX ho hb
    by_cases hlt : k < s
    · go_wp2_with fail
      refine (rsize_yes _ _ h).mono ?_
      rintro e w1 ⟨rfl, hb1⟩
      have HB1 := Lib.hid hb1; clear hb1
      have ho1 : w1.ownsRow w.heap.size 5 1 b k ((byt v k).map (Value.int .u8)) := by have := HO.out.below HB1.out; unfold OwnV at this; rwa [byt_len] at this
      have HO1 := Lib.hid ho1; clear ho1
      go_wp2_with (at_builtin; refine wpList_append_own _ rfl _ _ 23 rfl w.heap.size 5 i0 (.int .u8 0) 1 1 Tryd.underlying23 hi hz0 hz1 hz2 rfl (by decide) _ k _ rfl (HO1.out.alloc _) ⟨w1.heap.size, 0, none⟩ 1 1 [.int .u8 (x % 256)] rfl rfl ?c1 ?c2 ?c3 ?c4 ?c5 ?_)
      case c1 => exact cell_one_new _ _ _
      case c2 => intro u hu; simp at hu; subst hu; rfl
      case c3 => unfold maxLen; omega
      case c4 => omega
      case c5 => have := HB.out.size; have := HB1.out.size; simp; omega
      intro v' w2 hown' hgrow _
      have HO2 := Lib.hid hown'; have HG := Lib.hid hgrow; clear hown' hgrow
      go_wp2
      go_roundw
      case rel =>
        refine ⟨k + 1, v', by omega, by go_num, int_eq ?_, rfl, ?_, ?_⟩
        · rw [HX.out, Int.ediv_ediv_of_nonneg (Int.natCast_nonneg _), Nat.pow_succ, Int.natCast_mul]; rfl
        · have := HO2.out
          unfold OwnV
          rw [byt_len, byt_snoc, List.map_append, ← HX.out]
          exact this
        · have hs1 := HB1.out.size
          have hs2 := HB.out.size
          exact ((HB.out.trans (HB1.out.mono hs2)).alloc (by omega) _).grown HG.out (by simp; omega) (fun j hj => (HO1.out.lt j hj).1)
      case measure => simp [intOf]; omega
    · go_wp2_with fail
      refine (rsize_yes _ _ h).mono ?_
      rintro e w1 ⟨rfl, hb1⟩
      have HB1 := Lib.hid hb1; clear hb1
      go_wp2
      obtain rfl : k = s := by omega
      go_ret
      exact ⟨_, rfl, HO.out.below HB1.out, HB.out.trans (HB1.out.mono HB.out.size)⟩
end Go.Proofs.YtmdfopbigkfbnaaDoor
