/-
  The walk of NodesTwo: for every two sets it returns true and changes nothing that was there. The library's table of 32 numbers reads as its text lays it.
-/
import Derived.Test.YtkdllcbnmchgeaaDoorLaw02
namespace Go.Proofs.YtkdllcbnmchgeaaDoor
open Go.RowKit
set_option linter.unusedVariables false

def inU (a b k : Nat) : Bool := (List.range k).all fun i => !a.testBit i || b.testBit i
theorem inU_succ (a b k : Nat) : inU a b (k + 1) = (inU a b k && (!a.testBit k || b.testBit k)) := by
  unfold inU; rw [List.range_succ, List.all_append]; simp
theorem inU_all {a b : Nat} (ha : a < 65536) (hb : b < 65536) : inU a b 16 = inN a b := by
  unfold inN
  by_cases h : lessN a b = 0
  · rw [decide_eq_true h]
    refine List.all_eq_true.2 fun i hi => ?_
    have := (less_zero ha hb).1 h i (List.mem_range.1 hi)
    revert this
    cases a.testBit i <;> cases b.testBit i <;> simp
  · rw [decide_eq_false h]
    refine Bool.eq_false_iff.2 fun e => h ((less_zero ha hb).2 fun k hk h1 => ?_)
    have := List.all_eq_true.1 e k (List.mem_range.2 hk)
    simpa [h1] using this
set_option maxHeartbeats 1000000 in
theorem two_walk (a b : Nat) (w : World) (ha : a < 65536) (hb : b < 65536) (hT : Tz w) : Calls Tryd.prog 5 #[.int .u16 a, .int .u16 b] w fun e w' => e = .returned (.bool true) ∧ Below w.heap.size w w' := by
  have HT := Lib.hid hT; clear hT
  have hj : a ||| b < 65536 := or_lt ha hb
  have hl : lessN a b < 65536 := lessN_lt ha
  go_enter Tryd.func5, Tryd.ntmps5
  go_wp2_with fail
  refine (first_any _ HT.out).mono ?_
  rintro e w1 ⟨rfl, hb1⟩
  have HT1 := Lib.hid (HT.out.below hb1); have HB1 := Lib.hid hb1; clear hb1
  go_wp2_with fail
  refine (join_any a b _ ha hb).mono ?_
  rintro e w2 ⟨rfl, rfl⟩
  go_wp2_with fail
  refine (less_any a b _ ha hb).mono ?_
  rintro e w2 ⟨rfl, rfl⟩
  go_wp2
  go_loop [7, 8] (fun v i => ∃ k : Nat, k ≤ 16 ∧ i = .int .i64 (k : Int) ∧ v = .bool (inU a b k)) (fun _ i => 16 - (intOf i).toNat)
  case atStart => exact ⟨0, Nat.zero_le _, rfl, rfl⟩
  case round =>
    obtain ⟨k, hk, rfl, rfl⟩ := hrel
    by_cases h0 : k < 16
    · have r1 := rhas_any a k w1 ha
      have r2 := rhas_any b k w1 hb
      have r3 := rhas_any (a ||| b) k w1 hj
      have r4 := rhas_any (lessN a b) k w1 hl
      have hsu := inU_succ a b k
      rw [has_nat _ _ h0] at r1 r2 r3 r4
      rw [Nat.testBit_or] at r3
      rw [tb_less ha hb] at r4
      generalize a.testBit k = x at r1 r3 r4 hsu
      generalize b.testBit k = y at r2 r3 r4 hsu
      generalize inU a b k = v at hsu ⊢
      have R1 := Lib.hid r1; have R2 := Lib.hid r2; have R3 := Lib.hid r3; have R4 := Lib.hid r4; have HS := Lib.hid hsu
      clear r1 r2 r3 r4 hsu
      cases x <;> cases y <;> cases v
      all_goals
        go_wp2_with fail
        refine R1.out.mono ?_
        rintro e w2 ⟨rfl, rfl⟩
        go_wp2_with fail
        refine R2.out.mono ?_
        rintro e w2 ⟨rfl, rfl⟩
        go_wp2_with fail
        refine R3.out.mono ?_
        rintro e w2 ⟨rfl, rfl⟩
        go_wp2_with fail
        refine R4.out.mono ?_
        rintro e w2 ⟨rfl, rfl⟩
        go_wp2
        go_round
        case rel => exact ⟨k + 1, by omega, by go_num, by rw [HS.out]; rfl⟩
        case measure => simp [intOf]; omega
    · obtain rfl : k = 16 := by omega
      have hin := in_any a b w1 ha hb
      rw [← inU_all ha hb] at hin
      generalize inU a b 16 = v at hin ⊢
      have HIN := Lib.hid hin; clear hin
      cases v
      all_goals
        go_wp2_with fail
        refine HIN.out.mono ?_
        rintro e w2 ⟨rfl, rfl⟩
        go_wp2_with fail
        refine (text_any a _ ha HT1.out).mono ?_
        rintro e w3 ⟨rfl, hb3⟩
        have HB3 := Lib.hid hb3; clear hb3
        go_wp2_with fail
        refine (rtext_any a _ ha).mono ?_
        rintro e w4 ⟨rfl, hb4⟩
        have HB4 := Lib.hid hb4; clear hb4
        go_wp2
        go_ret
        have q1 := HB1.out.size
        have q3 := HB3.out.size
        refine ⟨?_, (HB1.out.trans (HB3.out.mono q1)).trans (HB4.out.mono (by omega))⟩
        rfl
end Go.Proofs.YtkdllcbnmchgeaaDoor
