/-
  The walk of WordSigns: for every word and every int it returns true and changes nothing that was there.
-/
import Derived.Test.YtebhglenoaadjaaLaw01
import Derived.Deep.RegionWith
namespace Go.Proofs.Ytebhglenoaadjaa
open Go.RowKit
set_option linter.unusedVariables false

set_option maxHeartbeats 1000000 in
theorem signs_no (v s : Int) (w : World) (h : ¬ SzI s) (h0 : 0 ≤ v) (h1 : v ≤ 18446744073709551615) :
    Calls Try.prog 5 #[.int .u64 v, .int .i64 s] w fun e w' => e = .returned (.bool true) ∧ Below w.heap.size w w' := by
  have hcv : ∀ w0 : World, (convert 22 9 (.slice none 0 0)).run Try.prog w0 = .ok (.string (strOfNums [])) w0 := fun w0 => Rd.conv (w := w0) (l := []) ⟨Byt.nil, by decide, fun h => by simp at h⟩ 0 0 rfl
  go_enter Try.func5, Try.ntmps5
  go_wp2_with fail
  refine (first_any _).mono ?_
  rintro e w1 ⟨rfl, hb1⟩
  have HB1 := Lib.hid hb1; clear hb1
  go_wp2_with fail
  go_region_with (first | (go_at_call 14; refine (cut_no _ _ _ h).mono ?_; rintro e w2 ⟨rfl, rfl⟩) | (go_at_call 16; refine (sign_no _ _ _ h).mono ?_; rintro e w2 ⟨rfl, rfl⟩) | (go_at_call 18; refine (bytes_no _ _ _ h).mono ?_; rintro e w2 ⟨rfl, rfl⟩) | (go_at_call 15; refine (rcut_no _ _ _ h).mono ?_; rintro e w2 ⟨rfl, hb2⟩; have HB2 := Lib.hid hb2; clear hb2) | (go_at_call 17; refine (rsign_id _ _ _ (.inl h)).mono ?_; rintro e w3 ⟨rfl, hb3⟩; have HB3 := Lib.hid hb3; clear hb3) | (go_at_call 13; refine (rbytes_no _ _ _ h).mono ?_; rintro e w4 ⟨rfl, hb4⟩; have HB4 := Lib.hid hb4; clear hb4))
  go_wp2
  go_ret
  have HD := HB1.out.drew
  have a1 := HD.size
  have a2 := HB2.out.size
  have a3 := HB3.out.size
  exact ⟨rfl, ((HD.trans (HB2.out.mono a1)).trans (HB3.out.mono (by omega))).trans (HB4.out.mono (by omega))⟩
theorem sgn_8' (v : Int) (h0 : 0 ≤ v) (h1 : v ≤ 18446744073709551615) : sgnN v 8 = v := by
  unfold sgnN
  simp [byt, le]
  omega
theorem rsign_yes (v : Int) (s : Nat) (w : World) (h : SzI s) (h0 : 0 ≤ v) (h1 : v ≤ 18446744073709551615) : Calls Try.prog 17 #[.int .u64 v, .int .i64 s] w fun e w' => e = .returned (.int .u64 (sgnN v s)) ∧ Below w.heap.size w w' := by
  by_cases h8 : s < 8
  · by_cases ht : 127 < (byt v s).getD (s - 1) 0
    · exact rsign_hi v s w ht h h8 h0 h1
    · exact rsign_lo v s w ht h h8 h0 h1
  · obtain rfl : s = 8 := by unfold SzI at h; omega
    rw [sgn_8' v h0 h1]
    exact rsign_id v 8 w (.inr rfl)
set_option maxHeartbeats 1000000 in
theorem signs_yes (v : Int) (s : Nat) (w : World) (h : SzI s) (h0 : 0 ≤ v) (h1 : v ≤ 18446744073709551615) :
    Calls Try.prog 5 #[.int .u64 v, .int .i64 s] w fun e w' => e = .returned (.bool true) ∧ Below w.heap.size w w' := by
  go_enter Try.func5, Try.ntmps5
  go_wp2_with fail
  refine (first_any _).mono ?_
  rintro e w1 ⟨rfl, hb1⟩
  have HB1 := Lib.hid hb1; clear hb1
  go_wp2_with fail
  go_region_with (first | (go_at_call 14; refine (cut_yes _ _ _ h h0 h1).mono ?_; rintro e w2 ⟨rfl, rfl⟩) | (go_at_call 16; refine (sign_yes _ _ _ h h0 h1).mono ?_; rintro e w2 ⟨rfl, rfl⟩) | (go_at_call 18; refine (bytes_yes _ _ _ h h0 h1).mono ?_; rintro e w4 ⟨y, rfl, hy, hb4⟩; obtain ⟨A, cap, rfl, hr4⟩ := hy.own.rd (byt_Byt _ _) (by rw [byt_len]; have := h.nat; omega); have hcv4 := hr4.conv _ cap rfl; have HR4 := Lib.hid hr4; have HB4 := Lib.hid hb4; clear hb4 hr4 hy) | (go_at_call 15; refine (rcut_yes _ _ _ h h0 h1).mono ?_; rintro e w2 ⟨rfl, hb2⟩; have HB2 := Lib.hid hb2; clear hb2) | (go_at_call 17; refine (rsign_yes _ _ _ h h0 h1).mono ?_; rintro e w3 ⟨rfl, hb3⟩; have HB3 := Lib.hid hb3; clear hb3) | (go_at_call 13; refine (rbytes_yes _ _ _ h h0 h1).mono ?_; rintro e w5 ⟨y5, rfl, hy5, hb5⟩; obtain ⟨A5, cap5, rfl, hr5⟩ := hy5.rd (byt_Byt _ _) (by rw [byt_len]; have := h.nat; omega); have hcv5 := hr5.conv _ cap5 rfl; have hcv45 := (HR4.out.below hb5).conv _ cap rfl; have HB5 := Lib.hid hb5; clear hb5 hr5 hy5))
  all_goals
    go_wp2
    go_ret
    have HD := HB1.out.drew
    have a1 := HD.size
    have a2 := HB2.out.size
    have a3 := HB3.out.size
    have a4 := HB4.out.size
    exact ⟨rfl, (((HD.trans (HB2.out.mono a1)).trans (HB3.out.mono (by omega))).trans (HB4.out.mono (by omega))).trans (HB5.out.mono (by omega))⟩
theorem signs_walk (v s : Int) (w : World) (h0 : 0 ≤ v) (h1 : v ≤ 18446744073709551615) :
    Calls Try.prog 5 #[.int .u64 v, .int .i64 s] w fun e w' => e = .returned (.bool true) ∧ Below w.heap.size w w' := by
  by_cases h : SzI s
  · obtain ⟨s', rfl, _⟩ := h.nat
    exact signs_yes v s' w h h0 h1
  · exact signs_no v s w h h0 h1
end Go.Proofs.Ytebhglenoaadjaa
