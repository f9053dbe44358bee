/-
  What Get of package runrigref01 answers: contracts over the translation. Each says its own conditions.
-/
import Derived.Test.YtmdfopbigkfbnaaDoorRb01
import Derived.Test.YtmdfopbigkfbnaaDoorWordGP
namespace Go.Proofs.YtmdfopbigkfbnaaDoor
open Go.RowKit
set_option linter.unusedVariables false
set_option linter.unusedSimpArgs false

theorem rget_no (A : Option Addr) (n cap : Nat) (a s : Int) (w : World) (hn : n ≤ 9223372036854775807) (h : ¬ InB n a s) : Calls Tryd.prog 28 #[.slice A n cap, .int .i64 a, .int .i64 s] w fun e w' => e = .returned (.tuple #[.int .u64 0, .bool false]) ∧ Below w.heap.size w w' := by
  by_cases hs : SzI s
  · have hs8 : 1 ≤ s ∧ s ≤ 8 := by rcases hs with h | h | h | h <;> omega
    have hs1 := hs8.1
    have hs2 := hs8.2
    clear hs8
    by_cases ha : a < 0
    · clear h
      go_enter Tryd.func28, Tryd.ntmps28
      go_wp2_with (go_at_call 35; refine (rsize_yes _ _ hs).mono ?_; rintro e w' ⟨rfl, hb⟩)
      go_ret2
      exact ⟨rfl, hb⟩
    · by_cases hx : (n : Int) < a
      · clear h
        go_enter Tryd.func28, Tryd.ntmps28
        go_wp2_with (go_at_call 35; refine (rsize_yes _ _ hs).mono ?_; rintro e w' ⟨rfl, hb⟩)
        go_ret2
        exact ⟨rfl, hb⟩
      · have hy : (n : Int) - a < s := by
          rcases Int.lt_or_le (n - a) s with h' | h'
          · exact h'
          · exact absurd ⟨hs, by omega, by omega⟩ h
        clear h
        go_enter Tryd.func28, Tryd.ntmps28
        go_wp2_with (go_at_call 35; refine (rsize_yes _ _ hs).mono ?_; rintro e w' ⟨rfl, hb⟩)
        go_ret2
        exact ⟨rfl, hb⟩
  · clear h
    go_enter Tryd.func28, Tryd.ntmps28
    go_wp2_with (go_at_call 35; refine (rsize_no _ _ hs).mono ?_; rintro e w' ⟨rfl, hb⟩)
    go_ret2
    exact ⟨rfl, hb⟩
theorem wrap_add (x y z : Int) (h : IntKind.u64.wrap y = z) : IntKind.u64.wrap (x + y) = IntKind.u64.wrap (x + z) := by
  subst h; rw [wrap_u64, wrap_u64, wrap_u64]; omega
theorem wrap_mul_r (x y : Int) : IntKind.u64.wrap (x * IntKind.u64.wrap y) = IntKind.u64.wrap (x * y) := by
  simp only [wrap_u64, Int.mul_emod, Int.emod_emod]
theorem wrap_mul_l (x y : Int) : IntKind.u64.wrap (IntKind.u64.wrap x * y) = IntKind.u64.wrap (x * y) := by
  simp only [wrap_u64, Int.mul_emod, Int.emod_emod]
theorem wrap_fit (x : Int) (h0 : 0 ≤ x) (h1 : x ≤ 18446744073709551615) : IntKind.u64.wrap x = x := by rw [wrap_u64]; omega
theorem rget_run (b off : Nat) (l : List Int) (cap a s : Nat) (w : World) (hb : Byt l) (hm : l.length ≤ 9223372036854775807) (hc : ∀ i, i < l.length → w.cell? ⟨b, off + i, none⟩ = some (.int .u8 (l.getD i 0))) (hs : s = 1 ∨ s = 2 ∨ s = 4 ∨ s = 8) (hx : a + s ≤ l.length) :
    Calls Tryd.prog 28 #[.slice (some ⟨b, off, none⟩) l.length cap, .int .i64 a, .int .i64 s] w fun e w' => e = .returned (.tuple #[.int .u64 (le ((l.drop a).take s)), .bool true]) ∧ Below w.heap.size w w' := by
  have hl : ((l.drop a).take s).length = s := by simp; omega
  have hsz : SzI s := by unfold SzI; omega
  have hs8 : s ≤ 8 := by omega
  clear hs
  go_enter Tryd.func28, Tryd.ntmps28
  go_wp2_with fail
  refine (rsize_yes _ _ hsz).mono ?_
  rintro e w1 ⟨rfl, hbl⟩
  have hc' : ∀ i, i < l.length → w1.cell? ⟨b, off + i, none⟩ = some (.int .u8 (l.getD i 0)) := fun i hi => (hbl.cell (p := ⟨b, off + i, none⟩) (cell_lt (hc i hi))).trans (hc i hi)
  have HL := Lib.hid hl; have HB := Lib.hid hbl; clear hl hbl hc hsz
  go_wp2
  go_loop [8, 9, 10] (fun v f i => ∃ k : Nat, k ≤ s ∧ i = .int .i64 k ∧ v = .int .u64 (le (((l.drop a).take s).take k)) ∧ f = .int .u64 (IntKind.u64.wrap ((256 ^ k : Nat) : Int))) (fun _ _ i => s - (intOf i).toNat)
  case atStart => exact ⟨0, Nat.zero_le _, rfl, rfl, rfl⟩
  case round =>
    obtain ⟨k, hk, rfl, rfl, rfl⟩ := hrel
    by_cases h0 : k < s
    · have hcell := hc' (a + k) (by omega)
      have hq := hb.getD (a + k)
      obtain ⟨c, hC⟩ : ∃ c, c = l.getD (a + k) 0 := ⟨_, rfl⟩
      rw [← hC] at hcell hq
      obtain ⟨L, hL⟩ : ∃ L, L = le (((l.drop a).take s).take k) := ⟨_, rfl⟩
      obtain ⟨F, hF⟩ : ∃ F, F = IntKind.u64.wrap ((256 ^ k : Nat) : Int) := ⟨_, rfl⟩
      have h1 := le_take ((l.drop a).take s) k (by rw [HL.out]; omega)
      rw [← hL, show ((l.drop a).take s).getD k 0 = c from by rw [hC]; simp [List.getD_eq_getElem?_getD, h0]] at h1
      have hn : Byt (((l.drop a).take s).take (k + 1)) := ((hb.drop a).take s).take _
      have b3 : le (((l.drop a).take s).take (k + 1)) ≤ 18446744073709551615 := le_lt8 _ hn (by rw [List.length_take]; omega)
      have b4 := le_nn _ hn
      rw [← hL, ← hF]
      have e1 : IntKind.u64.wrap (L + IntKind.u64.wrap (c * F)) = le (((l.drop a).take s).take (k + 1)) := by
        rw [wrap_add _ (IntKind.u64.wrap (c * F)) (IntKind.u64.wrap (c * F)) (by rw [wrap_u64, wrap_u64]; omega), hF, wrap_mul_r, ← wrap_add _ _ _ rfl, ← h1]
        exact wrap_fit _ b4 b3
      have e2 : IntKind.u64.wrap (F * 256) = IntKind.u64.wrap ((256 ^ (k + 1) : Nat) : Int) := by
        rw [hF, wrap_mul_l, Nat.pow_succ, Int.natCast_mul]; rfl
      have E1 := Lib.hid e1; have E2 := Lib.hid e2
      clear h1 hn hc' hb hC hL hF b3 b4 e1 e2
      go_wp2
      go_round
      case rel => exact ⟨k + 1, by omega, by go_num, int_eq E1.out, int_eq E2.out⟩
      case measure => simp [intOf]; omega
    · clear hc'
      go_wp2
      obtain rfl : k = s := by omega
      go_ret2
      refine ⟨?_, HB.out⟩
      rw [List.take_of_length_le (by rw [HL.out]; exact Nat.le_refl _)]
      rfl
theorem rget_yes (A : Option Addr) (n : Nat) (l : List Int) (cap a s : Nat) (w : World) (hr : Rd w A l) (hn : l.length = n) (hin : InB n a s) :
    Calls Tryd.prog 28 #[.slice A n cap, .int .i64 a, .int .i64 s] w fun e w' => e = .returned (.tuple #[.int .u64 (le ((l.drop a).take s)), .bool true]) ∧ Below w.heap.size w w' := by
  subst hn
  obtain ⟨hs, _, hx⟩ := hin
  have hs' : s = 1 ∨ s = 2 ∨ s = 4 ∨ s = 8 := by unfold SzI at hs; omega
  obtain ⟨b, off, rfl, hc⟩ := hr.2.2 (by omega)
  exact rget_run b off l cap a s w hr.1 hr.2.1 hc hs' (by omega)
end Go.Proofs.YtmdfopbigkfbnaaDoor
