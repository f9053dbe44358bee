/-
  What the sum of the document's answer for layer 4 (package runrigref04) answers and leaves in memory: a contract over the translation, under its own conditions.
-/
import Derived.Test.YtbfdanbepdefnaaRb04
import Derived.Deep.LoopGhost
namespace Go.Proofs.Ytbfdanbepdefnaa
open Go.RowKit Ieee
set_option linter.unusedVariables false
attribute [local go_sem] setCell_drewN alloc_drewN

/-- a number under way, small enough -/
def Okz : Datum → Prop
  | .number _ m e => m < 4611686018427387904 ∧ -1400 ≤ e ∧ e ≤ 1400 ∧ (m = 0 → e ≤ 100)
  | _ => True
def SumTo (T : Nat) (w : World) (r : Ending) (w' : World) : Prop := ∃ z, r = .returned (dv z) ∧ Okz z ∧ bitsD z = T ∧ Below w.heap.size w w'
theorem fit53_bd (m : Nat) (E : Int) (odd : Bool) (hm : m < 4611686018427387904) (h0 : m ≠ 0) (hE : -1000 ≤ E) (hE2 : E ≤ 400) (s : Bool) : Okz (.number s (fitP 53 (-1074) odd m E).1 (fitP 53 (-1074) odd m E).2) := by
  have hb : bl m ≤ 62 := bl_le hm
  unfold fitP
  by_cases hc : max ((bl m : Int) - (53 : Nat)) (-1074 - E) ≤ 0
  · rw [if_pos hc]; exact ⟨hm, by omega, by omega, fun h => absurd h h0⟩
  · obtain ⟨c, hcc⟩ : ∃ c : Nat, bl m = c + 53 := ⟨bl m - 53, by omega⟩
    have e0 : max ((bl m : Int) - (53 : Nat)) (-1074 - E) = c := by omega
    rw [e0, if_neg (by omega), Int.toNat_natCast]
    have hle := rns_le m c 53 odd (by have := lt_bl m; rw [hcc, Nat.add_comm] at this; exact this)
    have hge : 1 ≤ m / 2 ^ c := by
      refine (Nat.le_div_iff_mul_le (Nat.two_pow_pos c)).2 ?_
      rw [Nat.one_mul]
      exact Nat.le_trans (Nat.pow_le_pow_right (by decide) (by omega)) (bl_le_self h0)
    have hge2 : m / 2 ^ c ≤ rns m c odd := Nat.le_add_right _ _
    by_cases hb2 : bl (rns m c odd) ≤ 53
    · rw [if_pos hb2]
      refine ⟨?_, by show -1400 ≤ E + c; omega, by show E + c ≤ 1400; omega, fun h => ?_⟩
      · show rns m c odd < _; omega
      · have h : rns m c odd = 0 := h
        omega
    · rw [if_neg hb2]
      refine ⟨by show 2 ^ 52 < 4611686018427387904; decide, by show -1400 ≤ E + c + 1; omega, by show E + c + 1 ≤ 1400; omega, fun h => ?_⟩
      have h : 2 ^ 52 = 0 := h
      exact absurd h (by decide)
theorem told_nought (s t : Bool) (n : Nat) (e f : Int) (hn : n ≠ 0) (hn8 : bl n ≤ 48) (he : -300 ≤ e) (hf : -300 ≤ f) : told ((Datum.number s 0 e).sum (.number t n f)) = bitsD (.number t n f) := by
  have hp : 0 < n * sh f := Nat.mul_pos (by omega) (sh_pos f)
  have hV : sumV s t (0 * sh e) (n * sh f) = n * sh f := by
    rw [Nat.zero_mul]
    generalize n * sh f = V
    unfold sumV sg; cases s <;> cases t <;> simp
  have hS : sumS s t (0 * sh e) (n * sh f) = t := by
    rw [Nat.zero_mul]
    generalize n * sh f = V at hp
    unfold sumS sg; cases s <;> cases t <;> simp <;> omega
  have hx : R53 (n * sh f) = n * sh f := R53_exact _ _ (Nat.lt_of_lt_of_le (lt_of_bl hn8) (by decide)) (by omega)
  rw [told_num s t he hf, hV, hS, ← near_of t n f _ hx.symm (by omega)]
  rfl
theorem told_noughts (s t : Bool) (e f : Int) (he : -300 ≤ e) (hf : -300 ≤ f) : told ((Datum.number s 0 e).sum (.number t 0 f)) = bitsD (.number (s && t) 0 0) := by
  have hV : sumV s t (0 * sh e) (0 * sh f) = 0 := by
    rw [Nat.zero_mul, Nat.zero_mul]; unfold sumV sg; cases s <;> cases t <;> simp
  have hS : sumS s t (0 * sh e) (0 * sh f) = (s && t) := by
    rw [Nat.zero_mul, Nat.zero_mul]
    unfold sumS sg; cases s <;> cases t <;> simp
  rw [told_num s t he hf, hV, hS, R53_zero, nearest_zero]
  show _ = Ieee.single.nearest (s && t) 0 0
  rw [nearest_zero]
set_option maxRecDepth 100000 in
set_option maxHeartbeats 1000000 in
theorem rsum_qq (s t : Bool) (m n : Nat) (e f : Int) (w : World) :
    Calls Try.prog 29 #[.agg #[.bool s, .int .u64 ((0 : Nat) : Int), .int .i64 0, .int .i64 2], .agg #[.bool t, .int .u64 ((0 : Nat) : Int), .int .i64 0, .int .i64 2]] w fun r w' => r = .returned (.agg #[.bool false, .int .u64 ((0 : Nat) : Int), .int .i64 0, .int .i64 2]) ∧ Below w.heap.size w w' := by
  skip
  go_enter Try.func29, Try.ntmps29
  go_wp2
  refine bodyPost_ret (v := .agg #[.bool false, .int .u64 ((0 : Nat) : Int), .int .i64 0, .int .i64 2]) (by simp [results, Try.results29, go_sem]) rfl ⟨rfl, ?_⟩
  repeat (first | (with_reducible refine Below.setCell ?_ ?ybel _; case ybel => (first | omega | (simp <;> omega))) | (with_reducible refine Below.alloc ?_ ?ybel _; case ybel => (first | omega | (simp <;> omega))) | (with_reducible refine below_drewNs ?_ _) | (with_reducible refine Below.drew ?_) | (with_reducible exact Below.refl _ _))
set_option maxRecDepth 100000 in
set_option maxHeartbeats 1000000 in
theorem rsum_qi (s t : Bool) (m n : Nat) (e f : Int) (w : World) :
    Calls Try.prog 29 #[.agg #[.bool s, .int .u64 ((0 : Nat) : Int), .int .i64 0, .int .i64 2], .agg #[.bool t, .int .u64 ((0 : Nat) : Int), .int .i64 0, .int .i64 1]] w fun r w' => r = .returned (.agg #[.bool false, .int .u64 ((0 : Nat) : Int), .int .i64 0, .int .i64 2]) ∧ Below w.heap.size w w' := by
  skip
  go_enter Try.func29, Try.ntmps29
  go_wp2
  refine bodyPost_ret (v := .agg #[.bool false, .int .u64 ((0 : Nat) : Int), .int .i64 0, .int .i64 2]) (by simp [results, Try.results29, go_sem]) rfl ⟨rfl, ?_⟩
  repeat (first | (with_reducible refine Below.setCell ?_ ?ybel _; case ybel => (first | omega | (simp <;> omega))) | (with_reducible refine Below.alloc ?_ ?ybel _; case ybel => (first | omega | (simp <;> omega))) | (with_reducible refine below_drewNs ?_ _) | (with_reducible refine Below.drew ?_) | (with_reducible exact Below.refl _ _))
set_option maxRecDepth 100000 in
set_option maxHeartbeats 1000000 in
theorem rsum_qn (s t : Bool) (m n : Nat) (e f : Int) (w : World) :
    Calls Try.prog 29 #[.agg #[.bool s, .int .u64 ((0 : Nat) : Int), .int .i64 0, .int .i64 2], .agg #[.bool t, .int .u64 (n : Nat), .int .i64 f, .int .i64 0]] w fun r w' => r = .returned (.agg #[.bool false, .int .u64 ((0 : Nat) : Int), .int .i64 0, .int .i64 2]) ∧ Below w.heap.size w w' := by
  skip
  go_enter Try.func29, Try.ntmps29
  go_wp2
  refine bodyPost_ret (v := .agg #[.bool false, .int .u64 ((0 : Nat) : Int), .int .i64 0, .int .i64 2]) (by simp [results, Try.results29, go_sem]) rfl ⟨rfl, ?_⟩
  repeat (first | (with_reducible refine Below.setCell ?_ ?ybel _; case ybel => (first | omega | (simp <;> omega))) | (with_reducible refine Below.alloc ?_ ?ybel _; case ybel => (first | omega | (simp <;> omega))) | (with_reducible refine below_drewNs ?_ _) | (with_reducible refine Below.drew ?_) | (with_reducible exact Below.refl _ _))
set_option maxRecDepth 100000 in
set_option maxHeartbeats 1000000 in
theorem rsum_iq (s t : Bool) (m n : Nat) (e f : Int) (w : World) :
    Calls Try.prog 29 #[.agg #[.bool s, .int .u64 ((0 : Nat) : Int), .int .i64 0, .int .i64 1], .agg #[.bool t, .int .u64 ((0 : Nat) : Int), .int .i64 0, .int .i64 2]] w fun r w' => r = .returned (.agg #[.bool false, .int .u64 ((0 : Nat) : Int), .int .i64 0, .int .i64 2]) ∧ Below w.heap.size w w' := by
  skip
  go_enter Try.func29, Try.ntmps29
  go_wp2
  refine bodyPost_ret (v := .agg #[.bool false, .int .u64 ((0 : Nat) : Int), .int .i64 0, .int .i64 2]) (by simp [results, Try.results29, go_sem]) rfl ⟨rfl, ?_⟩
  repeat (first | (with_reducible refine Below.setCell ?_ ?ybel _; case ybel => (first | omega | (simp <;> omega))) | (with_reducible refine Below.alloc ?_ ?ybel _; case ybel => (first | omega | (simp <;> omega))) | (with_reducible refine below_drewNs ?_ _) | (with_reducible refine Below.drew ?_) | (with_reducible exact Below.refl _ _))
set_option maxRecDepth 100000 in
set_option maxHeartbeats 1000000 in
theorem rsum_nq (s t : Bool) (m n : Nat) (e f : Int) (w : World) :
    Calls Try.prog 29 #[.agg #[.bool s, .int .u64 (m : Nat), .int .i64 e, .int .i64 0], .agg #[.bool t, .int .u64 ((0 : Nat) : Int), .int .i64 0, .int .i64 2]] w fun r w' => r = .returned (.agg #[.bool false, .int .u64 ((0 : Nat) : Int), .int .i64 0, .int .i64 2]) ∧ Below w.heap.size w w' := by
  skip
  go_enter Try.func29, Try.ntmps29
  go_wp2
  refine bodyPost_ret (v := .agg #[.bool false, .int .u64 ((0 : Nat) : Int), .int .i64 0, .int .i64 2]) (by simp [results, Try.results29, go_sem]) rfl ⟨rfl, ?_⟩
  repeat (first | (with_reducible refine Below.setCell ?_ ?ybel _; case ybel => (first | omega | (simp <;> omega))) | (with_reducible refine Below.alloc ?_ ?ybel _; case ybel => (first | omega | (simp <;> omega))) | (with_reducible refine below_drewNs ?_ _) | (with_reducible refine Below.drew ?_) | (with_reducible exact Below.refl _ _))
set_option maxRecDepth 100000 in
set_option maxHeartbeats 1000000 in
theorem rsum_ii (s t : Bool) (m n : Nat) (e f : Int) (w : World) (hst : s = t) :
    Calls Try.prog 29 #[.agg #[.bool s, .int .u64 ((0 : Nat) : Int), .int .i64 0, .int .i64 1], .agg #[.bool t, .int .u64 ((0 : Nat) : Int), .int .i64 0, .int .i64 1]] w fun r w' => r = .returned (.agg #[.bool s, .int .u64 ((0 : Nat) : Int), .int .i64 0, .int .i64 1]) ∧ Below w.heap.size w w' := by
  have k : (s == t) = true := by simp [hst]
  clear hst
  go_enter Try.func29, Try.ntmps29
  go_wp2
  refine bodyPost_ret (v := .agg #[.bool s, .int .u64 ((0 : Nat) : Int), .int .i64 0, .int .i64 1]) (by simp [results, Try.results29, go_sem]) rfl ⟨rfl, ?_⟩
  repeat (first | (with_reducible refine Below.setCell ?_ ?ybel _; case ybel => (first | omega | (simp <;> omega))) | (with_reducible refine Below.alloc ?_ ?ybel _; case ybel => (first | omega | (simp <;> omega))) | (with_reducible refine below_drewNs ?_ _) | (with_reducible refine Below.drew ?_) | (with_reducible exact Below.refl _ _))
set_option maxRecDepth 100000 in
set_option maxHeartbeats 1000000 in
theorem rsum_ii1 (s t : Bool) (m n : Nat) (e f : Int) (w : World) (hst : s ≠ t) :
    Calls Try.prog 29 #[.agg #[.bool s, .int .u64 ((0 : Nat) : Int), .int .i64 0, .int .i64 1], .agg #[.bool t, .int .u64 ((0 : Nat) : Int), .int .i64 0, .int .i64 1]] w fun r w' => r = .returned (.agg #[.bool false, .int .u64 ((0 : Nat) : Int), .int .i64 0, .int .i64 2]) ∧ Below w.heap.size w w' := by
  have k : (s == t) = false := by simp; exact hst
  clear hst
  go_enter Try.func29, Try.ntmps29
  go_wp2
  refine bodyPost_ret (v := .agg #[.bool false, .int .u64 ((0 : Nat) : Int), .int .i64 0, .int .i64 2]) (by simp [results, Try.results29, go_sem]) rfl ⟨rfl, ?_⟩
  repeat (first | (with_reducible refine Below.setCell ?_ ?ybel _; case ybel => (first | omega | (simp <;> omega))) | (with_reducible refine Below.alloc ?_ ?ybel _; case ybel => (first | omega | (simp <;> omega))) | (with_reducible refine below_drewNs ?_ _) | (with_reducible refine Below.drew ?_) | (with_reducible exact Below.refl _ _))
set_option maxRecDepth 100000 in
set_option maxHeartbeats 1000000 in
theorem rsum_in (s t : Bool) (m n : Nat) (e f : Int) (w : World) :
    Calls Try.prog 29 #[.agg #[.bool s, .int .u64 ((0 : Nat) : Int), .int .i64 0, .int .i64 1], .agg #[.bool t, .int .u64 (n : Nat), .int .i64 f, .int .i64 0]] w fun r w' => r = .returned (.agg #[.bool s, .int .u64 ((0 : Nat) : Int), .int .i64 0, .int .i64 1]) ∧ Below w.heap.size w w' := by
  skip
  go_enter Try.func29, Try.ntmps29
  go_wp2
  refine bodyPost_ret (v := .agg #[.bool s, .int .u64 ((0 : Nat) : Int), .int .i64 0, .int .i64 1]) (by simp [results, Try.results29, go_sem]) rfl ⟨rfl, ?_⟩
  repeat (first | (with_reducible refine Below.setCell ?_ ?ybel _; case ybel => (first | omega | (simp <;> omega))) | (with_reducible refine Below.alloc ?_ ?ybel _; case ybel => (first | omega | (simp <;> omega))) | (with_reducible refine below_drewNs ?_ _) | (with_reducible refine Below.drew ?_) | (with_reducible exact Below.refl _ _))
set_option maxRecDepth 100000 in
set_option maxHeartbeats 1000000 in
theorem rsum_ni (s t : Bool) (m n : Nat) (e f : Int) (w : World) :
    Calls Try.prog 29 #[.agg #[.bool s, .int .u64 (m : Nat), .int .i64 e, .int .i64 0], .agg #[.bool t, .int .u64 ((0 : Nat) : Int), .int .i64 0, .int .i64 1]] w fun r w' => r = .returned (.agg #[.bool t, .int .u64 ((0 : Nat) : Int), .int .i64 0, .int .i64 1]) ∧ Below w.heap.size w w' := by
  skip
  go_enter Try.func29, Try.ntmps29
  go_wp2
  refine bodyPost_ret (v := .agg #[.bool t, .int .u64 ((0 : Nat) : Int), .int .i64 0, .int .i64 1]) (by simp [results, Try.results29, go_sem]) rfl ⟨rfl, ?_⟩
  repeat (first | (with_reducible refine Below.setCell ?_ ?ybel _; case ybel => (first | omega | (simp <;> omega))) | (with_reducible refine Below.alloc ?_ ?ybel _; case ybel => (first | omega | (simp <;> omega))) | (with_reducible refine below_drewNs ?_ _) | (with_reducible refine Below.drew ?_) | (with_reducible exact Below.refl _ _))
set_option maxRecDepth 100000 in
set_option maxHeartbeats 1000000 in
theorem rsum_zzf (t : Bool) (m n : Nat) (e f : Int) (w : World) (hm : m = 0) (hn : n = 0) :
    Calls Try.prog 29 #[.agg #[.bool false, .int .u64 (m : Nat), .int .i64 e, .int .i64 0], .agg #[.bool t, .int .u64 (n : Nat), .int .i64 f, .int .i64 0]] w fun r w' => r = .returned (.agg #[.bool (false && t), .int .u64 ((0 : Nat) : Int), .int .i64 0, .int .i64 0]) ∧ Below w.heap.size w w' := by
  have k1 : ((m : Int) == 0) = true := by simp; exact hm
  have k2 : ((n : Int) == 0) = true := by simp; exact hn
  clear hm hn
  go_enter Try.func29, Try.ntmps29
  go_wp2
  refine bodyPost_ret (v := .agg #[.bool (false && t), .int .u64 ((0 : Nat) : Int), .int .i64 0, .int .i64 0]) (by simp [results, Try.results29, go_sem]) rfl ⟨rfl, ?_⟩
  repeat (first | (with_reducible refine Below.setCell ?_ ?ybel _; case ybel => (first | omega | (simp <;> omega))) | (with_reducible refine Below.alloc ?_ ?ybel _; case ybel => (first | omega | (simp <;> omega))) | (with_reducible refine below_drewNs ?_ _) | (with_reducible refine Below.drew ?_) | (with_reducible exact Below.refl _ _))
set_option maxRecDepth 100000 in
set_option maxHeartbeats 1000000 in
theorem rsum_zzt (t : Bool) (m n : Nat) (e f : Int) (w : World) (hm : m = 0) (hn : n = 0) :
    Calls Try.prog 29 #[.agg #[.bool true, .int .u64 (m : Nat), .int .i64 e, .int .i64 0], .agg #[.bool t, .int .u64 (n : Nat), .int .i64 f, .int .i64 0]] w fun r w' => r = .returned (.agg #[.bool (true && t), .int .u64 ((0 : Nat) : Int), .int .i64 0, .int .i64 0]) ∧ Below w.heap.size w w' := by
  have k1 : ((m : Int) == 0) = true := by simp; exact hm
  have k2 : ((n : Int) == 0) = true := by simp; exact hn
  clear hm hn
  go_enter Try.func29, Try.ntmps29
  go_wp2
  refine bodyPost_ret (v := .agg #[.bool (true && t), .int .u64 ((0 : Nat) : Int), .int .i64 0, .int .i64 0]) (by simp [results, Try.results29, go_sem]) rfl ⟨rfl, ?_⟩
  repeat (first | (with_reducible refine Below.setCell ?_ ?ybel _; case ybel => (first | omega | (simp <;> omega))) | (with_reducible refine Below.alloc ?_ ?ybel _; case ybel => (first | omega | (simp <;> omega))) | (with_reducible refine below_drewNs ?_ _) | (with_reducible refine Below.drew ?_) | (with_reducible exact Below.refl _ _))
set_option maxRecDepth 100000 in
set_option maxHeartbeats 1000000 in
theorem rsum_zn (s t : Bool) (m n : Nat) (e f : Int) (w : World) (hm : m = 0) (hn : n ≠ 0) :
    Calls Try.prog 29 #[.agg #[.bool s, .int .u64 (m : Nat), .int .i64 e, .int .i64 0], .agg #[.bool t, .int .u64 (n : Nat), .int .i64 f, .int .i64 0]] w fun r w' => r = .returned (.agg #[.bool t, .int .u64 (n : Nat), .int .i64 f, .int .i64 0]) ∧ Below w.heap.size w w' := by
  have k1 : ((m : Int) == 0) = true := by simp; exact hm
  have k2 : ((n : Int) == 0) = false := by simp; exact hn
  clear hm hn
  go_enter Try.func29, Try.ntmps29
  go_wp2
  refine bodyPost_ret (v := .agg #[.bool t, .int .u64 (n : Nat), .int .i64 f, .int .i64 0]) (by simp [results, Try.results29, go_sem]) rfl ⟨rfl, ?_⟩
  repeat (first | (with_reducible refine Below.setCell ?_ ?ybel _; case ybel => (first | omega | (simp <;> omega))) | (with_reducible refine Below.alloc ?_ ?ybel _; case ybel => (first | omega | (simp <;> omega))) | (with_reducible refine below_drewNs ?_ _) | (with_reducible refine Below.drew ?_) | (with_reducible exact Below.refl _ _))
set_option maxRecDepth 100000 in
set_option maxHeartbeats 1000000 in
theorem rsum_nz (s t : Bool) (m n : Nat) (e f : Int) (w : World) (hm : m ≠ 0) (hn : n = 0) :
    Calls Try.prog 29 #[.agg #[.bool s, .int .u64 (m : Nat), .int .i64 e, .int .i64 0], .agg #[.bool t, .int .u64 (n : Nat), .int .i64 f, .int .i64 0]] w fun r w' => r = .returned (.agg #[.bool s, .int .u64 (m : Nat), .int .i64 e, .int .i64 0]) ∧ Below w.heap.size w w' := by
  have k1 : ((m : Int) == 0) = false := by simp; exact hm
  have k2 : ((n : Int) == 0) = true := by simp; exact hn
  clear hm hn
  go_enter Try.func29, Try.ntmps29
  go_wp2
  refine bodyPost_ret (v := .agg #[.bool s, .int .u64 (m : Nat), .int .i64 e, .int .i64 0]) (by simp [results, Try.results29, go_sem]) rfl ⟨rfl, ?_⟩
  repeat (first | (with_reducible refine Below.setCell ?_ ?ybel _; case ybel => (first | omega | (simp <;> omega))) | (with_reducible refine Below.alloc ?_ ?ybel _; case ybel => (first | omega | (simp <;> omega))) | (with_reducible refine below_drewNs ?_ _) | (with_reducible refine Below.drew ?_) | (with_reducible exact Below.refl _ _))
end Go.Proofs.Ytbfdanbepdefnaa
