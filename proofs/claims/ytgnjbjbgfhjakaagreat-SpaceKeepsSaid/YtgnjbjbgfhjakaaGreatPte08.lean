/-
  What each function of package pte answers and leaves in memory: contracts over the translation. Each says its own conditions.
-/
import Derived.Test.YtgnjbjbgfhjakaaGreatProg
import Derived.Test.YtgnjbjbgfhjakaaGreatBits08
import Derived.WalkKit
import Derived.WalkLawsBesides
import Derived.WalkSpells
import Derived.Lib.Hide
import Derived.Below
import Derived.OpenShut
import Derived.Deep.QuietTactic
import Derived.BigQuiet
namespace Go.Proofs.YtgnjbjbgfhjakaaGreat
open Go.RowKit
set_option linter.unusedVariables false

theorem below_drewNsB {B : Nat} {a w : World} (h : Below B a w) : ∀ n, Below B a (w.drewN n)
  | 0 => h
  | n + 1 => (below_drewNsB h n).drew
theorem setCell_drewN (w : World) (n : Nat) (a : Addr) (v : Value) : (w.drewN n).setCell a v = (w.setCell a v).drewN n := rfl
theorem alloc_drewN (w : World) (n : Nat) (o : Obj) : (w.drewN n).alloc o = (w.alloc o).drewN n := rfl
attribute [local go_sem] setCell_drewN alloc_drewN
/-- nothing has changed but that orders were drawn -/
def Dr (w w' : World) : Prop := ∃ n, w' = w.drewN n
theorem Dr.refl (w : World) : Dr w w := ⟨0, rfl⟩
theorem Dr.of (w : World) (n : Nat) : Dr w (w.drewN n) := ⟨n, rfl⟩
theorem Dr.below {w w' : World} (h : Dr w w') : Below w.heap.size w w' := by
  obtain ⟨n, rfl⟩ := h
  exact below_drewNsB (Below.refl _ _) n

theorem Below.ofDrew {w w' : World} (h : ∃ k, w' = w.drewN k) : Below w.heap.size w w' := by
  obtain ⟨k, rfl⟩ := h
  exact below_drewNsB (Below.refl _ _) k
theorem Calls.belowD {P : Program} {f : FuncId} {a : Array Value} {w : World} {v : Value} (h : Calls P f a w fun e w' => e = .returned v ∧ ∃ k, w' = w.drewN k) : Calls P f a w fun e w' => e = .returned v ∧ Below w.heap.size w w' :=
  h.mono fun _ _ ⟨a, b⟩ => ⟨a, Below.ofDrew b⟩
theorem Calls.belowE {P : Program} {f : FuncId} {a : Array Value} {w : World} {v : Value} (h : Calls P f a w fun e w' => e = .returned v ∧ w = w') : Calls P f a w fun e w' => e = .returned v ∧ Below w.heap.size w w' :=
  h.mono fun _ _ ⟨a, b⟩ => ⟨a, b ▸ Below.refl _ _⟩
theorem quiet_sum {P : Program} {f : FuncId} {args : Array Value} {W : World} {a n : Nat} {v : Value} (h : Calls P f args (W.drewN (a + n)) fun e w' => e = .returned v ∧ ∃ m, w' = (W.drewN (a + n)).drewN m) :
    Calls P f args (W.drewN (a + n)) fun e w'' => e = .returned v ∧ ∃ m, w'' = W.drewN (a + m) :=
  h.mono fun _ _ ⟨he, m, hm⟩ => ⟨he, n + m, by rw [hm, World.drewN_drewN, Nat.add_assoc]⟩
theorem take_any (v at_ n : Nat) (w : World) (hv : v < 18446744073709551616) (ha : at_ < 64) (hn : n < 64) : Calls Tryz.prog 119 #[.int .u64 v, .int .i64 at_, .int .i64 n] w fun e w' => e = .returned (.int .u64 (fld v at_ n : Nat)) ∧ ∃ k, w' = w.drewN k := by
  go_enter Tryz.func119, Tryz.ntmps119
  go_wp2
  go_quiet (fail)
  go_wp2
  go_ret
  exact ⟨ret_int (take_eq v at_ n hv hn), _, rfl⟩
theorem lay_any (v at_ n : Nat) (w : World) (hv : v < 18446744073709551616) (ha : at_ < 64) (hn : n < 64) (hs : at_ + n ≤ 64) : Calls Tryz.prog 95 #[.int .u64 v, .int .i64 at_, .int .i64 n] w fun e w' => e = .returned (.int .u64 (v % 2 ^ n * 2 ^ at_ : Nat)) ∧ ∃ k, w' = w.drewN k := by
  go_enter Tryz.func95, Tryz.ntmps95
  go_wp2_with fail
  refine (take_any v 0 n _ hv (by omega) hn).mono ?_
  rintro e w1 ⟨rfl, k, rfl⟩
  go_wp2
  go_ret
  exact ⟨ret_int (lay_eq v at_ n hs), _, rfl⟩
theorem flag_any (b : Bool) (f : Int) (w : World) : Calls Tryz.prog 133 #[.bool b, .int .u64 f] w fun e w' => e = .returned (.int .u64 (flg b f)) ∧ w = w' := by
  cases b
  all_goals
    go_enter Tryz.func133, Tryz.ntmps133
    go_wp2
    go_ret
    exact ⟨rfl, rfl⟩
theorem level_yes (l : Nat) (w : World) (h : l < 3) : Calls Tryz.prog 128 #[.int .i64 l] w fun e w' => e = .returned (.bool true) ∧ w = w' := by
  go_enter Tryz.func128, Tryz.ntmps128
  go_wp2
  go_ret
  exact ⟨ret_bool (decide_eq_true (by omega)), rfl⟩
theorem level_no (l : Int) (w : World) (h : ¬ (0 ≤ l ∧ l < 3)) : Calls Tryz.prog 128 #[.int .i64 l] w fun e w' => e = .returned (.bool false) ∧ w = w' := by
  by_cases h0 : 0 ≤ l
  · go_enter Tryz.func128, Tryz.ntmps128
    go_wp2
    go_ret
    exact ⟨ret_bool (decide_eq_false (by omega)), rfl⟩
  · go_enter Tryz.func128, Tryz.ntmps128
    go_wp2
    go_ret
    exact ⟨rfl, rfl⟩
theorem span_no (l : Int) (w : World) (h : ¬ (0 ≤ l ∧ l < 3)) : Calls Tryz.prog 107 #[.int .i64 l] w fun e w' => e = .returned (.int .u64 0) ∧ w = w' := by
  go_enter Tryz.func107, Tryz.ntmps107
  go_wp2_with fail
  refine (level_no l _ h).mono ?_
  rintro e w1 ⟨rfl, rfl⟩
  go_wp2
  go_ret
  exact ⟨rfl, rfl⟩
theorem span_yes (l : Nat) (w : World) (h : l < 3) : Calls Tryz.prog 107 #[.int .i64 l] w fun e w' => e = .returned (.int .u64 (2 ^ (12 + 9 * l) : Nat)) ∧ w = w' := by
  have h3 : l = 0 ∨ l = 1 ∨ l = 2 := by omega
  have hc := fun w => level_yes l w h
  clear h
  rcases h3 with rfl | rfl | rfl
  all_goals
    have HC := Lib.hid hc; clear hc
    go_enter Tryz.func107, Tryz.ntmps107
    go_wp2_with fail
    refine (HC.out _).mono ?_
    rintro e w1 ⟨rfl, rfl⟩
    go_wp2
    go_ret
    exact ⟨rfl, rfl⟩
theorem take_int (v : Nat) (at_ n : Nat) (ia ni : Int) (w : World) (hv : v < 18446744073709551616) (h1 : ia = at_) (h2 : ni = n) (ha : at_ < 64) (hn : n < 64) : Calls Tryz.prog 119 #[.int .u64 v, .int .i64 ia, .int .i64 ni] w fun e w' => e = .returned (.int .u64 (fld v at_ n : Nat)) ∧ ∃ k, w' = w.drewN k := by
  subst h1 h2
  exact take_any v at_ n w hv ha hn
theorem index_yes (va l : Nat) (w : World) (hv : va < 18446744073709551616) (h : l < 3) : Calls Tryz.prog 120 #[.int .u64 va, .int .i64 l] w fun e w' => e = .returned (.int .i64 (fld va (12 + 9 * l) 9 : Nat)) ∧ ∃ k, w' = w.drewN k := by
  have hc := fun w => level_yes l w h
  have ht := fun w => take_int va (12 + 9 * l) 9 (12 + l * 9) 9 w hv (by omega) rfl (by omega) (by omega)
  have hf := fld_lt va (12 + 9 * l) 9
  generalize fld va (12 + 9 * l) 9 = X at ht hf ⊢
  have hf : X < 512 := hf
  have HC := Lib.hid hc; have HT := Lib.hid ht; clear hc ht
  go_enter Tryz.func120, Tryz.ntmps120
  go_wp2_with fail
  refine (HC.out _).mono ?_
  rintro e w1 ⟨rfl, rfl⟩
  go_wp2_with fail
  refine (HT.out _).mono ?_
  rintro e w1 ⟨rfl, k, rfl⟩
  go_wp2
  go_ret
  exact ⟨rfl, _, rfl⟩
theorem vpn_any (va : Nat) (w : World) (hv : va < 18446744073709551616) : Calls Tryz.prog 138 #[.int .u64 va] w fun e w' => e = .returned (.int .u64 (fld va 12 27 : Nat)) ∧ ∃ k, w' = w.drewN k := by
  go_enter Tryz.func138, Tryz.ntmps138
  go_wp2_with fail
  refine (take_int va 12 27 12 27 _ hv rfl rfl (by omega) (by omega)).mono ?_
  rintro e w1 ⟨rfl, k, rfl⟩
  go_wp2
  go_ret
  exact ⟨rfl, _, rfl⟩
theorem can_any (va : Nat) (w : World) (hv : va < 18446744073709551616) : Calls Tryz.prog 88 #[.int .u64 va] w fun e w' => e = .returned (.bool (canN va)) ∧ w = w' := by
  go_enter Tryz.func88, Tryz.ntmps88
  go_wp2
  go_ret
  exact ⟨ret_bool (can_eq va hv), rfl⟩
theorem join_yes (ppn va l : Nat) (w : World) (hp : ppn < 18446744073709551616) (hv : va < 18446744073709551616) (h : l < 3) : Calls Tryz.prog 116 #[.int .u64 ppn, .int .u64 va, .int .i64 l] w fun e w' => e = .returned (.int .u64 (joinN ppn va (2 ^ (12 + 9 * l)) : Nat)) ∧ w = w' := by
  have hc := fun w => level_yes l w h
  have hs := fun w => span_yes l w h
  have hb := pow_b (show 12 + 9 * l < 64 by omega)
  obtain ⟨S, hS⟩ : ∃ S, S = 2 ^ (12 + 9 * l) := ⟨_, rfl⟩
  rw [← hS] at hs hb ⊢
  have HC := Lib.hid hc; have HS := Lib.hid hs; have HE := Lib.hid hS; have HK := Lib.hid (show 12 + 9 * l < 64 by omega); clear hc hs hS h
  obtain ⟨hb0, hb1⟩ := hb
  go_enter Tryz.func116, Tryz.ntmps116
  go_wp2_with fail
  refine (HC.out _).mono ?_
  rintro e w1 ⟨rfl, rfl⟩
  go_wp2_with fail
  refine (HS.out _).mono ?_
  rintro e w1 ⟨rfl, rfl⟩
  go_wp2
  go_ret
  refine ⟨ret_int ?_, rfl⟩
  rw [HE.out]
  exact join_eq ppn va (12 + 9 * l) hp hv HK.out
theorem lay_int (v : Int) (at_ n : Nat) (ia ni : Int) (P Q : Int) (w : World) (h0 : 0 ≤ v) (hv : v < 18446744073709551616) (h1 : ia = at_) (h2 : ni = n) (hP : P = (2 ^ n : Nat)) (hQ : Q = (2 ^ at_ : Nat)) (ha : at_ < 64) (hn : n < 64) (hs : at_ + n ≤ 64) : Calls Tryz.prog 95 #[.int .u64 v, .int .i64 ia, .int .i64 ni] w fun e w' => e = .returned (.int .u64 (v % P * Q)) ∧ ∃ k, w' = w.drewN k := by
  obtain ⟨m, rfl⟩ : ∃ m : Nat, v = m := ⟨v.toNat, by omega⟩
  subst h1 h2 hP hQ
  exact lay_any m at_ n w (by omega) ha hn hs
theorem lay_rsw (v : Int) (w : World) (h0 : 0 ≤ v) (hv : v < 18446744073709551616) : Calls Tryz.prog 95 #[.int .u64 v, .int .i64 8, .int .i64 2] w fun e w' => e = .returned (.int .u64 (v % 4 * 256)) ∧ ∃ k, w' = w.drewN k :=
  lay_int v 8 2 8 2 4 256 w h0 hv rfl rfl rfl rfl (by omega) (by omega) (by omega)
theorem lay_ppn (v : Int) (w : World) (h0 : 0 ≤ v) (hv : v < 18446744073709551616) : Calls Tryz.prog 95 #[.int .u64 v, .int .i64 10, .int .i64 44] w fun e w' => e = .returned (.int .u64 (v % 17592186044416 * 1024)) ∧ ∃ k, w' = w.drewN k :=
  lay_int v 10 44 10 44 17592186044416 1024 w h0 hv rfl rfl rfl rfl (by omega) (by omega) (by omega)
theorem lay_root (v : Int) (w : World) (h0 : 0 ≤ v) (hv : v < 18446744073709551616) : Calls Tryz.prog 95 #[.int .u64 v, .int .i64 0, .int .i64 44] w fun e w' => e = .returned (.int .u64 (v % 17592186044416 * 1)) ∧ ∃ k, w' = w.drewN k :=
  lay_int v 0 44 0 44 17592186044416 1 w h0 hv rfl rfl rfl rfl (by omega) (by omega) (by omega)
theorem lay_asid (v : Int) (w : World) (h0 : 0 ≤ v) (hv : v < 18446744073709551616) : Calls Tryz.prog 95 #[.int .u64 v, .int .i64 44, .int .i64 16] w fun e w' => e = .returned (.int .u64 (v % 65536 * 17592186044416)) ∧ ∃ k, w' = w.drewN k :=
  lay_int v 44 16 44 16 65536 17592186044416 w h0 hv rfl rfl rfl rfl (by omega) (by omega) (by omega)
theorem lay_mode (v : Int) (w : World) (h0 : 0 ≤ v) (hv : v < 18446744073709551616) : Calls Tryz.prog 95 #[.int .u64 v, .int .i64 60, .int .i64 4] w fun e w' => e = .returned (.int .u64 (v % 16 * 1152921504606846976)) ∧ ∃ k, w' = w.drewN k :=
  lay_int v 60 4 60 4 16 1152921504606846976 w h0 hv rfl rfl rfl rfl (by omega) (by omega) (by omega)
theorem leaf_any (e : Ent) (w : World) : Calls Tryz.prog 123 #[pv e] w fun r w' => r = .returned (.bool (e.r || e.x)) ∧ Below w.heap.size w w' := by
  obtain ⟨v, r, x1, x, u, g, a, d, rsw, ppn⟩ := e
  unfold pv
  cases r
  all_goals
    go_enter Tryz.func123, Tryz.ntmps123
    go_wp2
    go_ret
    refine ⟨rfl, ?_⟩
    repeat (first | (with_reducible refine Below.setCell ?_ ?ybel _; case ybel => (first | omega | (simp <;> omega))) | (with_reducible refine Below.alloc ?_ ?ybel _; case ybel => (first | omega | (simp <;> omega))) | (with_reducible refine below_drewNsB ?_ _) | (with_reducible refine below_drewNs ?_ _) | (with_reducible refine Below.drew ?_) | (with_reducible exact Below.refl _ _))
theorem right_any (e : Ent) (w : World) : Calls Tryz.prog 122 #[pv e] w fun r w' => r = .returned (.bool (e.v && (e.r || !e.w))) ∧ Below w.heap.size w w' := by
  obtain ⟨v, r, x1, x, u, g, a, d, rsw, ppn⟩ := e
  unfold pv
  cases v <;> cases r
  all_goals
    go_enter Tryz.func122, Tryz.ntmps122
    go_wp2
    go_ret
    refine ⟨rfl, ?_⟩
    repeat (first | (with_reducible refine Below.setCell ?_ ?ybel _; case ybel => (first | omega | (simp <;> omega))) | (with_reducible refine Below.alloc ?_ ?ybel _; case ybel => (first | omega | (simp <;> omega))) | (with_reducible refine below_drewNsB ?_ _) | (with_reducible refine below_drewNs ?_ _) | (with_reducible refine Below.drew ?_) | (with_reducible exact Below.refl _ _))
set_option maxHeartbeats 2000000 in
theorem put_any (e : Ent) (w : World) (hr : -9223372036854775808 ≤ e.rsw ∧ e.rsw ≤ 9223372036854775807) (hp : e.ppn < 18446744073709551616) : Calls Tryz.prog 124 #[pv e] w fun r w' => r = .returned (.int .u64 (wordE e : Nat)) ∧ Below w.heap.size w w' := by
  obtain ⟨v, r, x1, x, u, g, a, d, rsw, ppn⟩ := e
  unfold pv
  dsimp only at hr hp ⊢
  obtain ⟨hr0, hr1⟩ := hr
  have h1 := fun w => lay_rsw (IntKind.u64.wrap rsw) w (by rw [wrap_u64B]; omega) (by rw [wrap_u64B]; omega)
  have h2 := fun w => lay_ppn (ppn : Int) w (by omega) (by omega)
  have H1 := Lib.hid h1; have H2 := Lib.hid h2; clear h1 h2
  go_enter Tryz.func124, Tryz.ntmps124
  go_wp2
  go_quiet ((go_at_call 133; exact Calls.quiet_of_same ((flag_any _ _ _).mono fun _ _ h => ⟨h.1, h.2.symm⟩)))
  go_wp2
  go_quiet ((go_at_call 95; first | with_reducible exact quiet_sum (H1.out _) | with_reducible exact quiet_sum (H2.out _)))
  go_wp2
  go_ret
  refine ⟨ret_int (put_eq v r x1 x u g a d rsw ppn), ?_⟩
  repeat (first | (with_reducible refine Below.setCell ?_ ?ybel _; case ybel => (first | omega | (simp <;> omega))) | (with_reducible refine Below.alloc ?_ ?ybel _; case ybel => (first | omega | (simp <;> omega))) | (with_reducible refine below_drewNsB ?_ _) | (with_reducible refine below_drewNs ?_ _) | (with_reducible refine Below.drew ?_) | (with_reducible exact Below.refl _ _))
theorem putS_any (s : Stp) (w : World) (hr : -9223372036854775808 ≤ s.asid ∧ s.asid ≤ 9223372036854775807) (hp : s.ppn < 18446744073709551616) : Calls Tryz.prog 68 #[sv s] w fun r w' => r = .returned (.int .u64 (wordS s : Nat)) ∧ Below w.heap.size w w' := by
  obtain ⟨on, asid, ppn⟩ := s
  unfold sv
  dsimp only at hr hp ⊢
  obtain ⟨hr0, hr1⟩ := hr
  have h1 := fun w => lay_root (ppn : Int) w (by omega) (by omega)
  have h2 := fun w => lay_asid (IntKind.u64.wrap asid) w (by rw [wrap_u64B]; omega) (by rw [wrap_u64B]; omega)
  have h3 := fun w => lay_mode 8 w (by omega) (by omega)
  have h4 := fun w => lay_mode 0 w (by omega) (by omega)
  have H1 := Lib.hid h1; have H2 := Lib.hid h2; have H3 := Lib.hid h3; have H4 := Lib.hid h4; clear h1 h2 h3 h4
  cases on
  all_goals
    go_enter Tryz.func68, Tryz.ntmps68
    go_wp2
    go_quiet ((go_at_call 95; first | with_reducible exact Calls.quiet_of (H1.out _) | with_reducible exact Calls.quiet_of (H2.out _) | with_reducible exact Calls.quiet_of (H3.out _) | with_reducible exact Calls.quiet_of (H4.out _)))
    go_wp2
    go_ret
    refine ⟨ret_int ?_, ?_⟩
    · first | exact putS_eq 0 false asid ppn rfl | exact putS_eq 9223372036854775808 true asid ppn rfl
    repeat (first | (with_reducible refine Below.setCell ?_ ?ybel _; case ybel => (first | omega | (simp <;> omega))) | (with_reducible refine Below.alloc ?_ ?ybel _; case ybel => (first | omega | (simp <;> omega))) | (with_reducible refine below_drewNsB ?_ _) | (with_reducible refine below_drewNs ?_ _) | (with_reducible refine Below.drew ?_) | (with_reducible exact Below.refl _ _))
theorem get_any (x : Nat) (w : World) (hv : x < 18446744073709551616) : Calls Tryz.prog 121 #[.int .u64 x] w fun r w' => r = .returned (.tuple #[pv (entW x), .bool (decide (x < 18014398509481984))]) ∧ Below w.heap.size w w' := by
  have h1 := fun w => take_int x 8 2 8 2 w hv rfl rfl (by omega) (by omega)
  have h2 := fun w => take_int x 10 44 10 44 w hv rfl rfl (by omega) (by omega)
  have f1 : fld x 8 2 < 4 := fld_lt x 8 2
  have q1 := fld_rsw x
  have q2 := fld_ppn x
  obtain ⟨b0, e0⟩ : ∃ b, b = (x % 2 == 1) := ⟨_, rfl⟩
  have g0 : (bits .and .u64 (x : Int) 1 != 0) = b0 := by rw [e0]; have := bit_ne x 0 hv (by omega); rw [Nat.pow_zero, Nat.div_one] at this; exact this
  obtain ⟨b1, e1⟩ : ∃ b, b = (x / 2 % 2 == 1) := ⟨_, rfl⟩
  have g1 : (bits .and .u64 (x : Int) 2 != 0) = b1 := by rw [e1]; exact bit_ne x 1 hv (by omega)
  obtain ⟨b2, e2⟩ : ∃ b, b = (x / 4 % 2 == 1) := ⟨_, rfl⟩
  have g2 : (bits .and .u64 (x : Int) 4 != 0) = b2 := by rw [e2]; exact bit_ne x 2 hv (by omega)
  obtain ⟨b3, e3⟩ : ∃ b, b = (x / 8 % 2 == 1) := ⟨_, rfl⟩
  have g3 : (bits .and .u64 (x : Int) 8 != 0) = b3 := by rw [e3]; exact bit_ne x 3 hv (by omega)
  obtain ⟨b4, e4⟩ : ∃ b, b = (x / 16 % 2 == 1) := ⟨_, rfl⟩
  have g4 : (bits .and .u64 (x : Int) 16 != 0) = b4 := by rw [e4]; exact bit_ne x 4 hv (by omega)
  obtain ⟨b5, e5⟩ : ∃ b, b = (x / 32 % 2 == 1) := ⟨_, rfl⟩
  have g5 : (bits .and .u64 (x : Int) 32 != 0) = b5 := by rw [e5]; exact bit_ne x 5 hv (by omega)
  obtain ⟨b6, e6⟩ : ∃ b, b = (x / 64 % 2 == 1) := ⟨_, rfl⟩
  have g6 : (bits .and .u64 (x : Int) 64 != 0) = b6 := by rw [e6]; exact bit_ne x 6 hv (by omega)
  obtain ⟨b7, e7⟩ : ∃ b, b = (x / 128 % 2 == 1) := ⟨_, rfl⟩
  have g7 : (bits .and .u64 (x : Int) 128 != 0) = b7 := by rw [e7]; exact bit_ne x 7 hv (by omega)
  have g8 := top_eq x
  unfold pv entW
  dsimp only
  rw [← e0, ← e1, ← e2, ← e3, ← e4, ← e5, ← e6, ← e7, ← q1, ← q2]
  generalize decide (x < 18014398509481984) = c at g8 ⊢
  generalize fld x 8 2 = r at h1 f1 ⊢
  generalize fld x 10 44 = p at h2 ⊢
  have H1 := Lib.hid h1; have H2 := Lib.hid h2; clear h1 h2 e0 e1 e2 e3 e4 e5 e6 e7 q1 q2
  go_enter Tryz.func121, Tryz.ntmps121
  go_wp2_with fail
  refine (H1.out _).mono ?_
  rintro e w1 ⟨rfl, n, rfl⟩
  go_wp2_with fail
  refine (H2.out _).mono ?_
  rintro e w1 ⟨rfl, m, rfl⟩
  go_wp2
  refine bodyPost_ret (v := .tuple #[.agg #[.bool b0, .bool b1, .bool b2, .bool b3, .bool b4, .bool b5, .bool b6, .bool b7, .int .i64 (r : Int), .int .u64 (p : Int)], .bool c]) (by simp [results, Tryz.results121, go_sem]) rfl ⟨rfl, ?_⟩
  repeat (first | (with_reducible refine Below.setCell ?_ ?ybel _; case ybel => (first | omega | (simp <;> omega))) | (with_reducible refine Below.alloc ?_ ?ybel _; case ybel => (first | omega | (simp <;> omega))) | (with_reducible refine below_drewNsB ?_ _) | (with_reducible refine below_drewNs ?_ _) | (with_reducible refine Below.drew ?_) | (with_reducible exact Below.refl _ _))
theorem getS_any (x : Nat) (w : World) (hv : x < 18446744073709551616) : Calls Tryz.prog 94 #[.int .u64 x] w fun r w' => r = .returned (if modeW x = 0 ∨ modeW x = 8 then .tuple #[sv (stpW x), .bool true] else .tuple #[sv ⟨false, 0, 0⟩, .bool false]) ∧ Below w.heap.size w w' := by
  have h0 := fun w => take_int x 60 4 60 4 w hv rfl rfl (by omega) (by omega)
  have h1 := fun w => take_int x 44 16 44 16 w hv rfl rfl (by omega) (by omega)
  have h2 := fun w => take_int x 0 44 0 44 w hv rfl rfl (by omega) (by omega)
  have f1 : fld x 44 16 < 65536 := fld_lt x 44 16
  have f0 : modeW x < 16 := by rw [← fld_mode x hv]; exact fld_lt x 60 4
  rw [fld_mode x hv] at h0
  unfold sv stpW
  dsimp only
  rw [← fld_asid, ← fld_root]
  generalize fld x 44 16 = a at h1 f1 ⊢
  generalize fld x 0 44 = p at h2 ⊢
  generalize modeW x = t at h0 f0 ⊢
  have H0 := Lib.hid h0; have H1 := Lib.hid h1; have H2 := Lib.hid h2; clear h0 h1 h2
  by_cases z0 : t = 0
  · subst z0
    rw [if_pos (.inl rfl)]
    go_enter Tryz.func94, Tryz.ntmps94
    go_wp2_with fail
    refine (H0.out _).mono ?_
    rintro e w1 ⟨rfl, n0, rfl⟩
    go_wp2_with fail
    refine (H1.out _).mono ?_
    rintro e w1 ⟨rfl, n, rfl⟩
    go_wp2_with fail
    refine (H2.out _).mono ?_
    rintro e w1 ⟨rfl, m, rfl⟩
    go_wp2
    refine bodyPost_ret (v := .tuple #[.agg #[.bool false, .int .i64 (a : Int), .int .u64 (p : Int)], .bool true]) (by simp [results, Tryz.results94, go_sem]) rfl ⟨rfl, ?_⟩
    repeat (first | (with_reducible refine Below.setCell ?_ ?ybel _; case ybel => (first | omega | (simp <;> omega))) | (with_reducible refine Below.alloc ?_ ?ybel _; case ybel => (first | omega | (simp <;> omega))) | (with_reducible refine below_drewNsB ?_ _) | (with_reducible refine below_drewNs ?_ _) | (with_reducible refine Below.drew ?_) | (with_reducible exact Below.refl _ _))
  · by_cases z8 : t = 8
    · subst z8
      rw [if_pos (.inr rfl)]
      go_enter Tryz.func94, Tryz.ntmps94
      go_wp2_with fail
      refine (H0.out _).mono ?_
      rintro e w1 ⟨rfl, n0, rfl⟩
      go_wp2_with fail
      refine (H1.out _).mono ?_
      rintro e w1 ⟨rfl, n, rfl⟩
      go_wp2_with fail
      refine (H2.out _).mono ?_
      rintro e w1 ⟨rfl, m, rfl⟩
      go_wp2
      refine bodyPost_ret (v := .tuple #[.agg #[.bool true, .int .i64 (a : Int), .int .u64 (p : Int)], .bool true]) (by simp [results, Tryz.results94, go_sem]) rfl ⟨rfl, ?_⟩
      repeat (first | (with_reducible refine Below.setCell ?_ ?ybel _; case ybel => (first | omega | (simp <;> omega))) | (with_reducible refine Below.alloc ?_ ?ybel _; case ybel => (first | omega | (simp <;> omega))) | (with_reducible refine below_drewNsB ?_ _) | (with_reducible refine below_drewNs ?_ _) | (with_reducible refine Below.drew ?_) | (with_reducible exact Below.refl _ _))
    · rw [if_neg (by omega)]
      have k0 : ((t : Int) != 0) = true := by simp; omega
      have k8 : ((t : Int) != 8) = true := by simp; omega
      clear z0 z8
      go_enter Tryz.func94, Tryz.ntmps94
      go_wp2_with fail
      refine (H0.out _).mono ?_
      rintro e w1 ⟨rfl, n0, rfl⟩
      go_wp2
      refine bodyPost_ret (v := .tuple #[.agg #[.bool false, .int .i64 0, .int .u64 ((0 : Nat) : Int)], .bool false]) (by simp [results, Tryz.results94, go_sem]) rfl ⟨rfl, ?_⟩
      repeat (first | (with_reducible refine Below.setCell ?_ ?ybel _; case ybel => (first | omega | (simp <;> omega))) | (with_reducible refine Below.alloc ?_ ?ybel _; case ybel => (first | omega | (simp <;> omega))) | (with_reducible refine below_drewNsB ?_ _) | (with_reducible refine below_drewNs ?_ _) | (with_reducible refine Below.drew ?_) | (with_reducible exact Below.refl _ _))
end Go.Proofs.YtgnjbjbgfhjakaaGreat
