/-
  What each function of the document's answer for layer 4 (package runrigref04) answers and leaves in memory: contracts over the translation. Each says its own conditions.
-/
import Derived.Test.YtbfdanbepdefnaaProg
import Derived.Test.YtbfdanbepdefnaaFr
import Derived.WalkKit
import Derived.WalkLawsBesides
import Derived.WalkSpells
import Derived.Lib.Hide
import Derived.Below
import Derived.OpenShut
import Derived.Deep.QuietTactic
import Derived.BigQuiet
namespace Go.Proofs.Ytbfdanbepdefnaa
open Go.RowKit Ieee
set_option linter.unusedVariables false

theorem ret_int {k : IntKind} {a b : Int} (h : a = b) : Ending.returned (.int k a) = .returned (.int k b) := by rw [h]
theorem int_eq {k : IntKind} {a b : Int} (h : a = b) : Value.int k a = .int k b := by rw [h]
theorem below_drewNs {B : Nat} {a w : World} (h : Below B a w) : ∀ n, Below B a (w.drewN n)
  | 0 => h
  | n + 1 => (below_drewNs h n).drew
theorem setCell_drewN (w : World) (n : Nat) (a : Addr) (v : Value) : (w.drewN n).setCell a v = (w.setCell a v).drewN n := rfl
theorem alloc_drewN (w : World) (n : Nat) (o : Obj) : (w.drewN n).alloc o = (w.alloc o).drewN n := rfl
attribute [local go_sem] setCell_drewN alloc_drewN
theorem bcell {W w1 : World} (hb : Below W.heap.size W w1) : (∀ b o, b < W.heap.size → w1.cell? ⟨b, o, none⟩ = W.cell? ⟨b, o, none⟩) ∧ (∀ b o, b < W.heap.size → w1.frozen? ⟨b, o, none⟩ = W.frozen? ⟨b, o, none⟩) :=
  ⟨fun b o h => hb.cell (p := ⟨b, o, none⟩) h, fun b o h => hb.frozen (p := ⟨b, o, none⟩) h⟩
theorem bl_half {m : Nat} (h : m ≠ 0) : bl m = bl (m / 2) + 1 := by
  by_cases h2 : m / 2 = 0
  · have : m = 1 := by omega
    subst this; decide
  · have := bl_of_div (n := m) (k := 1) (by simpa using h2)
    simpa using this
theorem rbitlen_any (m : Nat) (w : World) (h : m < 18446744073709551616) : Calls Try.prog 39 #[.int .u64 m] w fun e w' => e = .returned (.int .i64 (bl m)) ∧ w = w' := by
  have h64 : bl m ≤ 64 := bl_le h
  go_enter Try.func39, Try.ntmps39
  go_wp2
  go_loop [0, 3] (fun x n => ∃ (m' k : Nat), x = .int .u64 (m' : Int) ∧ n = .int .i64 (k : Int) ∧ k + bl m' = bl m ∧ m' ≤ m) (fun x _ => (intOf x).toNat)
  case atStart => exact ⟨m, 0, rfl, rfl, by omega, Nat.le_refl _⟩
  case round =>
    obtain ⟨m', k, rfl, rfl, hk, hm⟩ := hrel
    by_cases h0 : m' = 0
    · subst h0
      rw [bl_zero] at hk
      have HK := Lib.hid hk; clear hk
      go_wp2
      go_ret
      exact ⟨ret_int (by have := HK.out; omega), rfl⟩
    · have h1 := bl_half h0
      have h2 : 0 < m' := by omega
      have h3 : k + 1 ≤ 64 := by omega
      have h4 : m' ≤ 18446744073709551615 := by omega
      have HK : Hid (k + 1 + bl (m' / 2) = bl m) := by show k + 1 + bl (m' / 2) = bl m; omega
      clear hk h1 h0
      go_wp2
      go_round
      case rel => exact ⟨m' / 2, k + 1, by go_num, by go_num, HK.out, by omega⟩
      case measure => simp [intOf]; omega

theorem rfit_done (s : Bool) (m : Nat) (e : Int) (k : Int) (wd : Nat) (l : Int) (odd : Bool) (w : World) (hm : m < 18446744073709551616) (he : -4000 ≤ e) (he' : e ≤ 4000) (hw : wd ≤ 64) (hl : -4000 ≤ l) (hl' : l ≤ 4000)
    (hc1 : (bl m : Int) ≤ wd) (hc2 : l ≤ e) :
    Calls Try.prog 40 #[.agg #[.bool s, .int .u64 m, .int .i64 e, .int .i64 k], .int .i64 wd, .int .i64 l, .bool odd] w fun x w' => x = .returned (.agg #[.bool s, .int .u64 m, .int .i64 e, .int .i64 k]) ∧ Below w.heap.size w w' := by
  have h64 : bl m ≤ 64 := bl_le hm
  have hd1 : (bl m : Int) - wd ≤ 0 := by omega
  have hd2 : l - e ≤ 0 := by omega
  rcases Int.lt_or_le ((bl m : Int) - wd) (l - e) with hx | hx
  all_goals
    clear hc1 hc2
    go_enter Try.func40, Try.ntmps40
    go_wp2
    go_quiet ((go_at_call 39; exact Calls.quiet_of_same ((rbitlen_any _ _ (by assumption)).mono fun _ _ h => ⟨h.1, h.2.symm⟩)))
    go_wp2
    refine bodyPost_ret (v := .agg #[.bool s, .int .u64 m, .int .i64 e, .int .i64 k]) (by simp [results, Try.results40, go_sem]) rfl ⟨rfl, ?_⟩
    repeat (first | (with_reducible refine Below.setCell ?_ ?ybel _; case ybel => (first | omega | (simp <;> omega))) | (with_reducible refine Below.alloc ?_ ?ybel _; case ybel => (first | omega | (simp <;> omega))) | (with_reducible refine below_drewNs ?_ _) | (with_reducible refine Below.drew ?_) | (with_reducible exact Below.refl _ _))

/-- a round of the cutting, and the call behind it -/
theorem rfit_recA (s : Bool) (m : Nat) (e : Int) (k : Int) (wd : Nat) (l : Int) (odd : Bool) (w : World) (c : Nat) (m2 : Nat) (e2 : Int) (hm : m < 18446744073709551616) (he : -4000 ≤ e) (he' : e ≤ 4000) (hw : wd ≤ 64) (hl : -4000 ≤ l) (hl' : l ≤ 4000)
    (hc : max ((bl m : Int) - wd) (l - e) = c) (hx : (bl m : Int) - wd < l - e) (hc1 : 1 ≤ c) (hc2 : c ≤ 4000)
    (hcall : ∀ w : World, Calls Try.prog 40 #[.agg #[.bool s, .int .u64 (rns m c odd : Nat), .int .i64 (e + c), .int .i64 k], .int .i64 wd, .int .i64 l, .bool false] w fun x w' => x = .returned (.agg #[.bool s, .int .u64 (m2 : Nat), .int .i64 e2, .int .i64 k]) ∧ Below w.heap.size w w') :
    Calls Try.prog 40 #[.agg #[.bool s, .int .u64 m, .int .i64 e, .int .i64 k], .int .i64 wd, .int .i64 l, .bool odd] w fun x w' => x = .returned (.agg #[.bool s, .int .u64 m2, .int .i64 e2, .int .i64 k]) ∧ Below w.heap.size w w' := by
  have h64 : bl m ≤ 64 := bl_le hm
  have hup := fit_up m c odd hc1
  have HUP := Lib.hid hup
  have HCALL := Lib.hid hcall
  have hd1 : (c : Int) = max ((bl m : Int) - wd) (l - e) := hc.symm
  clear hc hup hcall
  · have hd2 : (c : Int) = l - e := by omega
    have HD1 := Lib.hid hd1
    have HD2 := Lib.hid hd2
    have hd3 : ¬ (l - e ≤ 0) := by omega
    have hd4 : l - e ≤ 4000 := by omega
    clear hd1 hd2
    go_enter Try.func40, Try.ntmps40
    go_wp2
    go_quiet ((go_at_call 39; exact Calls.quiet_of_same ((rbitlen_any _ _ (by assumption)).mono fun _ _ h => ⟨h.1, h.2.symm⟩)))
    go_wp2
    go_loopw [10, 11, 12] (fun r h i wr => ∃ (j : Nat), j ≤ c ∧ i = .int .i64 (j : Int) ∧ r = .bool (rsB odd m j) ∧ h = .bool (hfB m j) ∧
        wr = ((w.alloc (.cells #[.bool s, .int .u64 (m / 2 ^ j : Nat), .int .i64 (e + j), .int .i64 k] 41)).alloc (.cells #[.bool false, .int .u64 0, .int .i64 0, .int .i64 0] 41)).drewN nq) (fun _ _ i _ => c - (intOf i).toNat)
    case atStart => exact ⟨0, Nat.zero_le _, rfl, by rw [rsB_zero], by rw [hfB_zero], by simp⟩
    case round =>
      obtain ⟨j, hj, rfl, rfl, rfl, rfl⟩ := hrel
      by_cases hjc : j < c
      · have r1 := rsB_succ odd m j
        have r2 := hfB_succ m j
        have d1 := div_succ m j
        have bM : m / 2 ^ j ≤ 18446744073709551615 := Nat.le_trans (Nat.div_le_self _ _) (by omega)
        have hjl : (j : Int) < l - e := by have := HD2.out; omega
        generalize m / 2 ^ j = M at r2 d1 bM ⊢
        generalize rsB odd m j = R at r1 ⊢
        generalize hfB m j = H at r1 ⊢
        have R1 := Lib.hid r1; have R2 := Lib.hid r2; have D1 := Lib.hid d1
        clear r1 r2 d1
        cases R
        all_goals
          go_wp2
          go_roundw
          case rel =>
            refine ⟨j + 1, by omega, by go_num, congrArg Value.bool (by rw [R1.out]; simp), congrArg Value.bool (by rw [R2.out, Bool.eq_iff_iff]; simp; omega), ?_⟩
            rw [D1.out, show (e + ((j + 1 : Nat) : Int)) = e + j + 1 from by omega, show ((M / 2 : Nat) : Int) = (M : Int) / 2 from by omega]
          case measure => simp [intOf]; omega
      · obtain rfl : j = c := by omega
        have hjl : ¬ (j : Int) < l - e := by have := HD2.out; omega
        have bM : m / 2 ^ j ≤ 9223372036854775807 := by
          have h2 : 2 ^ 1 ≤ 2 ^ j := Nat.pow_le_pow_right (by decide) hc1
          exact Nat.le_trans (Nat.div_le_div_left h2 (by decide)) (by omega)
        have hup := HUP.out
        have hcall := HCALL.out
        clear HUP HCALL
        generalize m / 2 ^ j = M at hup bM ⊢
        generalize rsB odd m j = R at hup ⊢
        generalize hfB m j = H at hup ⊢
        cases H
        · have h1 : rns m j odd = M := by rw [← hup]; rfl
          rw [h1] at hcall
          clear hup h1
          go_wp2_with fail
          refine (hcall _).mono ?_
          rintro x w2 ⟨rfl, hb⟩
          have HB := Lib.hid hb
          obtain ⟨hbc, hbf⟩ := bcell hb
          have hz : w.heap.size + 1 < w2.heap.size := by have := hb.size; simp at this; omega
          clear hb
          go_wp2
          refine bodyPost_ret (v := .agg #[.bool s, .int .u64 m2, .int .i64 e2, .int .i64 k]) (by simp [results, Try.results40, go_sem, hbc]) rfl ⟨rfl, ?_⟩
          repeat (first | (with_reducible refine Below.setCell ?_ ?ybel _; case ybel => (first | omega | (simp <;> omega))) | (with_reducible refine Below.alloc ?_ ?ybel _; case ybel => (first | omega | (simp <;> omega))) | (with_reducible refine below_drewNs ?_ _) | (with_reducible refine Below.drew ?_) | (with_reducible exact Below.refl _ _))
          refine Below.trans ?_ (HB.out.mono (by simp; omega))
          repeat (first | (with_reducible refine Below.setCell ?_ ?ybel _; case ybel => (first | omega | (simp <;> omega))) | (with_reducible refine Below.alloc ?_ ?ybel _; case ybel => (first | omega | (simp <;> omega))) | (with_reducible refine below_drewNs ?_ _) | (with_reducible refine Below.drew ?_) | (with_reducible exact Below.refl _ _))
        · cases R
          · by_cases hM2 : M % 2 = 1
            · have h1 : rns m j odd = M + 1 := by rw [← hup]; simp [hM2]
              have h2 : ((M : Int) % 2 == 1) = true := by simp; omega
              rw [h1] at hcall
              clear hup h1
              go_wp2_with fail
              refine (hcall _).mono ?_
              rintro x w2 ⟨rfl, hb⟩
              have HB := Lib.hid hb
              obtain ⟨hbc, hbf⟩ := bcell hb
              have hz : w.heap.size + 1 < w2.heap.size := by have := hb.size; simp at this; omega
              clear hb
              go_wp2
              refine bodyPost_ret (v := .agg #[.bool s, .int .u64 m2, .int .i64 e2, .int .i64 k]) (by simp [results, Try.results40, go_sem, hbc]) rfl ⟨rfl, ?_⟩
              repeat (first | (with_reducible refine Below.setCell ?_ ?ybel _; case ybel => (first | omega | (simp <;> omega))) | (with_reducible refine Below.alloc ?_ ?ybel _; case ybel => (first | omega | (simp <;> omega))) | (with_reducible refine below_drewNs ?_ _) | (with_reducible refine Below.drew ?_) | (with_reducible exact Below.refl _ _))
              refine Below.trans ?_ (HB.out.mono (by simp; omega))
              repeat (first | (with_reducible refine Below.setCell ?_ ?ybel _; case ybel => (first | omega | (simp <;> omega))) | (with_reducible refine Below.alloc ?_ ?ybel _; case ybel => (first | omega | (simp <;> omega))) | (with_reducible refine below_drewNs ?_ _) | (with_reducible refine Below.drew ?_) | (with_reducible exact Below.refl _ _))
            · have h1 : rns m j odd = M := by rw [← hup]; simp [hM2]
              have h2 : ((M : Int) % 2 == 1) = false := by simp; omega
              rw [h1] at hcall
              clear hup h1
              go_wp2_with fail
              refine (hcall _).mono ?_
              rintro x w2 ⟨rfl, hb⟩
              have HB := Lib.hid hb
              obtain ⟨hbc, hbf⟩ := bcell hb
              have hz : w.heap.size + 1 < w2.heap.size := by have := hb.size; simp at this; omega
              clear hb
              go_wp2
              refine bodyPost_ret (v := .agg #[.bool s, .int .u64 m2, .int .i64 e2, .int .i64 k]) (by simp [results, Try.results40, go_sem, hbc]) rfl ⟨rfl, ?_⟩
              repeat (first | (with_reducible refine Below.setCell ?_ ?ybel _; case ybel => (first | omega | (simp <;> omega))) | (with_reducible refine Below.alloc ?_ ?ybel _; case ybel => (first | omega | (simp <;> omega))) | (with_reducible refine below_drewNs ?_ _) | (with_reducible refine Below.drew ?_) | (with_reducible exact Below.refl _ _))
              refine Below.trans ?_ (HB.out.mono (by simp; omega))
              repeat (first | (with_reducible refine Below.setCell ?_ ?ybel _; case ybel => (first | omega | (simp <;> omega))) | (with_reducible refine Below.alloc ?_ ?ybel _; case ybel => (first | omega | (simp <;> omega))) | (with_reducible refine below_drewNs ?_ _) | (with_reducible refine Below.drew ?_) | (with_reducible exact Below.refl _ _))
          · have h1 : rns m j odd = M + 1 := by rw [← hup]; rfl
            rw [h1] at hcall
            clear hup h1
            go_wp2_with fail
            refine (hcall _).mono ?_
            rintro x w2 ⟨rfl, hb⟩
            have HB := Lib.hid hb
            obtain ⟨hbc, hbf⟩ := bcell hb
            have hz : w.heap.size + 1 < w2.heap.size := by have := hb.size; simp at this; omega
            clear hb
            go_wp2
            refine bodyPost_ret (v := .agg #[.bool s, .int .u64 m2, .int .i64 e2, .int .i64 k]) (by simp [results, Try.results40, go_sem, hbc]) rfl ⟨rfl, ?_⟩
            repeat (first | (with_reducible refine Below.setCell ?_ ?ybel _; case ybel => (first | omega | (simp <;> omega))) | (with_reducible refine Below.alloc ?_ ?ybel _; case ybel => (first | omega | (simp <;> omega))) | (with_reducible refine below_drewNs ?_ _) | (with_reducible refine Below.drew ?_) | (with_reducible exact Below.refl _ _))
            refine Below.trans ?_ (HB.out.mono (by simp; omega))
            repeat (first | (with_reducible refine Below.setCell ?_ ?ybel _; case ybel => (first | omega | (simp <;> omega))) | (with_reducible refine Below.alloc ?_ ?ybel _; case ybel => (first | omega | (simp <;> omega))) | (with_reducible refine below_drewNs ?_ _) | (with_reducible refine Below.drew ?_) | (with_reducible exact Below.refl _ _))
/-- a round of the cutting, and the call behind it -/
theorem rfit_recB (s : Bool) (m : Nat) (e : Int) (k : Int) (wd : Nat) (l : Int) (odd : Bool) (w : World) (c : Nat) (m2 : Nat) (e2 : Int) (hm : m < 18446744073709551616) (he : -4000 ≤ e) (he' : e ≤ 4000) (hw : wd ≤ 64) (hl : -4000 ≤ l) (hl' : l ≤ 4000)
    (hc : max ((bl m : Int) - wd) (l - e) = c) (hx : l - e ≤ (bl m : Int) - wd) (hc1 : 1 ≤ c) (hc2 : c ≤ 4000)
    (hcall : ∀ w : World, Calls Try.prog 40 #[.agg #[.bool s, .int .u64 (rns m c odd : Nat), .int .i64 (e + c), .int .i64 k], .int .i64 wd, .int .i64 l, .bool false] w fun x w' => x = .returned (.agg #[.bool s, .int .u64 (m2 : Nat), .int .i64 e2, .int .i64 k]) ∧ Below w.heap.size w w') :
    Calls Try.prog 40 #[.agg #[.bool s, .int .u64 m, .int .i64 e, .int .i64 k], .int .i64 wd, .int .i64 l, .bool odd] w fun x w' => x = .returned (.agg #[.bool s, .int .u64 m2, .int .i64 e2, .int .i64 k]) ∧ Below w.heap.size w w' := by
  have h64 : bl m ≤ 64 := bl_le hm
  have hup := fit_up m c odd hc1
  have HUP := Lib.hid hup
  have HCALL := Lib.hid hcall
  have hd1 : (c : Int) = max ((bl m : Int) - wd) (l - e) := hc.symm
  clear hc hup hcall
  · have hd2 : (c : Int) = (bl m : Int) - wd := by omega
    have HD1 := Lib.hid hd1
    have HD2 := Lib.hid hd2
    have hd3 : ¬ ((bl m : Int) - wd ≤ 0) := by omega
    have hd4 : (bl m : Int) - wd ≤ 4000 := by omega
    clear hd1 hd2
    go_enter Try.func40, Try.ntmps40
    go_wp2
    go_quiet ((go_at_call 39; exact Calls.quiet_of_same ((rbitlen_any _ _ (by assumption)).mono fun _ _ h => ⟨h.1, h.2.symm⟩)))
    go_wp2
    go_loopw [10, 11, 12] (fun r h i wr => ∃ (j : Nat), j ≤ c ∧ i = .int .i64 (j : Int) ∧ r = .bool (rsB odd m j) ∧ h = .bool (hfB m j) ∧
        wr = ((w.alloc (.cells #[.bool s, .int .u64 (m / 2 ^ j : Nat), .int .i64 (e + j), .int .i64 k] 41)).alloc (.cells #[.bool false, .int .u64 0, .int .i64 0, .int .i64 0] 41)).drewN nq) (fun _ _ i _ => c - (intOf i).toNat)
    case atStart => exact ⟨0, Nat.zero_le _, rfl, by rw [rsB_zero], by rw [hfB_zero], by simp⟩
    case round =>
      obtain ⟨j, hj, rfl, rfl, rfl, rfl⟩ := hrel
      by_cases hjc : j < c
      · have r1 := rsB_succ odd m j
        have r2 := hfB_succ m j
        have d1 := div_succ m j
        have bM : m / 2 ^ j ≤ 18446744073709551615 := Nat.le_trans (Nat.div_le_self _ _) (by omega)
        have hjl : (j : Int) < (bl m : Int) - wd := by have := HD2.out; omega
        generalize m / 2 ^ j = M at r2 d1 bM ⊢
        generalize rsB odd m j = R at r1 ⊢
        generalize hfB m j = H at r1 ⊢
        have R1 := Lib.hid r1; have R2 := Lib.hid r2; have D1 := Lib.hid d1
        clear r1 r2 d1
        cases R
        all_goals
          go_wp2
          go_roundw
          case rel =>
            refine ⟨j + 1, by omega, by go_num, congrArg Value.bool (by rw [R1.out]; simp), congrArg Value.bool (by rw [R2.out, Bool.eq_iff_iff]; simp; omega), ?_⟩
            rw [D1.out, show (e + ((j + 1 : Nat) : Int)) = e + j + 1 from by omega, show ((M / 2 : Nat) : Int) = (M : Int) / 2 from by omega]
          case measure => simp [intOf]; omega
      · obtain rfl : j = c := by omega
        have hjl : ¬ (j : Int) < (bl m : Int) - wd := by have := HD2.out; omega
        have bM : m / 2 ^ j ≤ 9223372036854775807 := by
          have h2 : 2 ^ 1 ≤ 2 ^ j := Nat.pow_le_pow_right (by decide) hc1
          exact Nat.le_trans (Nat.div_le_div_left h2 (by decide)) (by omega)
        have hup := HUP.out
        have hcall := HCALL.out
        clear HUP HCALL
        generalize m / 2 ^ j = M at hup bM ⊢
        generalize rsB odd m j = R at hup ⊢
        generalize hfB m j = H at hup ⊢
        cases H
        · have h1 : rns m j odd = M := by rw [← hup]; rfl
          rw [h1] at hcall
          clear hup h1
          go_wp2_with fail
          refine (hcall _).mono ?_
          rintro x w2 ⟨rfl, hb⟩
          have HB := Lib.hid hb
          obtain ⟨hbc, hbf⟩ := bcell hb
          have hz : w.heap.size + 1 < w2.heap.size := by have := hb.size; simp at this; omega
          clear hb
          go_wp2
          refine bodyPost_ret (v := .agg #[.bool s, .int .u64 m2, .int .i64 e2, .int .i64 k]) (by simp [results, Try.results40, go_sem, hbc]) rfl ⟨rfl, ?_⟩
          repeat (first | (with_reducible refine Below.setCell ?_ ?ybel _; case ybel => (first | omega | (simp <;> omega))) | (with_reducible refine Below.alloc ?_ ?ybel _; case ybel => (first | omega | (simp <;> omega))) | (with_reducible refine below_drewNs ?_ _) | (with_reducible refine Below.drew ?_) | (with_reducible exact Below.refl _ _))
          refine Below.trans ?_ (HB.out.mono (by simp; omega))
          repeat (first | (with_reducible refine Below.setCell ?_ ?ybel _; case ybel => (first | omega | (simp <;> omega))) | (with_reducible refine Below.alloc ?_ ?ybel _; case ybel => (first | omega | (simp <;> omega))) | (with_reducible refine below_drewNs ?_ _) | (with_reducible refine Below.drew ?_) | (with_reducible exact Below.refl _ _))
        · cases R
          · by_cases hM2 : M % 2 = 1
            · have h1 : rns m j odd = M + 1 := by rw [← hup]; simp [hM2]
              have h2 : ((M : Int) % 2 == 1) = true := by simp; omega
              rw [h1] at hcall
              clear hup h1
              go_wp2_with fail
              refine (hcall _).mono ?_
              rintro x w2 ⟨rfl, hb⟩
              have HB := Lib.hid hb
              obtain ⟨hbc, hbf⟩ := bcell hb
              have hz : w.heap.size + 1 < w2.heap.size := by have := hb.size; simp at this; omega
              clear hb
              go_wp2
              refine bodyPost_ret (v := .agg #[.bool s, .int .u64 m2, .int .i64 e2, .int .i64 k]) (by simp [results, Try.results40, go_sem, hbc]) rfl ⟨rfl, ?_⟩
              repeat (first | (with_reducible refine Below.setCell ?_ ?ybel _; case ybel => (first | omega | (simp <;> omega))) | (with_reducible refine Below.alloc ?_ ?ybel _; case ybel => (first | omega | (simp <;> omega))) | (with_reducible refine below_drewNs ?_ _) | (with_reducible refine Below.drew ?_) | (with_reducible exact Below.refl _ _))
              refine Below.trans ?_ (HB.out.mono (by simp; omega))
              repeat (first | (with_reducible refine Below.setCell ?_ ?ybel _; case ybel => (first | omega | (simp <;> omega))) | (with_reducible refine Below.alloc ?_ ?ybel _; case ybel => (first | omega | (simp <;> omega))) | (with_reducible refine below_drewNs ?_ _) | (with_reducible refine Below.drew ?_) | (with_reducible exact Below.refl _ _))
            · have h1 : rns m j odd = M := by rw [← hup]; simp [hM2]
              have h2 : ((M : Int) % 2 == 1) = false := by simp; omega
              rw [h1] at hcall
              clear hup h1
              go_wp2_with fail
              refine (hcall _).mono ?_
              rintro x w2 ⟨rfl, hb⟩
              have HB := Lib.hid hb
              obtain ⟨hbc, hbf⟩ := bcell hb
              have hz : w.heap.size + 1 < w2.heap.size := by have := hb.size; simp at this; omega
              clear hb
              go_wp2
              refine bodyPost_ret (v := .agg #[.bool s, .int .u64 m2, .int .i64 e2, .int .i64 k]) (by simp [results, Try.results40, go_sem, hbc]) rfl ⟨rfl, ?_⟩
              repeat (first | (with_reducible refine Below.setCell ?_ ?ybel _; case ybel => (first | omega | (simp <;> omega))) | (with_reducible refine Below.alloc ?_ ?ybel _; case ybel => (first | omega | (simp <;> omega))) | (with_reducible refine below_drewNs ?_ _) | (with_reducible refine Below.drew ?_) | (with_reducible exact Below.refl _ _))
              refine Below.trans ?_ (HB.out.mono (by simp; omega))
              repeat (first | (with_reducible refine Below.setCell ?_ ?ybel _; case ybel => (first | omega | (simp <;> omega))) | (with_reducible refine Below.alloc ?_ ?ybel _; case ybel => (first | omega | (simp <;> omega))) | (with_reducible refine below_drewNs ?_ _) | (with_reducible refine Below.drew ?_) | (with_reducible exact Below.refl _ _))
          · have h1 : rns m j odd = M + 1 := by rw [← hup]; rfl
            rw [h1] at hcall
            clear hup h1
            go_wp2_with fail
            refine (hcall _).mono ?_
            rintro x w2 ⟨rfl, hb⟩
            have HB := Lib.hid hb
            obtain ⟨hbc, hbf⟩ := bcell hb
            have hz : w.heap.size + 1 < w2.heap.size := by have := hb.size; simp at this; omega
            clear hb
            go_wp2
            refine bodyPost_ret (v := .agg #[.bool s, .int .u64 m2, .int .i64 e2, .int .i64 k]) (by simp [results, Try.results40, go_sem, hbc]) rfl ⟨rfl, ?_⟩
            repeat (first | (with_reducible refine Below.setCell ?_ ?ybel _; case ybel => (first | omega | (simp <;> omega))) | (with_reducible refine Below.alloc ?_ ?ybel _; case ybel => (first | omega | (simp <;> omega))) | (with_reducible refine below_drewNs ?_ _) | (with_reducible refine Below.drew ?_) | (with_reducible exact Below.refl _ _))
            refine Below.trans ?_ (HB.out.mono (by simp; omega))
            repeat (first | (with_reducible refine Below.setCell ?_ ?ybel _; case ybel => (first | omega | (simp <;> omega))) | (with_reducible refine Below.alloc ?_ ?ybel _; case ybel => (first | omega | (simp <;> omega))) | (with_reducible refine below_drewNs ?_ _) | (with_reducible refine Below.drew ?_) | (with_reducible exact Below.refl _ _))

theorem rfit_rec (s : Bool) (m : Nat) (e : Int) (k : Int) (wd : Nat) (l : Int) (odd : Bool) (w : World) (c : Nat) (m2 : Nat) (e2 : Int) (hm : m < 18446744073709551616) (he : -4000 ≤ e) (he' : e ≤ 4000) (hw : wd ≤ 64) (hl : -4000 ≤ l) (hl' : l ≤ 4000)
    (hc : max ((bl m : Int) - wd) (l - e) = c) (hc1 : 1 ≤ c) (hc2 : c ≤ 4000)
    (hcall : ∀ w : World, Calls Try.prog 40 #[.agg #[.bool s, .int .u64 (rns m c odd : Nat), .int .i64 (e + c), .int .i64 k], .int .i64 wd, .int .i64 l, .bool false] w fun x w' => x = .returned (.agg #[.bool s, .int .u64 (m2 : Nat), .int .i64 e2, .int .i64 k]) ∧ Below w.heap.size w w') :
    Calls Try.prog 40 #[.agg #[.bool s, .int .u64 m, .int .i64 e, .int .i64 k], .int .i64 wd, .int .i64 l, .bool odd] w fun x w' => x = .returned (.agg #[.bool s, .int .u64 m2, .int .i64 e2, .int .i64 k]) ∧ Below w.heap.size w w' :=
  (Int.lt_or_le ((bl m : Int) - wd) (l - e)).elim (fun hx => rfit_recA s m e k wd l odd w c m2 e2 hm he he' hw hl hl' hc hx hc1 hc2 hcall) (fun hx => rfit_recB s m e k wd l odd w c m2 e2 hm he he' hw hl hl' hc hx hc1 hc2 hcall)
theorem rns_two (k : Nat) : rns (2 ^ (k + 1)) 1 false = 2 ^ k := by
  rw [rns_false]
  have := rn_exact 1 (k + 1) 1 (by omega)
  rw [Nat.one_mul, Nat.one_mul, Nat.add_sub_cancel] at this
  exact this
theorem rfit_any (s : Bool) (m : Nat) (e : Int) (k : Int) (wd : Nat) (l : Int) (odd : Bool) (w : World) (hm : m < 18446744073709551616) (he : -1500 ≤ e) (he' : e ≤ 1500) (hw1 : 1 ≤ wd) (hw : wd ≤ 63) (hl : -1500 ≤ l) (hl' : l ≤ 1500) :
    Calls Try.prog 40 #[.agg #[.bool s, .int .u64 m, .int .i64 e, .int .i64 k], .int .i64 wd, .int .i64 l, .bool odd] w fun x w' => x = .returned (.agg #[.bool s, .int .u64 (fitP wd l odd m e).1, .int .i64 (fitP wd l odd m e).2, .int .i64 k]) ∧ Below w.heap.size w w' := by
  have h64 : bl m ≤ 64 := bl_le hm
  unfold fitP
  by_cases h0 : max ((bl m : Int) - wd) (l - e) ≤ 0
  · rw [if_pos h0]
    exact rfit_done s m e k wd l odd w hm (by omega) (by omega) (by omega) (by omega) (by omega) (by omega) (by omega)
  · obtain ⟨c, hc⟩ : ∃ c : Nat, max ((bl m : Int) - wd) (l - e) = c := ⟨(max ((bl m : Int) - wd) (l - e)).toNat, by omega⟩
    rw [if_neg h0, hc, Int.toNat_natCast]
    have hr := rns_le m c wd odd (Nat.lt_of_lt_of_le (lt_bl m) (Nat.pow_le_pow_right (by decide) (by omega)))
    have hw64 : 2 ^ wd ≤ 2 ^ 63 := Nat.pow_le_pow_right (by decide) hw
    by_cases hb : bl (rns m c odd) ≤ wd
    · rw [if_pos hb]
      exact rfit_rec s m e k wd l odd w c _ _ hm (by omega) (by omega) (by omega) (by omega) (by omega) hc (by omega) (by omega) (fun w => rfit_done s _ _ k wd l false w (by omega) (by omega) (by omega) (by omega) (by omega) (by omega) (by omega) (by omega))
    · have e2 : rns m c odd = 2 ^ wd := by
        rcases Nat.lt_or_ge (rns m c odd) (2 ^ wd) with h' | h'
        · exact absurd (bl_le h') hb
        · omega
      rw [if_neg hb]
      obtain ⟨v, rfl⟩ : ∃ v, wd = v + 1 := ⟨wd - 1, by omega⟩
      have b1 : bl (2 ^ (v + 1)) = v + 1 + 1 := bl_eq (Nat.le_refl _) (Nat.pow_lt_pow_right (by decide) (by omega))
      have b2 : bl (2 ^ v) = v + 1 := bl_eq (Nat.le_refl _) (Nat.pow_lt_pow_right (by decide) (by omega))
      refine rfit_rec s m e k (v + 1 : Nat) l odd w c _ _ hm (by omega) (by omega) (by omega) (by omega) (by omega) hc (by omega) (by omega) (fun w => ?_)
      rw [e2]
      refine rfit_rec s _ _ k (v + 1 : Nat) l false w 1 _ _ (by omega) (by omega) (by omega) (by omega) (by omega) (by omega) (by rw [b1]; omega) (by omega) (by omega) (fun w => ?_)
      rw [rns_two, Nat.add_sub_cancel]
      have h3 : 2 ^ v ≤ 2 ^ 63 := Nat.pow_le_pow_right (by decide) (by omega)
      exact rfit_done s _ _ k _ l false w (by omega) (by omega) (by omega) (by omega) (by omega) (by omega) (by rw [b2]; omega) (by omega)
end Go.Proofs.Ytbfdanbepdefnaa
