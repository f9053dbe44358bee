/-
  What the document's answer for layer 9 gives on rights and causes: contracts over the translation. Each says its own conditions.
-/
import Derived.Test.YtibmjbfnjkmjbaaPerm09
namespace Go.Proofs.Ytibmjbfnjkmjbaa
open Go.RowKit
set_option linter.unusedVariables false
set_option linter.unusedSimpArgs false
attribute [local go_sem] setCell_drewN alloc_drewN

set_option maxHeartbeats 4000000 in
theorem bad_v (r x1 x u g a d : Bool) (rsw : Int) (ppn : Nat) (k : Int) (us sm mx : Bool) (w : World) : Calls Try.prog 34 #[pv ⟨false, r, x1, x, u, g, a, d, rsw, ppn⟩, .int .i64 k, mv ⟨us, sm, mx⟩] w fun q w' => q = .returned (.bool (chk ⟨false, r, x1, x, u, g, a, d, rsw, ppn⟩ k ⟨us, sm, mx⟩)) ∧ Below w.heap.size w w' := by
  obtain ⟨A, hA⟩ : ∃ A, A = chk ⟨false, r, x1, x, u, g, a, d, rsw, ppn⟩ k ⟨us, sm, mx⟩ := ⟨_, rfl⟩
  rw [← hA]
  unfold pv mv
  dsimp only
  simp only [chk, rch] at hA
  have hA' : A = false := by simpa using hA
  subst hA'
  clear hA
  go_enter Try.func34, Try.ntmps34
  go_wp2
  go_ret
  refine ⟨rfl, ?_⟩
  repeat (first | (with_reducible refine Below.setCell ?_ ?ybel _; case ybel => (first | omega | (simp <;> omega))) | (with_reducible refine Below.alloc ?_ ?ybel _; case ybel => (first | omega | (simp <;> omega))) | (with_reducible refine below_drewNsB ?_ _) | (with_reducible refine below_drewNs ?_ _) | (with_reducible refine Below.drew ?_) | (with_reducible exact Below.refl _ _))
set_option maxHeartbeats 4000000 in
theorem bad_w (x u g a d : Bool) (rsw : Int) (ppn : Nat) (k : Int) (us sm mx : Bool) (w : World) : Calls Try.prog 34 #[pv ⟨true, false, true, x, u, g, a, d, rsw, ppn⟩, .int .i64 k, mv ⟨us, sm, mx⟩] w fun q w' => q = .returned (.bool (chk ⟨true, false, true, x, u, g, a, d, rsw, ppn⟩ k ⟨us, sm, mx⟩)) ∧ Below w.heap.size w w' := by
  obtain ⟨A, hA⟩ : ∃ A, A = chk ⟨true, false, true, x, u, g, a, d, rsw, ppn⟩ k ⟨us, sm, mx⟩ := ⟨_, rfl⟩
  rw [← hA]
  unfold pv mv
  dsimp only
  simp only [chk, rch] at hA
  have hA' : A = false := by simpa using hA
  subst hA'
  clear hA
  go_enter Try.func34, Try.ntmps34
  go_wp2
  go_ret
  refine ⟨rfl, ?_⟩
  repeat (first | (with_reducible refine Below.setCell ?_ ?ybel _; case ybel => (first | omega | (simp <;> omega))) | (with_reducible refine Below.alloc ?_ ?ybel _; case ybel => (first | omega | (simp <;> omega))) | (with_reducible refine below_drewNsB ?_ _) | (with_reducible refine below_drewNs ?_ _) | (with_reducible refine Below.drew ?_) | (with_reducible exact Below.refl _ _))
set_option maxHeartbeats 4000000 in
theorem bad_x (u g a d : Bool) (rsw : Int) (ppn : Nat) (k : Int) (us sm mx : Bool) (w : World) : Calls Try.prog 34 #[pv ⟨true, false, false, false, u, g, a, d, rsw, ppn⟩, .int .i64 k, mv ⟨us, sm, mx⟩] w fun q w' => q = .returned (.bool (chk ⟨true, false, false, false, u, g, a, d, rsw, ppn⟩ k ⟨us, sm, mx⟩)) ∧ Below w.heap.size w w' := by
  obtain ⟨A, hA⟩ : ∃ A, A = chk ⟨true, false, false, false, u, g, a, d, rsw, ppn⟩ k ⟨us, sm, mx⟩ := ⟨_, rfl⟩
  rw [← hA]
  unfold pv mv
  dsimp only
  simp only [chk, rch] at hA
  have hA' : A = false := by simpa using hA
  subst hA'
  clear hA
  go_enter Try.func34, Try.ntmps34
  go_wp2
  go_ret
  refine ⟨rfl, ?_⟩
  repeat (first | (with_reducible refine Below.setCell ?_ ?ybel _; case ybel => (first | omega | (simp <;> omega))) | (with_reducible refine Below.alloc ?_ ?ybel _; case ybel => (first | omega | (simp <;> omega))) | (with_reducible refine below_drewNsB ?_ _) | (with_reducible refine below_drewNs ?_ _) | (with_reducible refine Below.drew ?_) | (with_reducible exact Below.refl _ _))
set_option maxHeartbeats 4000000 in
theorem bad_a1 (x1 x u g d : Bool) (rsw : Int) (ppn : Nat) (k : Int) (us sm mx : Bool) (w : World) : Calls Try.prog 34 #[pv ⟨true, true, x1, x, u, g, false, d, rsw, ppn⟩, .int .i64 k, mv ⟨us, sm, mx⟩] w fun q w' => q = .returned (.bool (chk ⟨true, true, x1, x, u, g, false, d, rsw, ppn⟩ k ⟨us, sm, mx⟩)) ∧ Below w.heap.size w w' := by
  obtain ⟨A, hA⟩ : ∃ A, A = chk ⟨true, true, x1, x, u, g, false, d, rsw, ppn⟩ k ⟨us, sm, mx⟩ := ⟨_, rfl⟩
  rw [← hA]
  unfold pv mv
  dsimp only
  simp only [chk, rch] at hA
  have hA' : A = false := by simpa using hA
  subst hA'
  clear hA
  cases x1
  all_goals
    go_enter Try.func34, Try.ntmps34
    go_wp2
    go_ret
    refine ⟨rfl, ?_⟩
    repeat (first | (with_reducible refine Below.setCell ?_ ?ybel _; case ybel => (first | omega | (simp <;> omega))) | (with_reducible refine Below.alloc ?_ ?ybel _; case ybel => (first | omega | (simp <;> omega))) | (with_reducible refine below_drewNsB ?_ _) | (with_reducible refine below_drewNs ?_ _) | (with_reducible refine Below.drew ?_) | (with_reducible exact Below.refl _ _))
set_option maxHeartbeats 4000000 in
theorem bad_a2 (u g d : Bool) (rsw : Int) (ppn : Nat) (k : Int) (us sm mx : Bool) (w : World) : Calls Try.prog 34 #[pv ⟨true, false, false, true, u, g, false, d, rsw, ppn⟩, .int .i64 k, mv ⟨us, sm, mx⟩] w fun q w' => q = .returned (.bool (chk ⟨true, false, false, true, u, g, false, d, rsw, ppn⟩ k ⟨us, sm, mx⟩)) ∧ Below w.heap.size w w' := by
  obtain ⟨A, hA⟩ : ∃ A, A = chk ⟨true, false, false, true, u, g, false, d, rsw, ppn⟩ k ⟨us, sm, mx⟩ := ⟨_, rfl⟩
  rw [← hA]
  unfold pv mv
  dsimp only
  simp only [chk, rch] at hA
  have hA' : A = false := by simpa using hA
  subst hA'
  clear hA
  go_enter Try.func34, Try.ntmps34
  go_wp2
  go_ret
  refine ⟨rfl, ?_⟩
  repeat (first | (with_reducible refine Below.setCell ?_ ?ybel _; case ybel => (first | omega | (simp <;> omega))) | (with_reducible refine Below.alloc ?_ ?ybel _; case ybel => (first | omega | (simp <;> omega))) | (with_reducible refine below_drewNsB ?_ _) | (with_reducible refine below_drewNs ?_ _) | (with_reducible refine Below.drew ?_) | (with_reducible exact Below.refl _ _))
set_option maxHeartbeats 4000000 in
theorem go_r (x1 x u g d : Bool) (rsw : Int) (ppn : Nat) (k : Int) (us sm mx : Bool) (w : World) : Calls Try.prog 34 #[pv ⟨true, true, x1, x, u, g, true, d, rsw, ppn⟩, .int .i64 k, mv ⟨us, sm, mx⟩] w fun q w' => q = .returned (.bool (chk ⟨true, true, x1, x, u, g, true, d, rsw, ppn⟩ k ⟨us, sm, mx⟩)) ∧ Below w.heap.size w w' := by
  obtain ⟨A, hA⟩ : ∃ A, A = chk ⟨true, true, x1, x, u, g, true, d, rsw, ppn⟩ k ⟨us, sm, mx⟩ := ⟨_, rfl⟩
  rw [← hA]
  unfold pv mv
  dsimp only
  simp only [chk, rch] at hA
  have HA := Lib.hid hA; clear hA
  have walk : ∀ (c : Bool), c = A → True := fun _ _ => trivial
  clear walk
  by_cases h0 : k = 0
  · subst h0
    cases x1 <;> cases us <;> cases u <;> cases sm
    all_goals
      have H9 := Lib.hid (show True from trivial)
      go_enter Try.func34, Try.ntmps34
      go_wp2
      go_ret
      refine ⟨ret_bool (by rw [HA.out]; simp), ?_⟩
      repeat (first | (with_reducible refine Below.setCell ?_ ?ybel _; case ybel => (first | omega | (simp <;> omega))) | (with_reducible refine Below.alloc ?_ ?ybel _; case ybel => (first | omega | (simp <;> omega))) | (with_reducible refine below_drewNsB ?_ _) | (with_reducible refine below_drewNs ?_ _) | (with_reducible refine Below.drew ?_) | (with_reducible exact Below.refl _ _))
  by_cases h1 : k = 1
  · subst h1
    cases x1 <;> cases us <;> cases u <;> cases sm
    all_goals
      have H9 := Lib.hid (show True from trivial)
      go_enter Try.func34, Try.ntmps34
      go_wp2
      go_ret
      refine ⟨ret_bool (by rw [HA.out]; simp), ?_⟩
      repeat (first | (with_reducible refine Below.setCell ?_ ?ybel _; case ybel => (first | omega | (simp <;> omega))) | (with_reducible refine Below.alloc ?_ ?ybel _; case ybel => (first | omega | (simp <;> omega))) | (with_reducible refine below_drewNsB ?_ _) | (with_reducible refine below_drewNs ?_ _) | (with_reducible refine Below.drew ?_) | (with_reducible exact Below.refl _ _))
  by_cases h2 : k = 2
  · subst h2
    cases x1 <;> cases us <;> cases u <;> cases sm <;> cases d
    all_goals
      have H9 := Lib.hid (show True from trivial)
      go_enter Try.func34, Try.ntmps34
      go_wp2
      go_ret
      refine ⟨ret_bool (by rw [HA.out]; simp), ?_⟩
      repeat (first | (with_reducible refine Below.setCell ?_ ?ybel _; case ybel => (first | omega | (simp <;> omega))) | (with_reducible refine Below.alloc ?_ ?ybel _; case ybel => (first | omega | (simp <;> omega))) | (with_reducible refine below_drewNsB ?_ _) | (with_reducible refine below_drewNs ?_ _) | (with_reducible refine Below.drew ?_) | (with_reducible exact Below.refl _ _))
  have b0 : (k == 0) = false := by simp [h0]
  have b1 : (k == 1) = false := by simp [h1]
  have b2 : (k == 2) = false := by simp [h2]
  have K0 := Lib.hid h0; have K1 := Lib.hid h1; have K2 := Lib.hid h2; clear h0 h1 h2
  cases x1 <;> cases us <;> cases u <;> cases sm
  all_goals
    have H9 := Lib.hid (show True from trivial)
    go_enter Try.func34, Try.ntmps34
    go_wp2
    go_ret
    refine ⟨ret_bool (by rw [HA.out]; simp [K0.out, K1.out, K2.out]), ?_⟩
    repeat (first | (with_reducible refine Below.setCell ?_ ?ybel _; case ybel => (first | omega | (simp <;> omega))) | (with_reducible refine Below.alloc ?_ ?ybel _; case ybel => (first | omega | (simp <;> omega))) | (with_reducible refine below_drewNsB ?_ _) | (with_reducible refine below_drewNs ?_ _) | (with_reducible refine Below.drew ?_) | (with_reducible exact Below.refl _ _))
set_option maxHeartbeats 4000000 in
theorem go_x (u g d : Bool) (rsw : Int) (ppn : Nat) (k : Int) (us sm mx : Bool) (w : World) : Calls Try.prog 34 #[pv ⟨true, false, false, true, u, g, true, d, rsw, ppn⟩, .int .i64 k, mv ⟨us, sm, mx⟩] w fun q w' => q = .returned (.bool (chk ⟨true, false, false, true, u, g, true, d, rsw, ppn⟩ k ⟨us, sm, mx⟩)) ∧ Below w.heap.size w w' := by
  obtain ⟨A, hA⟩ : ∃ A, A = chk ⟨true, false, false, true, u, g, true, d, rsw, ppn⟩ k ⟨us, sm, mx⟩ := ⟨_, rfl⟩
  rw [← hA]
  unfold pv mv
  dsimp only
  simp only [chk, rch] at hA
  have HA := Lib.hid hA; clear hA
  have walk : ∀ (c : Bool), c = A → True := fun _ _ => trivial
  clear walk
  by_cases h0 : k = 0
  · subst h0
    cases us <;> cases u <;> cases sm
    all_goals
      have H9 := Lib.hid (show True from trivial)
      go_enter Try.func34, Try.ntmps34
      go_wp2
      go_ret
      refine ⟨ret_bool (by rw [HA.out]; simp), ?_⟩
      repeat (first | (with_reducible refine Below.setCell ?_ ?ybel _; case ybel => (first | omega | (simp <;> omega))) | (with_reducible refine Below.alloc ?_ ?ybel _; case ybel => (first | omega | (simp <;> omega))) | (with_reducible refine below_drewNsB ?_ _) | (with_reducible refine below_drewNs ?_ _) | (with_reducible refine Below.drew ?_) | (with_reducible exact Below.refl _ _))
  by_cases h1 : k = 1
  · subst h1
    cases us <;> cases u <;> cases sm
    all_goals
      have H9 := Lib.hid (show True from trivial)
      go_enter Try.func34, Try.ntmps34
      go_wp2
      go_ret
      refine ⟨ret_bool (by rw [HA.out]; simp), ?_⟩
      repeat (first | (with_reducible refine Below.setCell ?_ ?ybel _; case ybel => (first | omega | (simp <;> omega))) | (with_reducible refine Below.alloc ?_ ?ybel _; case ybel => (first | omega | (simp <;> omega))) | (with_reducible refine below_drewNsB ?_ _) | (with_reducible refine below_drewNs ?_ _) | (with_reducible refine Below.drew ?_) | (with_reducible exact Below.refl _ _))
  by_cases h2 : k = 2
  · subst h2
    cases us <;> cases u <;> cases sm <;> cases d
    all_goals
      have H9 := Lib.hid (show True from trivial)
      go_enter Try.func34, Try.ntmps34
      go_wp2
      go_ret
      refine ⟨ret_bool (by rw [HA.out]; simp), ?_⟩
      repeat (first | (with_reducible refine Below.setCell ?_ ?ybel _; case ybel => (first | omega | (simp <;> omega))) | (with_reducible refine Below.alloc ?_ ?ybel _; case ybel => (first | omega | (simp <;> omega))) | (with_reducible refine below_drewNsB ?_ _) | (with_reducible refine below_drewNs ?_ _) | (with_reducible refine Below.drew ?_) | (with_reducible exact Below.refl _ _))
  have b0 : (k == 0) = false := by simp [h0]
  have b1 : (k == 1) = false := by simp [h1]
  have b2 : (k == 2) = false := by simp [h2]
  have K0 := Lib.hid h0; have K1 := Lib.hid h1; have K2 := Lib.hid h2; clear h0 h1 h2
  cases us <;> cases u <;> cases sm
  all_goals
    have H9 := Lib.hid (show True from trivial)
    go_enter Try.func34, Try.ntmps34
    go_wp2
    go_ret
    refine ⟨ret_bool (by rw [HA.out]; simp [K0.out, K1.out, K2.out]), ?_⟩
    repeat (first | (with_reducible refine Below.setCell ?_ ?ybel _; case ybel => (first | omega | (simp <;> omega))) | (with_reducible refine Below.alloc ?_ ?ybel _; case ybel => (first | omega | (simp <;> omega))) | (with_reducible refine below_drewNsB ?_ _) | (with_reducible refine below_drewNs ?_ _) | (with_reducible refine Below.drew ?_) | (with_reducible exact Below.refl _ _))
theorem rcheck_any (e : Ent) (k : Int) (m : Md) (w : World) : Calls Try.prog 34 #[pv e, .int .i64 k, mv m] w fun q w' => q = .returned (.bool (chk e k m)) ∧ Below w.heap.size w w' := by
  obtain ⟨v, r, x1, x, u, g, a, d, rsw, ppn⟩ := e
  obtain ⟨us, sm, mx⟩ := m
  cases v
  · exact bad_v r x1 x u g a d rsw ppn k us sm mx w
  cases r
  · cases x1
    · cases x
      · exact bad_x u g a d rsw ppn k us sm mx w
      cases a
      · exact bad_a2 u g d rsw ppn k us sm mx w
      exact go_x u g d rsw ppn k us sm mx w
    · exact bad_w x u g a d rsw ppn k us sm mx w
  cases a
  · exact bad_a1 x1 x u g d rsw ppn k us sm mx w
  exact go_r x1 x u g d rsw ppn k us sm mx w
theorem cause_any (k : Int) (g n : Nat) (c0 c1 c2 : Int) (w : World) (h : Blk w g [.int .i64 c0, .int .i64 c1, .int .i64 c2] 3) : Calls Try.prog 33 #[.int .i64 k, .slice (some ⟨g, 0, none⟩) 3 3] w fun q w' => q = .returned (.int .i64 (cau k c0 c1 c2)) ∧ w = w' := by
  have m0 : w.cell? ⟨g, 0, none⟩ = some _ := h.cell 0
  have m1 : w.cell? ⟨g, 1, none⟩ = some _ := h.cell 1
  have m2 : w.cell? ⟨g, 2, none⟩ = some _ := h.cell 2
  have hlt := h.lt
  clear h
  by_cases hin : 0 ≤ k ∧ k ≤ 2
  · have h3 : k = 0 ∨ k = 1 ∨ k = 2 := by omega
    clear hin
    rcases h3 with rfl | rfl | rfl
    all_goals
      go_enter Try.func33, Try.ntmps33
      go_wp2
      go_ret
      exact ⟨rfl, rfl⟩
  · have hc : cau k c0 c1 c2 = -1 := by unfold cau; rw [if_neg (by omega), if_neg (by omega), if_neg (by omega)]
    rw [hc]
    clear hc
    by_cases hlo : k < 0
    · clear hin
      go_enter Try.func33, Try.ntmps33
      go_wp2
      go_ret
      exact ⟨rfl, rfl⟩
    · have hhi : 2 < k := by omega
      clear hin
      go_enter Try.func33, Try.ntmps33
      go_wp2
      go_ret
      exact ⟨rfl, rfl⟩
end Go.Proofs.Ytibmjbfnjkmjbaa
