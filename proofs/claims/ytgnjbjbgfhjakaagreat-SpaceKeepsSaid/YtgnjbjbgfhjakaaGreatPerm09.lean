/-
  What the functions of package perm on rights and causes answer and leave in memory: contracts over the translation. Each says its own conditions.
-/
import Derived.Test.YtgnjbjbgfhjakaaGreatPte08
import Derived.Test.YtgnjbjbgfhjakaaGreatHeap
namespace Go.Proofs.YtgnjbjbgfhjakaaGreat
open Go.RowKit
set_option linter.unusedVariables false
set_option linter.unusedSimpArgs false
attribute [local go_sem] setCell_drewN alloc_drewN

/-- a mode -/
structure Md where
  (user sum mxr : Bool)
/-- a mode as the program has it -/
def mv (m : Md) : Value := .agg #[.bool m.user, .bool m.sum, .bool m.mxr]
/-- may the mode load from and store to the page, as far as U goes? -/
def rch (e : Ent) (m : Md) : Bool := if m.user then e.u else (!e.u || m.sum)
/-- may an access be? -/
def chk (e : Ent) (k : Int) (m : Md) : Bool :=
  (e.v && (e.r || !e.w)) && (e.r || e.x) && e.a && (if k = 0 then e.x && (e.u == m.user) else if k = 1 then (e.r || m.mxr && e.x) && rch e m else if k = 2 then e.w && e.d && rch e m else false)
theorem reach_any (e : Ent) (m : Md) (w : World) : Calls Tryz.prog 132 #[pv e, mv m] w fun r w' => r = .returned (.bool (rch e m)) ∧ Below w.heap.size w w' := by
  obtain ⟨v, r, x1, x, u, g, a, d, rsw, ppn⟩ := e
  obtain ⟨us, sm, mx⟩ := m
  unfold pv mv
  cases us <;> cases u
  all_goals
    go_enter Tryz.func132, Tryz.ntmps132
    go_wp2
    go_ret
    refine ⟨rfl, ?_⟩
    repeat (first | (with_reducible refine Below.setCell ?_ ?ybel _; case ybel => (first | omega | (simp <;> omega))) | (with_reducible refine Below.alloc ?_ ?ybel _; case ybel => (first | omega | (simp <;> omega))) | (with_reducible refine below_drewNsB ?_ _) | (with_reducible refine below_drewNs ?_ _) | (with_reducible refine Below.drew ?_) | (with_reducible exact Below.refl _ _))
/-- a cause by an access -/
def cau (k c0 c1 c2 : Int) : Int := if k = 0 then c0 else if k = 1 then c1 else if k = 2 then c2 else -1
theorem by_any (k c0 c1 c2 : Int) (w : World) : Calls Tryz.prog 84 #[.int .i64 k, .int .i64 c0, .int .i64 c1, .int .i64 c2] w fun r w' => r = .returned (.int .i64 (cau k c0 c1 c2)) ∧ w = w' := by
  by_cases h0 : k = 0
  · subst h0
    go_enter Tryz.func84, Tryz.ntmps84
    go_wp2
    go_ret
    exact ⟨rfl, rfl⟩
  by_cases h1 : k = 1
  · subst h1
    go_enter Tryz.func84, Tryz.ntmps84
    go_wp2
    go_ret
    exact ⟨rfl, rfl⟩
  by_cases h2 : k = 2
  · subst h2
    go_enter Tryz.func84, Tryz.ntmps84
    go_wp2
    go_ret
    exact ⟨rfl, rfl⟩
  have hc : cau k c0 c1 c2 = -1 := by unfold cau; rw [if_neg h0, if_neg h1, if_neg h2]
  rw [hc]
  go_enter Tryz.func84, Tryz.ntmps84
  go_wp2
  go_ret
  exact ⟨rfl, rfl⟩
theorem page_any (k : Int) (w : World) : Calls Tryz.prog 57 #[.int .i64 k] w fun r w' => r = .returned (.int .i64 (cau k 12 13 15)) ∧ w = w' := by
  go_enter Tryz.func57, Tryz.ntmps57
  go_wp2_with fail
  refine (by_any k 12 13 15 _).mono ?_
  rintro e w1 ⟨rfl, rfl⟩
  go_wp2
  go_ret
  exact ⟨rfl, rfl⟩
theorem bound_any (k : Int) (w : World) : Calls Tryz.prog 92 #[.int .i64 k] w fun r w' => r = .returned (.int .i64 (cau k 1 5 7)) ∧ w = w' := by
  go_enter Tryz.func92, Tryz.ntmps92
  go_wp2_with fail
  refine (by_any k 1 5 7 _).mono ?_
  rintro e w1 ⟨rfl, rfl⟩
  go_wp2
  go_ret
  exact ⟨rfl, rfl⟩
theorem align_any (k : Int) (w : World) : Calls Tryz.prog 56 #[.int .i64 k] w fun r w' => r = .returned (.int .i64 (cau k 0 4 6)) ∧ w = w' := by
  go_enter Tryz.func56, Tryz.ntmps56
  go_wp2_with fail
  refine (by_any k 0 4 6 _).mono ?_
  rintro e w1 ⟨rfl, rfl⟩
  go_wp2
  go_ret
  exact ⟨rfl, rfl⟩
end Go.Proofs.YtgnjbjbgfhjakaaGreat
