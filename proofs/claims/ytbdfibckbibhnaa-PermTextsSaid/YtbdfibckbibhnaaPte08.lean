/-
  What each function of package pte answers and leaves in memory: contracts over the translation. Each says its own conditions.
-/
import Derived.Test.YtbdfibckbibhnaaProg
import Derived.Test.YtbdfibckbibhnaaBits08
import Derived.WalkKit
import Derived.WalkLawsBesides
import Derived.WalkSpells
import Derived.Lib.Hide
import Derived.Below
import Derived.OpenShut
import Derived.Deep.QuietTactic
import Derived.BigQuiet
namespace Go.Proofs.Ytbdfibckbibhnaa
open Go.RowKit
set_option linter.unusedVariables false

theorem below_drewNs {B : Nat} {a w : World} (h : Below B a w) : ∀ n, Below B a (w.drewN n)
  | 0 => h
  | n + 1 => (below_drewNs h n).drew
theorem setCell_drewN (w : World) (n : Nat) (a : Addr) (v : Value) : (w.drewN n).setCell a v = (w.setCell a v).drewN n := rfl
theorem alloc_drewN (w : World) (n : Nat) (o : Obj) : (w.drewN n).alloc o = (w.alloc o).drewN n := rfl
attribute [local go_sem] setCell_drewN alloc_drewN
theorem bcell {W w1 : World} (hb : Below W.heap.size W w1) : (∀ b o, b < W.heap.size → w1.cell? ⟨b, o, none⟩ = W.cell? ⟨b, o, none⟩) ∧ (∀ b o, b < W.heap.size → w1.frozen? ⟨b, o, none⟩ = W.frozen? ⟨b, o, none⟩) :=
  ⟨fun b o h => hb.cell (p := ⟨b, o, none⟩) h, fun b o h => hb.frozen (p := ⟨b, o, none⟩) h⟩
/-- nothing has changed but that orders were drawn -/
def Dr (w w' : World) : Prop := ∃ n, w' = w.drewN n
theorem Dr.refl (w : World) : Dr w w := ⟨0, rfl⟩
theorem Dr.of (w : World) (n : Nat) : Dr w (w.drewN n) := ⟨n, rfl⟩
theorem Dr.below {w w' : World} (h : Dr w w') : Below w.heap.size w w' := by
  obtain ⟨n, rfl⟩ := h
  exact below_drewNs (Below.refl _ _) n

theorem quiet_sum {P : Program} {f : FuncId} {args : Array Value} {W : World} {a n : Nat} {v : Value} (h : Calls P f args (W.drewN (a + n)) fun e w' => e = .returned v ∧ ∃ m, w' = (W.drewN (a + n)).drewN m) :
    Calls P f args (W.drewN (a + n)) fun e w'' => e = .returned v ∧ ∃ m, w'' = W.drewN (a + m) :=
  h.mono fun _ _ ⟨he, m, hm⟩ => ⟨he, n + m, by rw [hm, World.drewN_drewN, Nat.add_assoc]⟩
theorem leaf_any (e : Ent) (w : World) : Calls Try.prog 18 #[pv e] w fun r w' => r = .returned (.bool (e.r || e.x)) ∧ Below w.heap.size w w' := by
  obtain ⟨v, r, x1, x, u, g, a, d, rsw, ppn⟩ := e
  unfold pv
  cases r
  all_goals
    go_enter Try.func18, Try.ntmps18
    go_wp2
    go_ret
    refine ⟨rfl, ?_⟩
    repeat (first | (with_reducible refine Below.setCell ?_ ?ybel _; case ybel => (first | omega | (simp <;> omega))) | (with_reducible refine Below.alloc ?_ ?ybel _; case ybel => (first | omega | (simp <;> omega))) | (with_reducible refine below_drewNs ?_ _) | (with_reducible refine Below.drew ?_) | (with_reducible exact Below.refl _ _))
theorem right_any (e : Ent) (w : World) : Calls Try.prog 17 #[pv e] w fun r w' => r = .returned (.bool (e.v && (e.r || !e.w))) ∧ Below w.heap.size w w' := by
  obtain ⟨v, r, x1, x, u, g, a, d, rsw, ppn⟩ := e
  unfold pv
  cases v <;> cases r
  all_goals
    go_enter Try.func17, Try.ntmps17
    go_wp2
    go_ret
    refine ⟨rfl, ?_⟩
    repeat (first | (with_reducible refine Below.setCell ?_ ?ybel _; case ybel => (first | omega | (simp <;> omega))) | (with_reducible refine Below.alloc ?_ ?ybel _; case ybel => (first | omega | (simp <;> omega))) | (with_reducible refine below_drewNs ?_ _) | (with_reducible refine Below.drew ?_) | (with_reducible exact Below.refl _ _))
end Go.Proofs.Ytbdfibckbibhnaa
