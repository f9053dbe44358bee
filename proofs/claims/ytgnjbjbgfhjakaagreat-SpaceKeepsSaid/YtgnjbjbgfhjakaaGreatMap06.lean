/-
  A map from numbers to pages in memory, and pages: no function of the program stands here.
-/
import Derived.Test.YtgnjbjbgfhjakaaGreatMem
import Derived.Test.YtgnjbjbgfhjakaaGreatHeap
import Derived.Maps.OwnOps
import Derived.Maps.Views
import Derived.Laws.CopyOwn
import Derived.Lib.SliceRun
import Derived.OwnWalk
namespace Go.Proofs.YtgnjbjbgfhjakaaGreat
open Go.RowKit
open Go.Maps (Keyed)
set_option linter.unusedVariables false
set_option linter.unusedSimpArgs false

theorem keyI : Keyed Tryz.prog 3 := Maps.int_keyed Tryz.underlying3
/-- a pointer to a page, or nil -/
def ptrP : Option Nat → Value
  | none => .pointer none
  | some g => .pointer (some ⟨g, 0, none⟩)
/-- how a pointer in the map reads -/
def PgR (v : Value) : Option (DataW Unit × List MemPlace) :=
  match v with
  | .pointer (some ⟨g, 0, none⟩) => some (.lit (.int .u64 g), [])
  | .pointer none => some (.nil, [])
  | _ => none
def pgD : Option Nat → DataW Unit
  | none => .nil
  | some g => .lit (.int .u64 g)
/-- block mb is a map of at most n entries with these pages -/
def Mp (w : World) (mb n : Nat) (pg : Nat → Option Nat) : Prop :=
  ∃ D : DataW Unit, w.ownsMap Tryz.prog 3 PgR mb n D ∧ Maps.IsMap D ∧ ∀ f : Nat, D.atKey (.int .i64 f) .nil = pgD (pg f)
theorem Mp.lt {w : World} {mb n : Nat} {pg : Nat → Option Nat} (h : Mp w mb n pg) : mb < w.heap.size := by
  obtain ⟨D, h, _⟩ := h; exact h.lt
theorem Mp.chg {F : Nat → Prop} {w w' : World} {mb n : Nat} {pg : Nat → Option Nat} (h : Mp w mb n pg) (hc : Chg F w w') (hf : ¬ F mb) : Mp w' mb n pg := by
  have hlt := h.lt
  obtain ⟨D, ⟨es, clock, hb, Ft, hs, hD⟩, h2, h3⟩ := h
  exact ⟨D, ⟨es, clock, (hc.block mb hlt hf).trans hb, Ft, hs, hD⟩, h2, h3⟩
theorem Mp.mono {w : World} {mb n m : Nat} {pg : Nat → Option Nat} (h : Mp w mb n pg) (hn : n ≤ m) : Mp w mb m pg := by
  obtain ⟨D, h, h2⟩ := h; exact ⟨D, h.mono hn, h2⟩
theorem Mp.made (w : World) : Mp (w.alloc (.map #[] 0)) w.heap.size 0 (fun _ => none) :=
  ⟨.map [], World.ownsMap_made w _ _ _, ⟨[], rfl⟩, fun f => rfl⟩
theorem PgR_inv {v : Value} {o : Option Nat} {ps : List MemPlace} (h : PgR v = some (pgD o, ps)) : v = ptrP o := by
  unfold PgR at h
  split at h
  · rename_i g
    cases o with
    | none => simp [pgD] at h
    | some g' =>
      simp [pgD] at h
      unfold ptrP
      have : g = g' := by omega
      rw [this]
  · cases o with
    | none => rfl
    | some g' => simp [pgD] at h
  · cases h
theorem zeroPtr (w : World) : (zeroValue 158).run Tryz.prog w = .ok (.pointer none) w := by kernel_rfl
theorem keyOfI {f : Nat} (hf : f ≤ 9223372036854775807) : keyOf Tryz.prog 3 (.int .i64 f) = some (.int .i64 f) :=
  Maps.keyOf_int_mk Tryz.underlying3 (by simp [Lit.wf, IntKind.min, IntKind.max, IntKind.signed, IntKind.bits]; omega)
theorem Mp.look {w : World} {mb n : Nat} {pg : Nat → Option Nat} (h : Mp w mb n pg) (f : Nat) (hf : f ≤ 9223372036854775807) :
    (Instr.lookup 127 (.map (some mb)) (.int .i64 f) false).run Tryz.prog w = .ok (ptrP (pg f)) w := by
  obtain ⟨D, h, _, h3⟩ := h
  obtain ⟨v, ps, hrun, hv⟩ := h.lookup keyI Tryz.underlying127 (zeroPtr w) (zd := .nil) (zp := []) rfl (keyOfI hf)
  rw [h3] at hv
  rw [hrun, PgR_inv hv]
/-- with a page at a frame -/
def updP (pg : Nat → Option Nat) (f g : Nat) : Nat → Option Nat := fun k => if k = f then some g else pg k
set_option maxRecDepth 100000 in
theorem Mp.store {w : World} {mb n : Nat} {pg : Nat → Option Nat} (h : Mp w mb n pg) (hn : n < maxLen) (f g : Nat) (hf : f ≤ 9223372036854775807) :
    ∃ w', (Instr.mapUpdate 127 (.map (some mb)) (.int .i64 f) (.pointer (some ⟨g, 0, none⟩))).run Tryz.prog w = .ok () w' ∧ Mp w' mb (n + 1) (updP pg f g) ∧ Chg (fun k => k = mb) w w' := by
  obtain ⟨D, h, h2, h3⟩ := h
  obtain ⟨w', hrun, ho, hg⟩ := h.update (e := 158) keyI Tryz.underlying127 hn (keyOfI hf) (val := .pointer (some ⟨g, 0, none⟩)) (d := .lit (.int .u64 g)) (ps := []) rfl
  refine ⟨w', hrun, ⟨_, ho, h2.put _ _, fun k => ?_⟩, Chg.grown hg (fun k hk _ => by injection hk with hk; exact hk.symm)⟩
  unfold updP
  split
  · rename_i e
    subst e
    exact Maps.atKey_put_same (k := .int .i64 k) h2 trivial _ _
  · rename_i e
    rw [Maps.atKey_put_other (by intro h; injection h with _ h; omega)]
    exact h3 k
/-- the zero value of a page -/
theorem zeroPage (w : World) : (zeroValue 183).run Tryz.prog w = .ok (.agg (Array.replicate 4096 (.int .u8 0))) w := by kernel_rfl
end Go.Proofs.YtgnjbjbgfhjakaaGreat
