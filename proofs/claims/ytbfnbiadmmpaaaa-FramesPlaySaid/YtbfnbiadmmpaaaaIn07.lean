/-
  A slice of integers that came in, as the walk of FramesPlay takes it.
-/
import Derived.Test.YtbfnbiadmmpaaaaPlay07
namespace Go.Proofs.Ytbfnbiadmmpaaaa
open Go.RowKit
set_option linter.unusedVariables false

theorem i64_bounds {n : Int} (h : (Lit.int .i64 n).wf = true) : I64 n := by
  unfold I64
  simpa [Lit.wf, IntKind.min, IntKind.max, IntKind.signed, IntKind.bits] using h
theorem rds_of_row {w : World} {a : Option Addr} {len cap : Nat} {zs : List Int}
    (h : (a = none ∧ len = 0 ∧ cap = 0 ∧ zs = []) ∨ ∃ x, a = some x ∧ len ≤ cap ∧ cap ≤ maxLen ∧ zs.length = cap ∧ (∀ i, i < zs.length → w.cell? (x.add i) = some (.int .i64 (zs.getD i 0))) ∧ ∀ n ∈ zs, (Lit.int .i64 n).wf = true) :
    ∃ Y, RdS w a Y (zs.take len) ∧ ∀ x ∈ zs.take len, I64 x := by
  rcases h with ⟨rfl, rfl, rfl, rfl⟩ | ⟨x, rfl, hl, hm, hz, hc, hw⟩
  · exact ⟨0, .inl rfl, fun x hx => by simp at hx⟩
  · have hf : ∀ x ∈ zs.take len, I64 x := fun x hx => i64_bounds (hw x (List.mem_of_mem_take hx))
    by_cases h0 : len = 0
    · exact ⟨0, .inl (by rw [h0]; rfl), hf⟩
    · obtain ⟨b, off, rfl, hc'⟩ := ints_at hc (by omega)
      refine ⟨b, .inr ⟨off, rfl, ?_, fun i hi => ?_⟩, hf⟩
      · have := hc' 0 (by omega)
        rcases Nat.lt_or_ge b w.heap.size with hlt | hge
        · exact hlt
        · rw [show w.cell? ⟨b, off + 0, none⟩ = none from by simp [World.cell?, Array.getElem?_eq_none hge]] at this; cases this
      · have hi' : i < len := by rw [List.length_take] at hi; omega
        rw [hc' i (by omega), List.getD_eq_getElem?_getD, List.getElem?_eq_getElem (by omega)]
        simp
theorem row_len {w : World} {a : Option Addr} {len cap : Nat} {zs : List Int}
    (h : (a = none ∧ len = 0 ∧ cap = 0 ∧ zs = []) ∨ ∃ x, a = some x ∧ len ≤ cap ∧ cap ≤ maxLen ∧ zs.length = cap ∧ (∀ i, i < zs.length → w.cell? (x.add i) = some (.int .i64 (zs.getD i 0))) ∧ ∀ n ∈ zs, (Lit.int .i64 n).wf = true) :
    (zs.take len).length = len ∧ len ≤ 9223372036854775807 ∧ len ≤ cap := by
  rcases h with ⟨rfl, rfl, rfl, rfl⟩ | ⟨x, rfl, hl, hm, hz, hc, hw⟩
  · exact ⟨rfl, by decide, Nat.le_refl _⟩
  · unfold maxLen at hm
    refine ⟨by rw [List.length_take]; omega, by omega, hl⟩
end Go.Proofs.Ytbfnbiadmmpaaaa
