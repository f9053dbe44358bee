/-
  A slice of bytes that came in, as the walk of FramesOnce takes it.
-/
import Derived.Test.YtbfnbiadmmpaaaaOnce07
namespace Go.Proofs.Ytbfnbiadmmpaaaa
open Go.RowKit
set_option linter.unusedVariables false

theorem u8_bounds {n : Int} (h : (Lit.int .u8 n).wf = true) : 0 ≤ n ∧ n ≤ 255 := by
  simpa [Lit.wf, IntKind.min, IntKind.max, IntKind.signed, IntKind.bits] using h
theorem rdb_of_row {w : World} {a : Option Addr} {len cap : Nat} {zs : List Int}
    (h : (a = none ∧ len = 0 ∧ cap = 0 ∧ zs = []) ∨ ∃ x, a = some x ∧ len ≤ cap ∧ cap ≤ maxLen ∧ zs.length = cap ∧ (∀ i, i < zs.length → w.cell? (x.add i) = some (.int .u8 (zs.getD i 0))) ∧ ∀ n ∈ zs, (Lit.int .u8 n).wf = true) :
    ∃ Y, RdB w a Y (zs.take len) ∧ (zs.take len).length = len ∧ len ≤ 9223372036854775807 ∧ ∀ x ∈ zs.take len, 0 ≤ x ∧ x ≤ 255 := by
  rcases h with ⟨rfl, rfl, rfl, rfl⟩ | ⟨x, rfl, hl, hm, hz, hc, hw⟩
  · exact ⟨0, .inl rfl, rfl, by decide, fun x hx => by simp at hx⟩
  · have hf : ∀ x ∈ zs.take len, 0 ≤ x ∧ x ≤ 255 := fun x hx => u8_bounds (hw x (List.mem_of_mem_take hx))
    unfold maxLen at hm
    have hlen : (zs.take len).length = len := by rw [List.length_take]; omega
    by_cases h0 : len = 0
    · exact ⟨0, .inl (by rw [h0]; rfl), hlen, by omega, hf⟩
    · obtain ⟨b, off, rfl, hc'⟩ := ints_at hc (by omega)
      refine ⟨b, .inr ⟨off, rfl, ?_, fun i hi => ?_⟩, hlen, by omega, hf⟩
      · have := hc' 0 (by omega)
        rcases Nat.lt_or_ge b w.heap.size with hlt | hge
        · exact hlt
        · rw [show w.cell? ⟨b, off + 0, none⟩ = none from by simp [World.cell?, Array.getElem?_eq_none hge]] at this; cases this
      · have hi' : i < len := by rw [List.length_take] at hi; omega
        rw [hc' i (by omega), List.getD_eq_getElem?_getD, List.getElem?_eq_getElem (by omega)]
        simp
end Go.Proofs.Ytbfnbiadmmpaaaa
