/-
  A slice of texts that came in, as RingOrder's walk takes it.
-/
import Derived.Test.YteepofehjofeaaaOrder
import Derived.Deep.Slices
namespace Go.Proofs.Yteepofehjofeaaa
open Go.RowKit
set_option linter.unusedVariables false

theorem rdt_of_row {w : World} {a : Option Addr} {len cap : Nat} {zs : List ByteArray}
    (h : (a = none ∧ len = 0 ∧ cap = 0 ∧ zs = []) ∨ ∃ x, a = some x ∧ len ≤ cap ∧ cap ≤ maxLen ∧ zs.length = cap ∧ ∀ i, i < zs.length → w.cell? (x.add i) = some (.string (zs.getD i ByteArray.empty))) :
    ∃ Y, RdT w a Y (zs.take len) := by
  rcases h with ⟨rfl, rfl, rfl, rfl⟩ | ⟨x, rfl, hl, hm, hz, hc⟩
  · exact ⟨0, .inl rfl⟩
  · by_cases h0 : len = 0
    · exact ⟨0, .inl (by rw [h0]; rfl)⟩
    · obtain ⟨b, off, sp⟩ := x
      have hsp : sp = none := by
        have := hc 0 (by omega)
        simpa [Addr.add] using World.cell?_spot this
      subst hsp
      have hadd : ∀ i, (⟨b, off, none⟩ : Addr).add i = ⟨b, off + i, none⟩ := fun i => by
        unfold Addr.add; split
        · rename_i h; rw [h]; rfl
        · rfl
      refine ⟨b, .inr ⟨off, rfl, ?_, fun i hi => ?_⟩⟩
      · have := hc 0 (by omega)
        rcases Nat.lt_or_ge b w.heap.size with hlt | hge
        · exact hlt
        · rw [hadd, show w.cell? ⟨b, off + 0, none⟩ = none from by simp [World.cell?, Array.getElem?_eq_none hge]] at this; cases this
      · have hi' : i < len := by rw [List.length_take] at hi; omega
        rw [← hadd, hc i (by omega), List.getD_eq_getElem?_getD, List.getElem?_eq_getElem (by omega)]
        simp
theorem text_len {w : World} {a : Option Addr} {len cap : Nat} {zs : List ByteArray}
    (h : (a = none ∧ len = 0 ∧ cap = 0 ∧ zs = []) ∨ ∃ x, a = some x ∧ len ≤ cap ∧ cap ≤ maxLen ∧ zs.length = cap ∧ ∀ i, i < zs.length → w.cell? (x.add i) = some (.string (zs.getD i ByteArray.empty))) :
    (zs.take len).length = len ∧ len ≤ 9223372036854775807 ∧ len ≤ cap := by
  rcases h with ⟨rfl, rfl, rfl, rfl⟩ | ⟨x, rfl, hl, hm, hz, hc⟩
  · exact ⟨rfl, by decide, Nat.le_refl _⟩
  · unfold maxLen at hm
    refine ⟨by rw [List.length_take]; omega, by omega, hl⟩
end Go.Proofs.Yteepofehjofeaaa
