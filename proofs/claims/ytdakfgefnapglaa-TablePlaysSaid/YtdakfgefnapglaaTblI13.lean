/-
  Package table fills the laws' interface: each of its contracts at the tables' state. Each says its own conditions.
-/
import Derived.Test.YtdakfgefnapglaaTblL13
import Derived.Test.YtdakfgefnapglaaLawI13
namespace Go.Proofs.Ytdakfgefnapglaa
open Go.RowKit
set_option linter.unusedVariables false
set_option linter.unusedSimpArgs false

/-- tables in memory, k acts behind them -/
def TXd (first n fs : Nat) (w : World) (tp sp : Nat) (F : Nat → Prop) (S : Tt) (k : Nat) : Prop := ∃ mp Fm Gs, TS first n fs w tp mp sp Fm Gs S (1 + 5 * k) ∧ F = FpW tp mp Fm Gs
theorem TXd.step {first n fs : Nat} {w w' : World} {tp mp sp : Nat} {Fm Gs Fm' Gs' : Nat → Prop} {S : Tt} {k : Nat} (h : TS first n fs w' tp mp sp Fm' Gs' S (1 + 5 * k + 5)) (hn : Nx w w' tp mp Fm Gs Fm' Gs') :
    ∃ F', TXd first n fs w' tp sp F' S (k + 1) ∧ (∀ j, F' j → FpW tp mp Fm Gs j ∨ w.heap.size ≤ j) ∧ Chg (FpW tp mp Fm Gs) w w' :=
  ⟨_, ⟨mp, Fm', Gs', h.mono (by omega), rfl⟩, hn.1, hn.2⟩
def tabI13 : TabI where
  TX := TXd
  chg := by
    rintro first n fs w tp sp F S k w' G ⟨mp, Fm, Gs, h, rfl⟩ hc hf
    exact ⟨mp, Fm, Gs, h.chg hc hf, rfl⟩
  lt := by
    rintro first n fs w tp sp F S k ⟨mp, Fm, Gs, ⟨C, hW, hR⟩, rfl⟩
    exact hW.lt
  rt := by
    rintro first n fs w tp sp F S k ⟨mp, Fm, Gs, ⟨C, hW, hR⟩, rfl⟩
    exact ⟨_, hR⟩
  new_yes := by
    intro first n fs w mp sp Fm Gs hM hS hd hT
    refine (new13_yes first n fs w mp sp Fm Gs hM hS hd hT).mono ?_
    rintro r w' ⟨tp, Fm', rfl, hts, hf, hc⟩
    exact ⟨tp, _, rfl, ⟨mp, Fm', Gs, hts, rfl⟩, hf, hc⟩
  new_no := fun first n fs w mp sp Fm Gs hM hS hd hT => new13_no first n fs w mp sp Fm Gs hM hS hd hT
  new_nil := new13_nil
  map := by
    rintro first n fs w tp sp F S k va l e ⟨mp, Fm, Gs, h, rfl⟩ hk hva hl hr hp
    refine (map13_any va l e h hva hl hr hp (by omega)).mono ?_
    rintro r w' ⟨rfl, Fm', Gs', hts, hn⟩
    exact ⟨rfl, TXd.step hts hn⟩
  change := by
    rintro first n fs w tp sp F S k va e ⟨mp, Fm, Gs, h, rfl⟩ hk hva hr hp
    refine (change13_any va e h hva hr hp (by omega)).mono ?_
    rintro r w' ⟨rfl, Fm', Gs', hts, hn⟩
    exact ⟨rfl, TXd.step hts hn⟩
  unmap := by
    rintro first n fs w tp sp F S k va ⟨mp, Fm, Gs, h, rfl⟩ hk hva
    refine (unmap13_any va h hva (by omega)).mono ?_
    rintro r w' ⟨rfl, Fm', Gs', hts, hn⟩
    exact ⟨rfl, TXd.step hts hn⟩
  find := by
    rintro first n fs w tp sp F S k va ⟨mp, Fm, Gs, h, rfl⟩ hva
    rcases find13_two va h hva with ⟨m, f, i, hh, _, _, _, _, _, _, _, _, h1⟩ | ⟨hh, _, h1⟩
    · rw [hh]
      refine (h1 w (Below.refl _ _)).mono ?_
      rintro r w' ⟨rfl, hb⟩
      exact ⟨⟨_, rfl, fun m' hm' => by rw [← Option.some.inj hm']; exact ⟨rfl, rfl⟩⟩, Chg.of_below hb⟩
    · rw [hh]
      refine (h1 w (Below.refl _ _)).mono ?_
      rintro r w' ⟨rfl, hb⟩
      exact ⟨⟨_, rfl, fun m' hm' => by cases hm'⟩, Chg.of_below hb⟩
  used := by
    rintro first n fs w tp sp F S k ⟨mp, Fm, Gs, h, rfl⟩
    exact used13_any h
  sused := by
    rintro first n fs w tp sp F S k ⟨mp, Fm, Gs, h, rfl⟩
    exact sused13_any h
  root := by
    rintro first n fs w tp sp F S k ⟨mp, Fm, Gs, h, rfl⟩
    exact root13_any h
  pages := by
    rintro first n fs w tp sp F S k ⟨mp, Fm, Gs, h, rfl⟩ hl
    refine (pages13_any h hl).mono ?_
    rintro r w' ⟨⟨y, rfl, h1, _⟩, hc⟩
    exact ⟨⟨y, rfl, h1⟩, hc⟩
  pagesN := by
    rintro first n fs w tp sp F S k ⟨mp, Fm, Gs, h, rfl⟩ hl
    exact pages13_any h hl
  unmap_nil := by
    intro va w
    refine (unmap13_nil va w).mono ?_
    rintro r w' ⟨rfl, hc⟩
    exact ⟨⟨_, rfl⟩, hc⟩
  find_nil := by
    intro va w
    refine (find13_nil va w).mono ?_
    rintro r w' ⟨rfl, hc⟩
    exact ⟨⟨_, rfl⟩, hc⟩
  map_nil := by
    intro va l e w
    refine (map13_nil va l e w).mono ?_
    rintro r w' ⟨rfl, hb⟩
    exact ⟨rfl, Chg.of_below hb⟩
  change_nil := change13_nil
  root_nil := root13_nil
  used_nil := used13_nil
  pages_nil := pages13_nil
end Go.Proofs.Ytdakfgefnapglaa
