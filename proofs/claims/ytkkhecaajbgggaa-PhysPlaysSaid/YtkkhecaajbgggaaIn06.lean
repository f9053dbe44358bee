/-
  A slice of acts that came in, as the walk of layer 6 takes it.
-/
import Derived.Test.YtkkhecaajbgggaaPlays06
import Derived.Deep.Slices
namespace Go.Proofs.Ytkkhecaajbgggaa
open Go.RowKit Go.ChangeShapes Go.WideShapes Go.Deep
set_option linter.unusedVariables false

theorem cells35 : Try.prog.cellsOf 35 = 6 := by kernel_rfl
theorem cells3 : Try.prog.cellsOf 3 = 1 := by kernel_rfl
theorem cells32 : Try.prog.cellsOf 32 = 1 := by kernel_rfl
theorem cells33 : Try.prog.cellsOf 33 = 1 := by kernel_rfl
theorem cells5 : Try.prog.cellsOf 5 = 1 := by kernel_rfl
theorem one_of {l : List Value} {i : Nat} {v : Value} (h : (l.drop i).take 1 = [v]) : l[i]? = some v := by
  have h1 : ((l.drop i).take 1)[0]? = some v := by rw [h]; rfl
  rw [List.getElem?_take_of_lt (by omega), List.getElem?_drop, Nat.add_zero] at h1
  exact h1
theorem acts_of_trod {H : Type} {enc : TypeId × Value → H} {w : World} {base : Nat} {held : Bool} {fuel : Nat} {a : Option Addr} {len cap : Nat} {x : DataW H × List MemPlace}
    (h : DataW.trod enc Try.prog w base (fun _ => true) held fuel 22 [.slice a len cap] = some x) : IsActs w a len ∧ len ≤ 9223372036854775807 := by
  rcases open_slice Try.underlying22 h with ⟨hcs, _⟩ | ⟨ad, l, c, m, n, D, Pl, hcs, _, hl, hm, hmm, _, hx⟩
  · injection hcs with h1 _
    injection h1 with h1 h2 h3
    subst h2
    exact ⟨fun h0 => by omega, by omega⟩
  · injection hcs with h1 _
    injection h1 with h1 h2 h3
    subst h1 h2 h3
    unfold maxLen at hm
    rw [if_pos rfl] at hmm
    refine ⟨fun h0 => ?_, by omega⟩
    rw [cells35] at hx
    have hspot : ∃ b off, ad = ⟨b, off, none⟩ := by
      obtain ⟨cs', hc, _⟩ := hx 0 (by omega)
      obtain ⟨_, hlen, hcell⟩ := World.cells?_some hc
      have h0 := hcell 0 (by omega)
      rw [List.getElem?_eq_getElem (by omega)] at h0
      obtain ⟨b, o, spot⟩ := ad
      have hsp : spot = none := by
        have := World.cell?_spot h0
        simpa [Addr.add] using this
      subst hsp
      exact ⟨b, o, rfl⟩
    obtain ⟨b, off, rfl⟩ := hspot
    refine ⟨b, off, rfl, fun i hi => ?_⟩
    obtain ⟨cs', hc, ht⟩ := hx i (by omega)
    obtain ⟨_, hlen, hcell⟩ := World.cells?_some hc
    obtain ⟨xs, n', _, _, _, hxs, hf⟩ := DataW.trod_struct Try.underlying35 ht
    have hxl : xs.length = 6 := hxs
    have at_ : ∀ j, j < 6 → w.cell? ⟨b, off + i * 6 + j, none⟩ = cs'[j]? := fun j hj => by
      have := hcell j hj
      rwa [add_plain, add_plain] at this
    have f0 : DataW.trod enc Try.prog w base (fun _ => true) held n' 3 ((cs'.drop 0).take (Try.prog.cellsOf 3)) = xs[0]? := hf 0 _ rfl
    have f1 : DataW.trod enc Try.prog w base (fun _ => true) held n' 3 ((cs'.drop 1).take (Try.prog.cellsOf 3)) = xs[1]? := hf 1 _ rfl
    have f2 : DataW.trod enc Try.prog w base (fun _ => true) held n' 3 ((cs'.drop 2).take (Try.prog.cellsOf 3)) = xs[2]? := hf 2 _ rfl
    have f3 : DataW.trod enc Try.prog w base (fun _ => true) held n' 32 ((cs'.drop 3).take (Try.prog.cellsOf 32)) = xs[3]? := hf 3 _ rfl
    have f4 : DataW.trod enc Try.prog w base (fun _ => true) held n' 32 ((cs'.drop 4).take (Try.prog.cellsOf 32)) = xs[4]? := hf 4 _ rfl
    have f5 : DataW.trod enc Try.prog w base (fun _ => true) held n' 33 ((cs'.drop 5).take (Try.prog.cellsOf 33)) = xs[5]? := hf 5 _ rfl
    rw [List.getElem?_eq_getElem (by omega)] at f0 f1 f2 f3 f4 f5
    rw [cells3] at f0 f1 f2
    rw [cells32] at f3 f4
    rw [cells33] at f5
    obtain ⟨v0, g0, _, w0⟩ := DataW.trod_int Try.underlying3 f0
    obtain ⟨v1, g1, _, w1⟩ := DataW.trod_int Try.underlying3 f1
    obtain ⟨v2, g2, _, w2⟩ := DataW.trod_int Try.underlying3 f2
    obtain ⟨v3, g3, _, w3⟩ := DataW.trod_int Try.underlying32 f3
    obtain ⟨v4, g4, _, w4⟩ := DataW.trod_int Try.underlying32 f4
    have b3 : 0 ≤ v3 ∧ v3 ≤ 18446744073709551615 := by simpa [Lit.wf, IntKind.min, IntKind.max, IntKind.signed, IntKind.bits] using w3
    have b4 : 0 ≤ v4 ∧ v4 ≤ 18446744073709551615 := by simpa [Lit.wf, IntKind.min, IntKind.max, IntKind.signed, IntKind.bits] using w4
    obtain ⟨q, rfl⟩ : ∃ q : Nat, v3 = q := ⟨v3.toNat, by omega⟩
    have c0 := (at_ 0 (by omega)).trans (one_of g0)
    have c1 := (at_ 1 (by omega)).trans (one_of g1)
    have c2 := (at_ 2 (by omega)).trans (one_of g2)
    have c3 := (at_ 3 (by omega)).trans (one_of g3)
    have c4 := (at_ 4 (by omega)).trans (one_of g4)
    rcases open_ints Try.underlying33 Try.underlying5 cells5 f5 with ⟨g5, _⟩ | ⟨y, l5, k5, zs, g5, _, hl5, hm5, hz5, _, hc5, hw5⟩
    · have c5 := (at_ 5 (by omega)).trans (one_of g5)
      exact ⟨⟨v0, v1, v2, q, v4, none, 0, 0, []⟩, ⟨c0, c1, c2, c3, c4, c5, by show q ≤ _; omega, b4.1, b4.2, ⟨Byt.nil, by simp, fun h => by simp at h⟩, rfl, Nat.le_refl _, fun _ => ⟨rfl, rfl⟩⟩⟩
    · have c5 := (at_ 5 (by omega)).trans (one_of g5)
      obtain ⟨hrd, hln⟩ := rd_of_row (w := w) (a := some y) (len := l5) (cap := k5) (zs := zs) (.inr ⟨y, rfl, hl5, hm5, hz5, hc5, hw5⟩)
      exact ⟨⟨v0, v1, v2, q, v4, some y, l5, k5, zs.take l5⟩, ⟨c0, c1, c2, c3, c4, c5, by show q ≤ _; omega, b4.1, b4.2, hrd, hln, hl5, fun h => by cases h⟩⟩
end Go.Proofs.Ytkkhecaajbgggaa
