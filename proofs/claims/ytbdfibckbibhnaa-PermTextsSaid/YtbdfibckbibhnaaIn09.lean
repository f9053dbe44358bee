/-
  Structs by value that came in, as the walks take them.
-/
import Derived.Test.YtbdfibckbibhnaaProg
import Derived.Test.YtbdfibckbibhnaaPerm09
import Derived.WalkKit
import Derived.OpenShut
import Derived.ChangeArms
import Derived.WideShapes
namespace Go.Proofs.Ytbdfibckbibhnaa
open Go.RowKit Go.ChangeShapes Go.WideShapes
set_option linter.unusedVariables false

theorem one_of {l : List Value} {i : Nat} {v : Value} (h : (l.drop i).take 1 = [v]) : l[i]? = some v := by
  have h1 : ((l.drop i).take 1)[0]? = some v := by rw [h]; rfl
  rw [List.getElem?_take_of_lt (by omega), List.getElem?_drop, Nat.add_zero] at h1
  exact h1
theorem open_ent {H : Type} {enc : TypeId × Value → H} {W : World} {b base : Nat} {spare : Nat → Bool} {held : Bool} {r : Reach} {v : Value} {d : DataW H} {p : List MemPlace}
    (hv : Value.okWide Try.prog W r base 24 v) (h : DataW.Trod enc Try.prog W b spare held 24 v d p) :
    ∃ E : Ent, v = pv E ∧ (-9223372036854775808 ≤ E.rsw ∧ E.rsw ≤ 9223372036854775807) ∧ E.ppn < 18446744073709551616 := by
  obtain ⟨cs, rfl, hs⟩ := okWide_struct Try.underlying24 hv
  obtain ⟨fuel, hf⟩ := h
  obtain ⟨xs, n', _, _, _, hxs, hf⟩ := DataW.trod_struct Try.underlying24 hf
  have hxl : xs.length = 10 := hxs
  have hcs : cs.size = 10 := hs.trans (by kernel_rfl)
  obtain ⟨l⟩ := cs
  have hl : l.length = 10 := hcs
  have hC : (Value.cells (.agg ⟨l⟩)).toList = l := rfl
  rw [hC] at hf
  have f0 : DataW.trod enc Try.prog W b spare held n' 4 ((l.drop 0).take (Try.prog.cellsOf 4)) = xs[0]? := hf 0 _ rfl
  have f1 : DataW.trod enc Try.prog W b spare held n' 4 ((l.drop 1).take (Try.prog.cellsOf 4)) = xs[1]? := hf 1 _ rfl
  have f2 : DataW.trod enc Try.prog W b spare held n' 4 ((l.drop 2).take (Try.prog.cellsOf 4)) = xs[2]? := hf 2 _ rfl
  have f3 : DataW.trod enc Try.prog W b spare held n' 4 ((l.drop 3).take (Try.prog.cellsOf 4)) = xs[3]? := hf 3 _ rfl
  have f4 : DataW.trod enc Try.prog W b spare held n' 4 ((l.drop 4).take (Try.prog.cellsOf 4)) = xs[4]? := hf 4 _ rfl
  have f5 : DataW.trod enc Try.prog W b spare held n' 4 ((l.drop 5).take (Try.prog.cellsOf 4)) = xs[5]? := hf 5 _ rfl
  have f6 : DataW.trod enc Try.prog W b spare held n' 4 ((l.drop 6).take (Try.prog.cellsOf 4)) = xs[6]? := hf 6 _ rfl
  have f7 : DataW.trod enc Try.prog W b spare held n' 4 ((l.drop 7).take (Try.prog.cellsOf 4)) = xs[7]? := hf 7 _ rfl
  have f8 : DataW.trod enc Try.prog W b spare held n' 3 ((l.drop 8).take (Try.prog.cellsOf 3)) = xs[8]? := hf 8 _ rfl
  have f9 : DataW.trod enc Try.prog W b spare held n' 22 ((l.drop 9).take (Try.prog.cellsOf 22)) = xs[9]? := hf 9 _ rfl
  rw [List.getElem?_eq_getElem (by omega)] at f0 f1 f2 f3 f4 f5 f6 f7 f8 f9
  rw [show Try.prog.cellsOf 4 = 1 by kernel_rfl] at f0
  obtain ⟨y0, g0, _⟩ := DataW.trod_bool Try.underlying4 f0
  rw [show Try.prog.cellsOf 4 = 1 by kernel_rfl] at f1
  obtain ⟨y1, g1, _⟩ := DataW.trod_bool Try.underlying4 f1
  rw [show Try.prog.cellsOf 4 = 1 by kernel_rfl] at f2
  obtain ⟨y2, g2, _⟩ := DataW.trod_bool Try.underlying4 f2
  rw [show Try.prog.cellsOf 4 = 1 by kernel_rfl] at f3
  obtain ⟨y3, g3, _⟩ := DataW.trod_bool Try.underlying4 f3
  rw [show Try.prog.cellsOf 4 = 1 by kernel_rfl] at f4
  obtain ⟨y4, g4, _⟩ := DataW.trod_bool Try.underlying4 f4
  rw [show Try.prog.cellsOf 4 = 1 by kernel_rfl] at f5
  obtain ⟨y5, g5, _⟩ := DataW.trod_bool Try.underlying4 f5
  rw [show Try.prog.cellsOf 4 = 1 by kernel_rfl] at f6
  obtain ⟨y6, g6, _⟩ := DataW.trod_bool Try.underlying4 f6
  rw [show Try.prog.cellsOf 4 = 1 by kernel_rfl] at f7
  obtain ⟨y7, g7, _⟩ := DataW.trod_bool Try.underlying4 f7
  rw [show Try.prog.cellsOf 3 = 1 by kernel_rfl] at f8
  obtain ⟨y8, g8, _, z8⟩ := DataW.trod_int Try.underlying3 f8
  rw [show Try.prog.cellsOf 22 = 1 by kernel_rfl] at f9
  obtain ⟨y9, g9, _, z9⟩ := DataW.trod_int Try.underlying22 f9
  have c0 := one_of g0
  have c1 := one_of g1
  have c2 := one_of g2
  have c3 := one_of g3
  have c4 := one_of g4
  have c5 := one_of g5
  have c6 := one_of g6
  have c7 := one_of g7
  have c8 := one_of g8
  have c9 := one_of g9
  obtain ⟨l0, l1, l2, l3, l4, l5, l6, l7, l8, l9, rfl⟩ : ∃ l0 l1 l2 l3 l4 l5 l6 l7 l8 l9, l = [l0, l1, l2, l3, l4, l5, l6, l7, l8, l9] := by
    match l, hl with
    | [l0, l1, l2, l3, l4, l5, l6, l7, l8, l9], _ => exact ⟨_, _, _, _, _, _, _, _, _, _, rfl⟩
  simp only [List.getElem?_cons_zero, List.getElem?_cons_succ, Option.some.injEq] at c0 c1 c2 c3 c4 c5 c6 c7 c8 c9
  subst c0 c1 c2 c3 c4 c5 c6 c7 c8 c9
  have q8 : -9223372036854775808 ≤ y8 ∧ y8 ≤ 9223372036854775807 := by simpa [Lit.wf, IntKind.min, IntKind.max, IntKind.signed, IntKind.bits] using z8
  have q9 : 0 ≤ y9 ∧ y9 ≤ 18446744073709551615 := by simpa [Lit.wf, IntKind.min, IntKind.max, IntKind.signed, IntKind.bits] using z9
  obtain ⟨m9, rfl⟩ : ∃ m : Nat, y9 = m := ⟨y9.toNat, by omega⟩
  exact ⟨⟨y0, y1, y2, y3, y4, y5, y6, y7, y8, m9⟩, rfl, q8, by have := q9.2; show m9 < _; omega⟩
theorem open_mode {H : Type} {enc : TypeId × Value → H} {W : World} {b base : Nat} {spare : Nat → Bool} {held : Bool} {r : Reach} {v : Value} {d : DataW H} {p : List MemPlace}
    (hv : Value.okWide Try.prog W r base 27 v) (h : DataW.Trod enc Try.prog W b spare held 27 v d p) :
    ∃ E : Md, v = mv E ∧ True := by
  obtain ⟨cs, rfl, hs⟩ := okWide_struct Try.underlying27 hv
  obtain ⟨fuel, hf⟩ := h
  obtain ⟨xs, n', _, _, _, hxs, hf⟩ := DataW.trod_struct Try.underlying27 hf
  have hxl : xs.length = 3 := hxs
  have hcs : cs.size = 3 := hs.trans (by kernel_rfl)
  obtain ⟨l⟩ := cs
  have hl : l.length = 3 := hcs
  have hC : (Value.cells (.agg ⟨l⟩)).toList = l := rfl
  rw [hC] at hf
  have f0 : DataW.trod enc Try.prog W b spare held n' 4 ((l.drop 0).take (Try.prog.cellsOf 4)) = xs[0]? := hf 0 _ rfl
  have f1 : DataW.trod enc Try.prog W b spare held n' 4 ((l.drop 1).take (Try.prog.cellsOf 4)) = xs[1]? := hf 1 _ rfl
  have f2 : DataW.trod enc Try.prog W b spare held n' 4 ((l.drop 2).take (Try.prog.cellsOf 4)) = xs[2]? := hf 2 _ rfl
  rw [List.getElem?_eq_getElem (by omega)] at f0 f1 f2
  rw [show Try.prog.cellsOf 4 = 1 by kernel_rfl] at f0
  obtain ⟨y0, g0, _⟩ := DataW.trod_bool Try.underlying4 f0
  rw [show Try.prog.cellsOf 4 = 1 by kernel_rfl] at f1
  obtain ⟨y1, g1, _⟩ := DataW.trod_bool Try.underlying4 f1
  rw [show Try.prog.cellsOf 4 = 1 by kernel_rfl] at f2
  obtain ⟨y2, g2, _⟩ := DataW.trod_bool Try.underlying4 f2
  have c0 := one_of g0
  have c1 := one_of g1
  have c2 := one_of g2
  obtain ⟨l0, l1, l2, rfl⟩ : ∃ l0 l1 l2, l = [l0, l1, l2] := by
    match l, hl with
    | [l0, l1, l2], _ => exact ⟨_, _, _, rfl⟩
  simp only [List.getElem?_cons_zero, List.getElem?_cons_succ, Option.some.injEq] at c0 c1 c2
  subst c0 c1 c2
  exact ⟨⟨y0, y1, y2⟩, rfl, trivial⟩
end Go.Proofs.Ytbdfibckbibhnaa
