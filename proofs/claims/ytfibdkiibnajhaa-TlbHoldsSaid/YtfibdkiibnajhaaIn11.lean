/-
  Structs by value that came in, as the walks take them.
-/
import Derived.Test.YtfibdkiibnajhaaProg
import Derived.Test.YtfibdkiibnajhaaHolds11
import Derived.WalkKit
import Derived.OpenShut
import Derived.ChangeArms
import Derived.WideShapes
namespace Go.Proofs.Ytfibdkiibnajhaa
open Go.RowKit Go.ChangeShapes Go.WideShapes
set_option linter.unusedVariables false

theorem one_of {l : List Value} {i : Nat} {v : Value} (h : (l.drop i).take 1 = [v]) : l[i]? = some v := by
  have h1 : ((l.drop i).take 1)[0]? = some v := by rw [h]; rfl
  rw [List.getElem?_take_of_lt (by omega), List.getElem?_drop, Nat.add_zero] at h1
  exact h1
set_option maxRecDepth 100000 in
theorem trod_ent11 {H : Type} {enc : TypeId × Value → H} {W : World} {b fuel : Nat} {spare : Nat → Bool} {held : Bool} {l : List Value} {x : DataW H × List MemPlace} (hl : l.length = 10)
    (h : DataW.trod enc Try.prog W b spare held fuel 24 l = some x) : ∃ e : Ent, l = [.bool e.v, .bool e.r, .bool e.w, .bool e.x, .bool e.u, .bool e.g, .bool e.a, .bool e.d, .int .i64 e.rsw, .int .u64 (e.ppn : Int)] := by
  obtain ⟨l0, l1, l2, l3, l4, l5, l6, l7, l8, l9, rfl⟩ : ∃ l0 l1 l2 l3 l4 l5 l6 l7 l8 l9, l = [l0, l1, l2, l3, l4, l5, l6, l7, l8, l9] := by
    match l, hl with
    | [l0, l1, l2, l3, l4, l5, l6, l7, l8, l9], _ => exact ⟨_, _, _, _, _, _, _, _, _, _, rfl⟩
  obtain ⟨xs, n', _, _, _, hxs, hf⟩ := DataW.trod_struct Try.underlying24 h
  have hxl : xs.length = 10 := hxs
  have f0 : DataW.trod enc Try.prog W b spare held n' 4 (([l0, l1, l2, l3, l4, l5, l6, l7, l8, l9].drop 0).take (Try.prog.cellsOf 4)) = xs[0]? := hf 0 _ rfl
  rw [List.getElem?_eq_getElem (by omega), show Try.prog.cellsOf 4 = 1 by kernel_rfl] at f0
  replace f0 : DataW.trod enc Try.prog W b spare held n' 4 [l0] = some xs[0] := f0
  have f1 : DataW.trod enc Try.prog W b spare held n' 4 (([l0, l1, l2, l3, l4, l5, l6, l7, l8, l9].drop 1).take (Try.prog.cellsOf 4)) = xs[1]? := hf 1 _ rfl
  rw [List.getElem?_eq_getElem (by omega), show Try.prog.cellsOf 4 = 1 by kernel_rfl] at f1
  replace f1 : DataW.trod enc Try.prog W b spare held n' 4 [l1] = some xs[1] := f1
  have f2 : DataW.trod enc Try.prog W b spare held n' 4 (([l0, l1, l2, l3, l4, l5, l6, l7, l8, l9].drop 2).take (Try.prog.cellsOf 4)) = xs[2]? := hf 2 _ rfl
  rw [List.getElem?_eq_getElem (by omega), show Try.prog.cellsOf 4 = 1 by kernel_rfl] at f2
  replace f2 : DataW.trod enc Try.prog W b spare held n' 4 [l2] = some xs[2] := f2
  have f3 : DataW.trod enc Try.prog W b spare held n' 4 (([l0, l1, l2, l3, l4, l5, l6, l7, l8, l9].drop 3).take (Try.prog.cellsOf 4)) = xs[3]? := hf 3 _ rfl
  rw [List.getElem?_eq_getElem (by omega), show Try.prog.cellsOf 4 = 1 by kernel_rfl] at f3
  replace f3 : DataW.trod enc Try.prog W b spare held n' 4 [l3] = some xs[3] := f3
  have f4 : DataW.trod enc Try.prog W b spare held n' 4 (([l0, l1, l2, l3, l4, l5, l6, l7, l8, l9].drop 4).take (Try.prog.cellsOf 4)) = xs[4]? := hf 4 _ rfl
  rw [List.getElem?_eq_getElem (by omega), show Try.prog.cellsOf 4 = 1 by kernel_rfl] at f4
  replace f4 : DataW.trod enc Try.prog W b spare held n' 4 [l4] = some xs[4] := f4
  have f5 : DataW.trod enc Try.prog W b spare held n' 4 (([l0, l1, l2, l3, l4, l5, l6, l7, l8, l9].drop 5).take (Try.prog.cellsOf 4)) = xs[5]? := hf 5 _ rfl
  rw [List.getElem?_eq_getElem (by omega), show Try.prog.cellsOf 4 = 1 by kernel_rfl] at f5
  replace f5 : DataW.trod enc Try.prog W b spare held n' 4 [l5] = some xs[5] := f5
  have f6 : DataW.trod enc Try.prog W b spare held n' 4 (([l0, l1, l2, l3, l4, l5, l6, l7, l8, l9].drop 6).take (Try.prog.cellsOf 4)) = xs[6]? := hf 6 _ rfl
  rw [List.getElem?_eq_getElem (by omega), show Try.prog.cellsOf 4 = 1 by kernel_rfl] at f6
  replace f6 : DataW.trod enc Try.prog W b spare held n' 4 [l6] = some xs[6] := f6
  have f7 : DataW.trod enc Try.prog W b spare held n' 4 (([l0, l1, l2, l3, l4, l5, l6, l7, l8, l9].drop 7).take (Try.prog.cellsOf 4)) = xs[7]? := hf 7 _ rfl
  rw [List.getElem?_eq_getElem (by omega), show Try.prog.cellsOf 4 = 1 by kernel_rfl] at f7
  replace f7 : DataW.trod enc Try.prog W b spare held n' 4 [l7] = some xs[7] := f7
  have f8 : DataW.trod enc Try.prog W b spare held n' 3 (([l0, l1, l2, l3, l4, l5, l6, l7, l8, l9].drop 8).take (Try.prog.cellsOf 3)) = xs[8]? := hf 8 _ rfl
  rw [List.getElem?_eq_getElem (by omega), show Try.prog.cellsOf 3 = 1 by kernel_rfl] at f8
  replace f8 : DataW.trod enc Try.prog W b spare held n' 3 [l8] = some xs[8] := f8
  have f9 : DataW.trod enc Try.prog W b spare held n' 22 (([l0, l1, l2, l3, l4, l5, l6, l7, l8, l9].drop 9).take (Try.prog.cellsOf 22)) = xs[9]? := hf 9 _ rfl
  rw [List.getElem?_eq_getElem (by omega), show Try.prog.cellsOf 22 = 1 by kernel_rfl] at f9
  replace f9 : DataW.trod enc Try.prog W b spare held n' 22 [l9] = some xs[9] := f9
  obtain ⟨y0, g0, _⟩ := DataW.trod_bool Try.underlying4 f0
  obtain rfl : l0 = _ := by injection g0
  obtain ⟨y1, g1, _⟩ := DataW.trod_bool Try.underlying4 f1
  obtain rfl : l1 = _ := by injection g1
  obtain ⟨y2, g2, _⟩ := DataW.trod_bool Try.underlying4 f2
  obtain rfl : l2 = _ := by injection g2
  obtain ⟨y3, g3, _⟩ := DataW.trod_bool Try.underlying4 f3
  obtain rfl : l3 = _ := by injection g3
  obtain ⟨y4, g4, _⟩ := DataW.trod_bool Try.underlying4 f4
  obtain rfl : l4 = _ := by injection g4
  obtain ⟨y5, g5, _⟩ := DataW.trod_bool Try.underlying4 f5
  obtain rfl : l5 = _ := by injection g5
  obtain ⟨y6, g6, _⟩ := DataW.trod_bool Try.underlying4 f6
  obtain rfl : l6 = _ := by injection g6
  obtain ⟨y7, g7, _⟩ := DataW.trod_bool Try.underlying4 f7
  obtain rfl : l7 = _ := by injection g7
  obtain ⟨y8, g8, _, z8⟩ := DataW.trod_int Try.underlying3 f8
  obtain rfl : l8 = _ := by injection g8
  have q8 : -9223372036854775808 ≤ y8 ∧ y8 ≤ 9223372036854775807 := by simpa [Lit.wf, IntKind.min, IntKind.max, IntKind.signed, IntKind.bits] using z8
  obtain ⟨y9, g9, _, z9⟩ := DataW.trod_int Try.underlying22 f9
  obtain rfl : l9 = _ := by injection g9
  have q9 : 0 ≤ y9 ∧ y9 ≤ 18446744073709551615 := by simpa [Lit.wf, IntKind.min, IntKind.max, IntKind.signed, IntKind.bits] using z9
  obtain ⟨m9, rfl⟩ : ∃ m : Nat, y9 = m := ⟨y9.toNat, by omega⟩
  exact ⟨⟨y0, y1, y2, y3, y4, y5, y6, y7, y8, m9⟩, rfl⟩
set_option maxRecDepth 100000 in
theorem trod_leaf11 {H : Type} {enc : TypeId × Value → H} {W : World} {b fuel : Nat} {spare : Nat → Bool} {held : Bool} {l : List Value} {x : DataW H × List MemPlace} (hl : l.length = 12)
    (h : DataW.trod enc Try.prog W b spare held fuel 26 l = some x) : ∃ (e : Ent) (lv : Int) (pl : Nat), l = [.bool e.v, .bool e.r, .bool e.w, .bool e.x, .bool e.u, .bool e.g, .bool e.a, .bool e.d, .int .i64 e.rsw, .int .u64 (e.ppn : Int), .int .i64 lv, .int .u64 (pl : Int)] := by
  obtain ⟨l0, l1, l2, l3, l4, l5, l6, l7, l8, l9, l10, l11, rfl⟩ : ∃ l0 l1 l2 l3 l4 l5 l6 l7 l8 l9 l10 l11, l = [l0, l1, l2, l3, l4, l5, l6, l7, l8, l9, l10, l11] := by
    match l, hl with
    | [l0, l1, l2, l3, l4, l5, l6, l7, l8, l9, l10, l11], _ => exact ⟨_, _, _, _, _, _, _, _, _, _, _, _, rfl⟩
  obtain ⟨xs, n', _, _, _, hxs, hf⟩ := DataW.trod_struct Try.underlying26 h
  have hxl : xs.length = 3 := hxs
  have f0 : DataW.trod enc Try.prog W b spare held n' 24 (([l0, l1, l2, l3, l4, l5, l6, l7, l8, l9, l10, l11].drop 0).take (Try.prog.cellsOf 24)) = xs[0]? := hf 0 _ rfl
  rw [List.getElem?_eq_getElem (by omega), show Try.prog.cellsOf 24 = 10 by kernel_rfl] at f0
  replace f0 : DataW.trod enc Try.prog W b spare held n' 24 [l0, l1, l2, l3, l4, l5, l6, l7, l8, l9] = some xs[0] := f0
  have f1 : DataW.trod enc Try.prog W b spare held n' 3 (([l0, l1, l2, l3, l4, l5, l6, l7, l8, l9, l10, l11].drop 10).take (Try.prog.cellsOf 3)) = xs[1]? := hf 1 _ rfl
  rw [List.getElem?_eq_getElem (by omega), show Try.prog.cellsOf 3 = 1 by kernel_rfl] at f1
  replace f1 : DataW.trod enc Try.prog W b spare held n' 3 [l10] = some xs[1] := f1
  have f2 : DataW.trod enc Try.prog W b spare held n' 22 (([l0, l1, l2, l3, l4, l5, l6, l7, l8, l9, l10, l11].drop 11).take (Try.prog.cellsOf 22)) = xs[2]? := hf 2 _ rfl
  rw [List.getElem?_eq_getElem (by omega), show Try.prog.cellsOf 22 = 1 by kernel_rfl] at f2
  replace f2 : DataW.trod enc Try.prog W b spare held n' 22 [l11] = some xs[2] := f2
  obtain ⟨s0_0, g0⟩ := trod_ent11 rfl f0
  simp only [List.cons.injEq, and_true] at g0
  obtain ⟨rfl, rfl, rfl, rfl, rfl, rfl, rfl, rfl, rfl, rfl⟩ := g0
  obtain ⟨y1, g1, _, z1⟩ := DataW.trod_int Try.underlying3 f1
  obtain rfl : l10 = _ := by injection g1
  have q1 : -9223372036854775808 ≤ y1 ∧ y1 ≤ 9223372036854775807 := by simpa [Lit.wf, IntKind.min, IntKind.max, IntKind.signed, IntKind.bits] using z1
  obtain ⟨y2, g2, _, z2⟩ := DataW.trod_int Try.underlying22 f2
  obtain rfl : l11 = _ := by injection g2
  have q2 : 0 ≤ y2 ∧ y2 ≤ 18446744073709551615 := by simpa [Lit.wf, IntKind.min, IntKind.max, IntKind.signed, IntKind.bits] using z2
  obtain ⟨m2, rfl⟩ : ∃ m : Nat, y2 = m := ⟨y2.toNat, by omega⟩
  exact ⟨s0_0, y1, m2, rfl⟩
set_option maxRecDepth 100000 in
theorem trod_op11 {H : Type} {enc : TypeId × Value → H} {W : World} {b fuel : Nat} {spare : Nat → Bool} {held : Bool} {l : List Value} {x : DataW H × List MemPlace} (hl : l.length = 16)
    (h : DataW.trod enc Try.prog W b spare held fuel 28 l = some x) : ∃ (kd a pk : Int) (ova : Nat) (e : Ent) (lv : Int) (pl : Nat), l = [.int .i64 kd, .int .i64 a, .int .i64 pk, .int .u64 (ova : Int), .bool e.v, .bool e.r, .bool e.w, .bool e.x, .bool e.u, .bool e.g, .bool e.a, .bool e.d, .int .i64 e.rsw, .int .u64 (e.ppn : Int), .int .i64 lv, .int .u64 (pl : Int)] ∧ -9223372036854775808 ≤ pk ∧ pk ≤ 9223372036854775807 := by
  obtain ⟨l0, l1, l2, l3, l4, l5, l6, l7, l8, l9, l10, l11, l12, l13, l14, l15, rfl⟩ : ∃ l0 l1 l2 l3 l4 l5 l6 l7 l8 l9 l10 l11 l12 l13 l14 l15, l = [l0, l1, l2, l3, l4, l5, l6, l7, l8, l9, l10, l11, l12, l13, l14, l15] := by
    match l, hl with
    | [l0, l1, l2, l3, l4, l5, l6, l7, l8, l9, l10, l11, l12, l13, l14, l15], _ => exact ⟨_, _, _, _, _, _, _, _, _, _, _, _, _, _, _, _, rfl⟩
  obtain ⟨xs, n', _, _, _, hxs, hf⟩ := DataW.trod_struct Try.underlying28 h
  have hxl : xs.length = 5 := hxs
  have f0 : DataW.trod enc Try.prog W b spare held n' 3 (([l0, l1, l2, l3, l4, l5, l6, l7, l8, l9, l10, l11, l12, l13, l14, l15].drop 0).take (Try.prog.cellsOf 3)) = xs[0]? := hf 0 _ rfl
  rw [List.getElem?_eq_getElem (by omega), show Try.prog.cellsOf 3 = 1 by kernel_rfl] at f0
  replace f0 : DataW.trod enc Try.prog W b spare held n' 3 [l0] = some xs[0] := f0
  have f1 : DataW.trod enc Try.prog W b spare held n' 3 (([l0, l1, l2, l3, l4, l5, l6, l7, l8, l9, l10, l11, l12, l13, l14, l15].drop 1).take (Try.prog.cellsOf 3)) = xs[1]? := hf 1 _ rfl
  rw [List.getElem?_eq_getElem (by omega), show Try.prog.cellsOf 3 = 1 by kernel_rfl] at f1
  replace f1 : DataW.trod enc Try.prog W b spare held n' 3 [l1] = some xs[1] := f1
  have f2 : DataW.trod enc Try.prog W b spare held n' 3 (([l0, l1, l2, l3, l4, l5, l6, l7, l8, l9, l10, l11, l12, l13, l14, l15].drop 2).take (Try.prog.cellsOf 3)) = xs[2]? := hf 2 _ rfl
  rw [List.getElem?_eq_getElem (by omega), show Try.prog.cellsOf 3 = 1 by kernel_rfl] at f2
  replace f2 : DataW.trod enc Try.prog W b spare held n' 3 [l2] = some xs[2] := f2
  have f3 : DataW.trod enc Try.prog W b spare held n' 22 (([l0, l1, l2, l3, l4, l5, l6, l7, l8, l9, l10, l11, l12, l13, l14, l15].drop 3).take (Try.prog.cellsOf 22)) = xs[3]? := hf 3 _ rfl
  rw [List.getElem?_eq_getElem (by omega), show Try.prog.cellsOf 22 = 1 by kernel_rfl] at f3
  replace f3 : DataW.trod enc Try.prog W b spare held n' 22 [l3] = some xs[3] := f3
  have f4 : DataW.trod enc Try.prog W b spare held n' 26 (([l0, l1, l2, l3, l4, l5, l6, l7, l8, l9, l10, l11, l12, l13, l14, l15].drop 4).take (Try.prog.cellsOf 26)) = xs[4]? := hf 4 _ rfl
  rw [List.getElem?_eq_getElem (by omega), show Try.prog.cellsOf 26 = 12 by kernel_rfl] at f4
  replace f4 : DataW.trod enc Try.prog W b spare held n' 26 [l4, l5, l6, l7, l8, l9, l10, l11, l12, l13, l14, l15] = some xs[4] := f4
  obtain ⟨y0, g0, _, z0⟩ := DataW.trod_int Try.underlying3 f0
  obtain rfl : l0 = _ := by injection g0
  have q0 : -9223372036854775808 ≤ y0 ∧ y0 ≤ 9223372036854775807 := by simpa [Lit.wf, IntKind.min, IntKind.max, IntKind.signed, IntKind.bits] using z0
  obtain ⟨y1, g1, _, z1⟩ := DataW.trod_int Try.underlying3 f1
  obtain rfl : l1 = _ := by injection g1
  have q1 : -9223372036854775808 ≤ y1 ∧ y1 ≤ 9223372036854775807 := by simpa [Lit.wf, IntKind.min, IntKind.max, IntKind.signed, IntKind.bits] using z1
  obtain ⟨y2, g2, _, z2⟩ := DataW.trod_int Try.underlying3 f2
  obtain rfl : l2 = _ := by injection g2
  have q2 : -9223372036854775808 ≤ y2 ∧ y2 ≤ 9223372036854775807 := by simpa [Lit.wf, IntKind.min, IntKind.max, IntKind.signed, IntKind.bits] using z2
  obtain ⟨y3, g3, _, z3⟩ := DataW.trod_int Try.underlying22 f3
  obtain rfl : l3 = _ := by injection g3
  have q3 : 0 ≤ y3 ∧ y3 ≤ 18446744073709551615 := by simpa [Lit.wf, IntKind.min, IntKind.max, IntKind.signed, IntKind.bits] using z3
  obtain ⟨m3, rfl⟩ : ∃ m : Nat, y3 = m := ⟨y3.toNat, by omega⟩
  obtain ⟨s4_0, s4_1, s4_2, g4⟩ := trod_leaf11 rfl f4
  simp only [List.cons.injEq, and_true] at g4
  obtain ⟨rfl, rfl, rfl, rfl, rfl, rfl, rfl, rfl, rfl, rfl, rfl, rfl⟩ := g4
  exact ⟨y0, y1, y2, m3, s4_0, s4_1, s4_2, rfl, q2⟩
/-- an act that came in -/
structure Op11 where
  (kd a pk : Int)
  ova : Nat
  e : Ent
  lv : Int
  pl : Nat
def opv (o : Op11) : Value := .agg #[.int .i64 o.kd, .int .i64 o.a, .int .i64 o.pk, .int .u64 (o.ova : Int), .bool o.e.v, .bool o.e.r, .bool o.e.w, .bool o.e.x, .bool o.e.u, .bool o.e.g, .bool o.e.a, .bool o.e.d, .int .i64 o.e.rsw, .int .u64 (o.e.ppn : Int), .int .i64 o.lv, .int .u64 (o.pl : Int)]
theorem open_op11 {H : Type} {enc : TypeId × Value → H} {W : World} {b base : Nat} {spare : Nat → Bool} {held : Bool} {r : Reach} {v : Value} {d : DataW H} {p : List MemPlace}
    (hv : Value.okWide Try.prog W r base 28 v) (h : DataW.Trod enc Try.prog W b spare held 28 v d p) :
    ∃ o : Op11, v = opv o ∧ -9223372036854775808 ≤ o.pk ∧ o.pk ≤ 9223372036854775807 := by
  obtain ⟨cs, rfl, hs⟩ := okWide_struct Try.underlying28 hv
  obtain ⟨fuel, hf⟩ := h
  have hcs : cs.size = 16 := hs.trans (by kernel_rfl)
  obtain ⟨l⟩ := cs
  have hl : l.length = 16 := hcs
  have hC : (Value.cells (.agg ⟨l⟩)).toList = l := rfl
  rw [hC] at hf
  obtain ⟨kd, a, pk, ova, e, lv, pl, rfl, hb⟩ := trod_op11 hl hf
  exact ⟨⟨kd, a, pk, ova, e, lv, pl⟩, rfl, hb⟩
end Go.Proofs.Ytfibdkiibnajhaa
