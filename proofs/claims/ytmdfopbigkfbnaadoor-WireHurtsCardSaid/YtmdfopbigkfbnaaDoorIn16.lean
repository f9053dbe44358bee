/-
  A frame by value that came in, and a slice of bytes, as the walks of layer 16 take them.
-/
import Derived.Test.YtmdfopbigkfbnaaDoorDat16
import Derived.WalkKit
import Derived.OpenShut
import Derived.ChangeArms
import Derived.WideShapes
import Derived.Deep.Slices
namespace Go.Proofs.YtmdfopbigkfbnaaDoor
open Go.RowKit Go.ChangeShapes Go.WideShapes Go.Deep
set_option linter.unusedVariables false

structure FmV where
  m : Fm
  A : Option Addr
  dl : Nat
  cap : Nat
@[reducible] def fmv (E : FmV) : Value := .agg #[.int .i64 E.m.f, .int .i64 E.m.t, .bool E.m.b, .int .u64 E.m.s, .int .u64 E.m.a, .slice E.A E.dl E.cap]
theorem one_of {l : List Value} {i : Nat} {v : Value} (h : (l.drop i).take 1 = [v]) : l[i]? = some v := by
  have h1 : ((l.drop i).take 1)[0]? = some v := by rw [h]; rfl
  rw [List.getElem?_take_of_lt (by omega), List.getElem?_drop, Nat.add_zero] at h1
  exact h1
theorem cells8 : Tryd.prog.cellsOf 5 = 1 := by kernel_rfl
theorem i64_of {x : Int} (h : (Lit.int .i64 x).wf = true) : -9223372036854775808 ≤ x ∧ x ≤ 9223372036854775807 := by
  simpa [Lit.wf, IntKind.min, IntKind.max, IntKind.signed, IntKind.bits] using h
theorem u64_of {x : Int} (h : (Lit.int .u64 x).wf = true) : 0 ≤ x ∧ x ≤ 18446744073709551615 := by
  simpa [Lit.wf, IntKind.min, IntKind.max, IntKind.signed, IntKind.bits] using h
theorem dat_of_row {w : World} {a : Option Addr} {len cap : Nat} {zs : List Int}
    (h : (a = none ∧ len = 0 ∧ cap = 0 ∧ zs = []) ∨ ∃ x, a = some x ∧ len ≤ cap ∧ cap ≤ maxLen ∧ zs.length = cap ∧ (∀ i, i < zs.length → w.cell? (x.add i) = some (.int .u8 (zs.getD i 0))) ∧ ∀ n ∈ zs, (Lit.int .u8 n).wf = true) :
    Dat w a len cap (zs.take len) := by
  obtain ⟨h1, h2⟩ := rd_of_row h
  refine ⟨h1, h2, fun e => ?_, ?_⟩
  · rcases h with ⟨_, _, h, _⟩ | ⟨x, h, _⟩
    · exact h
    · rw [e] at h; cases h
  · rcases h with ⟨_, h, _, _⟩ | ⟨x, _, h, _⟩
    · omega
    · exact h
set_option maxRecDepth 100000 in
theorem open_frame {H : Type} {enc : TypeId × Value → H} {W : World} {base : Nat} {held : Bool} {r : Reach} {v : Value} {d : DataW H} {p : List MemPlace} {b : Nat}
    (hv : Value.okWide Tryd.prog W r base 25 v) (h : DataW.Trod enc Tryd.prog W b (fun _ => true) held 25 v d p) :
    ∃ E : FmV, v = fmv E ∧ FmT E.m ∧ Dat W E.A E.dl E.cap E.m.d := by
  obtain ⟨cs, rfl, hs⟩ := okWide_struct Tryd.underlying25 hv
  obtain ⟨fuel, hf⟩ := h
  obtain ⟨xs, n', _, _, _, hxs, hf⟩ := DataW.trod_struct Tryd.underlying25 hf
  have hxl : xs.length = 6 := hxs
  have hcs : cs.size = 6 := hs.trans (by kernel_rfl)
  obtain ⟨l⟩ := cs
  have hl : l.length = 6 := hcs
  have hC : (Value.cells (.agg ⟨l⟩)).toList = l := rfl
  rw [hC] at hf
  have f0 : DataW.trod enc Tryd.prog W b (fun _ => true) held n' 3 ((l.drop 0).take (Tryd.prog.cellsOf 3)) = xs[0]? := hf 0 _ rfl
  have f1 : DataW.trod enc Tryd.prog W b (fun _ => true) held n' 3 ((l.drop 1).take (Tryd.prog.cellsOf 3)) = xs[1]? := hf 1 _ rfl
  have f2 : DataW.trod enc Tryd.prog W b (fun _ => true) held n' 4 ((l.drop 2).take (Tryd.prog.cellsOf 4)) = xs[2]? := hf 2 _ rfl
  have f3 : DataW.trod enc Tryd.prog W b (fun _ => true) held n' 22 ((l.drop 3).take (Tryd.prog.cellsOf 22)) = xs[3]? := hf 3 _ rfl
  have f4 : DataW.trod enc Tryd.prog W b (fun _ => true) held n' 22 ((l.drop 4).take (Tryd.prog.cellsOf 22)) = xs[4]? := hf 4 _ rfl
  have f5 : DataW.trod enc Tryd.prog W b (fun _ => true) held n' 23 ((l.drop 5).take (Tryd.prog.cellsOf 23)) = xs[5]? := hf 5 _ rfl
  rw [List.getElem?_eq_getElem (by omega)] at f0 f1 f2 f3 f4 f5
  rw [show Tryd.prog.cellsOf 3 = 1 by kernel_rfl] at f0 f1
  rw [show Tryd.prog.cellsOf 4 = 1 by kernel_rfl] at f2
  rw [show Tryd.prog.cellsOf 22 = 1 by kernel_rfl] at f3 f4
  rw [show Tryd.prog.cellsOf 23 = 1 by kernel_rfl] at f5
  obtain ⟨y0, g0, _, z0⟩ := DataW.trod_int Tryd.underlying3 f0
  obtain ⟨y1, g1, _, z1⟩ := DataW.trod_int Tryd.underlying3 f1
  obtain ⟨y2, g2, _⟩ := DataW.trod_bool Tryd.underlying4 f2
  obtain ⟨y3, g3, _, z3⟩ := DataW.trod_int Tryd.underlying22 f3
  obtain ⟨y4, g4, _, z4⟩ := DataW.trod_int Tryd.underlying22 f4
  have c0 := one_of g0
  have c1 := one_of g1
  have c2 := one_of g2
  have c3 := one_of g3
  have c4 := one_of g4
  obtain ⟨l0, l1, l2, l3, l4, l5, rfl⟩ : ∃ l0 l1 l2 l3 l4 l5, l = [l0, l1, l2, l3, l4, l5] := by
    match l, hl with
    | [l0, l1, l2, l3, l4, l5], _ => exact ⟨_, _, _, _, _, _, rfl⟩
  rcases open_ints Tryd.underlying23 Tryd.underlying5 cells8 f5 with ⟨g5, _⟩ | ⟨y, len5, k5, zs, g5, _, hl5, hm5, hz5, _, hc5, hw5⟩
  · have c5 := one_of g5
    simp only [List.getElem?_cons_zero, List.getElem?_cons_succ, Option.some.injEq] at c0 c1 c2 c3 c4 c5
    subst c0 c1 c2 c3 c4 c5
    exact ⟨⟨⟨y0, y1, y2, y3, y4, []⟩, none, 0, 0⟩, rfl, ⟨i64_of z0, i64_of z1, u64_of z3, u64_of z4⟩, dat_of_row (zs := []) (.inl ⟨rfl, rfl, rfl, rfl⟩)⟩
  · have c5 := one_of g5
    simp only [List.getElem?_cons_zero, List.getElem?_cons_succ, Option.some.injEq] at c0 c1 c2 c3 c4 c5
    subst c0 c1 c2 c3 c4 c5
    exact ⟨⟨⟨y0, y1, y2, y3, y4, zs.take len5⟩, some y, len5, k5⟩, rfl, ⟨i64_of z0, i64_of z1, u64_of z3, u64_of z4⟩, dat_of_row (.inr ⟨y, rfl, hl5, hm5, hz5, hc5, hw5⟩)⟩
end Go.Proofs.YtmdfopbigkfbnaaDoor
