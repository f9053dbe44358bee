/-
  Structs by value that came in, as the walks take them.
-/
import Derived.Test.YtdakfgefnapglaaProg
import Derived.Test.YtdakfgefnapglaaLawI13
import Derived.Deep.Slices
import Derived.WalkKit
import Derived.OpenShut
import Derived.ChangeArms
import Derived.WideShapes
namespace Go.Proofs.Ytdakfgefnapglaa
open Go.RowKit Go.ChangeShapes Go.WideShapes Go.Deep
set_option linter.unusedVariables false

theorem one_of {l : List Value} {i : Nat} {v : Value} (h : (l.drop i).take 1 = [v]) : l[i]? = some v := by
  have h1 : ((l.drop i).take 1)[0]? = some v := by rw [h]; rfl
  rw [List.getElem?_take_of_lt (by omega), List.getElem?_drop, Nat.add_zero] at h1
  exact h1
set_option maxRecDepth 100000 in
theorem trod_ent13 {H : Type} {enc : TypeId × Value → H} {W : World} {b fuel : Nat} {spare : Nat → Bool} {held : Bool} {l : List Value} {x : DataW H × List MemPlace} (hl : l.length = 10)
    (h : DataW.trod enc Try.prog W b spare held fuel 39 l = some x) : ∃ e : Ent, l = [.bool e.v, .bool e.r, .bool e.w, .bool e.x, .bool e.u, .bool e.g, .bool e.a, .bool e.d, .int .i64 e.rsw, .int .u64 (e.ppn : Int)] ∧ (-9223372036854775808 ≤ e.rsw ∧ e.rsw ≤ 9223372036854775807) ∧ e.ppn < 18446744073709551616 := by
  obtain ⟨l0, l1, l2, l3, l4, l5, l6, l7, l8, l9, rfl⟩ : ∃ l0 l1 l2 l3 l4 l5 l6 l7 l8 l9, l = [l0, l1, l2, l3, l4, l5, l6, l7, l8, l9] := by
    match l, hl with
    | [l0, l1, l2, l3, l4, l5, l6, l7, l8, l9], _ => exact ⟨_, _, _, _, _, _, _, _, _, _, rfl⟩
  obtain ⟨xs, n', _, _, _, hxs, hf⟩ := DataW.trod_struct Try.underlying39 h
  have hxl : xs.length = 10 := hxs
  have f0 : DataW.trod enc Try.prog W b spare held n' 4 (([l0, l1, l2, l3, l4, l5, l6, l7, l8, l9].drop 0).take (Try.prog.cellsOf 4)) = xs[0]? := hf 0 _ rfl
  rw [List.getElem?_eq_getElem (by omega), show Try.prog.cellsOf 4 = 1 by kernel_rfl] at f0
  replace f0 : DataW.trod enc Try.prog W b spare held n' 4 [l0] = some xs[0] := f0
  have f1 : DataW.trod enc Try.prog W b spare held n' 4 (([l0, l1, l2, l3, l4, l5, l6, l7, l8, l9].drop 1).take (Try.prog.cellsOf 4)) = xs[1]? := hf 1 _ rfl
  rw [List.getElem?_eq_getElem (by omega), show Try.prog.cellsOf 4 = 1 by kernel_rfl] at f1
  replace f1 : DataW.trod enc Try.prog W b spare held n' 4 [l1] = some xs[1] := f1
  have f2 : DataW.trod enc Try.prog W b spare held n' 4 (([l0, l1, l2, l3, l4, l5, l6, l7, l8, l9].drop 2).take (Try.prog.cellsOf 4)) = xs[2]? := hf 2 _ rfl
  rw [List.getElem?_eq_getElem (by omega), show Try.prog.cellsOf 4 = 1 by kernel_rfl] at f2
  replace f2 : DataW.trod enc Try.prog W b spare held n' 4 [l2] = some xs[2] := f2
  have f3 : DataW.trod enc Try.prog W b spare held n' 4 (([l0, l1, l2, l3, l4, l5, l6, l7, l8, l9].drop 3).take (Try.prog.cellsOf 4)) = xs[3]? := hf 3 _ rfl
  rw [List.getElem?_eq_getElem (by omega), show Try.prog.cellsOf 4 = 1 by kernel_rfl] at f3
  replace f3 : DataW.trod enc Try.prog W b spare held n' 4 [l3] = some xs[3] := f3
  have f4 : DataW.trod enc Try.prog W b spare held n' 4 (([l0, l1, l2, l3, l4, l5, l6, l7, l8, l9].drop 4).take (Try.prog.cellsOf 4)) = xs[4]? := hf 4 _ rfl
  rw [List.getElem?_eq_getElem (by omega), show Try.prog.cellsOf 4 = 1 by kernel_rfl] at f4
  replace f4 : DataW.trod enc Try.prog W b spare held n' 4 [l4] = some xs[4] := f4
  have f5 : DataW.trod enc Try.prog W b spare held n' 4 (([l0, l1, l2, l3, l4, l5, l6, l7, l8, l9].drop 5).take (Try.prog.cellsOf 4)) = xs[5]? := hf 5 _ rfl
  rw [List.getElem?_eq_getElem (by omega), show Try.prog.cellsOf 4 = 1 by kernel_rfl] at f5
  replace f5 : DataW.trod enc Try.prog W b spare held n' 4 [l5] = some xs[5] := f5
  have f6 : DataW.trod enc Try.prog W b spare held n' 4 (([l0, l1, l2, l3, l4, l5, l6, l7, l8, l9].drop 6).take (Try.prog.cellsOf 4)) = xs[6]? := hf 6 _ rfl
  rw [List.getElem?_eq_getElem (by omega), show Try.prog.cellsOf 4 = 1 by kernel_rfl] at f6
  replace f6 : DataW.trod enc Try.prog W b spare held n' 4 [l6] = some xs[6] := f6
  have f7 : DataW.trod enc Try.prog W b spare held n' 4 (([l0, l1, l2, l3, l4, l5, l6, l7, l8, l9].drop 7).take (Try.prog.cellsOf 4)) = xs[7]? := hf 7 _ rfl
  rw [List.getElem?_eq_getElem (by omega), show Try.prog.cellsOf 4 = 1 by kernel_rfl] at f7
  replace f7 : DataW.trod enc Try.prog W b spare held n' 4 [l7] = some xs[7] := f7
  have f8 : DataW.trod enc Try.prog W b spare held n' 3 (([l0, l1, l2, l3, l4, l5, l6, l7, l8, l9].drop 8).take (Try.prog.cellsOf 3)) = xs[8]? := hf 8 _ rfl
  rw [List.getElem?_eq_getElem (by omega), show Try.prog.cellsOf 3 = 1 by kernel_rfl] at f8
  replace f8 : DataW.trod enc Try.prog W b spare held n' 3 [l8] = some xs[8] := f8
  have f9 : DataW.trod enc Try.prog W b spare held n' 37 (([l0, l1, l2, l3, l4, l5, l6, l7, l8, l9].drop 9).take (Try.prog.cellsOf 37)) = xs[9]? := hf 9 _ rfl
  rw [List.getElem?_eq_getElem (by omega), show Try.prog.cellsOf 37 = 1 by kernel_rfl] at f9
  replace f9 : DataW.trod enc Try.prog W b spare held n' 37 [l9] = some xs[9] := f9
  obtain ⟨y0, g0, _⟩ := DataW.trod_bool Try.underlying4 f0
  obtain rfl : l0 = _ := by injection g0
  obtain ⟨y1, g1, _⟩ := DataW.trod_bool Try.underlying4 f1
  obtain rfl : l1 = _ := by injection g1
  obtain ⟨y2, g2, _⟩ := DataW.trod_bool Try.underlying4 f2
  obtain rfl : l2 = _ := by injection g2
  obtain ⟨y3, g3, _⟩ := DataW.trod_bool Try.underlying4 f3
  obtain rfl : l3 = _ := by injection g3
  obtain ⟨y4, g4, _⟩ := DataW.trod_bool Try.underlying4 f4
  obtain rfl : l4 = _ := by injection g4
  obtain ⟨y5, g5, _⟩ := DataW.trod_bool Try.underlying4 f5
  obtain rfl : l5 = _ := by injection g5
  obtain ⟨y6, g6, _⟩ := DataW.trod_bool Try.underlying4 f6
  obtain rfl : l6 = _ := by injection g6
  obtain ⟨y7, g7, _⟩ := DataW.trod_bool Try.underlying4 f7
  obtain rfl : l7 = _ := by injection g7
  obtain ⟨y8, g8, _, z8⟩ := DataW.trod_int Try.underlying3 f8
  obtain rfl : l8 = _ := by injection g8
  have q8 : -9223372036854775808 ≤ y8 ∧ y8 ≤ 9223372036854775807 := by simpa [Lit.wf, IntKind.min, IntKind.max, IntKind.signed, IntKind.bits] using z8
  obtain ⟨y9, g9, _, z9⟩ := DataW.trod_int Try.underlying37 f9
  obtain rfl : l9 = _ := by injection g9
  have q9 : 0 ≤ y9 ∧ y9 ≤ 18446744073709551615 := by simpa [Lit.wf, IntKind.min, IntKind.max, IntKind.signed, IntKind.bits] using z9
  obtain ⟨m9, rfl⟩ : ∃ m : Nat, y9 = m := ⟨y9.toNat, by omega⟩
  exact ⟨⟨y0, y1, y2, y3, y4, y5, y6, y7, y8, m9⟩, rfl, q8, by have := q9.2; show m9 < _; omega⟩
set_option maxRecDepth 100000 in
theorem trod_op13 {H : Type} {enc : TypeId × Value → H} {W : World} {b fuel : Nat} {spare : Nat → Bool} {held : Bool} {l : List Value} {x : DataW H × List MemPlace} (hl : l.length = 13)
    (h : DataW.trod enc Try.prog W b spare held fuel 52 l = some x) : ∃ (kd lv : Int) (va : Nat) (e : Ent), l = [.int .i64 kd, .int .i64 lv, .int .u64 (va : Int), .bool e.v, .bool e.r, .bool e.w, .bool e.x, .bool e.u, .bool e.g, .bool e.a, .bool e.d, .int .i64 e.rsw, .int .u64 (e.ppn : Int)] ∧ AcOk ⟨kd, lv, va, e⟩ := by
  obtain ⟨l0, l1, l2, l3, l4, l5, l6, l7, l8, l9, l10, l11, l12, rfl⟩ : ∃ l0 l1 l2 l3 l4 l5 l6 l7 l8 l9 l10 l11 l12, l = [l0, l1, l2, l3, l4, l5, l6, l7, l8, l9, l10, l11, l12] := by
    match l, hl with
    | [l0, l1, l2, l3, l4, l5, l6, l7, l8, l9, l10, l11, l12], _ => exact ⟨_, _, _, _, _, _, _, _, _, _, _, _, _, rfl⟩
  obtain ⟨xs, n', _, _, _, hxs, hf⟩ := DataW.trod_struct Try.underlying52 h
  have hxl : xs.length = 4 := hxs
  have f0 : DataW.trod enc Try.prog W b spare held n' 3 (([l0, l1, l2, l3, l4, l5, l6, l7, l8, l9, l10, l11, l12].drop 0).take (Try.prog.cellsOf 3)) = xs[0]? := hf 0 _ rfl
  rw [List.getElem?_eq_getElem (by omega), show Try.prog.cellsOf 3 = 1 by kernel_rfl] at f0
  replace f0 : DataW.trod enc Try.prog W b spare held n' 3 [l0] = some xs[0] := f0
  have f1 : DataW.trod enc Try.prog W b spare held n' 3 (([l0, l1, l2, l3, l4, l5, l6, l7, l8, l9, l10, l11, l12].drop 1).take (Try.prog.cellsOf 3)) = xs[1]? := hf 1 _ rfl
  rw [List.getElem?_eq_getElem (by omega), show Try.prog.cellsOf 3 = 1 by kernel_rfl] at f1
  replace f1 : DataW.trod enc Try.prog W b spare held n' 3 [l1] = some xs[1] := f1
  have f2 : DataW.trod enc Try.prog W b spare held n' 37 (([l0, l1, l2, l3, l4, l5, l6, l7, l8, l9, l10, l11, l12].drop 2).take (Try.prog.cellsOf 37)) = xs[2]? := hf 2 _ rfl
  rw [List.getElem?_eq_getElem (by omega), show Try.prog.cellsOf 37 = 1 by kernel_rfl] at f2
  replace f2 : DataW.trod enc Try.prog W b spare held n' 37 [l2] = some xs[2] := f2
  have f3 : DataW.trod enc Try.prog W b spare held n' 39 (([l0, l1, l2, l3, l4, l5, l6, l7, l8, l9, l10, l11, l12].drop 3).take (Try.prog.cellsOf 39)) = xs[3]? := hf 3 _ rfl
  rw [List.getElem?_eq_getElem (by omega), show Try.prog.cellsOf 39 = 10 by kernel_rfl] at f3
  replace f3 : DataW.trod enc Try.prog W b spare held n' 39 [l3, l4, l5, l6, l7, l8, l9, l10, l11, l12] = some xs[3] := f3
  obtain ⟨y0, g0, _, z0⟩ := DataW.trod_int Try.underlying3 f0
  obtain rfl : l0 = _ := by injection g0
  have q0 : -9223372036854775808 ≤ y0 ∧ y0 ≤ 9223372036854775807 := by simpa [Lit.wf, IntKind.min, IntKind.max, IntKind.signed, IntKind.bits] using z0
  obtain ⟨y1, g1, _, z1⟩ := DataW.trod_int Try.underlying3 f1
  obtain rfl : l1 = _ := by injection g1
  have q1 : -9223372036854775808 ≤ y1 ∧ y1 ≤ 9223372036854775807 := by simpa [Lit.wf, IntKind.min, IntKind.max, IntKind.signed, IntKind.bits] using z1
  obtain ⟨y2, g2, _, z2⟩ := DataW.trod_int Try.underlying37 f2
  obtain rfl : l2 = _ := by injection g2
  have q2 : 0 ≤ y2 ∧ y2 ≤ 18446744073709551615 := by simpa [Lit.wf, IntKind.min, IntKind.max, IntKind.signed, IntKind.bits] using z2
  obtain ⟨m2, rfl⟩ : ∃ m : Nat, y2 = m := ⟨y2.toNat, by omega⟩
  obtain ⟨s3_0, g3, hb⟩ := trod_ent13 rfl f3
  simp only [List.cons.injEq, and_true] at g3
  obtain ⟨rfl, rfl, rfl, rfl, rfl, rfl, rfl, rfl, rfl, rfl⟩ := g3
  exact ⟨y0, y1, m2, s3_0, rfl, q0, q1, by have := q2.2; show m2 < _; omega, hb.1, hb.2⟩
theorem cells_op13 : Try.prog.cellsOf 52 = 13 := by kernel_rfl
theorem choose_list {α : Type} {P : Nat → α → Prop} : ∀ n, (∀ i, i < n → ∃ x, P i x) → ∃ l : List α, l.length = n ∧ ∀ i (h : i < l.length), P i l[i]
  | 0, _ => ⟨[], rfl, fun i h => by simp at h⟩
  | n + 1, h => by
    obtain ⟨l, hl, hp⟩ := choose_list n (fun i hi => h i (by omega))
    obtain ⟨x, hx⟩ := h n (by omega)
    refine ⟨l ++ [x], by simp [hl], fun i hi => ?_⟩
    rw [List.length_append] at hi
    by_cases hin : i < l.length
    · rw [List.getElem_append_left hin]; exact hp i hin
    · have e : i = l.length := by simp at hi; omega
      subst e
      rw [List.getElem_append_right (by omega)]
      simp only [Nat.sub_self, List.getElem_cons_zero]
      rw [hl]; exact hx
set_option maxRecDepth 100000 in
theorem acs_of_trod {H : Type} {enc : TypeId × Value → H} {w : World} {base : Nat} {held : Bool} {fuel : Nat} {a : Option Addr} {len cap : Nat} {x : DataW H × List MemPlace}
    (h : DataW.trod enc Try.prog w base (fun _ => true) held fuel 22 [.slice a len cap] = some x) : ∃ ws, IsAcs w a len ws ∧ len ≤ 9223372036854775807 := by
  rcases open_slice Try.underlying22 h with ⟨hcs, _⟩ | ⟨ad, l, c, m, n, D, Pl, hcs, _, hl, hm, hmm, _, hx⟩
  · injection hcs with h1 _
    injection h1 with h1 h2 h3
    subst h2
    exact ⟨[], ⟨rfl, fun a ha => by simp at ha, fun h0 => by omega⟩, by omega⟩
  · injection hcs with h1 _
    injection h1 with h1 h2 h3
    subst h1 h2 h3
    unfold maxLen at hm
    rw [if_pos rfl] at hmm
    rw [cells_op13] at hx
    by_cases h0 : len = 0
    · subst h0
      exact ⟨[], ⟨rfl, fun a ha => by simp at ha, fun h0 => by omega⟩, by omega⟩
    have hspot : ∃ b off, ad = ⟨b, off, none⟩ := by
      obtain ⟨cs', hc, _⟩ := hx 0 (by omega)
      obtain ⟨_, hlen, hcell⟩ := World.cells?_some hc
      have h0 := hcell 0 (by omega)
      rw [List.getElem?_eq_getElem (by omega)] at h0
      obtain ⟨b, o, spot⟩ := ad
      have hsp : spot = none := by
        have := World.cell?_spot h0
        simpa [Addr.add] using this
      subst hsp
      exact ⟨b, o, rfl⟩
    obtain ⟨b, off, rfl⟩ := hspot
    have hone : ∀ i, i < len → ∃ a : Ac, AcOk a ∧ ∀ j, j < 13 → w.cell? ⟨b, off + i * 13 + j, none⟩ = (acC a)[j]? := by
      intro i hi
      obtain ⟨cs', hc, ht⟩ := hx i (by omega)
      obtain ⟨_, hlen, hcell⟩ := World.cells?_some hc
      have at_ : ∀ j, j < 13 → w.cell? ⟨b, off + i * 13 + j, none⟩ = cs'[j]? := fun j hj => by
        have := hcell j hj
        rwa [add_plain, add_plain] at this
      obtain ⟨kd, lv, va, e, rfl, hb⟩ := trod_op13 hlen ht
      exact ⟨⟨kd, lv, va, e⟩, hb, at_⟩
    obtain ⟨ws, hl', hp⟩ := choose_list len hone
    refine ⟨ws, ⟨hl', fun a ha => ?_, fun _ => ⟨b, off, rfl, fun i hi j hj => (hp i hi).2 j hj⟩⟩, by omega⟩
    obtain ⟨i, hi, rfl⟩ := List.getElem_of_mem ha
    exact (hp i hi).1
set_option maxRecDepth 100000 in
theorem open_ac13 {H : Type} {enc : TypeId × Value → H} {W : World} {b base : Nat} {spare : Nat → Bool} {held : Bool} {r : Reach} {v : Value} {d : DataW H} {p : List MemPlace}
    (hv : Value.okWide Try.prog W r base 52 v) (h : DataW.Trod enc Try.prog W b spare held 52 v d p) :
    ∃ o : Ac, v = .agg (acC o).toArray ∧ AcOk o := by
  obtain ⟨cs, rfl, hs⟩ := okWide_struct Try.underlying52 hv
  obtain ⟨fuel, hf⟩ := h
  have hcs : cs.size = 13 := hs.trans (by kernel_rfl)
  obtain ⟨l⟩ := cs
  have hl : l.length = 13 := hcs
  have hC : (Value.cells (.agg ⟨l⟩)).toList = l := rfl
  rw [hC] at hf
  obtain ⟨kd, lv, va, e, rfl, hb⟩ := trod_op13 hl hf
  exact ⟨⟨kd, lv, va, e⟩, rfl, hb⟩
end Go.Proofs.Ytdakfgefnapglaa
