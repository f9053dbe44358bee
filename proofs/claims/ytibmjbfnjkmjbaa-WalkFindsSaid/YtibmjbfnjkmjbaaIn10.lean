/-
  Structs by value that came in, as the walks take them.
-/
import Derived.Test.YtibmjbfnjkmjbaaProg
import Derived.Test.YtibmjbfnjkmjbaaLaid10
import Derived.Test.YtibmjbfnjkmjbaaBits08
import Derived.Deep.Slices
import Derived.WalkKit
import Derived.OpenShut
import Derived.ChangeArms
import Derived.WideShapes
namespace Go.Proofs.Ytibmjbfnjkmjbaa
open Go.RowKit Go.ChangeShapes Go.WideShapes Go.Deep
set_option linter.unusedVariables false

theorem one_of {l : List Value} {i : Nat} {v : Value} (h : (l.drop i).take 1 = [v]) : l[i]? = some v := by
  have h1 : ((l.drop i).take 1)[0]? = some v := by rw [h]; rfl
  rw [List.getElem?_take_of_lt (by omega), List.getElem?_drop, Nat.add_zero] at h1
  exact h1
set_option maxRecDepth 100000 in
theorem open_stp {H : Type} {enc : TypeId × Value → H} {W : World} {b base : Nat} {spare : Nat → Bool} {held : Bool} {r : Reach} {v : Value} {d : DataW H} {p : List MemPlace}
    (hv : Value.okWide Try.prog W r base 25 v) (h : DataW.Trod enc Try.prog W b spare held 25 v d p) :
    ∃ E : Stp, v = sv E ∧ (-9223372036854775808 ≤ E.asid ∧ E.asid ≤ 9223372036854775807) ∧ E.ppn < 18446744073709551616 := by
  obtain ⟨cs, rfl, hs⟩ := okWide_struct Try.underlying25 hv
  obtain ⟨fuel, hf⟩ := h
  obtain ⟨xs, n', _, _, _, hxs, hf⟩ := DataW.trod_struct Try.underlying25 hf
  have hxl : xs.length = 3 := hxs
  have hcs : cs.size = 3 := hs.trans (by kernel_rfl)
  obtain ⟨l⟩ := cs
  have hl : l.length = 3 := hcs
  have hC : (Value.cells (.agg ⟨l⟩)).toList = l := rfl
  rw [hC] at hf
  have f0 : DataW.trod enc Try.prog W b spare held n' 4 ((l.drop 0).take (Try.prog.cellsOf 4)) = xs[0]? := hf 0 _ rfl
  have f1 : DataW.trod enc Try.prog W b spare held n' 3 ((l.drop 1).take (Try.prog.cellsOf 3)) = xs[1]? := hf 1 _ rfl
  have f2 : DataW.trod enc Try.prog W b spare held n' 23 ((l.drop 2).take (Try.prog.cellsOf 23)) = xs[2]? := hf 2 _ rfl
  rw [List.getElem?_eq_getElem (by omega)] at f0 f1 f2
  rw [show Try.prog.cellsOf 4 = 1 by kernel_rfl] at f0
  obtain ⟨y0, g0, _⟩ := DataW.trod_bool Try.underlying4 f0
  rw [show Try.prog.cellsOf 3 = 1 by kernel_rfl] at f1
  obtain ⟨y1, g1, _, z1⟩ := DataW.trod_int Try.underlying3 f1
  rw [show Try.prog.cellsOf 23 = 1 by kernel_rfl] at f2
  obtain ⟨y2, g2, _, z2⟩ := DataW.trod_int Try.underlying23 f2
  have c0 := one_of g0
  have c1 := one_of g1
  have c2 := one_of g2
  obtain ⟨l0, l1, l2, rfl⟩ : ∃ l0 l1 l2, l = [l0, l1, l2] := by
    match l, hl with
    | [l0, l1, l2], _ => exact ⟨_, _, _, rfl⟩
  simp only [List.getElem?_cons_zero, List.getElem?_cons_succ, Option.some.injEq] at c0 c1 c2
  subst c0 c1 c2
  have q1 : -9223372036854775808 ≤ y1 ∧ y1 ≤ 9223372036854775807 := by simpa [Lit.wf, IntKind.min, IntKind.max, IntKind.signed, IntKind.bits] using z1
  have q2 : 0 ≤ y2 ∧ y2 ≤ 18446744073709551615 := by simpa [Lit.wf, IntKind.min, IntKind.max, IntKind.signed, IntKind.bits] using z2
  obtain ⟨m2, rfl⟩ : ∃ m : Nat, y2 = m := ⟨y2.toNat, by omega⟩
  exact ⟨⟨y0, y1, m2⟩, rfl, q1, by have := q2.2; show m2 < _; omega⟩
theorem cells_word : Try.prog.cellsOf 54 = 2 := by kernel_rfl
theorem cells_u64 : Try.prog.cellsOf 23 = 1 := by kernel_rfl
theorem choose_list {α : Type} {P : Nat → α → Prop} : ∀ n, (∀ i, i < n → ∃ x, P i x) → ∃ l : List α, l.length = n ∧ ∀ i (h : i < l.length), P i l[i]
  | 0, _ => ⟨[], rfl, fun i h => by simp at h⟩
  | n + 1, h => by
    obtain ⟨l, hl, hp⟩ := choose_list n (fun i hi => h i (by omega))
    obtain ⟨x, hx⟩ := h n (by omega)
    refine ⟨l ++ [x], by simp [hl], fun i hi => ?_⟩
    rw [List.length_append] at hi
    by_cases hin : i < l.length
    · rw [List.getElem_append_left hin]; exact hp i hin
    · have e : i = l.length := by simp at hi; omega
      subst e
      rw [List.getElem_append_right (by omega)]
      simp only [Nat.sub_self, List.getElem_cons_zero]
      rw [hl]; exact hx
theorem words_of_trod {H : Type} {enc : TypeId × Value → H} {w : World} {base : Nat} {held : Bool} {fuel : Nat} {a : Option Addr} {len cap : Nat} {x : DataW H × List MemPlace}
    (h : DataW.trod enc Try.prog w base (fun _ => true) held fuel 22 [.slice a len cap] = some x) : ∃ ws, IsWords w a len ws ∧ len ≤ 9223372036854775807 := by
  rcases open_slice Try.underlying22 h with ⟨hcs, _⟩ | ⟨ad, l, c, m, n, D, Pl, hcs, _, hl, hm, hmm, _, hx⟩
  · injection hcs with h1 _
    injection h1 with h1 h2 h3
    subst h2
    exact ⟨[], ⟨rfl, fun h0 => by omega⟩, by omega⟩
  · injection hcs with h1 _
    injection h1 with h1 h2 h3
    subst h1 h2 h3
    unfold maxLen at hm
    rw [if_pos rfl] at hmm
    rw [cells_word] at hx
    by_cases h0 : len = 0
    · subst h0
      exact ⟨[], ⟨rfl, fun h0 => by omega⟩, by omega⟩
    have hspot : ∃ b off, ad = ⟨b, off, none⟩ := by
      obtain ⟨cs', hc, _⟩ := hx 0 (by omega)
      obtain ⟨_, hlen, hcell⟩ := World.cells?_some hc
      have h0 := hcell 0 (by omega)
      rw [List.getElem?_eq_getElem (by omega)] at h0
      obtain ⟨b, o, spot⟩ := ad
      have hsp : spot = none := by
        have := World.cell?_spot h0
        simpa [Addr.add] using this
      subst hsp
      exact ⟨b, o, rfl⟩
    obtain ⟨b, off, rfl⟩ := hspot
    have hone : ∀ i, i < len → ∃ p : Nat × Nat, w.cell? ⟨b, off + i * 2, none⟩ = some (.int .u64 (p.1 : Int)) ∧ w.cell? ⟨b, off + i * 2 + 1, none⟩ = some (.int .u64 (p.2 : Int)) ∧ p.1 < 18446744073709551616 ∧ p.2 < 18446744073709551616 := by
      intro i hi
      obtain ⟨cs', hc, ht⟩ := hx i (by omega)
      obtain ⟨_, hlen, hcell⟩ := World.cells?_some hc
      obtain ⟨xs, n', _, _, _, hxs, hf⟩ := DataW.trod_struct Try.underlying54 ht
      have hxl : xs.length = 2 := hxs
      have at_ : ∀ j, j < 2 → w.cell? ⟨b, off + i * 2 + j, none⟩ = cs'[j]? := fun j hj => by
        have := hcell j hj
        rwa [add_plain, add_plain] at this
      have f0 : DataW.trod enc Try.prog w base (fun _ => true) held n' 23 ((cs'.drop 0).take (Try.prog.cellsOf 23)) = xs[0]? := hf 0 _ rfl
      have f1 : DataW.trod enc Try.prog w base (fun _ => true) held n' 23 ((cs'.drop 1).take (Try.prog.cellsOf 23)) = xs[1]? := hf 1 _ rfl
      rw [List.getElem?_eq_getElem (by omega)] at f0 f1
      rw [cells_u64] at f0 f1
      obtain ⟨v0, g0, _, w0⟩ := DataW.trod_int Try.underlying23 f0
      obtain ⟨v1, g1, _, w1⟩ := DataW.trod_int Try.underlying23 f1
      have b0 : 0 ≤ v0 ∧ v0 ≤ 18446744073709551615 := by simpa [Lit.wf, IntKind.min, IntKind.max, IntKind.signed, IntKind.bits] using w0
      have b1 : 0 ≤ v1 ∧ v1 ≤ 18446744073709551615 := by simpa [Lit.wf, IntKind.min, IntKind.max, IntKind.signed, IntKind.bits] using w1
      obtain ⟨q0, rfl⟩ : ∃ q : Nat, v0 = q := ⟨v0.toNat, by omega⟩
      obtain ⟨q1, rfl⟩ : ∃ q : Nat, v1 = q := ⟨v1.toNat, by omega⟩
      exact ⟨(q0, q1), (at_ 0 (by omega)).trans (one_of g0), (at_ 1 (by omega)).trans (one_of g1), by show q0 < _; omega, by show q1 < _; omega⟩
    obtain ⟨ws, hl', hp⟩ := choose_list len hone
    exact ⟨ws, ⟨hl', fun _ => ⟨b, off, rfl, hp⟩⟩, by omega⟩
theorem open_five {H : Type} {enc : TypeId × Value → H} {W : World} {b base : Nat} {spare : Nat → Bool} {held : Bool} {r : Reach} {v : Value} {d : DataW H} {p : List MemPlace}
    (hv : Value.okWide Try.prog W r base 43 v) (h : DataW.Trod enc Try.prog W b spare held 43 v d p) :
    ∃ x0 x1 x2 x3 x4 : Nat, v = .agg #[.int .u8 (x0 : Int), .int .u8 (x1 : Int), .int .u8 (x2 : Int), .int .u8 (x3 : Int), .int .u8 (x4 : Int)] ∧ x0 < 256 ∧ x1 < 256 ∧ x2 < 256 ∧ x3 < 256 ∧ x4 < 256 := by
  have ht : Try.prog.underlying 43 = some (.array 5 5) := Try.underlying43
  simp only [Value.okWide, ht] at hv
  obtain ⟨cs, rfl, hs, _⟩ := hv
  rw [show Try.prog.cellsOf 43 = 5 by kernel_rfl] at hs
  obtain ⟨c0, c1, c2, c3, c4, rfl⟩ : ∃ c0 c1 c2 c3 c4, cs = #[c0, c1, c2, c3, c4] := by
    obtain ⟨l⟩ := cs
    match l, hs with
    | [c0, c1, c2, c3, c4], _ => exact ⟨c0, c1, c2, c3, c4, rfl⟩
  obtain ⟨fuel, hf⟩ := h
  obtain ⟨xs, m, rfl, hx, hl, hn2, hel⟩ := DataW.trod_array ht hf
  have e0 := hel 0 (by decide)
  rw [show Try.prog.cellsOf 5 = 1 by kernel_rfl] at e0
  obtain ⟨y0, z0⟩ : ∃ y, xs[0]? = some y := ⟨xs[0], List.getElem?_eq_getElem (by omega)⟩
  rw [z0] at e0
  obtain ⟨k0, q0, _, s0⟩ := DataW.trod_int Try.underlying5 e0
  simp [Value.cells] at q0
  have b0 : 0 ≤ k0 ∧ k0 ≤ 255 := by simpa [Lit.wf, IntKind.min, IntKind.max, IntKind.signed, IntKind.bits] using s0
  obtain ⟨n0, rfl⟩ : ∃ n : Nat, k0 = n := ⟨k0.toNat, by omega⟩
  have e1 := hel 1 (by decide)
  rw [show Try.prog.cellsOf 5 = 1 by kernel_rfl] at e1
  obtain ⟨y1, z1⟩ : ∃ y, xs[1]? = some y := ⟨xs[1], List.getElem?_eq_getElem (by omega)⟩
  rw [z1] at e1
  obtain ⟨k1, q1, _, s1⟩ := DataW.trod_int Try.underlying5 e1
  simp [Value.cells] at q1
  have b1 : 0 ≤ k1 ∧ k1 ≤ 255 := by simpa [Lit.wf, IntKind.min, IntKind.max, IntKind.signed, IntKind.bits] using s1
  obtain ⟨n1, rfl⟩ : ∃ n : Nat, k1 = n := ⟨k1.toNat, by omega⟩
  have e2 := hel 2 (by decide)
  rw [show Try.prog.cellsOf 5 = 1 by kernel_rfl] at e2
  obtain ⟨y2, z2⟩ : ∃ y, xs[2]? = some y := ⟨xs[2], List.getElem?_eq_getElem (by omega)⟩
  rw [z2] at e2
  obtain ⟨k2, q2, _, s2⟩ := DataW.trod_int Try.underlying5 e2
  simp [Value.cells] at q2
  have b2 : 0 ≤ k2 ∧ k2 ≤ 255 := by simpa [Lit.wf, IntKind.min, IntKind.max, IntKind.signed, IntKind.bits] using s2
  obtain ⟨n2, rfl⟩ : ∃ n : Nat, k2 = n := ⟨k2.toNat, by omega⟩
  have e3 := hel 3 (by decide)
  rw [show Try.prog.cellsOf 5 = 1 by kernel_rfl] at e3
  obtain ⟨y3, z3⟩ : ∃ y, xs[3]? = some y := ⟨xs[3], List.getElem?_eq_getElem (by omega)⟩
  rw [z3] at e3
  obtain ⟨k3, q3, _, s3⟩ := DataW.trod_int Try.underlying5 e3
  simp [Value.cells] at q3
  have b3 : 0 ≤ k3 ∧ k3 ≤ 255 := by simpa [Lit.wf, IntKind.min, IntKind.max, IntKind.signed, IntKind.bits] using s3
  obtain ⟨n3, rfl⟩ : ∃ n : Nat, k3 = n := ⟨k3.toNat, by omega⟩
  have e4 := hel 4 (by decide)
  rw [show Try.prog.cellsOf 5 = 1 by kernel_rfl] at e4
  obtain ⟨y4, z4⟩ : ∃ y, xs[4]? = some y := ⟨xs[4], List.getElem?_eq_getElem (by omega)⟩
  rw [z4] at e4
  obtain ⟨k4, q4, _, s4⟩ := DataW.trod_int Try.underlying5 e4
  simp [Value.cells] at q4
  have b4 : 0 ≤ k4 ∧ k4 ≤ 255 := by simpa [Lit.wf, IntKind.min, IntKind.max, IntKind.signed, IntKind.bits] using s4
  obtain ⟨n4, rfl⟩ : ∃ n : Nat, k4 = n := ⟨k4.toNat, by omega⟩
  subst q0 q1 q2 q3 q4
  exact ⟨n0, n1, n2, n3, n4, rfl, by omega, by omega, by omega, by omega, by omega⟩
theorem open_fivep {H : Type} {enc : TypeId × Value → H} {W : World} {b base : Nat} {spare : Nat → Bool} {held : Bool} {r : Reach} {v : Value} {d : DataW H} {p : List MemPlace}
    (hv : Value.okWide Try.prog W r base 43 v) (h : DataW.Trod enc Try.prog W b spare held 43 v d p) :
    ∃ x : Nat × Nat × Nat × Nat × Nat, v = .agg #[.int .u8 (x.1 : Int), .int .u8 (x.2.1 : Int), .int .u8 (x.2.2.1 : Int), .int .u8 (x.2.2.2.1 : Int), .int .u8 (x.2.2.2.2 : Int)] ∧ x.1 < 256 ∧ x.2.1 < 256 ∧ x.2.2.1 < 256 ∧ x.2.2.2.1 < 256 ∧ x.2.2.2.2 < 256 := by
  obtain ⟨x0, x1, x2, x3, x4, h, hb⟩ := open_five hv h
  exact ⟨(x0, x1, x2, x3, x4), h, hb⟩
end Go.Proofs.Ytibmjbfnjkmjbaa
