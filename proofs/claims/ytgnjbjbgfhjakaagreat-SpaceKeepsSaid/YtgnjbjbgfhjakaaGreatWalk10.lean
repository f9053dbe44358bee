/-
  What the functions of package walk answer: contracts over the translation. Each says its own conditions.
-/
import Derived.Test.YtgnjbjbgfhjakaaGreatFnd10
import Derived.Test.YtgnjbjbgfhjakaaGreatMemW10
import Derived.Test.YtgnjbjbgfhjakaaGreatPte08

import Derived.Deep.Cut
namespace Go.Proofs.YtgnjbjbgfhjakaaGreat
open Go.RowKit
set_option linter.unusedVariables false
set_option linter.unusedSimpArgs false
attribute [local go_sem] setCell_drewN alloc_drewN

theorem load_ent {w : World} {b : Nat} {c0 c1 c2 c3 c4 c5 c6 c7 c8 c9 : Value} (h : Blk w b [c0, c1, c2, c3, c4, c5, c6, c7, c8, c9] 39) :
    (Instr.loadAt 39 (.pointer (some ⟨b, 0, none⟩))).run Tryz.prog w = .ok (.agg #[c0, c1, c2, c3, c4, c5, c6, c7, c8, c9]) w := by
  have h0 : w.cell? ⟨b, 0, none⟩ = some c0 := h.cell 0
  have h1 : w.cell? ⟨b, 1, none⟩ = some c1 := h.cell 1
  have h2 : w.cell? ⟨b, 2, none⟩ = some c2 := h.cell 2
  have h3 : w.cell? ⟨b, 3, none⟩ = some c3 := h.cell 3
  have h4 : w.cell? ⟨b, 4, none⟩ = some c4 := h.cell 4
  have h5 : w.cell? ⟨b, 5, none⟩ = some c5 := h.cell 5
  have h6 : w.cell? ⟨b, 6, none⟩ = some c6 := h.cell 6
  have h7 : w.cell? ⟨b, 7, none⟩ = some c7 := h.cell 7
  have h8 : w.cell? ⟨b, 8, none⟩ = some c8 := h.cell 8
  have h9 : w.cell? ⟨b, 9, none⟩ = some c9 := h.cell 9
  clear h
  go_simp
theorem yield_ent {w : World} {b : Nat} {c0 c1 c2 c3 c4 c5 c6 c7 c8 c9 : Value} (a : Act) (o : Oper) (x : Operand) (ho : o.op = .load 39 x) (hx : a.eval x = .pointer (some ⟨b, 0, none⟩)) (h : Blk w b [c0, c1, c2, c3, c4, c5, c6, c7, c8, c9] 39) :
    (execOp a.eval o).run Tryz.prog w = .ok (.value (.agg #[c0, c1, c2, c3, c4, c5, c6, c7, c8, c9])) w := by
  have e := load_ent h
  obtain ⟨op, _, _, _, _, _⟩ := o
  dsimp only at ho
  subst ho
  unfold execOp
  simp only [hx]
  simp [e]
theorem MemX.below {w w' : World} {mp fr n : Nat} {C : Nat → List Int} {F : Nat → Prop} (h : MemX w mp fr n C F) (hb : Below w.heap.size w w') : MemX w' mp fr n C F :=
  h.chg (Chg.of_below (F := no) hb) (fun h => h) (fun _ _ h => h)
theorem place_any (f : Lf) (va : Nat) (w : World) (hp : f.e.ppn < 18446744073709551616) (hv : va < 18446744073709551616) (hl : f.lv < 3) : Calls Tryz.prog 90 #[lfv f, .int .u64 va] w fun r w' => r = .returned (.int .u64 (joinN f.e.ppn va (2 ^ (12 + 9 * f.lv)) : Nat)) ∧ Below w.heap.size w w' := by
  have h1 := fun w => Calls.belowE (join_yes f.e.ppn va f.lv w hp hv hl)
  generalize joinN f.e.ppn va (2 ^ (12 + 9 * f.lv)) = J at h1 ⊢
  obtain ⟨⟨v, r, x1, x, u, g, a, d, rsw, ppn⟩, lv, pl⟩ := f
  unfold lfv
  dsimp only at *
  have H1 := Lib.hid h1; clear h1 hp hv hl
  go_enter Tryz.func90, Tryz.ntmps90
  go_wp2_with fail
  have nb0 := Blk.new w [.bool v, .bool r, .bool x1, .bool x, .bool u, .bool g, .bool a, .bool d, .int .i64 rsw, .int .u64 (ppn : Int), .int .i64 (lv : Int), .int .u64 (pl : Int)] 41
  have nls : Below w.heap.size w w := (Below.refl w.heap.size w)
  have nl0 := nls.alloc nls.size (.cells #[.bool v, .bool r, .bool x1, .bool x, .bool u, .bool g, .bool a, .bool d, .int .i64 rsw, .int .u64 (ppn : Int), .int .i64 (lv : Int), .int .u64 (pl : Int)] 41)
  have nl : Below w.heap.size w (w.alloc (.cells #[.bool v, .bool r, .bool x1, .bool x, .bool u, .bool g, .bool a, .bool d, .int .i64 rsw, .int .u64 (ppn : Int), .int .i64 (lv : Int), .int .u64 (pl : Int)] 41)) := nl0; clear nls nl0
  obtain ⟨B1, hB0⟩ : ∃ B, B = w.heap.size := ⟨_, rfl⟩
  obtain ⟨W1, hW⟩ : ∃ W, W = (w.alloc (.cells #[.bool v, .bool r, .bool x1, .bool x, .bool u, .bool g, .bool a, .bool d, .int .i64 rsw, .int .u64 (ppn : Int), .int .i64 (lv : Int), .int .u64 (pl : Int)] 41)) := ⟨_, rfl⟩
  rw [← hW] at nl nb0
  rw [← hB0] at nb0
  rw [← hW]
  try rw [← hB0]
  have K1_0 := Lib.hid nb0
  have G1 : Hid (w.heap.size ≤ B1) := Lib.hid (by have := (Nat.le_refl w.heap.size); omega)
  have L1 := Lib.hid nl
  clear nl hW nb0 hB0
  refine (H1.out _).mono ?_
  rintro e w2 ⟨rfl, hb⟩
  have L2 := Lib.hid (L1.out.trans (hb.mono L1.out.size))
  have K2_0 := Lib.hid (K1_0.out.below hb K1_0.out.lt)
  clear hb K1_0
  go_wp2
  go_ret
  exact ⟨rfl, L2.out⟩
theorem span_512 (l : Nat) (h : l < 3) : ((2 ^ (12 + 9 * l) : Nat) : Int) / 4096 = ((2 ^ (9 * l) : Nat) : Int) := by
  rw [Nat.pow_add, show (2 : Nat) ^ 12 = 4096 from rfl]
  omega
theorem ispage_any (f : Lf) (w : World) (hl : f.lv < 3) : Calls Tryz.prog 98 #[lfv f] w fun r w' => r = .returned (.bool (pag f)) ∧ Below w.heap.size w w' := by
  have h1 := fun w => Calls.belowE (span_yes f.lv w hl)
  have h2 := fun w => leaf_any f.e w
  have e1 := span_512 f.lv hl
  have e2 : (((f.e.ppn : Int) % ((2 ^ (9 * f.lv) : Nat) : Int)) == 0) = (f.e.ppn % 2 ^ (9 * f.lv) == 0) := by
    rw [Bool.eq_iff_iff]; simp only [beq_iff_eq]; omega
  have e3 : (((2 ^ (9 * f.lv) : Nat) : Int)) ≠ 0 := by have := Nat.two_pow_pos (9 * f.lv); omega
  unfold pag
  have e0 : (f.e.r || f.e.x) = lea f.e := rfl
  rw [e0] at h2
  generalize lea f.e = L at h2 ⊢
  generalize (f.e.ppn % 2 ^ (9 * f.lv) == 0) = Q at e2 ⊢
  have b1 : (0 : Int) < ((2 ^ (9 * f.lv) : Nat) : Int) ∧ ((2 ^ (9 * f.lv) : Nat) : Int) < 18446744073709551616 := by
    have := Nat.two_pow_pos (9 * f.lv)
    have := pow_le (show 9 * f.lv ≤ 63 by omega)
    rw [p63] at this
    omega
  have e4 : 0 ≤ (f.e.ppn : Int) % ((2 ^ (9 * f.lv) : Nat) : Int) := Int.emod_nonneg _ e3
  replace e1 : IntKind.u64.wrap (((2 ^ (12 + 9 * f.lv) : Nat) : Int).tdiv 4096) = ((2 ^ (9 * f.lv) : Nat) : Int) := by
    rw [Int.tdiv_eq_ediv_of_nonneg (by omega), e1, wrap_u64B]; omega
  generalize ((2 ^ (9 * f.lv) : Nat) : Int) = S at e1 e2 e3 b1 e4
  generalize ((2 ^ (12 + 9 * f.lv) : Nat) : Int) = Z at h1 e1
  obtain ⟨⟨v, r, x1, x, u, g, a, d, rsw, ppn⟩, lv, pl⟩ := f
  unfold lfv pv at *
  dsimp only at *
  have H1 := Lib.hid h1; have H2 := Lib.hid h2; clear h1 h2 hl e0
  go_enter Tryz.func98, Tryz.ntmps98
  go_wp2_with fail
  have nb0 := Blk.new w [.bool v, .bool r, .bool x1, .bool x, .bool u, .bool g, .bool a, .bool d, .int .i64 rsw, .int .u64 (ppn : Int), .int .i64 (lv : Int), .int .u64 (pl : Int)] 41
  have nls : Below w.heap.size w w := (Below.refl w.heap.size w)
  have nl0 := nls.alloc nls.size (.cells #[.bool v, .bool r, .bool x1, .bool x, .bool u, .bool g, .bool a, .bool d, .int .i64 rsw, .int .u64 (ppn : Int), .int .i64 (lv : Int), .int .u64 (pl : Int)] 41)
  have nl : Below w.heap.size w (w.alloc (.cells #[.bool v, .bool r, .bool x1, .bool x, .bool u, .bool g, .bool a, .bool d, .int .i64 rsw, .int .u64 (ppn : Int), .int .i64 (lv : Int), .int .u64 (pl : Int)] 41)) := nl0; clear nls nl0
  obtain ⟨B1, hB0⟩ : ∃ B, B = w.heap.size := ⟨_, rfl⟩
  obtain ⟨W1, hW⟩ : ∃ W, W = (w.alloc (.cells #[.bool v, .bool r, .bool x1, .bool x, .bool u, .bool g, .bool a, .bool d, .int .i64 rsw, .int .u64 (ppn : Int), .int .i64 (lv : Int), .int .u64 (pl : Int)] 41)) := ⟨_, rfl⟩
  rw [← hW] at nl nb0
  rw [← hB0] at nb0
  rw [← hW]
  try rw [← hB0]
  have K1_0 := Lib.hid nb0
  have G1 : Hid (w.heap.size ≤ B1) := Lib.hid (by have := (Nat.le_refl w.heap.size); omega)
  have L1 := Lib.hid nl
  clear nl hW nb0 hB0
  refine (H1.out _).mono ?_
  rintro e w2 ⟨rfl, hb⟩
  have L2 := Lib.hid (L1.out.trans (hb.mono L1.out.size))
  have K2_0 := Lib.hid (K1_0.out.below hb K1_0.out.lt)
  clear hb K1_0
  have m0_0 := K2_0.out.c0
  have m0_1 := K2_0.out.c1
  have m0_2 := K2_0.out.c2
  have m0_3 := K2_0.out.c3
  have m0_4 := K2_0.out.c4
  have m0_5 := K2_0.out.c5
  have m0_6 := K2_0.out.c6
  have m0_7 := K2_0.out.c7
  have m0_8 := K2_0.out.c8
  have m0_9 := K2_0.out.c9
  have m0_10 := K2_0.out.c10
  have m0_11 := K2_0.out.c11
  have mlt0 : B1 < w2.heap.size := K2_0.out.lt
  go_wp2_with fail
  clear m0_0 m0_1 m0_2 m0_3 m0_4 m0_5 m0_6 m0_7 m0_8 m0_9 m0_10 m0_11 mlt0
  refine (H2.out _).mono ?_
  rintro e w3 ⟨rfl, hb⟩
  have L3 := Lib.hid (L2.out.trans (hb.mono L2.out.size))
  have K3_0 := Lib.hid (K2_0.out.below hb K2_0.out.lt)
  clear hb K2_0
  cases L
  · have m0_0 := K3_0.out.c0
    have m0_1 := K3_0.out.c1
    have m0_2 := K3_0.out.c2
    have m0_3 := K3_0.out.c3
    have m0_4 := K3_0.out.c4
    have m0_5 := K3_0.out.c5
    have m0_6 := K3_0.out.c6
    have m0_7 := K3_0.out.c7
    have m0_8 := K3_0.out.c8
    have m0_9 := K3_0.out.c9
    have m0_10 := K3_0.out.c10
    have m0_11 := K3_0.out.c11
    have mlt0 : B1 < w3.heap.size := K3_0.out.lt
    go_wp2
    clear m0_0 m0_1 m0_2 m0_3 m0_4 m0_5 m0_6 m0_7 m0_8 m0_9 m0_10 m0_11 mlt0
    go_ret
    exact ⟨rfl, L3.out⟩
  · have m0_0 := K3_0.out.c0
    have m0_1 := K3_0.out.c1
    have m0_2 := K3_0.out.c2
    have m0_3 := K3_0.out.c3
    have m0_4 := K3_0.out.c4
    have m0_5 := K3_0.out.c5
    have m0_6 := K3_0.out.c6
    have m0_7 := K3_0.out.c7
    have m0_8 := K3_0.out.c8
    have m0_9 := K3_0.out.c9
    have m0_10 := K3_0.out.c10
    have m0_11 := K3_0.out.c11
    have mlt0 : B1 < w3.heap.size := K3_0.out.lt
    go_wp2
    clear m0_0 m0_1 m0_2 m0_3 m0_4 m0_5 m0_6 m0_7 m0_8 m0_9 m0_10 m0_11 mlt0
    go_ret
    exact ⟨ret_bool (by simp [e2]), L3.out⟩
set_option maxHeartbeats 4000000 in
theorem leads_any (f : Lf) (w : World) : Calls Tryz.prog 97 #[lfv f] w fun r w' => r = .returned (.bool (ledn f)) ∧ Below w.heap.size w w' := by
  have h2 := fun w => leaf_any f.e w
  have e0 : (f.e.r || f.e.x) = lea f.e := rfl
  rw [e0] at h2
  unfold ledn
  generalize lea f.e = L at h2 ⊢
  obtain ⟨⟨v, r, x1, x, u, g, a, d, rsw, ppn⟩, lv, pl⟩ := f
  unfold lfv pv at *
  dsimp only at *
  have e1 : decide (0 < (lv : Int)) = decide (0 < lv) := by rw [Bool.eq_iff_iff]; simp
  generalize decide (0 < lv) = Q at e1 ⊢
  have H2 := Lib.hid h2; clear h2 e0
  go_enter Tryz.func97, Tryz.ntmps97
  go_wp2_with fail
  have nb0 := Blk.new w [.bool v, .bool r, .bool x1, .bool x, .bool u, .bool g, .bool a, .bool d, .int .i64 rsw, .int .u64 (ppn : Int), .int .i64 (lv : Int), .int .u64 (pl : Int)] 41
  replace nb0 := nb0.alloc (.cells #[.bool v, .bool r, .bool x1, .bool x, .bool u, .bool g, .bool a, .bool d, .int .i64 rsw, .int .u64 (ppn : Int)] 39)
  have nb1 : Blk ((w.alloc (.cells #[.bool v, .bool r, .bool x1, .bool x, .bool u, .bool g, .bool a, .bool d, .int .i64 rsw, .int .u64 (ppn : Int), .int .i64 (lv : Int), .int .u64 (pl : Int)] 41)).alloc (.cells #[.bool v, .bool r, .bool x1, .bool x, .bool u, .bool g, .bool a, .bool d, .int .i64 rsw, .int .u64 (ppn : Int)] 39)) (w.heap.size + 1) [.bool v, .bool r, .bool x1, .bool x, .bool u, .bool g, .bool a, .bool d, .int .i64 rsw, .int .u64 (ppn : Int)] 39 := Blk.nextn (w.alloc (.cells #[.bool v, .bool r, .bool x1, .bool x, .bool u, .bool g, .bool a, .bool d, .int .i64 rsw, .int .u64 (ppn : Int), .int .i64 (lv : Int), .int .u64 (pl : Int)] 41)) (w.heap.size + 1) [.bool v, .bool r, .bool x1, .bool x, .bool u, .bool g, .bool a, .bool d, .int .i64 rsw, .int .u64 (ppn : Int)] 39 (by simp)
  have nls : Below w.heap.size w w := (Below.refl w.heap.size w)
  have nl0 := nls.alloc nls.size (.cells #[.bool v, .bool r, .bool x1, .bool x, .bool u, .bool g, .bool a, .bool d, .int .i64 rsw, .int .u64 (ppn : Int), .int .i64 (lv : Int), .int .u64 (pl : Int)] 41)
  have nl1 := nl0.alloc nl0.size (.cells #[.bool v, .bool r, .bool x1, .bool x, .bool u, .bool g, .bool a, .bool d, .int .i64 rsw, .int .u64 (ppn : Int)] 39)
  have nl : Below w.heap.size w ((w.alloc (.cells #[.bool v, .bool r, .bool x1, .bool x, .bool u, .bool g, .bool a, .bool d, .int .i64 rsw, .int .u64 (ppn : Int), .int .i64 (lv : Int), .int .u64 (pl : Int)] 41)).alloc (.cells #[.bool v, .bool r, .bool x1, .bool x, .bool u, .bool g, .bool a, .bool d, .int .i64 rsw, .int .u64 (ppn : Int)] 39)) := nl1; clear nls nl0 nl1
  obtain ⟨B1_1, hB1⟩ : ∃ B, B = w.heap.size + 1 := ⟨_, rfl⟩
  obtain ⟨B1_0, hB0⟩ : ∃ B, B = w.heap.size := ⟨_, rfl⟩
  obtain ⟨W1, hW⟩ : ∃ W, W = ((w.alloc (.cells #[.bool v, .bool r, .bool x1, .bool x, .bool u, .bool g, .bool a, .bool d, .int .i64 rsw, .int .u64 (ppn : Int), .int .i64 (lv : Int), .int .u64 (pl : Int)] 41)).alloc (.cells #[.bool v, .bool r, .bool x1, .bool x, .bool u, .bool g, .bool a, .bool d, .int .i64 rsw, .int .u64 (ppn : Int)] 39)) := ⟨_, rfl⟩
  rw [← hW] at nl nb0 nb1
  rw [← hB1] at nb1
  rw [← hB0] at nb0
  rw [← hW]
  try rw [← hB1]
  try rw [← hB0]
  have K1_0 := Lib.hid nb0
  have G1_0 : Hid (w.heap.size ≤ B1_0) := Lib.hid (by have := (Nat.le_refl w.heap.size); omega)
  have K1_1 := Lib.hid nb1
  have G1_1 : Hid (w.heap.size ≤ B1_1) := Lib.hid (by have := (Nat.le_refl w.heap.size); omega)
  have y1_0_1 : B1_0 ≠ B1_1 := by omega
  have Y1_0_1 := Lib.hid y1_0_1; clear y1_0_1
  have L1 := Lib.hid nl
  clear nl hW nb0 hB0 nb1 hB1
  refine (H2.out _).mono ?_
  rintro e w2 ⟨rfl, hb⟩
  have L2 := Lib.hid (L1.out.trans (hb.mono L1.out.size))
  have K2_0 := Lib.hid (K1_0.out.below hb K1_0.out.lt)
  have K2_1 := Lib.hid (K1_1.out.below hb K1_1.out.lt)
  clear hb K1_0 K1_1
  cases L <;> cases u <;> cases a <;> cases d
  all_goals
    have m0_0 := K2_0.out.c0
    have m0_1 := K2_0.out.c1
    have m0_2 := K2_0.out.c2
    have m0_3 := K2_0.out.c3
    have m0_4 := K2_0.out.c4
    have m0_5 := K2_0.out.c5
    have m0_6 := K2_0.out.c6
    have m0_7 := K2_0.out.c7
    have m0_8 := K2_0.out.c8
    have m0_9 := K2_0.out.c9
    have m0_10 := K2_0.out.c10
    have m0_11 := K2_0.out.c11
    have mlt0 : B1_0 < w2.heap.size := K2_0.out.lt
    have m1_0 := K2_1.out.c0
    have m1_1 := K2_1.out.c1
    have m1_2 := K2_1.out.c2
    have m1_3 := K2_1.out.c3
    have m1_4 := K2_1.out.c4
    have m1_5 := K2_1.out.c5
    have m1_6 := K2_1.out.c6
    have m1_7 := K2_1.out.c7
    have m1_8 := K2_1.out.c8
    have m1_9 := K2_1.out.c9
    have mlt1 : B1_1 < w2.heap.size := K2_1.out.lt
    go_wp2
    clear m0_0 m0_1 m0_2 m0_3 m0_4 m0_5 m0_6 m0_7 m0_8 m0_9 m0_10 m0_11 mlt0 m1_0 m1_1 m1_2 m1_3 m1_4 m1_5 m1_6 m1_7 m1_8 m1_9 mlt1
    go_ret
    exact ⟨ret_bool (by simp at e1; simp [e1]), L2.out⟩
theorem at_eq (t va l : Nat) : IntKind.u64.wrap (IntKind.u64.wrap ((t : Int) * 4096) + ((fld va (12 + 9 * l) 9 : Nat) : Int) * 8) = ((atN t va l : Nat) : Int) := by
  have := fld9 va l
  unfold atN
  rw [wrap_u64B, wrap_u64B]
  omega
set_option maxHeartbeats 4000000 in
theorem entry_any (mp fr n t va l : Nat) (C : Nat → List Int) (F : Nat → Prop) (w : World) (hM : MemX w mp fr n C F) (ht : t < 18446744073709551616) (hv : va < 18446744073709551616) (hl : l < 3) :
    Calls Tryz.prog 96 #[.pointer (some ⟨mp, 0, none⟩), .int .u64 t, .int .u64 va, .int .i64 l] w fun r w' => r = .returned (.tuple #[lfv (ent fr (Mw C) va l t).1, .int .i64 ((ent fr (Mw C) va l t).2 : Nat)]) ∧ Below w.heap.size w w' := by
  have h1 := fun w => Calls.belowD (index_yes va l w hv hl)
  have ea := at_eq t va l
  have la := atN_lt t va l
  have h2 := fun w' (hb : Below w.heap.size w w') => Calls.belowE (load_any mp fr n (atN t va l) 8 C F w' (hM.below hb) (by omega))
  rw [errL_8 _ _ (atN_8 t va l)] at h2
  have f9 := fld9 va l
  have hw := hM.word (atN t va l)
  have h3 := fun w => get_any (Mw C (atN t va l)) w hw.2
  obtain ⟨Z, hZ⟩ : ∃ Z, Z = ent fr (Mw C) va l t := ⟨_, rfl⟩
  rw [← hZ]
  have e1 : fr ≤ atN t va l / 4096 → Z = (zl, 61) := fun h => by rw [hZ]; unfold ent; rw [if_pos h]
  have e2 : ¬ fr ≤ atN t va l / 4096 → okE (Mw C (atN t va l)) = false → Z = (zl, 51) := fun h h2 => by rw [hZ]; unfold ent; rw [if_neg h, h2]; rfl
  have e3 : ¬ fr ≤ atN t va l / 4096 → okE (Mw C (atN t va l)) = true → Z = (⟨entW (Mw C (atN t va l)), l, atN t va l⟩, 0) := fun h h2 => by rw [hZ]; exact ent_ok h h2
  clear hZ
  by_cases hb : fr ≤ atN t va l / 4096
  · obtain rfl := e1 hb
    rw [if_pos hb] at h2
    have e9 : ldV fr C (atN t va l) 8 = 0 := by unfold ldV; rw [if_neg (by rw [errL_8 _ _ (atN_8 t va l), if_pos hb]; decide)]
    rw [e9] at h2
    generalize fld va (12 + 9 * l) 9 = I at *
    generalize atN t va l = A at *
    have H1 := Lib.hid h1; have H2 := Lib.hid h2; clear h1 h2 h3 e1 e2 e3 e9 hb hw
    go_enter Tryz.func96, Tryz.ntmps96
    go_wp2_with fail
    have nb0 := Blk.new w [.bool false, .bool false, .bool false, .bool false, .bool false, .bool false, .bool false, .bool false, .int .i64 0, .int .u64 0, .int .i64 0, .int .u64 0] 41
    have nls : Below w.heap.size w w := (Below.refl w.heap.size w)
    have nl0 := nls.alloc nls.size (.cells #[.bool false, .bool false, .bool false, .bool false, .bool false, .bool false, .bool false, .bool false, .int .i64 0, .int .u64 0, .int .i64 0, .int .u64 0] 41)
    have nl : Below w.heap.size w (w.alloc (.cells #[.bool false, .bool false, .bool false, .bool false, .bool false, .bool false, .bool false, .bool false, .int .i64 0, .int .u64 0, .int .i64 0, .int .u64 0] 41)) := nl0; clear nls nl0
    obtain ⟨B1, hB0⟩ : ∃ B, B = w.heap.size := ⟨_, rfl⟩
    obtain ⟨W1, hW⟩ : ∃ W, W = (w.alloc (.cells #[.bool false, .bool false, .bool false, .bool false, .bool false, .bool false, .bool false, .bool false, .int .i64 0, .int .u64 0, .int .i64 0, .int .u64 0] 41)) := ⟨_, rfl⟩
    rw [← hW] at nl nb0
    rw [← hB0] at nb0
    rw [← hW]
    try rw [← hB0]
    have K1_0 := Lib.hid nb0
    have G1 : Hid (w.heap.size ≤ B1) := Lib.hid (by have := (Nat.le_refl w.heap.size); omega)
    have L1 := Lib.hid nl
    clear nl hW nb0 hB0
    refine (H1.out _).mono ?_
    rintro e w2 ⟨rfl, hb⟩
    have L2 := Lib.hid (L1.out.trans (hb.mono L1.out.size))
    have K2_0 := Lib.hid (K1_0.out.below hb K1_0.out.lt)
    clear hb K1_0
    go_wp2_with fail
    refine (H2.out _ L2.out).mono ?_
    rintro e w3 ⟨rfl, hb⟩
    have L3 := Lib.hid (L2.out.trans (hb.mono L2.out.size))
    have K3_0 := Lib.hid (K2_0.out.below hb K2_0.out.lt)
    clear hb K2_0
    have m0_0 := K3_0.out.c0
    have m0_1 := K3_0.out.c1
    have m0_2 := K3_0.out.c2
    have m0_3 := K3_0.out.c3
    have m0_4 := K3_0.out.c4
    have m0_5 := K3_0.out.c5
    have m0_6 := K3_0.out.c6
    have m0_7 := K3_0.out.c7
    have m0_8 := K3_0.out.c8
    have m0_9 := K3_0.out.c9
    have m0_10 := K3_0.out.c10
    have m0_11 := K3_0.out.c11
    have mlt0 : B1 < w3.heap.size := K3_0.out.lt
    have mf0 : ∀ o, w3.frozen? ⟨B1, o, none⟩ = false := fun o => K3_0.out.free o
    go_wp2
    clear m0_0 m0_1 m0_2 m0_3 m0_4 m0_5 m0_6 m0_7 m0_8 m0_9 m0_10 m0_11 mlt0 mf0
    obtain ⟨W3, hW3⟩ : ∃ W9, W9 = ((((((((((((w3.setCell ⟨B1, 0, none⟩ (.bool false)).setCell ⟨B1, 1, none⟩ (.bool false)).setCell ⟨B1, 2, none⟩ (.bool false)).setCell ⟨B1, 3, none⟩ (.bool false)).setCell ⟨B1, 4, none⟩ (.bool false)).setCell ⟨B1, 5, none⟩ (.bool false)).setCell ⟨B1, 6, none⟩ (.bool false)).setCell ⟨B1, 7, none⟩ (.bool false)).setCell ⟨B1, 8, none⟩ (.int .i64 0)).setCell ⟨B1, 9, none⟩ (.int .u64 0)).setCell ⟨B1, 10, none⟩ (.int .i64 0)).setCell ⟨B1, 11, none⟩ (.int .u64 0)) := ⟨_, rfl⟩
    rw [← hW3]
    have b3 : Blk W3 B1 [.bool false, .bool false, .bool false, .bool false, .bool false, .bool false, .bool false, .bool false, .int .i64 0, .int .u64 0, .int .i64 0, .int .u64 0] 41 := hW3 ▸ ((((((((((((K3_0.out.set 0 (.bool false)).set 1 (.bool false)).set 2 (.bool false)).set 3 (.bool false)).set 4 (.bool false)).set 5 (.bool false)).set 6 (.bool false)).set 7 (.bool false)).set 8 (.int .i64 0)).set 9 (.int .u64 0)).set 10 (.int .i64 0)).set 11 (.int .u64 0))
    have l3 : Below w.heap.size w W3 := hW3 ▸ (Below.setCell (Below.setCell (Below.setCell (Below.setCell (Below.setCell (Below.setCell (Below.setCell (Below.setCell (Below.setCell (Below.setCell (Below.setCell (Below.setCell L3.out G1.out _) G1.out _) G1.out _) G1.out _) G1.out _) G1.out _) G1.out _) G1.out _) G1.out _) G1.out _) G1.out _) G1.out _)
    clear hW3
    have r0 := b3.c0
    have r1 := b3.c1
    have r2 := b3.c2
    have r3 := b3.c3
    have r4 := b3.c4
    have r5 := b3.c5
    have r6 := b3.c6
    have r7 := b3.c7
    have r8 := b3.c8
    have r9 := b3.c9
    have r10 := b3.c10
    have r11 := b3.c11
    have Q3 := Lib.hid b3; have QL := Lib.hid l3; clear b3 l3
    refine bodyPost_ret (v := .tuple #[.agg #[.bool false, .bool false, .bool false, .bool false, .bool false, .bool false, .bool false, .bool false, .int .i64 0, .int .u64 0, .int .i64 0, .int .u64 0], .int .i64 61]) (by simp [results, Tryz.results96, go_sem, r0, r1, r2, r3, r4, r5, r6, r7, r8, r9, r10, r11]) rfl ⟨rfl, QL.out⟩
  · rw [if_neg hb] at h2
    have e9 : ldV fr C (atN t va l) 8 = (Mw C (atN t va l) : Nat) := by unfold ldV; rw [if_pos (by rw [errL_8 _ _ (atN_8 t va l), if_neg hb]), ← hw.1]; rfl
    rw [e9] at h2
    replace e2 := e2 hb
    replace e3 := e3 hb
    have h4 := fun w => right_any (entW (Mw C (atN t va l))) w
    unfold okE at e2 e3
    have wl := hw.2
    generalize fld va (12 + 9 * l) 9 = I at *
    generalize atN t va l = A at *
    generalize Mw C A = M at *
    generalize decide (M < 18014398509481984) = D at h3 e2 e3
    generalize ((entW M).v && ((entW M).r || !(entW M).w)) = R at h4 e2 e3
    generalize entW M = E at *
    obtain ⟨v, r, x1, x, u, g, a, d, rsw, ppn⟩ := E
    unfold pv at *
    dsimp only at *
    have H1 := Lib.hid h1; have H2 := Lib.hid h2; have H3 := Lib.hid h3; have H4 := Lib.hid h4; have E2 := Lib.hid e2; have E3 := Lib.hid e3; clear h1 h2 h3 h4 e1 e2 e3 e9 hb hw
    go_enter Tryz.func96, Tryz.ntmps96
    go_wp2_with fail
    have nb0 := Blk.new w [.bool false, .bool false, .bool false, .bool false, .bool false, .bool false, .bool false, .bool false, .int .i64 0, .int .u64 0, .int .i64 0, .int .u64 0] 41
    have nls : Below w.heap.size w w := (Below.refl w.heap.size w)
    have nl0 := nls.alloc nls.size (.cells #[.bool false, .bool false, .bool false, .bool false, .bool false, .bool false, .bool false, .bool false, .int .i64 0, .int .u64 0, .int .i64 0, .int .u64 0] 41)
    have nl : Below w.heap.size w (w.alloc (.cells #[.bool false, .bool false, .bool false, .bool false, .bool false, .bool false, .bool false, .bool false, .int .i64 0, .int .u64 0, .int .i64 0, .int .u64 0] 41)) := nl0; clear nls nl0
    obtain ⟨B1, hB0⟩ : ∃ B, B = w.heap.size := ⟨_, rfl⟩
    obtain ⟨W1, hW⟩ : ∃ W, W = (w.alloc (.cells #[.bool false, .bool false, .bool false, .bool false, .bool false, .bool false, .bool false, .bool false, .int .i64 0, .int .u64 0, .int .i64 0, .int .u64 0] 41)) := ⟨_, rfl⟩
    rw [← hW] at nl nb0
    rw [← hB0] at nb0
    rw [← hW]
    try rw [← hB0]
    have K1_0 := Lib.hid nb0
    have G1 : Hid (w.heap.size ≤ B1) := Lib.hid (by have := (Nat.le_refl w.heap.size); omega)
    have L1 := Lib.hid nl
    clear nl hW nb0 hB0
    refine (H1.out _).mono ?_
    rintro e w2 ⟨rfl, hb⟩
    have L2 := Lib.hid (L1.out.trans (hb.mono L1.out.size))
    have K2_0 := Lib.hid (K1_0.out.below hb K1_0.out.lt)
    clear hb K1_0
    go_wp2_with fail
    refine (H2.out _ L2.out).mono ?_
    rintro e w3 ⟨rfl, hb⟩
    have L3 := Lib.hid (L2.out.trans (hb.mono L2.out.size))
    have K3_0 := Lib.hid (K2_0.out.below hb K2_0.out.lt)
    clear hb K2_0
    go_wp2_with fail
    refine (H3.out _).mono ?_
    rintro e w4 ⟨rfl, hb⟩
    have L4 := Lib.hid (L3.out.trans (hb.mono L3.out.size))
    have K4_0 := Lib.hid (K3_0.out.below hb K3_0.out.lt)
    clear hb K3_0
    go_upto_region 6 with (fail)
    have nb0 := Blk.new w4 [.bool v, .bool r, .bool x1, .bool x, .bool u, .bool g, .bool a, .bool d, .int .i64 rsw, .int .u64 (ppn : Int)] 39
    have nls : Below w.heap.size w w4 := L4.out
    have nl0 := nls.alloc nls.size (.cells #[.bool v, .bool r, .bool x1, .bool x, .bool u, .bool g, .bool a, .bool d, .int .i64 rsw, .int .u64 (ppn : Int)] 39)
    have nl : Below w.heap.size w (w4.alloc (.cells #[.bool v, .bool r, .bool x1, .bool x, .bool u, .bool g, .bool a, .bool d, .int .i64 rsw, .int .u64 (ppn : Int)] 39)) := nl0; clear nls nl0
    have o0 := (K4_0.out.alloc (.cells #[.bool v, .bool r, .bool x1, .bool x, .bool u, .bool g, .bool a, .bool d, .int .i64 rsw, .int .u64 (ppn : Int)] 39))
    have d5_0 : B1 < w4.heap.size := K4_0.out.lt
    obtain ⟨B5, hB0⟩ : ∃ B, B = w4.heap.size := ⟨_, rfl⟩
    obtain ⟨W5, hW⟩ : ∃ W, W = (w4.alloc (.cells #[.bool v, .bool r, .bool x1, .bool x, .bool u, .bool g, .bool a, .bool d, .int .i64 rsw, .int .u64 (ppn : Int)] 39)) := ⟨_, rfl⟩
    rw [← hW] at nl nb0 o0
    rw [← hB0] at nb0
    rw [← hW]
    try rw [← hB0]
    have K5_0 := Lib.hid o0
    have K5_1 := Lib.hid nb0
    have G5 : Hid (w.heap.size ≤ B5) := Lib.hid (by have := L4.out.size; omega)
    have x5_0_0 : B1 ≠ B5 := by omega
    have X5_0_0 := Lib.hid x5_0_0; clear x5_0_0
    have L5 := Lib.hid nl
    clear nl hW nb0 hB0 o0 d5_0 K4_0
    cases D
    · obtain rfl := E2.out rfl
      have m0_0 := K5_0.out.c0
      have m0_1 := K5_0.out.c1
      have m0_2 := K5_0.out.c2
      have m0_3 := K5_0.out.c3
      have m0_4 := K5_0.out.c4
      have m0_5 := K5_0.out.c5
      have m0_6 := K5_0.out.c6
      have m0_7 := K5_0.out.c7
      have m0_8 := K5_0.out.c8
      have m0_9 := K5_0.out.c9
      have m0_10 := K5_0.out.c10
      have m0_11 := K5_0.out.c11
      have mlt0 : B1 < W5.heap.size := K5_0.out.lt
      have mf0 : ∀ o, W5.frozen? ⟨B1, o, none⟩ = false := fun o => K5_0.out.free o
      go_wp2
      clear m0_0 m0_1 m0_2 m0_3 m0_4 m0_5 m0_6 m0_7 m0_8 m0_9 m0_10 m0_11 mlt0 mf0
      obtain ⟨W3, hW3⟩ : ∃ W9, W9 = ((((((((((((W5.setCell ⟨B1, 0, none⟩ (.bool false)).setCell ⟨B1, 1, none⟩ (.bool false)).setCell ⟨B1, 2, none⟩ (.bool false)).setCell ⟨B1, 3, none⟩ (.bool false)).setCell ⟨B1, 4, none⟩ (.bool false)).setCell ⟨B1, 5, none⟩ (.bool false)).setCell ⟨B1, 6, none⟩ (.bool false)).setCell ⟨B1, 7, none⟩ (.bool false)).setCell ⟨B1, 8, none⟩ (.int .i64 0)).setCell ⟨B1, 9, none⟩ (.int .u64 0)).setCell ⟨B1, 10, none⟩ (.int .i64 0)).setCell ⟨B1, 11, none⟩ (.int .u64 0)) := ⟨_, rfl⟩
      rw [← hW3]
      have b3 : Blk W3 B1 [.bool false, .bool false, .bool false, .bool false, .bool false, .bool false, .bool false, .bool false, .int .i64 0, .int .u64 0, .int .i64 0, .int .u64 0] 41 := hW3 ▸ ((((((((((((K5_0.out.set 0 (.bool false)).set 1 (.bool false)).set 2 (.bool false)).set 3 (.bool false)).set 4 (.bool false)).set 5 (.bool false)).set 6 (.bool false)).set 7 (.bool false)).set 8 (.int .i64 0)).set 9 (.int .u64 0)).set 10 (.int .i64 0)).set 11 (.int .u64 0))
      have l3 : Below w.heap.size w W3 := hW3 ▸ (Below.setCell (Below.setCell (Below.setCell (Below.setCell (Below.setCell (Below.setCell (Below.setCell (Below.setCell (Below.setCell (Below.setCell (Below.setCell (Below.setCell L5.out G1.out _) G1.out _) G1.out _) G1.out _) G1.out _) G1.out _) G1.out _) G1.out _) G1.out _) G1.out _) G1.out _) G1.out _)
      clear hW3
      have r0 := b3.c0
      have r1 := b3.c1
      have r2 := b3.c2
      have r3 := b3.c3
      have r4 := b3.c4
      have r5 := b3.c5
      have r6 := b3.c6
      have r7 := b3.c7
      have r8 := b3.c8
      have r9 := b3.c9
      have r10 := b3.c10
      have r11 := b3.c11
      have Q3 := Lib.hid b3; have QL := Lib.hid l3; clear b3 l3
      refine bodyPost_ret (v := .tuple #[.agg #[.bool false, .bool false, .bool false, .bool false, .bool false, .bool false, .bool false, .bool false, .int .i64 0, .int .u64 0, .int .i64 0, .int .u64 0], .int .i64 51]) (by simp [results, Tryz.results96, go_sem, r0, r1, r2, r3, r4, r5, r6, r7, r8, r9, r10, r11]) rfl ⟨rfl, QL.out⟩
    · have m1_0 := K5_1.out.c0
      have m1_1 := K5_1.out.c1
      have m1_2 := K5_1.out.c2
      have m1_3 := K5_1.out.c3
      have m1_4 := K5_1.out.c4
      have m1_5 := K5_1.out.c5
      have m1_6 := K5_1.out.c6
      have m1_7 := K5_1.out.c7
      have m1_8 := K5_1.out.c8
      have m1_9 := K5_1.out.c9
      have mlt1 : B5 < W5.heap.size := K5_1.out.lt
      go_wp2_with fail
      clear m1_0 m1_1 m1_2 m1_3 m1_4 m1_5 m1_6 m1_7 m1_8 m1_9 mlt1
      refine (H4.out _).mono ?_
      rintro e w6 ⟨rfl, hb⟩
      have L6 := Lib.hid (L5.out.trans (hb.mono L5.out.size))
      have K6_0 := Lib.hid (K5_0.out.below hb K5_0.out.lt)
      have K6_1 := Lib.hid (K5_1.out.below hb K5_1.out.lt)
      clear hb K5_0 K5_1
      cases R
      · obtain rfl := E2.out rfl
        have m0_0 := K6_0.out.c0
        have m0_1 := K6_0.out.c1
        have m0_2 := K6_0.out.c2
        have m0_3 := K6_0.out.c3
        have m0_4 := K6_0.out.c4
        have m0_5 := K6_0.out.c5
        have m0_6 := K6_0.out.c6
        have m0_7 := K6_0.out.c7
        have m0_8 := K6_0.out.c8
        have m0_9 := K6_0.out.c9
        have m0_10 := K6_0.out.c10
        have m0_11 := K6_0.out.c11
        have mlt0 : B1 < w6.heap.size := K6_0.out.lt
        have mf0 : ∀ o, w6.frozen? ⟨B1, o, none⟩ = false := fun o => K6_0.out.free o
        go_wp2
        clear m0_0 m0_1 m0_2 m0_3 m0_4 m0_5 m0_6 m0_7 m0_8 m0_9 m0_10 m0_11 mlt0 mf0
        obtain ⟨W3, hW3⟩ : ∃ W9, W9 = ((((((((((((w6.setCell ⟨B1, 0, none⟩ (.bool false)).setCell ⟨B1, 1, none⟩ (.bool false)).setCell ⟨B1, 2, none⟩ (.bool false)).setCell ⟨B1, 3, none⟩ (.bool false)).setCell ⟨B1, 4, none⟩ (.bool false)).setCell ⟨B1, 5, none⟩ (.bool false)).setCell ⟨B1, 6, none⟩ (.bool false)).setCell ⟨B1, 7, none⟩ (.bool false)).setCell ⟨B1, 8, none⟩ (.int .i64 0)).setCell ⟨B1, 9, none⟩ (.int .u64 0)).setCell ⟨B1, 10, none⟩ (.int .i64 0)).setCell ⟨B1, 11, none⟩ (.int .u64 0)) := ⟨_, rfl⟩
        rw [← hW3]
        have b3 : Blk W3 B1 [.bool false, .bool false, .bool false, .bool false, .bool false, .bool false, .bool false, .bool false, .int .i64 0, .int .u64 0, .int .i64 0, .int .u64 0] 41 := hW3 ▸ ((((((((((((K6_0.out.set 0 (.bool false)).set 1 (.bool false)).set 2 (.bool false)).set 3 (.bool false)).set 4 (.bool false)).set 5 (.bool false)).set 6 (.bool false)).set 7 (.bool false)).set 8 (.int .i64 0)).set 9 (.int .u64 0)).set 10 (.int .i64 0)).set 11 (.int .u64 0))
        have l3 : Below w.heap.size w W3 := hW3 ▸ (Below.setCell (Below.setCell (Below.setCell (Below.setCell (Below.setCell (Below.setCell (Below.setCell (Below.setCell (Below.setCell (Below.setCell (Below.setCell (Below.setCell L6.out G1.out _) G1.out _) G1.out _) G1.out _) G1.out _) G1.out _) G1.out _) G1.out _) G1.out _) G1.out _) G1.out _) G1.out _)
        clear hW3
        have r0 := b3.c0
        have r1 := b3.c1
        have r2 := b3.c2
        have r3 := b3.c3
        have r4 := b3.c4
        have r5 := b3.c5
        have r6 := b3.c6
        have r7 := b3.c7
        have r8 := b3.c8
        have r9 := b3.c9
        have r10 := b3.c10
        have r11 := b3.c11
        have Q3 := Lib.hid b3; have QL := Lib.hid l3; clear b3 l3
        refine bodyPost_ret (v := .tuple #[.agg #[.bool false, .bool false, .bool false, .bool false, .bool false, .bool false, .bool false, .bool false, .int .i64 0, .int .u64 0, .int .i64 0, .int .u64 0], .int .i64 51]) (by simp [results, Tryz.results96, go_sem, r0, r1, r2, r3, r4, r5, r6, r7, r8, r9, r10, r11]) rfl ⟨rfl, QL.out⟩
      · obtain rfl := E3.out rfl
        have m1_0 := K6_1.out.c0
        have m1_1 := K6_1.out.c1
        have m1_2 := K6_1.out.c2
        have m1_3 := K6_1.out.c3
        have m1_4 := K6_1.out.c4
        have m1_5 := K6_1.out.c5
        have m1_6 := K6_1.out.c6
        have m1_7 := K6_1.out.c7
        have m1_8 := K6_1.out.c8
        have m1_9 := K6_1.out.c9
        have mlt1 : B5 < w6.heap.size := K6_1.out.lt
        have m0_0 := K6_0.out.c0
        have m0_1 := K6_0.out.c1
        have m0_2 := K6_0.out.c2
        have m0_3 := K6_0.out.c3
        have m0_4 := K6_0.out.c4
        have m0_5 := K6_0.out.c5
        have m0_6 := K6_0.out.c6
        have m0_7 := K6_0.out.c7
        have m0_8 := K6_0.out.c8
        have m0_9 := K6_0.out.c9
        have m0_10 := K6_0.out.c10
        have m0_11 := K6_0.out.c11
        have mlt0 : B1 < w6.heap.size := K6_0.out.lt
        have mf0 : ∀ o, w6.frozen? ⟨B1, o, none⟩ = false := fun o => K6_0.out.free o
        go_wp2
        clear m1_0 m1_1 m1_2 m1_3 m1_4 m1_5 m1_6 m1_7 m1_8 m1_9 mlt1 m0_0 m0_1 m0_2 m0_3 m0_4 m0_5 m0_6 m0_7 m0_8 m0_9 m0_10 m0_11 mlt0 mf0
        obtain ⟨W3, hW3⟩ : ∃ W9, W9 = ((((((((((((w6.setCell ⟨B1, 0, none⟩ (.bool v)).setCell ⟨B1, 1, none⟩ (.bool r)).setCell ⟨B1, 2, none⟩ (.bool x1)).setCell ⟨B1, 3, none⟩ (.bool x)).setCell ⟨B1, 4, none⟩ (.bool u)).setCell ⟨B1, 5, none⟩ (.bool g)).setCell ⟨B1, 6, none⟩ (.bool a)).setCell ⟨B1, 7, none⟩ (.bool d)).setCell ⟨B1, 8, none⟩ (.int .i64 rsw)).setCell ⟨B1, 9, none⟩ (.int .u64 (ppn : Int))).setCell ⟨B1, 10, none⟩ (.int .i64 (l : Int))).setCell ⟨B1, 11, none⟩ (.int .u64 (A : Int))) := ⟨_, rfl⟩
        rw [← hW3]
        have b3 : Blk W3 B1 [.bool v, .bool r, .bool x1, .bool x, .bool u, .bool g, .bool a, .bool d, .int .i64 rsw, .int .u64 (ppn : Int), .int .i64 (l : Int), .int .u64 (A : Int)] 41 := hW3 ▸ ((((((((((((K6_0.out.set 0 (.bool v)).set 1 (.bool r)).set 2 (.bool x1)).set 3 (.bool x)).set 4 (.bool u)).set 5 (.bool g)).set 6 (.bool a)).set 7 (.bool d)).set 8 (.int .i64 rsw)).set 9 (.int .u64 (ppn : Int))).set 10 (.int .i64 (l : Int))).set 11 (.int .u64 (A : Int)))
        have l3 : Below w.heap.size w W3 := hW3 ▸ (Below.setCell (Below.setCell (Below.setCell (Below.setCell (Below.setCell (Below.setCell (Below.setCell (Below.setCell (Below.setCell (Below.setCell (Below.setCell (Below.setCell L6.out G1.out _) G1.out _) G1.out _) G1.out _) G1.out _) G1.out _) G1.out _) G1.out _) G1.out _) G1.out _) G1.out _) G1.out _)
        clear hW3
        have r0 := b3.c0
        have r1 := b3.c1
        have r2 := b3.c2
        have r3 := b3.c3
        have r4 := b3.c4
        have r5 := b3.c5
        have r6 := b3.c6
        have r7 := b3.c7
        have r8 := b3.c8
        have r9 := b3.c9
        have r10 := b3.c10
        have r11 := b3.c11
        have Q3 := Lib.hid b3; have QL := Lib.hid l3; clear b3 l3
        refine bodyPost_ret (v := .tuple #[.agg #[.bool v, .bool r, .bool x1, .bool x, .bool u, .bool g, .bool a, .bool d, .int .i64 rsw, .int .u64 (ppn : Int), .int .i64 (l : Int), .int .u64 (A : Int)], .int .i64 0]) (by simp [results, Tryz.results96, go_sem, r0, r1, r2, r3, r4, r5, r6, r7, r8, r9, r10, r11]) rfl ⟨rfl, QL.out⟩
end Go.Proofs.YtgnjbjbgfhjakaaGreat
