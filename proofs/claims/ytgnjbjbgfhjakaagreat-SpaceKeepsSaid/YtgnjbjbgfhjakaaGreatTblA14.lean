/-
  What the functions of package table answer that leave the stock alone: contracts over the translation. Each says its own conditions.
-/
import Derived.Test.YtgnjbjbgfhjakaaGreatTab14
import Derived.Test.YtgnjbjbgfhjakaaGreatWalk10
import Derived.Test.YtgnjbjbgfhjakaaGreatTabM13
import Derived.Deep.Cut
namespace Go.Proofs.YtgnjbjbgfhjakaaGreat
open Go.RowKit
set_option linter.unusedVariables false
set_option linter.unusedSimpArgs false
attribute [local go_sem] setCell_drewN alloc_drewN

theorem load_tab0 {w : World} {b : Nat} {c0 c1 c2 c3 : Value} (h : Blk w b [c0, c1, c2, c3] 138) : (Instr.loadAt 82 (.pointer (some ⟨b, 0, none⟩))).run Tryz.prog w = .ok c0 w := by
  have h0 : w.cell? ⟨b, 0, none⟩ = some c0 := h.cell 0
  clear h
  go_simp
theorem yield_tab0 {w : World} {b : Nat} {c0 c1 c2 c3 : Value} (a : Act) (o : Oper) (x : Operand) (ho : o.op = .load 82 x) (hx : a.eval x = .pointer (some ⟨b, 0, none⟩)) (h : Blk w b [c0, c1, c2, c3] 138) :
    (execOp a.eval o).run Tryz.prog w = .ok (.value c0) w := by
  have e := load_tab0 h
  obtain ⟨op, _, _, _, _, _⟩ := o
  dsimp only at ho
  subst ho
  unfold execOp
  simp only [hx]
  simp [e]
theorem load_tab2 {w : World} {b : Nat} {c0 c1 c2 c3 : Value} (h : Blk w b [c0, c1, c2, c3] 138) : (Instr.loadAt 3 (.pointer (some ⟨b, 2, none⟩))).run Tryz.prog w = .ok c2 w := by
  have h0 : w.cell? ⟨b, 2, none⟩ = some c2 := h.cell 2
  clear h
  go_simp
theorem yield_tab2 {w : World} {b : Nat} {c0 c1 c2 c3 : Value} (a : Act) (o : Oper) (x : Operand) (ho : o.op = .load 3 x) (hx : a.eval x = .pointer (some ⟨b, 2, none⟩)) (h : Blk w b [c0, c1, c2, c3] 138) :
    (execOp a.eval o).run Tryz.prog w = .ok (.value c2) w := by
  have e := load_tab2 h
  obtain ⟨op, _, _, _, _, _⟩ := o
  dsimp only at ho
  subst ho
  unfold execOp
  simp only [hx]
  simp [e]
set_option maxHeartbeats 4000000 in
theorem fits_any (e : Ent) (w : World) (hr : -9223372036854775808 ≤ e.rsw ∧ e.rsw ≤ 9223372036854775807) (hp : e.ppn < 18446744073709551616) : Calls Tryz.prog 125 #[pv e] w fun r w' => r = .returned (.bool (fitE e)) ∧ Below w.heap.size w w' := by
  have h1 := fun w => put_any e w hr hp
  have h2 := fun w => get_any (wordE e) w (by have := wordE_lt e; omega)
  have e1 : fitE e = true ↔ e = entW (wordE e) := by
    rw [fit_iff]; exact ⟨fun h => h.symm, fun h => h.symm⟩
  generalize entW (wordE e) = E at *
  generalize wordE e = W at *
  obtain ⟨v, r, x1, x, u, g, a, d, rsw, ppn⟩ := e
  obtain ⟨v2, r2, y2, x2, u2, g2, a2, d2, rsw2, ppn2⟩ := E
  have e2 : fitE ⟨v, r, x1, x, u, g, a, d, rsw, ppn⟩ = (v == v2 && (r == r2 && (x1 == y2 && (x == x2 && (u == u2 && (g == g2 && (a == a2 && (d == d2 && (rsw == rsw2 && ((ppn : Int) == (ppn2 : Int))))))))))) := by
    rw [Bool.eq_iff_iff, e1]
    simp only [Bool.and_eq_true, beq_iff_eq, Ent.mk.injEq, Int.natCast_inj]
  generalize fitE ⟨v, r, x1, x, u, g, a, d, rsw, ppn⟩ = Q at *
  unfold pv at *
  dsimp only at *
  have H1 := Lib.hid h1; have H2 := Lib.hid h2; have EQ := Lib.hid e2; clear h1 h2 e1 e2 hr hp
  go_enter Tryz.func125, Tryz.ntmps125
  go_wp2_with fail
  have nb0 := Blk.new w [.bool v, .bool r, .bool x1, .bool x, .bool u, .bool g, .bool a, .bool d, .int .i64 rsw, .int .u64 (ppn : Int)] 39
  have nls : Below w.heap.size w w := (Below.refl w.heap.size w)
  have nl0 := nls.alloc nls.size (.cells #[.bool v, .bool r, .bool x1, .bool x, .bool u, .bool g, .bool a, .bool d, .int .i64 rsw, .int .u64 (ppn : Int)] 39)
  have nl : Below w.heap.size w (w.alloc (.cells #[.bool v, .bool r, .bool x1, .bool x, .bool u, .bool g, .bool a, .bool d, .int .i64 rsw, .int .u64 (ppn : Int)] 39)) := nl0; clear nls nl0
  obtain ⟨B1, hB0⟩ : ∃ B, B = w.heap.size := ⟨_, rfl⟩
  obtain ⟨W1, hW⟩ : ∃ W, W = (w.alloc (.cells #[.bool v, .bool r, .bool x1, .bool x, .bool u, .bool g, .bool a, .bool d, .int .i64 rsw, .int .u64 (ppn : Int)] 39)) := ⟨_, rfl⟩
  rw [← hW] at nl nb0
  rw [← hB0] at nb0
  rw [← hW]
  try rw [← hB0]
  have K1_0 := Lib.hid nb0
  have G1 : Hid (w.heap.size ≤ B1) := Lib.hid (by have := (Nat.le_refl w.heap.size); omega)
  have L1 := Lib.hid nl
  clear nl hW nb0 hB0
  have m0_0 := K1_0.out.c0
  have m0_1 := K1_0.out.c1
  have m0_2 := K1_0.out.c2
  have m0_3 := K1_0.out.c3
  have m0_4 := K1_0.out.c4
  have m0_5 := K1_0.out.c5
  have m0_6 := K1_0.out.c6
  have m0_7 := K1_0.out.c7
  have m0_8 := K1_0.out.c8
  have m0_9 := K1_0.out.c9
  have mlt0 : B1 < W1.heap.size := K1_0.out.lt
  go_wp2_with fail
  clear m0_0 m0_1 m0_2 m0_3 m0_4 m0_5 m0_6 m0_7 m0_8 m0_9 mlt0
  refine (H1.out _).mono ?_
  rintro e w2 ⟨rfl, hb⟩
  have L2 := Lib.hid (L1.out.trans (hb.mono L1.out.size))
  have K2_0 := Lib.hid (K1_0.out.below hb K1_0.out.lt)
  clear hb K1_0
  go_wp2_with fail
  refine (H2.out _).mono ?_
  rintro e w3 ⟨rfl, hb⟩
  have L3 := Lib.hid (L2.out.trans (hb.mono L2.out.size))
  have K3_0 := Lib.hid (K2_0.out.below hb K2_0.out.lt)
  clear hb K2_0
  go_upto_region 2 with (fail)
  have nb0 := Blk.new w3 [.bool v2, .bool r2, .bool y2, .bool x2, .bool u2, .bool g2, .bool a2, .bool d2, .int .i64 rsw2, .int .u64 (ppn2 : Int)] 39
  have nls : Below w.heap.size w w3 := L3.out
  have nl0 := nls.alloc nls.size (.cells #[.bool v2, .bool r2, .bool y2, .bool x2, .bool u2, .bool g2, .bool a2, .bool d2, .int .i64 rsw2, .int .u64 (ppn2 : Int)] 39)
  have nl : Below w.heap.size w (w3.alloc (.cells #[.bool v2, .bool r2, .bool y2, .bool x2, .bool u2, .bool g2, .bool a2, .bool d2, .int .i64 rsw2, .int .u64 (ppn2 : Int)] 39)) := nl0; clear nls nl0
  have o0 := (K3_0.out.alloc (.cells #[.bool v2, .bool r2, .bool y2, .bool x2, .bool u2, .bool g2, .bool a2, .bool d2, .int .i64 rsw2, .int .u64 (ppn2 : Int)] 39))
  have d4_0 : B1 < w3.heap.size := K3_0.out.lt
  obtain ⟨B4, hB0⟩ : ∃ B, B = w3.heap.size := ⟨_, rfl⟩
  obtain ⟨W4, hW⟩ : ∃ W, W = (w3.alloc (.cells #[.bool v2, .bool r2, .bool y2, .bool x2, .bool u2, .bool g2, .bool a2, .bool d2, .int .i64 rsw2, .int .u64 (ppn2 : Int)] 39)) := ⟨_, rfl⟩
  rw [← hW] at nl nb0 o0
  rw [← hB0] at nb0
  rw [← hW]
  try rw [← hB0]
  have K4_0 := Lib.hid o0
  have K4_1 := Lib.hid nb0
  have G4 : Hid (w.heap.size ≤ B4) := Lib.hid (by have := L3.out.size; omega)
  have x4_0_0 : B1 ≠ B4 := by omega
  have X4_0_0 := Lib.hid x4_0_0; clear x4_0_0
  have L4 := Lib.hid nl
  clear nl hW nb0 hB0 o0 d4_0 K3_0
  have m0_0 := K4_0.out.c0
  have m0_1 := K4_0.out.c1
  have m0_2 := K4_0.out.c2
  have m0_3 := K4_0.out.c3
  have m0_4 := K4_0.out.c4
  have m0_5 := K4_0.out.c5
  have m0_6 := K4_0.out.c6
  have m0_7 := K4_0.out.c7
  have m0_8 := K4_0.out.c8
  have m0_9 := K4_0.out.c9
  have mlt0 : B1 < W4.heap.size := K4_0.out.lt
  have m1_0 := K4_1.out.c0
  have m1_1 := K4_1.out.c1
  have m1_2 := K4_1.out.c2
  have m1_3 := K4_1.out.c3
  have m1_4 := K4_1.out.c4
  have m1_5 := K4_1.out.c5
  have m1_6 := K4_1.out.c6
  have m1_7 := K4_1.out.c7
  have m1_8 := K4_1.out.c8
  have m1_9 := K4_1.out.c9
  have mlt1 : B4 < W4.heap.size := K4_1.out.lt
  go_wp2
  clear m0_0 m0_1 m0_2 m0_3 m0_4 m0_5 m0_6 m0_7 m0_8 m0_9 mlt0 m1_0 m1_1 m1_2 m1_3 m1_4 m1_5 m1_6 m1_7 m1_8 m1_9 mlt1
  all_goals (go_ret; exact ⟨ret_bool (by rw [EQ.out]; clear H1 H2 EQ; simp_all), L4.out⟩)
/-- does an entry of a level lead on to a table? -/
def ldE (e : Ent) (l : Int) : Bool := e.v && (e.r || !e.w) && !(e.r || e.x) && !e.u && !e.a && !e.d && decide (0 < l)
set_option maxHeartbeats 4000000 in
theorem leads13_any (e : Ent) (l : Int) (w : World) : Calls Tryz.prog 109 #[pv e, .int .i64 l] w fun r w' => r = .returned (.bool (ldE e l)) ∧ Below w.heap.size w w' := by
  have h1 := fun w => right_any e w
  have h2 := fun w => leaf_any e w
  unfold ldE
  generalize (e.v && (e.r || !e.w)) = R at *
  generalize (e.r || e.x) = L at *
  obtain ⟨v, r, x1, x, u, g, a, d, rsw, ppn⟩ := e
  unfold pv at *
  dsimp only at *
  have H1 := Lib.hid h1; have H2 := Lib.hid h2; clear h1 h2
  go_enter Tryz.func109, Tryz.ntmps109
  go_wp2_with fail
  have nb0 := Blk.new w [.bool v, .bool r, .bool x1, .bool x, .bool u, .bool g, .bool a, .bool d, .int .i64 rsw, .int .u64 (ppn : Int)] 39
  have nls : Below w.heap.size w w := (Below.refl w.heap.size w)
  have nl0 := nls.alloc nls.size (.cells #[.bool v, .bool r, .bool x1, .bool x, .bool u, .bool g, .bool a, .bool d, .int .i64 rsw, .int .u64 (ppn : Int)] 39)
  have nl : Below w.heap.size w (w.alloc (.cells #[.bool v, .bool r, .bool x1, .bool x, .bool u, .bool g, .bool a, .bool d, .int .i64 rsw, .int .u64 (ppn : Int)] 39)) := nl0; clear nls nl0
  obtain ⟨B1, hB0⟩ : ∃ B, B = w.heap.size := ⟨_, rfl⟩
  obtain ⟨W1, hW⟩ : ∃ W, W = (w.alloc (.cells #[.bool v, .bool r, .bool x1, .bool x, .bool u, .bool g, .bool a, .bool d, .int .i64 rsw, .int .u64 (ppn : Int)] 39)) := ⟨_, rfl⟩
  rw [← hW] at nl nb0
  rw [← hB0] at nb0
  rw [← hW]
  try rw [← hB0]
  have K1_0 := Lib.hid nb0
  have G1 : Hid (w.heap.size ≤ B1) := Lib.hid (by have := (Nat.le_refl w.heap.size); omega)
  have L1 := Lib.hid nl
  clear nl hW nb0 hB0
  have m0_0 := K1_0.out.c0
  have m0_1 := K1_0.out.c1
  have m0_2 := K1_0.out.c2
  have m0_3 := K1_0.out.c3
  have m0_4 := K1_0.out.c4
  have m0_5 := K1_0.out.c5
  have m0_6 := K1_0.out.c6
  have m0_7 := K1_0.out.c7
  have m0_8 := K1_0.out.c8
  have m0_9 := K1_0.out.c9
  have mlt0 : B1 < W1.heap.size := K1_0.out.lt
  go_wp2_with fail
  clear m0_0 m0_1 m0_2 m0_3 m0_4 m0_5 m0_6 m0_7 m0_8 m0_9 mlt0
  refine (H1.out _).mono ?_
  rintro e w2 ⟨rfl, hb⟩
  have L2 := Lib.hid (L1.out.trans (hb.mono L1.out.size))
  have K2_0 := Lib.hid (K1_0.out.below hb K1_0.out.lt)
  clear hb K1_0
  cases R
  · have m0_0 := K2_0.out.c0
    have m0_1 := K2_0.out.c1
    have m0_2 := K2_0.out.c2
    have m0_3 := K2_0.out.c3
    have m0_4 := K2_0.out.c4
    have m0_5 := K2_0.out.c5
    have m0_6 := K2_0.out.c6
    have m0_7 := K2_0.out.c7
    have m0_8 := K2_0.out.c8
    have m0_9 := K2_0.out.c9
    have mlt0 : B1 < w2.heap.size := K2_0.out.lt
    go_wp2
    clear m0_0 m0_1 m0_2 m0_3 m0_4 m0_5 m0_6 m0_7 m0_8 m0_9 mlt0
    go_ret
    exact ⟨ret_bool (by simp), L2.out⟩
  · have m0_0 := K2_0.out.c0
    have m0_1 := K2_0.out.c1
    have m0_2 := K2_0.out.c2
    have m0_3 := K2_0.out.c3
    have m0_4 := K2_0.out.c4
    have m0_5 := K2_0.out.c5
    have m0_6 := K2_0.out.c6
    have m0_7 := K2_0.out.c7
    have m0_8 := K2_0.out.c8
    have m0_9 := K2_0.out.c9
    have mlt0 : B1 < w2.heap.size := K2_0.out.lt
    go_wp2_with fail
    clear m0_0 m0_1 m0_2 m0_3 m0_4 m0_5 m0_6 m0_7 m0_8 m0_9 mlt0
    refine (H2.out _).mono ?_
    rintro e w3 ⟨rfl, hb⟩
    have L3 := Lib.hid (L2.out.trans (hb.mono L2.out.size))
    have K3_0 := Lib.hid (K2_0.out.below hb K2_0.out.lt)
    clear hb K2_0
    cases L <;> cases u <;> cases a <;> cases d
    all_goals
      have m0_0 := K3_0.out.c0
      have m0_1 := K3_0.out.c1
      have m0_2 := K3_0.out.c2
      have m0_3 := K3_0.out.c3
      have m0_4 := K3_0.out.c4
      have m0_5 := K3_0.out.c5
      have m0_6 := K3_0.out.c6
      have m0_7 := K3_0.out.c7
      have m0_8 := K3_0.out.c8
      have m0_9 := K3_0.out.c9
      have mlt0 : B1 < w3.heap.size := K3_0.out.lt
      go_wp2
      clear m0_0 m0_1 m0_2 m0_3 m0_4 m0_5 m0_6 m0_7 m0_8 m0_9 mlt0
      go_ret
      exact ⟨ret_bool (by simp), L3.out⟩
theorem mayE_no (e : Ent) (l : Int) (h : ¬ (0 ≤ l ∧ l < 3)) : mayE e l = false := by
  unfold mayE; rw [decide_eq_false h]; rfl
theorem page13_no (e : Ent) (l : Int) (w : World) (hl : ¬ (0 ≤ l ∧ l < 3)) : Calls Tryz.prog 101 #[pv e, .int .i64 l] w fun r w' => r = .returned (.bool (mayE e l)) ∧ Below w.heap.size w w' := by
  rw [mayE_no e l hl]
  have h1 := fun w => Calls.belowE (span_no l w hl)
  obtain ⟨v, r, x1, x, u, g, a, d, rsw, ppn⟩ := e
  unfold pv at *
  dsimp only at *
  have H1 := Lib.hid h1; clear h1 hl
  go_enter Tryz.func101, Tryz.ntmps101
  go_wp2_with fail
  have nb0 := Blk.new w [.bool v, .bool r, .bool x1, .bool x, .bool u, .bool g, .bool a, .bool d, .int .i64 rsw, .int .u64 (ppn : Int)] 39
  have nls : Below w.heap.size w w := (Below.refl w.heap.size w)
  have nl0 := nls.alloc nls.size (.cells #[.bool v, .bool r, .bool x1, .bool x, .bool u, .bool g, .bool a, .bool d, .int .i64 rsw, .int .u64 (ppn : Int)] 39)
  have nl : Below w.heap.size w (w.alloc (.cells #[.bool v, .bool r, .bool x1, .bool x, .bool u, .bool g, .bool a, .bool d, .int .i64 rsw, .int .u64 (ppn : Int)] 39)) := nl0; clear nls nl0
  obtain ⟨B1, hB0⟩ : ∃ B, B = w.heap.size := ⟨_, rfl⟩
  obtain ⟨W1, hW⟩ : ∃ W, W = (w.alloc (.cells #[.bool v, .bool r, .bool x1, .bool x, .bool u, .bool g, .bool a, .bool d, .int .i64 rsw, .int .u64 (ppn : Int)] 39)) := ⟨_, rfl⟩
  rw [← hW] at nl nb0
  rw [← hB0] at nb0
  rw [← hW]
  try rw [← hB0]
  have K1_0 := Lib.hid nb0
  have G1 : Hid (w.heap.size ≤ B1) := Lib.hid (by have := (Nat.le_refl w.heap.size); omega)
  have L1 := Lib.hid nl
  clear nl hW nb0 hB0
  have m0_0 := K1_0.out.c0
  have m0_1 := K1_0.out.c1
  have m0_2 := K1_0.out.c2
  have m0_3 := K1_0.out.c3
  have m0_4 := K1_0.out.c4
  have m0_5 := K1_0.out.c5
  have m0_6 := K1_0.out.c6
  have m0_7 := K1_0.out.c7
  have m0_8 := K1_0.out.c8
  have m0_9 := K1_0.out.c9
  have mlt0 : B1 < W1.heap.size := K1_0.out.lt
  go_wp2_with fail
  clear m0_0 m0_1 m0_2 m0_3 m0_4 m0_5 m0_6 m0_7 m0_8 m0_9 mlt0
  refine (H1.out _).mono ?_
  rintro e w2 ⟨rfl, hb⟩
  have L2 := Lib.hid (L1.out.trans (hb.mono L1.out.size))
  have K2_0 := Lib.hid (K1_0.out.below hb K1_0.out.lt)
  clear hb K1_0
  have m0_0 := K2_0.out.c0
  have m0_1 := K2_0.out.c1
  have m0_2 := K2_0.out.c2
  have m0_3 := K2_0.out.c3
  have m0_4 := K2_0.out.c4
  have m0_5 := K2_0.out.c5
  have m0_6 := K2_0.out.c6
  have m0_7 := K2_0.out.c7
  have m0_8 := K2_0.out.c8
  have m0_9 := K2_0.out.c9
  have mlt0 : B1 < w2.heap.size := K2_0.out.lt
  go_wp2
  clear m0_0 m0_1 m0_2 m0_3 m0_4 m0_5 m0_6 m0_7 m0_8 m0_9 mlt0
  go_ret
  exact ⟨ret_bool (by simp), L2.out⟩
set_option maxHeartbeats 4000000 in
theorem page13_yes (e : Ent) (l : Nat) (w : World) (hl : l < 3) (hr : -9223372036854775808 ≤ e.rsw ∧ e.rsw ≤ 9223372036854775807) (hp : e.ppn < 18446744073709551616) : Calls Tryz.prog 101 #[pv e, .int .i64 l] w fun r w' => r = .returned (.bool (mayE e l)) ∧ Below w.heap.size w w' := by
  have h1 := fun w => Calls.belowE (span_yes l w hl)
  have h2 := fun w => right_any e w
  have h3 := fun w => leaf_any e w
  have h4 := fun w => fits_any e w hr hp
  have e1 := span_512 l hl
  have e2 : (((e.ppn : Int) % ((2 ^ (9 * l) : Nat) : Int)) == 0) = decide (e.ppn % 2 ^ (9 * l) = 0) := by
    rw [Bool.eq_iff_iff]; simp only [beq_iff_eq, decide_eq_true_eq]; omega
  have e3 : (((2 ^ (9 * l) : Nat) : Int)) ≠ 0 := by have := Nat.two_pow_pos (9 * l); omega
  have e0 : mayE e l = ((e.v && (e.r || !e.w)) && ((e.r || e.x) && (fitE e && decide (e.ppn % 2 ^ (9 * l) = 0)))) := by
    unfold mayE
    rw [decide_eq_true (show (0 : Int) ≤ l ∧ (l : Int) < 3 by omega), Int.toNat_natCast]
    generalize decide (e.ppn % 2 ^ (9 * l) = 0) = q
    generalize fitE e = f
    cases e.v <;> cases e.r <;> cases e.w <;> cases e.x <;> cases f <;> cases q <;> rfl
  rw [e0]
  generalize decide (e.ppn % 2 ^ (9 * l) = 0) = Q at *
  generalize (e.v && (e.r || !e.w)) = R at *
  generalize (e.r || e.x) = L at *
  generalize fitE e = J at *
  have b0 : (0 : Int) < ((2 ^ (12 + 9 * l) : Nat) : Int) := by have := Nat.two_pow_pos (12 + 9 * l); omega
  have b1 : (0 : Int) < ((2 ^ (9 * l) : Nat) : Int) ∧ ((2 ^ (9 * l) : Nat) : Int) < 18446744073709551616 := by
    have := Nat.two_pow_pos (9 * l)
    have := pow_le (show 9 * l ≤ 63 by omega)
    rw [p63] at this
    omega
  have e4 : 0 ≤ (e.ppn : Int) % ((2 ^ (9 * l) : Nat) : Int) := Int.emod_nonneg _ e3
  replace e1 : IntKind.u64.wrap (((2 ^ (12 + 9 * l) : Nat) : Int).tdiv 4096) = ((2 ^ (9 * l) : Nat) : Int) := by
    rw [Int.tdiv_eq_ediv_of_nonneg (by omega), e1, wrap_u64B]; omega
  generalize ((2 ^ (9 * l) : Nat) : Int) = S at e1 e2 e3 b1 e4
  generalize ((2 ^ (12 + 9 * l) : Nat) : Int) = Z at h1 e1 b0
  obtain ⟨v, r, x1, x, u, g, a, d, rsw, ppn⟩ := e
  unfold pv at *
  dsimp only at *
  have H1 := Lib.hid h1; have H2 := Lib.hid h2; have H3 := Lib.hid h3; have H4 := Lib.hid h4; clear h1 h2 h3 h4 e0 hl hr hp
  go_enter Tryz.func101, Tryz.ntmps101
  go_wp2_with fail
  have nb0 := Blk.new w [.bool v, .bool r, .bool x1, .bool x, .bool u, .bool g, .bool a, .bool d, .int .i64 rsw, .int .u64 (ppn : Int)] 39
  have nls : Below w.heap.size w w := (Below.refl w.heap.size w)
  have nl0 := nls.alloc nls.size (.cells #[.bool v, .bool r, .bool x1, .bool x, .bool u, .bool g, .bool a, .bool d, .int .i64 rsw, .int .u64 (ppn : Int)] 39)
  have nl : Below w.heap.size w (w.alloc (.cells #[.bool v, .bool r, .bool x1, .bool x, .bool u, .bool g, .bool a, .bool d, .int .i64 rsw, .int .u64 (ppn : Int)] 39)) := nl0; clear nls nl0
  obtain ⟨B1, hB0⟩ : ∃ B, B = w.heap.size := ⟨_, rfl⟩
  obtain ⟨W1, hW⟩ : ∃ W, W = (w.alloc (.cells #[.bool v, .bool r, .bool x1, .bool x, .bool u, .bool g, .bool a, .bool d, .int .i64 rsw, .int .u64 (ppn : Int)] 39)) := ⟨_, rfl⟩
  rw [← hW] at nl nb0
  rw [← hB0] at nb0
  rw [← hW]
  try rw [← hB0]
  have K1_0 := Lib.hid nb0
  have G1 : Hid (w.heap.size ≤ B1) := Lib.hid (by have := (Nat.le_refl w.heap.size); omega)
  have L1 := Lib.hid nl
  clear nl hW nb0 hB0
  have m0_0 := K1_0.out.c0
  have m0_1 := K1_0.out.c1
  have m0_2 := K1_0.out.c2
  have m0_3 := K1_0.out.c3
  have m0_4 := K1_0.out.c4
  have m0_5 := K1_0.out.c5
  have m0_6 := K1_0.out.c6
  have m0_7 := K1_0.out.c7
  have m0_8 := K1_0.out.c8
  have m0_9 := K1_0.out.c9
  have mlt0 : B1 < W1.heap.size := K1_0.out.lt
  go_wp2_with fail
  clear m0_0 m0_1 m0_2 m0_3 m0_4 m0_5 m0_6 m0_7 m0_8 m0_9 mlt0
  refine (H1.out _).mono ?_
  rintro e w2 ⟨rfl, hb⟩
  have L2 := Lib.hid (L1.out.trans (hb.mono L1.out.size))
  have K2_0 := Lib.hid (K1_0.out.below hb K1_0.out.lt)
  clear hb K1_0
  have m0_0 := K2_0.out.c0
  have m0_1 := K2_0.out.c1
  have m0_2 := K2_0.out.c2
  have m0_3 := K2_0.out.c3
  have m0_4 := K2_0.out.c4
  have m0_5 := K2_0.out.c5
  have m0_6 := K2_0.out.c6
  have m0_7 := K2_0.out.c7
  have m0_8 := K2_0.out.c8
  have m0_9 := K2_0.out.c9
  have mlt0 : B1 < w2.heap.size := K2_0.out.lt
  go_wp2_with fail
  clear m0_0 m0_1 m0_2 m0_3 m0_4 m0_5 m0_6 m0_7 m0_8 m0_9 mlt0
  refine (H2.out _).mono ?_
  rintro e w3 ⟨rfl, hb⟩
  have L3 := Lib.hid (L2.out.trans (hb.mono L2.out.size))
  have K3_0 := Lib.hid (K2_0.out.below hb K2_0.out.lt)
  clear hb K2_0
  cases R
  · have m0_0 := K3_0.out.c0
    have m0_1 := K3_0.out.c1
    have m0_2 := K3_0.out.c2
    have m0_3 := K3_0.out.c3
    have m0_4 := K3_0.out.c4
    have m0_5 := K3_0.out.c5
    have m0_6 := K3_0.out.c6
    have m0_7 := K3_0.out.c7
    have m0_8 := K3_0.out.c8
    have m0_9 := K3_0.out.c9
    have mlt0 : B1 < w3.heap.size := K3_0.out.lt
    go_wp2
    clear m0_0 m0_1 m0_2 m0_3 m0_4 m0_5 m0_6 m0_7 m0_8 m0_9 mlt0
    go_ret
    exact ⟨ret_bool (by simp), L3.out⟩
  · have m0_0 := K3_0.out.c0
    have m0_1 := K3_0.out.c1
    have m0_2 := K3_0.out.c2
    have m0_3 := K3_0.out.c3
    have m0_4 := K3_0.out.c4
    have m0_5 := K3_0.out.c5
    have m0_6 := K3_0.out.c6
    have m0_7 := K3_0.out.c7
    have m0_8 := K3_0.out.c8
    have m0_9 := K3_0.out.c9
    have mlt0 : B1 < w3.heap.size := K3_0.out.lt
    go_wp2_with fail
    clear m0_0 m0_1 m0_2 m0_3 m0_4 m0_5 m0_6 m0_7 m0_8 m0_9 mlt0
    refine (H3.out _).mono ?_
    rintro e w4 ⟨rfl, hb⟩
    have L4 := Lib.hid (L3.out.trans (hb.mono L3.out.size))
    have K4_0 := Lib.hid (K3_0.out.below hb K3_0.out.lt)
    clear hb K3_0
    cases L
    · have m0_0 := K4_0.out.c0
      have m0_1 := K4_0.out.c1
      have m0_2 := K4_0.out.c2
      have m0_3 := K4_0.out.c3
      have m0_4 := K4_0.out.c4
      have m0_5 := K4_0.out.c5
      have m0_6 := K4_0.out.c6
      have m0_7 := K4_0.out.c7
      have m0_8 := K4_0.out.c8
      have m0_9 := K4_0.out.c9
      have mlt0 : B1 < w4.heap.size := K4_0.out.lt
      go_wp2
      clear m0_0 m0_1 m0_2 m0_3 m0_4 m0_5 m0_6 m0_7 m0_8 m0_9 mlt0
      go_ret
      exact ⟨ret_bool (by simp), L4.out⟩
    · have m0_0 := K4_0.out.c0
      have m0_1 := K4_0.out.c1
      have m0_2 := K4_0.out.c2
      have m0_3 := K4_0.out.c3
      have m0_4 := K4_0.out.c4
      have m0_5 := K4_0.out.c5
      have m0_6 := K4_0.out.c6
      have m0_7 := K4_0.out.c7
      have m0_8 := K4_0.out.c8
      have m0_9 := K4_0.out.c9
      have mlt0 : B1 < w4.heap.size := K4_0.out.lt
      go_wp2_with fail
      clear m0_0 m0_1 m0_2 m0_3 m0_4 m0_5 m0_6 m0_7 m0_8 m0_9 mlt0
      refine (H4.out _).mono ?_
      rintro e w5 ⟨rfl, hb⟩
      have L5 := Lib.hid (L4.out.trans (hb.mono L4.out.size))
      have K5_0 := Lib.hid (K4_0.out.below hb K4_0.out.lt)
      clear hb K4_0
      cases J
      · have m0_0 := K5_0.out.c0
        have m0_1 := K5_0.out.c1
        have m0_2 := K5_0.out.c2
        have m0_3 := K5_0.out.c3
        have m0_4 := K5_0.out.c4
        have m0_5 := K5_0.out.c5
        have m0_6 := K5_0.out.c6
        have m0_7 := K5_0.out.c7
        have m0_8 := K5_0.out.c8
        have m0_9 := K5_0.out.c9
        have mlt0 : B1 < w5.heap.size := K5_0.out.lt
        go_wp2
        clear m0_0 m0_1 m0_2 m0_3 m0_4 m0_5 m0_6 m0_7 m0_8 m0_9 mlt0
        go_ret
        exact ⟨ret_bool (by simp), L5.out⟩
      · have m0_0 := K5_0.out.c0
        have m0_1 := K5_0.out.c1
        have m0_2 := K5_0.out.c2
        have m0_3 := K5_0.out.c3
        have m0_4 := K5_0.out.c4
        have m0_5 := K5_0.out.c5
        have m0_6 := K5_0.out.c6
        have m0_7 := K5_0.out.c7
        have m0_8 := K5_0.out.c8
        have m0_9 := K5_0.out.c9
        have mlt0 : B1 < w5.heap.size := K5_0.out.lt
        go_wp2
        clear m0_0 m0_1 m0_2 m0_3 m0_4 m0_5 m0_6 m0_7 m0_8 m0_9 mlt0
        go_ret
        exact ⟨ret_bool (by simp [e2]), L5.out⟩
theorem page13_any (e : Ent) (l : Int) (w : World) (hr : -9223372036854775808 ≤ e.rsw ∧ e.rsw ≤ 9223372036854775807) (hp : e.ppn < 18446744073709551616) : Calls Tryz.prog 101 #[pv e, .int .i64 l] w fun r w' => r = .returned (.bool (mayE e l)) ∧ Below w.heap.size w w' := by
  by_cases hl : 0 ≤ l ∧ l < 3
  · obtain ⟨k, rfl⟩ : ∃ k : Nat, l = k := ⟨l.toNat, by omega⟩
    exact page13_yes e k w (by omega) hr hp
  · exact page13_no e l w hl
theorem or_up (x : Nat) (h1 : 274877906944 ≤ x) (h2 : x < 549755813888) : bits .or .u64 (x : Int) 18446743798831644672 = ((x + 18446743523953737728 : Nat) : Int) := by
  obtain ⟨y, rfl⟩ : ∃ y, x = y + 2 ^ 38 * 1 := ⟨x - 274877906944, by omega⟩
  have hy : y < 2 ^ 38 := by omega
  have h : (y + 2 ^ 38 * 1) ||| (2 ^ 38 * 67108863) = y + 2 ^ 38 * 67108863 := by
    rw [← or_at 38 y 1 hy, Nat.or_assoc, show (2 ^ 38 * 1) ||| (2 ^ 38 * 67108863) = 2 ^ 38 * 67108863 from by decide, or_at 38 y _ hy]
  have e := u64_or_nat (y + 2 ^ 38 * 1) (2 ^ 38 * 67108863) (by omega) (by omega)
  rw [h] at e
  exact e.trans (by omega)
theorem canU_any (x : Nat) (w : World) (hx : x < 18446744073709551616) (h : canN x = true ∨ x < 549755813888) : Calls Tryz.prog 106 #[.int .u64 x] w fun r w' => r = .returned (.int .u64 (canU x : Nat)) ∧ w = w' := by
  have h1 := fun w => can_any x w hx
  have e1 : canN x = true → canU x = x := fun h => by unfold canU; rw [if_pos h]
  have e2 : canN x = false → bits .or .u64 (x : Int) 18446743798831644672 = ((canU x : Nat) : Int) := fun hc => by
    have h3 := h.resolve_left (by rw [hc]; decide)
    have h4 : 274877906944 ≤ x := by
      rcases Nat.lt_or_ge x 274877906944 with h5 | h5
      · rw [canN_iff.2 (.inl (by omega))] at hc; cases hc
      · exact h5
    rw [or_up x h4 h3, can_hi h4 h3]
  generalize canN x = c at *
  generalize canU x = U at *
  cases c
  · replace e2 := e2 rfl
    clear e1 h
    go_enter Tryz.func106, Tryz.ntmps106
    go_wp2_with fail
    refine (h1 _).mono ?_
    rintro e wx ⟨rfl, rfl⟩
    go_wp2
    go_ret
    exact ⟨ret_int (by first | exact e2 | simp [e2]), rfl⟩
  · obtain rfl := e1 rfl
    clear e2 h
    go_enter Tryz.func106, Tryz.ntmps106
    go_wp2_with fail
    refine (h1 _).mono ?_
    rintro e wx ⟨rfl, rfl⟩
    go_wp2
    go_ret
    exact ⟨rfl, rfl⟩
/-- what entry answers: the entry, its place, the error -/
def entT (fr : Nat) (M : Nat → Nat) (va l t : Nat) : Ent × Nat × Int := if fr ≤ atN t va l / 4096 then (zeE, 0, 61) else (if M (atN t va l) < 18014398509481984 then entW (M (atN t va l)) else zeE, atN t va l, 0)
set_option maxHeartbeats 4000000 in
theorem entry13_any (tp mp sp fr n t va l : Nat) (rt : Int) (used : Nat) (C : Nat → List Int) (F : Nat → Prop) (w : World) (hB : Blk w tp [.pointer (some ⟨mp, 0, none⟩), .pointer (some ⟨sp, 0, none⟩), .int .i64 rt, .int .i64 (used : Int)] 138) (hM : MemX w mp fr n C F) (ht : t < 18446744073709551616) (hv : va < 18446744073709551616) (hl : l < 3) :
    Calls Tryz.prog 108 #[.pointer (some ⟨tp, 0, none⟩), .int .u64 t, .int .u64 va, .int .i64 l] w fun r w' => r = .returned (.tuple #[pv (entT fr (Mw C) va l t).1, .int .u64 ((entT fr (Mw C) va l t).2.1 : Nat), .int .i64 (entT fr (Mw C) va l t).2.2]) ∧ Below w.heap.size w w' := by
  have h1 := fun w => Calls.belowD (index_yes va l w hv hl)
  have ea := at_eq t va l
  have la := atN_lt t va l
  have h2 := fun w' (hb : Below w.heap.size w w') => Calls.belowE (load_any mp fr n (atN t va l) 8 C F w' (hM.below hb) (by omega))
  rw [errL_8 _ _ (atN_8 t va l)] at h2
  have f9 := fld9 va l
  have hw := hM.word (atN t va l)
  have h3 := fun w => get_any (Mw C (atN t va l)) w hw.2
  obtain ⟨Z, hZ⟩ : ∃ Z, Z = entT fr (Mw C) va l t := ⟨_, rfl⟩
  rw [← hZ]
  have e1 : fr ≤ atN t va l / 4096 → Z = (zeE, 0, 61) := fun h => by rw [hZ]; unfold entT; rw [if_pos h]
  have e2 : ¬ fr ≤ atN t va l / 4096 → decide (Mw C (atN t va l) < 18014398509481984) = false → Z = (zeE, atN t va l, 0) := fun h h2 => by rw [hZ]; unfold entT; rw [if_neg h, if_neg (of_decide_eq_false h2)]
  have e3 : ¬ fr ≤ atN t va l / 4096 → decide (Mw C (atN t va l) < 18014398509481984) = true → Z = (entW (Mw C (atN t va l)), atN t va l, 0) := fun h h2 => by rw [hZ]; unfold entT; rw [if_neg h, if_pos (of_decide_eq_true h2)]
  have HB := Lib.hid hB
  clear hZ hB
  by_cases hb : fr ≤ atN t va l / 4096
  · obtain rfl := e1 hb
    rw [if_pos hb] at h2
    have e9 : ldV fr C (atN t va l) 8 = 0 := by unfold ldV; rw [if_neg (by rw [errL_8 _ _ (atN_8 t va l), if_pos hb]; decide)]
    rw [e9] at h2
    generalize fld va (12 + 9 * l) 9 = I at *
    generalize atN t va l = A at *
    unfold zeE pv
    dsimp only
    have H1 := Lib.hid h1; have H2 := Lib.hid h2; clear h1 h2 h3 e1 e2 e3 e9 hb hw
    go_enter Tryz.func108, Tryz.ntmps108
    go_wp2_with fail
    have nb0 := Blk.new w [.bool false, .bool false, .bool false, .bool false, .bool false, .bool false, .bool false, .bool false, .int .i64 0, .int .u64 0] 39
    have nls : Below w.heap.size w w := (Below.refl w.heap.size w)
    have nl0 := nls.alloc nls.size (.cells #[.bool false, .bool false, .bool false, .bool false, .bool false, .bool false, .bool false, .bool false, .int .i64 0, .int .u64 0] 39)
    have nl : Below w.heap.size w (w.alloc (.cells #[.bool false, .bool false, .bool false, .bool false, .bool false, .bool false, .bool false, .bool false, .int .i64 0, .int .u64 0] 39)) := nl0; clear nls nl0
    have o0 : Blk (w.alloc (.cells #[.bool false, .bool false, .bool false, .bool false, .bool false, .bool false, .bool false, .bool false, .int .i64 0, .int .u64 0] 39)) tp [.pointer (some ⟨mp, 0, none⟩), .pointer (some ⟨sp, 0, none⟩), .int .i64 rt, .int .i64 (used : Int)] 138 := (HB.out.alloc (.cells #[.bool false, .bool false, .bool false, .bool false, .bool false, .bool false, .bool false, .bool false, .int .i64 0, .int .u64 0] 39))
    have d1_0 : tp < w.heap.size := HB.out.lt
    obtain ⟨B1, hB0⟩ : ∃ B, B = w.heap.size := ⟨_, rfl⟩
    obtain ⟨W1, hW⟩ : ∃ W, W = (w.alloc (.cells #[.bool false, .bool false, .bool false, .bool false, .bool false, .bool false, .bool false, .bool false, .int .i64 0, .int .u64 0] 39)) := ⟨_, rfl⟩
    rw [← hW] at nl nb0 o0
    rw [← hB0] at nb0
    rw [← hW]
    try rw [← hB0]
    have K1_0 := Lib.hid o0
    have K1_1 := Lib.hid nb0
    have G1 : Hid (w.heap.size ≤ B1) := Lib.hid (by have := (Nat.le_refl w.heap.size); omega)
    have x1_0_0 : tp ≠ B1 := by omega
    have X1_0_0 := Lib.hid x1_0_0; clear x1_0_0
    have L1 := Lib.hid nl
    clear nl hW nb0 hB0 o0 d1_0 HB
    refine (H1.out _).mono ?_
    rintro e w2 ⟨rfl, hb⟩
    have L2 := Lib.hid (L1.out.trans (hb.mono L1.out.size))
    have K2_0 := Lib.hid (K1_0.out.below hb K1_0.out.lt)
    have K2_1 := Lib.hid (K1_1.out.below hb K1_1.out.lt)
    clear hb K1_0 K1_1
    have m0_0 := K2_0.out.c0
    have m0_1 := K2_0.out.c1
    have m0_2 := K2_0.out.c2
    have m0_3 := K2_0.out.c3
    have mlt0 : tp < w2.heap.size := K2_0.out.lt
    go_wp2_with fail
    clear m0_0 m0_1 m0_2 m0_3 mlt0
    refine (H2.out _ L2.out).mono ?_
    rintro e w3 ⟨rfl, hb⟩
    have L3 := Lib.hid (L2.out.trans (hb.mono L2.out.size))
    have K3_0 := Lib.hid (K2_0.out.below hb K2_0.out.lt)
    have K3_1 := Lib.hid (K2_1.out.below hb K2_1.out.lt)
    clear hb K2_0 K2_1
    have m1_0 := K3_1.out.c0
    have m1_1 := K3_1.out.c1
    have m1_2 := K3_1.out.c2
    have m1_3 := K3_1.out.c3
    have m1_4 := K3_1.out.c4
    have m1_5 := K3_1.out.c5
    have m1_6 := K3_1.out.c6
    have m1_7 := K3_1.out.c7
    have m1_8 := K3_1.out.c8
    have m1_9 := K3_1.out.c9
    have mlt1 : B1 < w3.heap.size := K3_1.out.lt
    have mf1 : ∀ o, w3.frozen? ⟨B1, o, none⟩ = false := fun o => K3_1.out.free o
    go_wp2
    clear m1_0 m1_1 m1_2 m1_3 m1_4 m1_5 m1_6 m1_7 m1_8 m1_9 mlt1 mf1
    obtain ⟨W3, hW3⟩ : ∃ W9, W9 = ((((((((((w3.setCell ⟨B1, 0, none⟩ (.bool false)).setCell ⟨B1, 1, none⟩ (.bool false)).setCell ⟨B1, 2, none⟩ (.bool false)).setCell ⟨B1, 3, none⟩ (.bool false)).setCell ⟨B1, 4, none⟩ (.bool false)).setCell ⟨B1, 5, none⟩ (.bool false)).setCell ⟨B1, 6, none⟩ (.bool false)).setCell ⟨B1, 7, none⟩ (.bool false)).setCell ⟨B1, 8, none⟩ (.int .i64 0)).setCell ⟨B1, 9, none⟩ (.int .u64 0)) := ⟨_, rfl⟩
    rw [← hW3]
    have b3 : Blk W3 B1 [.bool false, .bool false, .bool false, .bool false, .bool false, .bool false, .bool false, .bool false, .int .i64 0, .int .u64 0] 39 := hW3 ▸ ((((((((((K3_1.out.set 0 (.bool false)).set 1 (.bool false)).set 2 (.bool false)).set 3 (.bool false)).set 4 (.bool false)).set 5 (.bool false)).set 6 (.bool false)).set 7 (.bool false)).set 8 (.int .i64 0)).set 9 (.int .u64 0))
    have l3 : Below w.heap.size w W3 := hW3 ▸ (Below.setCell (Below.setCell (Below.setCell (Below.setCell (Below.setCell (Below.setCell (Below.setCell (Below.setCell (Below.setCell (Below.setCell L3.out G1.out _) G1.out _) G1.out _) G1.out _) G1.out _) G1.out _) G1.out _) G1.out _) G1.out _) G1.out _)
    clear hW3
    have r0 := b3.c0
    have r1 := b3.c1
    have r2 := b3.c2
    have r3 := b3.c3
    have r4 := b3.c4
    have r5 := b3.c5
    have r6 := b3.c6
    have r7 := b3.c7
    have r8 := b3.c8
    have r9 := b3.c9
    have Q3 := Lib.hid b3; have QL := Lib.hid l3; clear b3 l3
    refine bodyPost_ret (v := .tuple #[.agg #[.bool false, .bool false, .bool false, .bool false, .bool false, .bool false, .bool false, .bool false, .int .i64 0, .int .u64 0], .int .u64 0, .int .i64 61]) (by simp [results, Tryz.results108, go_sem, r0, r1, r2, r3, r4, r5, r6, r7, r8, r9]) rfl ⟨rfl, QL.out⟩
  · rw [if_neg hb] at h2
    have e9 : ldV fr C (atN t va l) 8 = (Mw C (atN t va l) : Nat) := by unfold ldV; rw [if_pos (by rw [errL_8 _ _ (atN_8 t va l), if_neg hb]), ← hw.1]; rfl
    rw [e9] at h2
    replace e2 := e2 hb
    replace e3 := e3 hb
    have wl := hw.2
    generalize fld va (12 + 9 * l) 9 = I at *
    generalize atN t va l = A at *
    generalize Mw C A = M at *
    generalize decide (M < 18014398509481984) = D at h3 e2 e3
    generalize entW M = E at *
    obtain ⟨v, r, x1, x, u, g, a, d, rsw, ppn⟩ := E
    unfold pv at *
    unfold zeE at *
    dsimp only at *
    have H1 := Lib.hid h1; have H2 := Lib.hid h2; have H3 := Lib.hid h3; have E2 := Lib.hid e2; have E3 := Lib.hid e3; clear h1 h2 h3 e1 e2 e3 e9 hb hw
    go_enter Tryz.func108, Tryz.ntmps108
    go_wp2_with fail
    have nb0 := Blk.new w [.bool false, .bool false, .bool false, .bool false, .bool false, .bool false, .bool false, .bool false, .int .i64 0, .int .u64 0] 39
    have nls : Below w.heap.size w w := (Below.refl w.heap.size w)
    have nl0 := nls.alloc nls.size (.cells #[.bool false, .bool false, .bool false, .bool false, .bool false, .bool false, .bool false, .bool false, .int .i64 0, .int .u64 0] 39)
    have nl : Below w.heap.size w (w.alloc (.cells #[.bool false, .bool false, .bool false, .bool false, .bool false, .bool false, .bool false, .bool false, .int .i64 0, .int .u64 0] 39)) := nl0; clear nls nl0
    have o0 : Blk (w.alloc (.cells #[.bool false, .bool false, .bool false, .bool false, .bool false, .bool false, .bool false, .bool false, .int .i64 0, .int .u64 0] 39)) tp [.pointer (some ⟨mp, 0, none⟩), .pointer (some ⟨sp, 0, none⟩), .int .i64 rt, .int .i64 (used : Int)] 138 := (HB.out.alloc (.cells #[.bool false, .bool false, .bool false, .bool false, .bool false, .bool false, .bool false, .bool false, .int .i64 0, .int .u64 0] 39))
    have d1_0 : tp < w.heap.size := HB.out.lt
    obtain ⟨B1, hB0⟩ : ∃ B, B = w.heap.size := ⟨_, rfl⟩
    obtain ⟨W1, hW⟩ : ∃ W, W = (w.alloc (.cells #[.bool false, .bool false, .bool false, .bool false, .bool false, .bool false, .bool false, .bool false, .int .i64 0, .int .u64 0] 39)) := ⟨_, rfl⟩
    rw [← hW] at nl nb0 o0
    rw [← hB0] at nb0
    rw [← hW]
    try rw [← hB0]
    have K1_0 := Lib.hid o0
    have K1_1 := Lib.hid nb0
    have G1 : Hid (w.heap.size ≤ B1) := Lib.hid (by have := (Nat.le_refl w.heap.size); omega)
    have x1_0_0 : tp ≠ B1 := by omega
    have X1_0_0 := Lib.hid x1_0_0; clear x1_0_0
    have L1 := Lib.hid nl
    clear nl hW nb0 hB0 o0 d1_0 HB
    refine (H1.out _).mono ?_
    rintro e w2 ⟨rfl, hb⟩
    have L2 := Lib.hid (L1.out.trans (hb.mono L1.out.size))
    have K2_0 := Lib.hid (K1_0.out.below hb K1_0.out.lt)
    have K2_1 := Lib.hid (K1_1.out.below hb K1_1.out.lt)
    clear hb K1_0 K1_1
    have m0_0 := K2_0.out.c0
    have m0_1 := K2_0.out.c1
    have m0_2 := K2_0.out.c2
    have m0_3 := K2_0.out.c3
    have mlt0 : tp < w2.heap.size := K2_0.out.lt
    go_wp2_with fail
    clear m0_0 m0_1 m0_2 m0_3 mlt0
    refine (H2.out _ L2.out).mono ?_
    rintro e w3 ⟨rfl, hb⟩
    have L3 := Lib.hid (L2.out.trans (hb.mono L2.out.size))
    have K3_0 := Lib.hid (K2_0.out.below hb K2_0.out.lt)
    have K3_1 := Lib.hid (K2_1.out.below hb K2_1.out.lt)
    clear hb K2_0 K2_1
    go_wp2_with fail
    refine (H3.out _).mono ?_
    rintro e w4 ⟨rfl, hb⟩
    have L4 := Lib.hid (L3.out.trans (hb.mono L3.out.size))
    have K4_0 := Lib.hid (K3_0.out.below hb K3_0.out.lt)
    have K4_1 := Lib.hid (K3_1.out.below hb K3_1.out.lt)
    clear hb K3_0 K3_1
    go_upto_region 6 with (fail)
    have nb0 := Blk.new w4 [.bool v, .bool r, .bool x1, .bool x, .bool u, .bool g, .bool a, .bool d, .int .i64 rsw, .int .u64 (ppn : Int)] 39
    have nls : Below w.heap.size w w4 := L4.out
    have nl0 := nls.alloc nls.size (.cells #[.bool v, .bool r, .bool x1, .bool x, .bool u, .bool g, .bool a, .bool d, .int .i64 rsw, .int .u64 (ppn : Int)] 39)
    have nl : Below w.heap.size w (w4.alloc (.cells #[.bool v, .bool r, .bool x1, .bool x, .bool u, .bool g, .bool a, .bool d, .int .i64 rsw, .int .u64 (ppn : Int)] 39)) := nl0; clear nls nl0
    have o0 := (K4_0.out.alloc (.cells #[.bool v, .bool r, .bool x1, .bool x, .bool u, .bool g, .bool a, .bool d, .int .i64 rsw, .int .u64 (ppn : Int)] 39))
    have d5_0 : tp < w4.heap.size := K4_0.out.lt
    have o1 := (K4_1.out.alloc (.cells #[.bool v, .bool r, .bool x1, .bool x, .bool u, .bool g, .bool a, .bool d, .int .i64 rsw, .int .u64 (ppn : Int)] 39))
    have d5_1 : B1 < w4.heap.size := K4_1.out.lt
    obtain ⟨B5, hB0⟩ : ∃ B, B = w4.heap.size := ⟨_, rfl⟩
    obtain ⟨W5, hW⟩ : ∃ W, W = (w4.alloc (.cells #[.bool v, .bool r, .bool x1, .bool x, .bool u, .bool g, .bool a, .bool d, .int .i64 rsw, .int .u64 (ppn : Int)] 39)) := ⟨_, rfl⟩
    rw [← hW] at nl nb0 o0 o1
    rw [← hB0] at nb0
    rw [← hW]
    try rw [← hB0]
    have K5_0 := Lib.hid o0
    have K5_1 := Lib.hid o1
    have K5_2 := Lib.hid nb0
    have G5 : Hid (w.heap.size ≤ B5) := Lib.hid (by have := L4.out.size; omega)
    have x5_0_0 : tp ≠ B5 := by omega
    have x5_1_0 : B1 ≠ B5 := by omega
    have X5_0_0 := Lib.hid x5_0_0; clear x5_0_0
    have X5_1_0 := Lib.hid x5_1_0; clear x5_1_0
    have L5 := Lib.hid nl
    clear nl hW nb0 hB0 o0 d5_0 o1 d5_1 K4_0 K4_1
    cases D
    · obtain rfl := E2.out rfl
      have m2_0 := K5_2.out.c0
      have m2_1 := K5_2.out.c1
      have m2_2 := K5_2.out.c2
      have m2_3 := K5_2.out.c3
      have m2_4 := K5_2.out.c4
      have m2_5 := K5_2.out.c5
      have m2_6 := K5_2.out.c6
      have m2_7 := K5_2.out.c7
      have m2_8 := K5_2.out.c8
      have m2_9 := K5_2.out.c9
      have mlt2 : B5 < W5.heap.size := K5_2.out.lt
      have mf2 : ∀ o, W5.frozen? ⟨B5, o, none⟩ = false := fun o => K5_2.out.free o
      go_upto_region 8 with (fail)
      clear m2_0 m2_1 m2_2 m2_3 m2_4 m2_5 m2_6 m2_7 m2_8 m2_9 mlt2 mf2
      have nls : Below w.heap.size w ((((((((((W5.setCell ⟨B5, 0, none⟩ (.bool false)).setCell ⟨B5, 1, none⟩ (.bool false)).setCell ⟨B5, 2, none⟩ (.bool false)).setCell ⟨B5, 3, none⟩ (.bool false)).setCell ⟨B5, 4, none⟩ (.bool false)).setCell ⟨B5, 5, none⟩ (.bool false)).setCell ⟨B5, 6, none⟩ (.bool false)).setCell ⟨B5, 7, none⟩ (.bool false)).setCell ⟨B5, 8, none⟩ (.int .i64 0)).setCell ⟨B5, 9, none⟩ (.int .u64 0)) := (Below.setCell (Below.setCell (Below.setCell (Below.setCell (Below.setCell (Below.setCell (Below.setCell (Below.setCell (Below.setCell (Below.setCell L5.out G5.out (.bool false)) G5.out (.bool false)) G5.out (.bool false)) G5.out (.bool false)) G5.out (.bool false)) G5.out (.bool false)) G5.out (.bool false)) G5.out (.bool false)) G5.out (.int .i64 0)) G5.out (.int .u64 0))
      have nl : Below w.heap.size w ((((((((((W5.setCell ⟨B5, 0, none⟩ (.bool false)).setCell ⟨B5, 1, none⟩ (.bool false)).setCell ⟨B5, 2, none⟩ (.bool false)).setCell ⟨B5, 3, none⟩ (.bool false)).setCell ⟨B5, 4, none⟩ (.bool false)).setCell ⟨B5, 5, none⟩ (.bool false)).setCell ⟨B5, 6, none⟩ (.bool false)).setCell ⟨B5, 7, none⟩ (.bool false)).setCell ⟨B5, 8, none⟩ (.int .i64 0)).setCell ⟨B5, 9, none⟩ (.int .u64 0)) := nls; clear nls
      have o0 : Blk ((((((((((W5.setCell ⟨B5, 0, none⟩ (.bool false)).setCell ⟨B5, 1, none⟩ (.bool false)).setCell ⟨B5, 2, none⟩ (.bool false)).setCell ⟨B5, 3, none⟩ (.bool false)).setCell ⟨B5, 4, none⟩ (.bool false)).setCell ⟨B5, 5, none⟩ (.bool false)).setCell ⟨B5, 6, none⟩ (.bool false)).setCell ⟨B5, 7, none⟩ (.bool false)).setCell ⟨B5, 8, none⟩ (.int .i64 0)).setCell ⟨B5, 9, none⟩ (.int .u64 0)) tp [.pointer (some ⟨mp, 0, none⟩), .pointer (some ⟨sp, 0, none⟩), .int .i64 rt, .int .i64 (used : Int)] 138 := ((((((((((K5_0.out.other ⟨B5, 0, none⟩ (.bool false) X5_0_0.out).other ⟨B5, 1, none⟩ (.bool false) X5_0_0.out).other ⟨B5, 2, none⟩ (.bool false) X5_0_0.out).other ⟨B5, 3, none⟩ (.bool false) X5_0_0.out).other ⟨B5, 4, none⟩ (.bool false) X5_0_0.out).other ⟨B5, 5, none⟩ (.bool false) X5_0_0.out).other ⟨B5, 6, none⟩ (.bool false) X5_0_0.out).other ⟨B5, 7, none⟩ (.bool false) X5_0_0.out).other ⟨B5, 8, none⟩ (.int .i64 0) X5_0_0.out).other ⟨B5, 9, none⟩ (.int .u64 0) X5_0_0.out)
      have d6_0 : tp < W5.heap.size := K5_0.out.lt
      have o1 : Blk ((((((((((W5.setCell ⟨B5, 0, none⟩ (.bool false)).setCell ⟨B5, 1, none⟩ (.bool false)).setCell ⟨B5, 2, none⟩ (.bool false)).setCell ⟨B5, 3, none⟩ (.bool false)).setCell ⟨B5, 4, none⟩ (.bool false)).setCell ⟨B5, 5, none⟩ (.bool false)).setCell ⟨B5, 6, none⟩ (.bool false)).setCell ⟨B5, 7, none⟩ (.bool false)).setCell ⟨B5, 8, none⟩ (.int .i64 0)).setCell ⟨B5, 9, none⟩ (.int .u64 0)) B1 [.bool false, .bool false, .bool false, .bool false, .bool false, .bool false, .bool false, .bool false, .int .i64 0, .int .u64 0] 39 := ((((((((((K5_1.out.other ⟨B5, 0, none⟩ (.bool false) X5_1_0.out).other ⟨B5, 1, none⟩ (.bool false) X5_1_0.out).other ⟨B5, 2, none⟩ (.bool false) X5_1_0.out).other ⟨B5, 3, none⟩ (.bool false) X5_1_0.out).other ⟨B5, 4, none⟩ (.bool false) X5_1_0.out).other ⟨B5, 5, none⟩ (.bool false) X5_1_0.out).other ⟨B5, 6, none⟩ (.bool false) X5_1_0.out).other ⟨B5, 7, none⟩ (.bool false) X5_1_0.out).other ⟨B5, 8, none⟩ (.int .i64 0) X5_1_0.out).other ⟨B5, 9, none⟩ (.int .u64 0) X5_1_0.out)
      have d6_1 : B1 < W5.heap.size := K5_1.out.lt
      have o2 : Blk ((((((((((W5.setCell ⟨B5, 0, none⟩ (.bool false)).setCell ⟨B5, 1, none⟩ (.bool false)).setCell ⟨B5, 2, none⟩ (.bool false)).setCell ⟨B5, 3, none⟩ (.bool false)).setCell ⟨B5, 4, none⟩ (.bool false)).setCell ⟨B5, 5, none⟩ (.bool false)).setCell ⟨B5, 6, none⟩ (.bool false)).setCell ⟨B5, 7, none⟩ (.bool false)).setCell ⟨B5, 8, none⟩ (.int .i64 0)).setCell ⟨B5, 9, none⟩ (.int .u64 0)) B5 [.bool false, .bool false, .bool false, .bool false, .bool false, .bool false, .bool false, .bool false, .int .i64 0, .int .u64 0] 39 := ((((((((((K5_2.out.set 0 (.bool false)).set 1 (.bool false)).set 2 (.bool false)).set 3 (.bool false)).set 4 (.bool false)).set 5 (.bool false)).set 6 (.bool false)).set 7 (.bool false)).set 8 (.int .i64 0)).set 9 (.int .u64 0))
      have d6_2 : B5 < W5.heap.size := K5_2.out.lt
      obtain ⟨W6, hW⟩ : ∃ W, W = ((((((((((W5.setCell ⟨B5, 0, none⟩ (.bool false)).setCell ⟨B5, 1, none⟩ (.bool false)).setCell ⟨B5, 2, none⟩ (.bool false)).setCell ⟨B5, 3, none⟩ (.bool false)).setCell ⟨B5, 4, none⟩ (.bool false)).setCell ⟨B5, 5, none⟩ (.bool false)).setCell ⟨B5, 6, none⟩ (.bool false)).setCell ⟨B5, 7, none⟩ (.bool false)).setCell ⟨B5, 8, none⟩ (.int .i64 0)).setCell ⟨B5, 9, none⟩ (.int .u64 0)) := ⟨_, rfl⟩
      rw [← hW] at nl  o0 o1 o2
      rw [← hW]
      have K6_0 := Lib.hid o0
      have K6_1 := Lib.hid o1
      have K6_2 := Lib.hid o2
      have L6 := Lib.hid nl
      clear nl hW  o0 d6_0 o1 d6_1 o2 d6_2 K5_0 K5_1 K5_2
      have m2_0 := K6_2.out.c0
      have m2_1 := K6_2.out.c1
      have m2_2 := K6_2.out.c2
      have m2_3 := K6_2.out.c3
      have m2_4 := K6_2.out.c4
      have m2_5 := K6_2.out.c5
      have m2_6 := K6_2.out.c6
      have m2_7 := K6_2.out.c7
      have m2_8 := K6_2.out.c8
      have m2_9 := K6_2.out.c9
      have mlt2 : B5 < W6.heap.size := K6_2.out.lt
      have m1_0 := K6_1.out.c0
      have m1_1 := K6_1.out.c1
      have m1_2 := K6_1.out.c2
      have m1_3 := K6_1.out.c3
      have m1_4 := K6_1.out.c4
      have m1_5 := K6_1.out.c5
      have m1_6 := K6_1.out.c6
      have m1_7 := K6_1.out.c7
      have m1_8 := K6_1.out.c8
      have m1_9 := K6_1.out.c9
      have mlt1 : B1 < W6.heap.size := K6_1.out.lt
      have mf1 : ∀ o, W6.frozen? ⟨B1, o, none⟩ = false := fun o => K6_1.out.free o
      go_wp2
      clear m2_0 m2_1 m2_2 m2_3 m2_4 m2_5 m2_6 m2_7 m2_8 m2_9 mlt2 m1_0 m1_1 m1_2 m1_3 m1_4 m1_5 m1_6 m1_7 m1_8 m1_9 mlt1 mf1
      obtain ⟨W3, hW3⟩ : ∃ W9, W9 = ((((((((((W6.setCell ⟨B1, 0, none⟩ (.bool false)).setCell ⟨B1, 1, none⟩ (.bool false)).setCell ⟨B1, 2, none⟩ (.bool false)).setCell ⟨B1, 3, none⟩ (.bool false)).setCell ⟨B1, 4, none⟩ (.bool false)).setCell ⟨B1, 5, none⟩ (.bool false)).setCell ⟨B1, 6, none⟩ (.bool false)).setCell ⟨B1, 7, none⟩ (.bool false)).setCell ⟨B1, 8, none⟩ (.int .i64 0)).setCell ⟨B1, 9, none⟩ (.int .u64 0)) := ⟨_, rfl⟩
      rw [← hW3]
      have b3 : Blk W3 B1 [.bool false, .bool false, .bool false, .bool false, .bool false, .bool false, .bool false, .bool false, .int .i64 0, .int .u64 0] 39 := hW3 ▸ ((((((((((K6_1.out.set 0 (.bool false)).set 1 (.bool false)).set 2 (.bool false)).set 3 (.bool false)).set 4 (.bool false)).set 5 (.bool false)).set 6 (.bool false)).set 7 (.bool false)).set 8 (.int .i64 0)).set 9 (.int .u64 0))
      have l3 : Below w.heap.size w W3 := hW3 ▸ (Below.setCell (Below.setCell (Below.setCell (Below.setCell (Below.setCell (Below.setCell (Below.setCell (Below.setCell (Below.setCell (Below.setCell L6.out G1.out _) G1.out _) G1.out _) G1.out _) G1.out _) G1.out _) G1.out _) G1.out _) G1.out _) G1.out _)
      clear hW3
      have r0 := b3.c0
      have r1 := b3.c1
      have r2 := b3.c2
      have r3 := b3.c3
      have r4 := b3.c4
      have r5 := b3.c5
      have r6 := b3.c6
      have r7 := b3.c7
      have r8 := b3.c8
      have r9 := b3.c9
      have Q3 := Lib.hid b3; have QL := Lib.hid l3; clear b3 l3
      refine bodyPost_ret (v := .tuple #[.agg #[.bool false, .bool false, .bool false, .bool false, .bool false, .bool false, .bool false, .bool false, .int .i64 0, .int .u64 0], .int .u64 (A : Int), .int .i64 0]) (by simp [results, Tryz.results108, go_sem, r0, r1, r2, r3, r4, r5, r6, r7, r8, r9]) rfl ⟨rfl, QL.out⟩
    · obtain rfl := E3.out rfl
      have m2_0 := K5_2.out.c0
      have m2_1 := K5_2.out.c1
      have m2_2 := K5_2.out.c2
      have m2_3 := K5_2.out.c3
      have m2_4 := K5_2.out.c4
      have m2_5 := K5_2.out.c5
      have m2_6 := K5_2.out.c6
      have m2_7 := K5_2.out.c7
      have m2_8 := K5_2.out.c8
      have m2_9 := K5_2.out.c9
      have mlt2 : B5 < W5.heap.size := K5_2.out.lt
      have m1_0 := K5_1.out.c0
      have m1_1 := K5_1.out.c1
      have m1_2 := K5_1.out.c2
      have m1_3 := K5_1.out.c3
      have m1_4 := K5_1.out.c4
      have m1_5 := K5_1.out.c5
      have m1_6 := K5_1.out.c6
      have m1_7 := K5_1.out.c7
      have m1_8 := K5_1.out.c8
      have m1_9 := K5_1.out.c9
      have mlt1 : B1 < W5.heap.size := K5_1.out.lt
      have mf1 : ∀ o, W5.frozen? ⟨B1, o, none⟩ = false := fun o => K5_1.out.free o
      go_wp2
      clear m2_0 m2_1 m2_2 m2_3 m2_4 m2_5 m2_6 m2_7 m2_8 m2_9 mlt2 m1_0 m1_1 m1_2 m1_3 m1_4 m1_5 m1_6 m1_7 m1_8 m1_9 mlt1 mf1
      obtain ⟨W3, hW3⟩ : ∃ W9, W9 = ((((((((((W5.setCell ⟨B1, 0, none⟩ (.bool v)).setCell ⟨B1, 1, none⟩ (.bool r)).setCell ⟨B1, 2, none⟩ (.bool x1)).setCell ⟨B1, 3, none⟩ (.bool x)).setCell ⟨B1, 4, none⟩ (.bool u)).setCell ⟨B1, 5, none⟩ (.bool g)).setCell ⟨B1, 6, none⟩ (.bool a)).setCell ⟨B1, 7, none⟩ (.bool d)).setCell ⟨B1, 8, none⟩ (.int .i64 rsw)).setCell ⟨B1, 9, none⟩ (.int .u64 (ppn : Int))) := ⟨_, rfl⟩
      rw [← hW3]
      have b3 : Blk W3 B1 [.bool v, .bool r, .bool x1, .bool x, .bool u, .bool g, .bool a, .bool d, .int .i64 rsw, .int .u64 (ppn : Int)] 39 := hW3 ▸ ((((((((((K5_1.out.set 0 (.bool v)).set 1 (.bool r)).set 2 (.bool x1)).set 3 (.bool x)).set 4 (.bool u)).set 5 (.bool g)).set 6 (.bool a)).set 7 (.bool d)).set 8 (.int .i64 rsw)).set 9 (.int .u64 (ppn : Int)))
      have l3 : Below w.heap.size w W3 := hW3 ▸ (Below.setCell (Below.setCell (Below.setCell (Below.setCell (Below.setCell (Below.setCell (Below.setCell (Below.setCell (Below.setCell (Below.setCell L5.out G1.out _) G1.out _) G1.out _) G1.out _) G1.out _) G1.out _) G1.out _) G1.out _) G1.out _) G1.out _)
      clear hW3
      have r0 := b3.c0
      have r1 := b3.c1
      have r2 := b3.c2
      have r3 := b3.c3
      have r4 := b3.c4
      have r5 := b3.c5
      have r6 := b3.c6
      have r7 := b3.c7
      have r8 := b3.c8
      have r9 := b3.c9
      have Q3 := Lib.hid b3; have QL := Lib.hid l3; clear b3 l3
      refine bodyPost_ret (v := .tuple #[.agg #[.bool v, .bool r, .bool x1, .bool x, .bool u, .bool g, .bool a, .bool d, .int .i64 rsw, .int .u64 (ppn : Int)], .int .u64 (A : Int), .int .i64 0]) (by simp [results, Tryz.results108, go_sem, r0, r1, r2, r3, r4, r5, r6, r7, r8, r9]) rfl ⟨rfl, QL.out⟩
set_option maxHeartbeats 4000000 in
theorem lay13_any (tp mp sp fr n at_ : Nat) (rt : Int) (used : Nat) (e : Ent) (C : Nat → List Int) (F : Nat → Prop) (w : World) (hB : Blk w tp [.pointer (some ⟨mp, 0, none⟩), .pointer (some ⟨sp, 0, none⟩), .int .i64 rt, .int .i64 (used : Int)] 138) (hM : MemX w mp fr n C F) (ha : at_ % 8 = 0) (hf : at_ / 4096 < fr) (hn : n < 1000) (hT : ¬ F tp) (hr : -9223372036854775808 ≤ e.rsw ∧ e.rsw ≤ 9223372036854775807) (hp : e.ppn < 18446744073709551616) :
    Calls Tryz.prog 99 #[.pointer (some ⟨tp, 0, none⟩), .int .u64 at_, pv e] w fun r w' => r = .returned (.int .i64 0) ∧ ∃ F', MemX w' mp fr (n + 1) (stC fr C at_ 8 (wordE e : Nat)) F' ∧ Ext w F F' ∧ Chg F w w' := by
  have hfr := hM.fr
  have h1 := fun w => put_any e w hr hp
  have h2 := fun w' (hb : Below w.heap.size w w') => store_any mp fr n at_ 8 (wordE e : Nat) C F w' (hM.below hb) (by omega) hn (by omega) (by have := wordE_lt e; omega)
  rw [errL_in ha hf] at h2
  generalize stC fr C at_ 8 (wordE e : Nat) = C2 at *
  generalize wordE e = W at *
  obtain ⟨v, r, x1, x, u, g, a, d, rsw, ppn⟩ := e
  unfold pv at *
  dsimp only at *
  have H1 := Lib.hid h1; have H2 := Lib.hid h2; have HB := Lib.hid hB; have HLT := Lib.hid hM.lt; clear h1 h2 hM ha hf hn hr hp hB hfr
  go_enter Tryz.func99, Tryz.ntmps99
  go_wp2_with fail
  have nb0 := Blk.new w [.bool v, .bool r, .bool x1, .bool x, .bool u, .bool g, .bool a, .bool d, .int .i64 rsw, .int .u64 (ppn : Int)] 39
  have nls : Below w.heap.size w w := (Below.refl w.heap.size w)
  have nl0 := nls.alloc nls.size (.cells #[.bool v, .bool r, .bool x1, .bool x, .bool u, .bool g, .bool a, .bool d, .int .i64 rsw, .int .u64 (ppn : Int)] 39)
  have nl : Below w.heap.size w (w.alloc (.cells #[.bool v, .bool r, .bool x1, .bool x, .bool u, .bool g, .bool a, .bool d, .int .i64 rsw, .int .u64 (ppn : Int)] 39)) := nl0; clear nls nl0
  have o0 : Blk (w.alloc (.cells #[.bool v, .bool r, .bool x1, .bool x, .bool u, .bool g, .bool a, .bool d, .int .i64 rsw, .int .u64 (ppn : Int)] 39)) tp [.pointer (some ⟨mp, 0, none⟩), .pointer (some ⟨sp, 0, none⟩), .int .i64 rt, .int .i64 (used : Int)] 138 := (HB.out.alloc (.cells #[.bool v, .bool r, .bool x1, .bool x, .bool u, .bool g, .bool a, .bool d, .int .i64 rsw, .int .u64 (ppn : Int)] 39))
  have d1_0 : tp < w.heap.size := HB.out.lt
  obtain ⟨B1, hB0⟩ : ∃ B, B = w.heap.size := ⟨_, rfl⟩
  obtain ⟨W1, hW⟩ : ∃ W, W = (w.alloc (.cells #[.bool v, .bool r, .bool x1, .bool x, .bool u, .bool g, .bool a, .bool d, .int .i64 rsw, .int .u64 (ppn : Int)] 39)) := ⟨_, rfl⟩
  rw [← hW] at nl nb0 o0
  rw [← hB0] at nb0
  rw [← hW]
  try rw [← hB0]
  have K1_0 := Lib.hid o0
  have K1_1 := Lib.hid nb0
  have G1 : Hid (w.heap.size ≤ B1) := Lib.hid (by have := (Nat.le_refl w.heap.size); omega)
  have x1_0_0 : tp ≠ B1 := by omega
  have X1_0_0 := Lib.hid x1_0_0; clear x1_0_0
  have L1 := Lib.hid nl
  clear nl hW nb0 hB0 o0 d1_0 HB
  refine wp_region_held_drew (S := fun w' => Blk w' tp [.pointer (some ⟨mp, 0, none⟩), .pointer (some ⟨sp, 0, none⟩), .int .i64 rt, .int .i64 (used : Int)] 138 ∧ Blk w' B1 [.bool v, .bool r, .bool x1, .bool x, .bool u, .bool g, .bool a, .bool d, .int .i64 rsw, .int .u64 (ppn : Int)] 39) (by kernel_rfl) ⟨K1_0.out, K1_1.out⟩ (fun hHeld => ?_)
  simp only [List.size_toArray, List.length_cons, List.length_nil, Nat.reduceAdd]
  rw [show Array.replicate 9 false = [false, false, false, false, false, false, false, false, false].toArray from rfl]
  refine wpAnyH_take (i := 0) (v := ?_) rfl (by kernel_rfl) (by kernel_rfl) (by kernel_rfl) (fun _ _ _ h => h) (Or.inl ⟨by rfl, ?yldq⟩) (by assumption) ?_
  case yldq => (intro w hSw; (try dsimp only at hSw); go_simp; try with_reducible rfl)
  try simp only [Act.put, List.setIfInBounds_toArray, List.set_cons_zero, List.set_cons_succ, List.getElem_toArray, List.getElem_cons_succ, List.getElem_cons_zero]
  refine wpAnyH_take (i := 1) (v := ?_) rfl (by kernel_rfl) (by kernel_rfl) (by kernel_rfl) (fun _ _ _ h => h) (Or.inl ⟨by rfl, ?yldq⟩) (by assumption) ?_
  case yldq => (intro w hSw; (try dsimp only at hSw); go_simp; try with_reducible rfl)
  try simp only [Act.put, List.setIfInBounds_toArray, List.set_cons_zero, List.set_cons_succ, List.getElem_toArray, List.getElem_cons_succ, List.getElem_cons_zero]
  refine wpAnyH_take (i := 2) (v := ?_) rfl (by kernel_rfl) (by kernel_rfl) (by kernel_rfl) (fun _ _ _ h => h) (Or.inl ⟨by rfl, ?yldq⟩) (by assumption) ?_
  case yldq => (intro w hSw; (try dsimp only at hSw); go_simp; try with_reducible rfl)
  try simp only [Act.put, List.setIfInBounds_toArray, List.set_cons_zero, List.set_cons_succ, List.getElem_toArray, List.getElem_cons_succ, List.getElem_cons_zero]
  refine wpAnyH_take (i := 3) (v := _) rfl (by kernel_rfl) (by kernel_rfl) (by kernel_rfl) (fun _ _ _ h => h) (Or.inl ⟨by rfl, fun w hSw => yield_tab0 _ _ _ rfl rfl hSw.1⟩) (by assumption) ?_
  try simp only [Act.put, List.setIfInBounds_toArray, List.set_cons_zero, List.set_cons_succ, List.getElem_toArray, List.getElem_cons_succ, List.getElem_cons_zero]
  refine wpAnyH_take (i := 4) (v := ?_) rfl (by kernel_rfl) (by kernel_rfl) (by kernel_rfl) (fun _ _ _ h => h) (Or.inl ⟨by rfl, ?yldq⟩) (by assumption) ?_
  case yldq => (intro w hSw; (try dsimp only at hSw); go_simp; try with_reducible rfl)
  try simp only [Act.put, List.setIfInBounds_toArray, List.set_cons_zero, List.set_cons_succ, List.getElem_toArray, List.getElem_cons_succ, List.getElem_cons_zero]
  refine wpAnyH_take (i := 5) (v := _) rfl (by kernel_rfl) (by kernel_rfl) (by kernel_rfl) (fun _ _ _ h => h) (Or.inl ⟨by rfl, fun w hSw => yield_ent _ _ _ rfl rfl hSw.2⟩) (by assumption) ?_
  try simp only [Act.put, List.setIfInBounds_toArray, List.set_cons_zero, List.set_cons_succ, List.getElem_toArray, List.getElem_cons_succ, List.getElem_cons_zero]
  refine wpAnyH_ready (rs := [6]) (by kernel_rfl) (by simp) ?_
  refine AllReadyH.cons rfl (fun K hK => ?_) AllReadyH.nil
  go_simp
  refine (H1.out _).mono ?_
  rintro e w2 ⟨rfl, hb⟩
  have L2 := Lib.hid ((L1.out.drew).trans (hb.mono L1.out.size))
  have K2_0 := Lib.hid ((Blk.drewN K1_0.out 1).below hb K1_0.out.lt)
  have K2_1 := Lib.hid ((Blk.drewN K1_1.out 1).below hb K1_1.out.lt)
  clear hb K1_0 K1_1
  refine hK.out _ _ ⟨K2_0.out, K2_1.out⟩ (fun hS6 => ?_)
  clear hK K
  refine wpAnyH_ready (rs := [7]) (by kernel_rfl) (by simp) ?_
  refine AllReadyH.cons rfl (fun K hK => ?_) AllReadyH.nil
  go_simp
  refine (H2.out _ L2.out).mono ?_
  rintro e w3 ⟨rfl, F', hM3, hx, hc⟩
  have hn1 : ¬ F B1 := fun h => by have := HLT.out _ h; have := G1.out; omega
  refine hK.out _ _ ⟨K2_0.out.chg hc hT, K2_1.out.chg hc hn1⟩ (fun hS7 => ?_)
  clear hK K
  have R1 := Lib.hid hM3
  have R2 := Lib.hid (show Ext w F F' from fun j hj => (hx j hj).elim .inl (fun h => .inr (Nat.le_trans L2.out.size h)))
  have R3 := Lib.hid ((Chg.of_below (F := F) L2.out).trans hc)
  clear hM3 hx hc hS6 hHeld
  refine wpAnyH_take (i := 8) (v := ?_) rfl (by kernel_rfl) (by kernel_rfl) (by kernel_rfl) (fun _ _ _ h => h) (Or.inl ⟨by rfl, ?yldq⟩) (by assumption) ?_
  case yldq => (intro w hSw; (try dsimp only at hSw); go_simp; try with_reducible rfl)
  try simp only [Act.put, List.setIfInBounds_toArray, List.set_cons_zero, List.set_cons_succ, List.getElem_toArray, List.getElem_cons_succ, List.getElem_cons_zero]
  clear hS7
  refine wpAnyH_done (by kernel_rfl) ?_ _
  go_wp2
  go_ret
  exact ⟨rfl, F', R1.out, R2.out, R3.out⟩
end Go.Proofs.YtgnjbjbgfhjakaaGreat
