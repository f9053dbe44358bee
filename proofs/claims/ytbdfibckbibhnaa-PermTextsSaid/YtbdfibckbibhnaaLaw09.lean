/-
  Layer 9's laws: what 'first' answers, and the walks of PermChecks, PermCauses, PermMore. No conditions but that the arguments are of their types.
-/
import Derived.Test.YtbdfibckbibhnaaFlags09
import Derived.Test.YtbdfibckbibhnaaCheck09
import Derived.Test.YtbdfibckbibhnaaRef09
import Derived.Laws.StructEq
namespace Go.Proofs.Ytbdfibckbibhnaa
open Go.RowKit
set_option linter.unusedVariables false
set_option linter.unusedSimpArgs false
attribute [local go_sem] setCell_drewN alloc_drewN

theorem load_ent {w : World} {b : Nat} {c0 c1 c2 c3 c4 c5 c6 c7 c8 c9 : Value} (h : Blk w b [c0, c1, c2, c3, c4, c5, c6, c7, c8, c9] 24) :
    (Instr.loadAt 24 (.pointer (some ⟨b, 0, none⟩))).run Try.prog w = .ok (.agg #[c0, c1, c2, c3, c4, c5, c6, c7, c8, c9]) w := by
  have h0 : w.cell? ⟨b, 0, none⟩ = some c0 := h.cell 0
  have h1 : w.cell? ⟨b, 1, none⟩ = some c1 := h.cell 1
  have h2 : w.cell? ⟨b, 2, none⟩ = some c2 := h.cell 2
  have h3 : w.cell? ⟨b, 3, none⟩ = some c3 := h.cell 3
  have h4 : w.cell? ⟨b, 4, none⟩ = some c4 := h.cell 4
  have h5 : w.cell? ⟨b, 5, none⟩ = some c5 := h.cell 5
  have h6 : w.cell? ⟨b, 6, none⟩ = some c6 := h.cell 6
  have h7 : w.cell? ⟨b, 7, none⟩ = some c7 := h.cell 7
  have h8 : w.cell? ⟨b, 8, none⟩ = some c8 := h.cell 8
  have h9 : w.cell? ⟨b, 9, none⟩ = some c9 := h.cell 9
  clear h
  go_simp
theorem yield_ent {w : World} {b : Nat} {c0 c1 c2 c3 c4 c5 c6 c7 c8 c9 : Value} (a : Act) (o : Oper) (x : Operand) (ho : o.op = .load 24 x) (hx : a.eval x = .pointer (some ⟨b, 0, none⟩)) (h : Blk w b [c0, c1, c2, c3, c4, c5, c6, c7, c8, c9] 24) :
    (execOp a.eval o).run Try.prog w = .ok (.value (.agg #[c0, c1, c2, c3, c4, c5, c6, c7, c8, c9])) w := by
  have e := load_ent h
  obtain ⟨op, _, _, _, _, _⟩ := o
  dsimp only at ho
  subst ho
  unfold execOp
  simp only [hx]
  simp [e]
theorem load_mode {w : World} {b : Nat} {c0 c1 c2 : Value} (h : Blk w b [c0, c1, c2] 27) :
    (Instr.loadAt 27 (.pointer (some ⟨b, 0, none⟩))).run Try.prog w = .ok (.agg #[c0, c1, c2]) w := by
  have h0 : w.cell? ⟨b, 0, none⟩ = some c0 := h.cell 0
  have h1 : w.cell? ⟨b, 1, none⟩ = some c1 := h.cell 1
  have h2 : w.cell? ⟨b, 2, none⟩ = some c2 := h.cell 2
  clear h
  go_simp
theorem yield_mode {w : World} {b : Nat} {c0 c1 c2 : Value} (a : Act) (o : Oper) (x : Operand) (ho : o.op = .load 27 x) (hx : a.eval x = .pointer (some ⟨b, 0, none⟩)) (h : Blk w b [c0, c1, c2] 27) :
    (execOp a.eval o).run Try.prog w = .ok (.value (.agg #[c0, c1, c2])) w := by
  have e := load_mode h
  obtain ⟨op, _, _, _, _, _⟩ := o
  dsimp only at ho
  subst ho
  unfold execOp
  simp only [hx]
  simp [e]
theorem g1 (w : World) : Calls Try.prog 14 #[.string ⟨#[118, 114, 45, 120, 117, 45, 97, 45]⟩] w fun r w' => r = .returned (.tuple #[.agg #[.bool true, .bool true, .bool false, .bool true, .bool true, .bool false, .bool true, .bool false, .int .i64 0, .int .u64 0], .bool true]) ∧ Below w.heap.size w w' :=
  flags_8 118 114 45 120 117 45 97 45 _ w rfl (fun _ => by kernel_rfl) (fun _ => by kernel_rfl) (fun _ => by kernel_rfl) (fun _ => by kernel_rfl) (fun _ => by kernel_rfl) (fun _ => by kernel_rfl) (fun _ => by kernel_rfl) (fun _ => by kernel_rfl)
theorem g2 (w : World) : Calls Try.prog 14 #[.string ⟨#[118, 114, 119, 120]⟩] w fun r w' => r = .returned (.tuple #[.agg #[.bool false, .bool false, .bool false, .bool false, .bool false, .bool false, .bool false, .bool false, .int .i64 0, .int .u64 0], .bool false]) ∧ Below w.heap.size w w' :=
  flags_size _ w (by decide) (by decide)
theorem g3 (w : World) : Calls Try.prog 15 #[.agg #[.bool true, .bool true, .bool false, .bool true, .bool true, .bool false, .bool true, .bool false, .int .i64 0, .int .u64 0]] w fun r w' => r = .returned (.string ⟨#[118, 114, 45, 120, 117, 45, 97, 45]⟩) ∧ Below w.heap.size w w' :=
  text_any ⟨true, true, false, true, true, false, true, false, 0, 0⟩ w
theorem g4 (w : World) : Calls Try.prog 8 #[.agg #[.bool true, .bool true, .bool false, .bool true, .bool true, .bool false, .bool true, .bool false, .int .i64 0, .int .u64 0], .int .i64 1, .agg #[.bool true, .bool false, .bool false]] w fun r w' => r = .returned (.bool true) ∧ Below w.heap.size w w' :=
  check_any ⟨true, true, false, true, true, false, true, false, 0, 0⟩ 1 ⟨true, false, false⟩ w
theorem g5 (w : World) : Calls Try.prog 8 #[.agg #[.bool true, .bool true, .bool false, .bool true, .bool true, .bool false, .bool true, .bool false, .int .i64 0, .int .u64 0], .int .i64 2, .agg #[.bool true, .bool false, .bool false]] w fun r w' => r = .returned (.bool false) ∧ Below w.heap.size w w' :=
  check_any ⟨true, true, false, true, true, false, true, false, 0, 0⟩ 2 ⟨true, false, false⟩ w
theorem g6 (w : World) : Calls Try.prog 8 #[.agg #[.bool true, .bool true, .bool false, .bool true, .bool true, .bool false, .bool true, .bool false, .int .i64 0, .int .u64 0], .int .i64 1, .agg #[.bool false, .bool false, .bool false]] w fun r w' => r = .returned (.bool false) ∧ Below w.heap.size w w' :=
  check_any ⟨true, true, false, true, true, false, true, false, 0, 0⟩ 1 ⟨false, false, false⟩ w
theorem g7 (w : World) : Calls Try.prog 8 #[.agg #[.bool true, .bool true, .bool false, .bool true, .bool true, .bool false, .bool true, .bool false, .int .i64 0, .int .u64 0], .int .i64 1, .agg #[.bool false, .bool true, .bool false]] w fun r w' => r = .returned (.bool true) ∧ Below w.heap.size w w' :=
  check_any ⟨true, true, false, true, true, false, true, false, 0, 0⟩ 1 ⟨false, true, false⟩ w
theorem g8 (w : World) : Calls Try.prog 8 #[.agg #[.bool true, .bool true, .bool false, .bool true, .bool true, .bool false, .bool true, .bool false, .int .i64 0, .int .u64 0], .int .i64 0, .agg #[.bool false, .bool true, .bool false]] w fun r w' => r = .returned (.bool false) ∧ Below w.heap.size w w' :=
  check_any ⟨true, true, false, true, true, false, true, false, 0, 0⟩ 0 ⟨false, true, false⟩ w
theorem g9 (w : World) : Calls Try.prog 10 #[.int .i64 1] w fun r w' => r = .returned (.int .i64 13) ∧ w = w' :=
  page_any 1 w
theorem first_any (w : World) : Calls Try.prog 7 #[] w fun e w' => e = .returned (.bool true) ∧ Below w.heap.size w w' := by
  go_enter Try.func7, Try.ntmps7
  go_wp2_with fail
  refine (g1 _).mono ?_
  rintro e w1 ⟨rfl, hb⟩
  have L1 := Lib.hid ((Below.refl w.heap.size w).trans (hb.mono (Nat.le_refl w.heap.size)))
  clear hb
  go_wp2_with fail
  have nb0 : Blk (w1.alloc (.cells #[.bool true, .bool true, .bool false, .bool true, .bool true, .bool false, .bool true, .bool false, .int .i64 0, .int .u64 0] 24)) (w1.heap.size) [.bool true, .bool true, .bool false, .bool true, .bool true, .bool false, .bool true, .bool false, .int .i64 0, .int .u64 0] 24 := Blk.new w1 [.bool true, .bool true, .bool false, .bool true, .bool true, .bool false, .bool true, .bool false, .int .i64 0, .int .u64 0] 24
  have nl0 := L1.out.alloc L1.out.size (.cells #[.bool true, .bool true, .bool false, .bool true, .bool true, .bool false, .bool true, .bool false, .int .i64 0, .int .u64 0] 24)
  have nl : Below w.heap.size w (w1.alloc (.cells #[.bool true, .bool true, .bool false, .bool true, .bool true, .bool false, .bool true, .bool false, .int .i64 0, .int .u64 0] 24)) := nl0; clear nl0
  obtain ⟨B2, hB0⟩ : ∃ B, B = w1.heap.size := ⟨_, rfl⟩
  obtain ⟨W2, hW⟩ : ∃ W, W = (w1.alloc (.cells #[.bool true, .bool true, .bool false, .bool true, .bool true, .bool false, .bool true, .bool false, .int .i64 0, .int .u64 0] 24)) := ⟨_, rfl⟩
  rw [← hW] at nl nb0
  rw [← hB0] at nb0
  rw [← hW]
  try rw [← hB0]
  have K2_0 := Lib.hid nb0
  have G2 : Hid (w.heap.size ≤ B2) := Lib.hid (by have := L1.out.size; omega)
  have L2 := Lib.hid nl
  clear nl hW nb0 hB0
  refine (g2 _).mono ?_
  rintro e w3 ⟨rfl, hb⟩
  have L3 := Lib.hid (L2.out.trans (hb.mono L2.out.size))
  have K3_0 := Lib.hid (K2_0.out.below hb K2_0.out.lt)
  clear hb K2_0
  have m0_0 : w3.cell? ⟨B2, 0, none⟩ = some _ := K3_0.out.cell 0
  have m0_1 : w3.cell? ⟨B2, 1, none⟩ = some _ := K3_0.out.cell 1
  have m0_2 : w3.cell? ⟨B2, 2, none⟩ = some _ := K3_0.out.cell 2
  have m0_3 : w3.cell? ⟨B2, 3, none⟩ = some _ := K3_0.out.cell 3
  have m0_4 : w3.cell? ⟨B2, 4, none⟩ = some _ := K3_0.out.cell 4
  have m0_5 : w3.cell? ⟨B2, 5, none⟩ = some _ := K3_0.out.cell 5
  have m0_6 : w3.cell? ⟨B2, 6, none⟩ = some _ := K3_0.out.cell 6
  have m0_7 : w3.cell? ⟨B2, 7, none⟩ = some _ := K3_0.out.cell 7
  have m0_8 : w3.cell? ⟨B2, 8, none⟩ = some _ := K3_0.out.cell 8
  have m0_9 : w3.cell? ⟨B2, 9, none⟩ = some _ := K3_0.out.cell 9
  have mlt0 : B2 < w3.heap.size := K3_0.out.lt
  go_wp2_with fail
  clear m0_0 m0_1 m0_2 m0_3 m0_4 m0_5 m0_6 m0_7 m0_8 m0_9 mlt0
  have nb0 : Blk (w3.alloc (.cells #[.bool false, .bool false, .bool false, .bool false, .bool false, .bool false, .bool false, .bool false, .int .i64 0, .int .u64 0] 24)) (w3.heap.size) [.bool false, .bool false, .bool false, .bool false, .bool false, .bool false, .bool false, .bool false, .int .i64 0, .int .u64 0] 24 := Blk.new w3 [.bool false, .bool false, .bool false, .bool false, .bool false, .bool false, .bool false, .bool false, .int .i64 0, .int .u64 0] 24
  replace nb0 := nb0.alloc (.cells #[.bool true, .bool false, .bool false] 27)
  have nb1 : Blk ((w3.alloc (.cells #[.bool false, .bool false, .bool false, .bool false, .bool false, .bool false, .bool false, .bool false, .int .i64 0, .int .u64 0] 24)).alloc (.cells #[.bool true, .bool false, .bool false] 27)) (w3.heap.size + 1) [.bool true, .bool false, .bool false] 27 := Blk.nextn (w3.alloc (.cells #[.bool false, .bool false, .bool false, .bool false, .bool false, .bool false, .bool false, .bool false, .int .i64 0, .int .u64 0] 24)) (w3.heap.size + 1) [.bool true, .bool false, .bool false] 27 (by simp)
  have nl0 := L3.out.alloc L3.out.size (.cells #[.bool false, .bool false, .bool false, .bool false, .bool false, .bool false, .bool false, .bool false, .int .i64 0, .int .u64 0] 24)
  have nl1 := nl0.alloc nl0.size (.cells #[.bool true, .bool false, .bool false] 27)
  have nl : Below w.heap.size w ((w3.alloc (.cells #[.bool false, .bool false, .bool false, .bool false, .bool false, .bool false, .bool false, .bool false, .int .i64 0, .int .u64 0] 24)).alloc (.cells #[.bool true, .bool false, .bool false] 27)) := nl1; clear nl0 nl1
  have o0 : Blk ((w3.alloc (.cells #[.bool false, .bool false, .bool false, .bool false, .bool false, .bool false, .bool false, .bool false, .int .i64 0, .int .u64 0] 24)).alloc (.cells #[.bool true, .bool false, .bool false] 27)) B2 [.bool true, .bool true, .bool false, .bool true, .bool true, .bool false, .bool true, .bool false, .int .i64 0, .int .u64 0] 24 := ((K3_0.out.alloc (.cells #[.bool false, .bool false, .bool false, .bool false, .bool false, .bool false, .bool false, .bool false, .int .i64 0, .int .u64 0] 24)).alloc (.cells #[.bool true, .bool false, .bool false] 27))
  have d4_0 : B2 < w3.heap.size := K3_0.out.lt
  obtain ⟨B4_1, hB1⟩ : ∃ B, B = w3.heap.size + 1 := ⟨_, rfl⟩
  obtain ⟨B4_0, hB0⟩ : ∃ B, B = w3.heap.size := ⟨_, rfl⟩
  obtain ⟨W4, hW⟩ : ∃ W, W = ((w3.alloc (.cells #[.bool false, .bool false, .bool false, .bool false, .bool false, .bool false, .bool false, .bool false, .int .i64 0, .int .u64 0] 24)).alloc (.cells #[.bool true, .bool false, .bool false] 27)) := ⟨_, rfl⟩
  rw [← hW] at nl nb0 nb1 o0
  rw [← hB1] at nb1
  rw [← hB0] at nb0
  rw [← hW]
  try rw [← hB1]
  try rw [← hB0]
  have K4_0 := Lib.hid o0
  have K4_1 := Lib.hid nb0
  have G4_0 : Hid (w.heap.size ≤ B4_0) := Lib.hid (by have := L3.out.size; omega)
  have x4_0_0 : B2 ≠ B4_0 := by omega
  have K4_2 := Lib.hid nb1
  have G4_1 : Hid (w.heap.size ≤ B4_1) := Lib.hid (by have := L3.out.size; omega)
  have x4_0_1 : B2 ≠ B4_1 := by omega
  have y4_0_1 : B4_0 ≠ B4_1 := by omega
  have X4_0_0 := Lib.hid x4_0_0; clear x4_0_0
  have X4_0_1 := Lib.hid x4_0_1; clear x4_0_1
  have Y4_0_1 := Lib.hid y4_0_1; clear y4_0_1
  have L4 := Lib.hid nl
  clear nl hW nb0 hB0 nb1 hB1 o0 d4_0 K3_0
  refine (g3 _).mono ?_
  rintro e w5 ⟨rfl, hb⟩
  have L5 := Lib.hid (L4.out.trans (hb.mono L4.out.size))
  have K5_0 := Lib.hid (K4_0.out.below hb K4_0.out.lt)
  have K5_1 := Lib.hid (K4_1.out.below hb K4_1.out.lt)
  have K5_2 := Lib.hid (K4_2.out.below hb K4_2.out.lt)
  clear hb K4_0 K4_1 K4_2
  have m0_0 : w5.cell? ⟨B2, 0, none⟩ = some _ := K5_0.out.cell 0
  have m0_1 : w5.cell? ⟨B2, 1, none⟩ = some _ := K5_0.out.cell 1
  have m0_2 : w5.cell? ⟨B2, 2, none⟩ = some _ := K5_0.out.cell 2
  have m0_3 : w5.cell? ⟨B2, 3, none⟩ = some _ := K5_0.out.cell 3
  have m0_4 : w5.cell? ⟨B2, 4, none⟩ = some _ := K5_0.out.cell 4
  have m0_5 : w5.cell? ⟨B2, 5, none⟩ = some _ := K5_0.out.cell 5
  have m0_6 : w5.cell? ⟨B2, 6, none⟩ = some _ := K5_0.out.cell 6
  have m0_7 : w5.cell? ⟨B2, 7, none⟩ = some _ := K5_0.out.cell 7
  have m0_8 : w5.cell? ⟨B2, 8, none⟩ = some _ := K5_0.out.cell 8
  have m0_9 : w5.cell? ⟨B2, 9, none⟩ = some _ := K5_0.out.cell 9
  have mlt0 : B2 < w5.heap.size := K5_0.out.lt
  have m2_0 : w5.cell? ⟨B4_1, 0, none⟩ = some _ := K5_2.out.cell 0
  have m2_1 : w5.cell? ⟨B4_1, 1, none⟩ = some _ := K5_2.out.cell 1
  have m2_2 : w5.cell? ⟨B4_1, 2, none⟩ = some _ := K5_2.out.cell 2
  have mlt2 : B4_1 < w5.heap.size := K5_2.out.lt
  go_wp2_with fail
  clear m0_0 m0_1 m0_2 m0_3 m0_4 m0_5 m0_6 m0_7 m0_8 m0_9 mlt0 m2_0 m2_1 m2_2 mlt2
  refine (g4 _).mono ?_
  rintro e w6 ⟨rfl, hb⟩
  have L6 := Lib.hid (L5.out.trans (hb.mono L5.out.size))
  have K6_0 := Lib.hid (K5_0.out.below hb K5_0.out.lt)
  have K6_1 := Lib.hid (K5_1.out.below hb K5_1.out.lt)
  have K6_2 := Lib.hid (K5_2.out.below hb K5_2.out.lt)
  clear hb K5_0 K5_1 K5_2
  have m0_0 : w6.cell? ⟨B2, 0, none⟩ = some _ := K6_0.out.cell 0
  have m0_1 : w6.cell? ⟨B2, 1, none⟩ = some _ := K6_0.out.cell 1
  have m0_2 : w6.cell? ⟨B2, 2, none⟩ = some _ := K6_0.out.cell 2
  have m0_3 : w6.cell? ⟨B2, 3, none⟩ = some _ := K6_0.out.cell 3
  have m0_4 : w6.cell? ⟨B2, 4, none⟩ = some _ := K6_0.out.cell 4
  have m0_5 : w6.cell? ⟨B2, 5, none⟩ = some _ := K6_0.out.cell 5
  have m0_6 : w6.cell? ⟨B2, 6, none⟩ = some _ := K6_0.out.cell 6
  have m0_7 : w6.cell? ⟨B2, 7, none⟩ = some _ := K6_0.out.cell 7
  have m0_8 : w6.cell? ⟨B2, 8, none⟩ = some _ := K6_0.out.cell 8
  have m0_9 : w6.cell? ⟨B2, 9, none⟩ = some _ := K6_0.out.cell 9
  have mlt0 : B2 < w6.heap.size := K6_0.out.lt
  have m2_0 : w6.cell? ⟨B4_1, 0, none⟩ = some _ := K6_2.out.cell 0
  have m2_1 : w6.cell? ⟨B4_1, 1, none⟩ = some _ := K6_2.out.cell 1
  have m2_2 : w6.cell? ⟨B4_1, 2, none⟩ = some _ := K6_2.out.cell 2
  have mlt2 : B4_1 < w6.heap.size := K6_2.out.lt
  go_wp2_with fail
  clear m0_0 m0_1 m0_2 m0_3 m0_4 m0_5 m0_6 m0_7 m0_8 m0_9 mlt0 m2_0 m2_1 m2_2 mlt2
  refine (g5 _).mono ?_
  rintro e w7 ⟨rfl, hb⟩
  have L7 := Lib.hid (L6.out.trans (hb.mono L6.out.size))
  have K7_0 := Lib.hid (K6_0.out.below hb K6_0.out.lt)
  have K7_1 := Lib.hid (K6_1.out.below hb K6_1.out.lt)
  have K7_2 := Lib.hid (K6_2.out.below hb K6_2.out.lt)
  clear hb K6_0 K6_1 K6_2
  have m0_0 : w7.cell? ⟨B2, 0, none⟩ = some _ := K7_0.out.cell 0
  have m0_1 : w7.cell? ⟨B2, 1, none⟩ = some _ := K7_0.out.cell 1
  have m0_2 : w7.cell? ⟨B2, 2, none⟩ = some _ := K7_0.out.cell 2
  have m0_3 : w7.cell? ⟨B2, 3, none⟩ = some _ := K7_0.out.cell 3
  have m0_4 : w7.cell? ⟨B2, 4, none⟩ = some _ := K7_0.out.cell 4
  have m0_5 : w7.cell? ⟨B2, 5, none⟩ = some _ := K7_0.out.cell 5
  have m0_6 : w7.cell? ⟨B2, 6, none⟩ = some _ := K7_0.out.cell 6
  have m0_7 : w7.cell? ⟨B2, 7, none⟩ = some _ := K7_0.out.cell 7
  have m0_8 : w7.cell? ⟨B2, 8, none⟩ = some _ := K7_0.out.cell 8
  have m0_9 : w7.cell? ⟨B2, 9, none⟩ = some _ := K7_0.out.cell 9
  have mlt0 : B2 < w7.heap.size := K7_0.out.lt
  go_wp2_with fail
  clear m0_0 m0_1 m0_2 m0_3 m0_4 m0_5 m0_6 m0_7 m0_8 m0_9 mlt0
  refine (g6 _).mono ?_
  rintro e w8 ⟨rfl, hb⟩
  have L8 := Lib.hid (L7.out.trans (hb.mono L7.out.size))
  have K8_0 := Lib.hid (K7_0.out.below hb K7_0.out.lt)
  have K8_1 := Lib.hid (K7_1.out.below hb K7_1.out.lt)
  have K8_2 := Lib.hid (K7_2.out.below hb K7_2.out.lt)
  clear hb K7_0 K7_1 K7_2
  have m0_0 : w8.cell? ⟨B2, 0, none⟩ = some _ := K8_0.out.cell 0
  have m0_1 : w8.cell? ⟨B2, 1, none⟩ = some _ := K8_0.out.cell 1
  have m0_2 : w8.cell? ⟨B2, 2, none⟩ = some _ := K8_0.out.cell 2
  have m0_3 : w8.cell? ⟨B2, 3, none⟩ = some _ := K8_0.out.cell 3
  have m0_4 : w8.cell? ⟨B2, 4, none⟩ = some _ := K8_0.out.cell 4
  have m0_5 : w8.cell? ⟨B2, 5, none⟩ = some _ := K8_0.out.cell 5
  have m0_6 : w8.cell? ⟨B2, 6, none⟩ = some _ := K8_0.out.cell 6
  have m0_7 : w8.cell? ⟨B2, 7, none⟩ = some _ := K8_0.out.cell 7
  have m0_8 : w8.cell? ⟨B2, 8, none⟩ = some _ := K8_0.out.cell 8
  have m0_9 : w8.cell? ⟨B2, 9, none⟩ = some _ := K8_0.out.cell 9
  have mlt0 : B2 < w8.heap.size := K8_0.out.lt
  go_wp2_with fail
  clear m0_0 m0_1 m0_2 m0_3 m0_4 m0_5 m0_6 m0_7 m0_8 m0_9 mlt0
  refine (g7 _).mono ?_
  rintro e w9 ⟨rfl, hb⟩
  have L9 := Lib.hid (L8.out.trans (hb.mono L8.out.size))
  have K9_0 := Lib.hid (K8_0.out.below hb K8_0.out.lt)
  have K9_1 := Lib.hid (K8_1.out.below hb K8_1.out.lt)
  have K9_2 := Lib.hid (K8_2.out.below hb K8_2.out.lt)
  clear hb K8_0 K8_1 K8_2
  have m0_0 : w9.cell? ⟨B2, 0, none⟩ = some _ := K9_0.out.cell 0
  have m0_1 : w9.cell? ⟨B2, 1, none⟩ = some _ := K9_0.out.cell 1
  have m0_2 : w9.cell? ⟨B2, 2, none⟩ = some _ := K9_0.out.cell 2
  have m0_3 : w9.cell? ⟨B2, 3, none⟩ = some _ := K9_0.out.cell 3
  have m0_4 : w9.cell? ⟨B2, 4, none⟩ = some _ := K9_0.out.cell 4
  have m0_5 : w9.cell? ⟨B2, 5, none⟩ = some _ := K9_0.out.cell 5
  have m0_6 : w9.cell? ⟨B2, 6, none⟩ = some _ := K9_0.out.cell 6
  have m0_7 : w9.cell? ⟨B2, 7, none⟩ = some _ := K9_0.out.cell 7
  have m0_8 : w9.cell? ⟨B2, 8, none⟩ = some _ := K9_0.out.cell 8
  have m0_9 : w9.cell? ⟨B2, 9, none⟩ = some _ := K9_0.out.cell 9
  have mlt0 : B2 < w9.heap.size := K9_0.out.lt
  go_wp2_with fail
  clear m0_0 m0_1 m0_2 m0_3 m0_4 m0_5 m0_6 m0_7 m0_8 m0_9 mlt0
  refine (g8 _).mono ?_
  rintro e w10 ⟨rfl, hb⟩
  have L10 := Lib.hid (L9.out.trans (hb.mono L9.out.size))
  have K10_0 := Lib.hid (K9_0.out.below hb K9_0.out.lt)
  have K10_1 := Lib.hid (K9_1.out.below hb K9_1.out.lt)
  have K10_2 := Lib.hid (K9_2.out.below hb K9_2.out.lt)
  clear hb K9_0 K9_1 K9_2
  go_wp2_with fail
  refine (g9 _).mono ?_
  rintro e wx ⟨rfl, rfl⟩
  go_wp2
  go_ret
  exact ⟨rfl, L10.out⟩
set_option maxHeartbeats 4000000 in
theorem checks_walk (E : Ent) (k : Int) (M : Md) (w : World) : Calls Try.prog 3 #[pv E, .int .i64 k, mv M] w fun e w' => e = .returned (.bool true) ∧ Below w.heap.size w w' := by
  have h1 := fun w => check_any E k M w
  have h2 := fun w => rcheck_any E k M w
  generalize chk E k M = C at h1 h2
  obtain ⟨v, r, x1, x, u, g, a, d, rsw, ppn⟩ := E
  obtain ⟨us, sm, mx⟩ := M
  unfold pv mv at *
  dsimp only at *
  have H1 := Lib.hid h1; have H2 := Lib.hid h2; clear h1 h2
  go_enter Try.func3, Try.ntmps3
  go_wp2_with fail
  have nb0 : Blk (w.alloc (.cells #[.bool v, .bool r, .bool x1, .bool x, .bool u, .bool g, .bool a, .bool d, .int .i64 rsw, .int .u64 (ppn : Int)] 24)) (w.heap.size) [.bool v, .bool r, .bool x1, .bool x, .bool u, .bool g, .bool a, .bool d, .int .i64 rsw, .int .u64 (ppn : Int)] 24 := Blk.new w [.bool v, .bool r, .bool x1, .bool x, .bool u, .bool g, .bool a, .bool d, .int .i64 rsw, .int .u64 (ppn : Int)] 24
  replace nb0 := nb0.alloc (.cells #[.bool us, .bool sm, .bool mx] 27)
  have nb1 : Blk ((w.alloc (.cells #[.bool v, .bool r, .bool x1, .bool x, .bool u, .bool g, .bool a, .bool d, .int .i64 rsw, .int .u64 (ppn : Int)] 24)).alloc (.cells #[.bool us, .bool sm, .bool mx] 27)) (w.heap.size + 1) [.bool us, .bool sm, .bool mx] 27 := Blk.nextn (w.alloc (.cells #[.bool v, .bool r, .bool x1, .bool x, .bool u, .bool g, .bool a, .bool d, .int .i64 rsw, .int .u64 (ppn : Int)] 24)) (w.heap.size + 1) [.bool us, .bool sm, .bool mx] 27 (by simp)
  have nl0 := (Below.refl w.heap.size w).alloc (Nat.le_refl w.heap.size) (.cells #[.bool v, .bool r, .bool x1, .bool x, .bool u, .bool g, .bool a, .bool d, .int .i64 rsw, .int .u64 (ppn : Int)] 24)
  have nl1 := nl0.alloc nl0.size (.cells #[.bool us, .bool sm, .bool mx] 27)
  have nl : Below w.heap.size w ((w.alloc (.cells #[.bool v, .bool r, .bool x1, .bool x, .bool u, .bool g, .bool a, .bool d, .int .i64 rsw, .int .u64 (ppn : Int)] 24)).alloc (.cells #[.bool us, .bool sm, .bool mx] 27)) := nl1; clear nl0 nl1
  obtain ⟨B1_1, hB1⟩ : ∃ B, B = w.heap.size + 1 := ⟨_, rfl⟩
  obtain ⟨B1_0, hB0⟩ : ∃ B, B = w.heap.size := ⟨_, rfl⟩
  obtain ⟨W1, hW⟩ : ∃ W, W = ((w.alloc (.cells #[.bool v, .bool r, .bool x1, .bool x, .bool u, .bool g, .bool a, .bool d, .int .i64 rsw, .int .u64 (ppn : Int)] 24)).alloc (.cells #[.bool us, .bool sm, .bool mx] 27)) := ⟨_, rfl⟩
  rw [← hW] at nl nb0 nb1
  rw [← hB1] at nb1
  rw [← hB0] at nb0
  rw [← hW]
  try rw [← hB1]
  try rw [← hB0]
  have K1_0 := Lib.hid nb0
  have G1_0 : Hid (w.heap.size ≤ B1_0) := Lib.hid (by have := (Nat.le_refl w.heap.size); omega)
  have K1_1 := Lib.hid nb1
  have G1_1 : Hid (w.heap.size ≤ B1_1) := Lib.hid (by have := (Nat.le_refl w.heap.size); omega)
  have y1_0_1 : B1_0 ≠ B1_1 := by omega
  have Y1_0_1 := Lib.hid y1_0_1; clear y1_0_1
  have L1 := Lib.hid nl
  clear nl hW nb0 hB0 nb1 hB1
  refine (first_any _).mono ?_
  rintro e w2 ⟨rfl, hb⟩
  have L2 := Lib.hid (L1.out.trans (hb.mono L1.out.size))
  have K2_0 := Lib.hid (K1_0.out.below hb K1_0.out.lt)
  have K2_1 := Lib.hid (K1_1.out.below hb K1_1.out.lt)
  clear hb K1_0 K1_1
  go_wp2
  refine wp_region_held_drew (S := fun w' => Blk w' B1_0 [.bool v, .bool r, .bool x1, .bool x, .bool u, .bool g, .bool a, .bool d, .int .i64 rsw, .int .u64 (ppn : Int)] 24 ∧ Blk w' B1_1 [.bool us, .bool sm, .bool mx] 27) (by kernel_rfl) ⟨K2_0.out, K2_1.out⟩ (fun hHeld => ?_)
  simp only [List.size_toArray, List.length_cons, List.length_nil, Nat.reduceAdd]
  rw [show Array.replicate 10 false = [false, false, false, false, false, false, false, false, false, false].toArray from rfl]
  refine wpAnyH_take (i := 0) (v := _) rfl (by kernel_rfl) (by kernel_rfl) (by kernel_rfl) (fun _ _ _ h => h) (Or.inl ⟨by rfl, fun w hSw => yield_ent _ _ _ rfl rfl hSw.1⟩) (by assumption) ?_
  try simp only [Act.put, List.setIfInBounds_toArray, List.set_cons_zero, List.set_cons_succ, List.getElem_toArray, List.getElem_cons_succ, List.getElem_cons_zero]
  refine wpAnyH_take (i := 2) (v := _) rfl (by kernel_rfl) (by kernel_rfl) (by kernel_rfl) (fun _ _ _ h => h) (Or.inl ⟨by rfl, fun w hSw => yield_mode _ _ _ rfl rfl hSw.2⟩) (by assumption) ?_
  try simp only [Act.put, List.setIfInBounds_toArray, List.set_cons_zero, List.set_cons_succ, List.getElem_toArray, List.getElem_cons_succ, List.getElem_cons_zero]
  refine wpAnyH_take (i := 4) (v := _) rfl (by kernel_rfl) (by kernel_rfl) (by kernel_rfl) (fun _ _ _ h => h) (Or.inl ⟨by rfl, fun w hSw => yield_ent _ _ _ rfl rfl hSw.1⟩) (by assumption) ?_
  try simp only [Act.put, List.setIfInBounds_toArray, List.set_cons_zero, List.set_cons_succ, List.getElem_toArray, List.getElem_cons_succ, List.getElem_cons_zero]
  refine wpAnyH_take (i := 6) (v := _) rfl (by kernel_rfl) (by kernel_rfl) (by kernel_rfl) (fun _ _ _ h => h) (Or.inl ⟨by rfl, fun w hSw => yield_mode _ _ _ rfl rfl hSw.2⟩) (by assumption) ?_
  try simp only [Act.put, List.setIfInBounds_toArray, List.set_cons_zero, List.set_cons_succ, List.getElem_toArray, List.getElem_cons_succ, List.getElem_cons_zero]
  refine wpAnyH_take (i := 1) (v := ?_) rfl (by kernel_rfl) (by kernel_rfl) (by kernel_rfl) (fun _ _ _ h => h) (Or.inl ⟨by rfl, ?yldq⟩) (by assumption) ?_
  case yldq => (intro w hSw; (try dsimp only at hSw); go_simp; try with_reducible rfl)
  try simp only [Act.put, List.setIfInBounds_toArray, List.set_cons_zero, List.set_cons_succ, List.getElem_toArray, List.getElem_cons_succ, List.getElem_cons_zero]
  refine wpAnyH_take (i := 5) (v := ?_) rfl (by kernel_rfl) (by kernel_rfl) (by kernel_rfl) (fun _ _ _ h => h) (Or.inl ⟨by rfl, ?yldq⟩) (by assumption) ?_
  case yldq => (intro w hSw; (try dsimp only at hSw); go_simp; try with_reducible rfl)
  try simp only [Act.put, List.setIfInBounds_toArray, List.set_cons_zero, List.set_cons_succ, List.getElem_toArray, List.getElem_cons_succ, List.getElem_cons_zero]
  refine wpAnyH_ready (rs := [3]) (by kernel_rfl) (by simp) ?_
  refine AllReadyH.cons rfl (fun K hK => ?_) AllReadyH.nil
  go_simp
  refine (H1.out _).mono ?_
  rintro e w3 ⟨rfl, hb⟩
  have L3 := Lib.hid ((L2.out.drew).trans (hb.mono L2.out.size))
  have K3_0 := Lib.hid ((Blk.drewN K2_0.out 1).below hb K2_0.out.lt)
  have K3_1 := Lib.hid ((Blk.drewN K2_1.out 1).below hb K2_1.out.lt)
  clear hb K2_0 K2_1
  refine hK.out _ _ ⟨K3_0.out, K3_1.out⟩ (fun hS3 => ?_)
  clear hK K
  refine wpAnyH_ready (rs := [7]) (by kernel_rfl) (by simp) ?_
  refine AllReadyH.cons rfl (fun K hK => ?_) AllReadyH.nil
  go_simp
  refine (H2.out _).mono ?_
  rintro e w4 ⟨rfl, hb⟩
  have L4 := Lib.hid (L3.out.trans (hb.mono L3.out.size))
  have K4_0 := Lib.hid (K3_0.out.below hb K3_0.out.lt)
  have K4_1 := Lib.hid (K3_1.out.below hb K3_1.out.lt)
  clear hb K3_0 K3_1
  refine hK.out _ _ ⟨K4_0.out, K4_1.out⟩ (fun hS7 => ?_)
  clear hK K
  refine wpAnyH_take (i := 8) (v := ?_) rfl (by kernel_rfl) (by kernel_rfl) (by kernel_rfl) (fun _ _ _ h => h) (Or.inl ⟨by rfl, ?yldq⟩) (by assumption) ?_
  case yldq => (intro w hSw; (try dsimp only at hSw); go_simp; try with_reducible rfl)
  try simp only [Act.put, List.setIfInBounds_toArray, List.set_cons_zero, List.set_cons_succ, List.getElem_toArray, List.getElem_cons_succ, List.getElem_cons_zero]
  refine wpAnyH_take (i := 9) (v := ?_) rfl (by kernel_rfl) (by kernel_rfl) (by kernel_rfl) (fun _ _ _ h => h) (Or.inl ⟨by rfl, ?yldq⟩) (by assumption) ?_
  case yldq => (intro w hSw; (try dsimp only at hSw); go_simp; try with_reducible rfl)
  try simp only [Act.put, List.setIfInBounds_toArray, List.set_cons_zero, List.set_cons_succ, List.getElem_toArray, List.getElem_cons_succ, List.getElem_cons_zero]
  refine wpAnyH_done (by kernel_rfl) ?_ _
  go_wp2
  go_ret
  exact ⟨rfl, L4.out⟩
set_option maxHeartbeats 4000000 in
theorem causes_walk (k : Int) (w : World) : Calls Try.prog 4 #[.int .i64 k] w fun e w' => e = .returned (.bool true) ∧ Below w.heap.size w w' := by
  have h1 := fun w => page_any k w
  have h2 := fun w => bound_any k w
  have h3 := fun w => align_any k w
  have r1 := fun g w => cause_any k g 0 12 13 15 w
  have r2 := fun g w => cause_any k g 0 1 5 7 w
  have r3 := fun g w => cause_any k g 0 0 4 6 w
  generalize cau k 12 13 15 = C1 at h1 r1
  generalize cau k 1 5 7 = C2 at h2 r2
  generalize cau k 0 4 6 = C3 at h3 r3
  have H1 := Lib.hid h1; have H2 := Lib.hid h2; have H3 := Lib.hid h3; have R1 := Lib.hid r1; have R2 := Lib.hid r2; have R3 := Lib.hid r3; clear h1 h2 h3 r1 r2 r3
  go_enter Try.func4, Try.ntmps4
  go_wp2_with fail
  refine (first_any _).mono ?_
  rintro e w1 ⟨rfl, hb⟩
  have L1 := Lib.hid ((Below.refl w.heap.size w).trans (hb.mono (Nat.le_refl w.heap.size)))
  clear hb
  go_wp2_with fail
  refine (H1.out _).mono ?_
  rintro e wx ⟨rfl, rfl⟩
  go_wp2_with fail
  have nb0 : Blk (w1.alloc (.cells #[.int .i64 12, .int .i64 13, .int .i64 15] 3)) (w1.heap.size) [.int .i64 12, .int .i64 13, .int .i64 15] 3 := Blk.new w1 [.int .i64 12, .int .i64 13, .int .i64 15] 3
  have nl0 := L1.out.alloc L1.out.size (.cells #[.int .i64 12, .int .i64 13, .int .i64 15] 3)
  have nl : Below w.heap.size w (w1.alloc (.cells #[.int .i64 12, .int .i64 13, .int .i64 15] 3)) := nl0; clear nl0
  obtain ⟨B2, hB0⟩ : ∃ B, B = w1.heap.size := ⟨_, rfl⟩
  obtain ⟨W2, hW⟩ : ∃ W, W = (w1.alloc (.cells #[.int .i64 12, .int .i64 13, .int .i64 15] 3)) := ⟨_, rfl⟩
  rw [← hW] at nl nb0
  rw [← hB0] at nb0
  rw [← hW]
  try rw [← hB0]
  have K2_0 := Lib.hid nb0
  have G2 : Hid (w.heap.size ≤ B2) := Lib.hid (by have := L1.out.size; omega)
  have L2 := Lib.hid nl
  clear nl hW nb0 hB0
  refine (R1.out _ _ K2_0.out).mono ?_
  rintro e wx ⟨rfl, rfl⟩
  go_wp2_with fail
  refine (H2.out _).mono ?_
  rintro e wx ⟨rfl, rfl⟩
  go_wp2_with fail
  have nb0 : Blk (W2.alloc (.cells #[.int .i64 1, .int .i64 5, .int .i64 7] 3)) (W2.heap.size) [.int .i64 1, .int .i64 5, .int .i64 7] 3 := Blk.new W2 [.int .i64 1, .int .i64 5, .int .i64 7] 3
  have nl0 := L2.out.alloc L2.out.size (.cells #[.int .i64 1, .int .i64 5, .int .i64 7] 3)
  have nl : Below w.heap.size w (W2.alloc (.cells #[.int .i64 1, .int .i64 5, .int .i64 7] 3)) := nl0; clear nl0
  have o0 : Blk (W2.alloc (.cells #[.int .i64 1, .int .i64 5, .int .i64 7] 3)) B2 [.int .i64 12, .int .i64 13, .int .i64 15] 3 := (K2_0.out.alloc (.cells #[.int .i64 1, .int .i64 5, .int .i64 7] 3))
  have d3_0 : B2 < W2.heap.size := K2_0.out.lt
  obtain ⟨B3, hB0⟩ : ∃ B, B = W2.heap.size := ⟨_, rfl⟩
  obtain ⟨W3, hW⟩ : ∃ W, W = (W2.alloc (.cells #[.int .i64 1, .int .i64 5, .int .i64 7] 3)) := ⟨_, rfl⟩
  rw [← hW] at nl nb0 o0
  rw [← hB0] at nb0
  rw [← hW]
  try rw [← hB0]
  have K3_0 := Lib.hid o0
  have K3_1 := Lib.hid nb0
  have G3 : Hid (w.heap.size ≤ B3) := Lib.hid (by have := L2.out.size; omega)
  have x3_0_0 : B2 ≠ B3 := by omega
  have X3_0_0 := Lib.hid x3_0_0; clear x3_0_0
  have L3 := Lib.hid nl
  clear nl hW nb0 hB0 o0 d3_0 K2_0
  refine (R2.out _ _ K3_1.out).mono ?_
  rintro e wx ⟨rfl, rfl⟩
  go_wp2_with fail
  refine (H3.out _).mono ?_
  rintro e wx ⟨rfl, rfl⟩
  go_wp2_with fail
  have nb0 : Blk (W3.alloc (.cells #[.int .i64 0, .int .i64 4, .int .i64 6] 3)) (W3.heap.size) [.int .i64 0, .int .i64 4, .int .i64 6] 3 := Blk.new W3 [.int .i64 0, .int .i64 4, .int .i64 6] 3
  have nl0 := L3.out.alloc L3.out.size (.cells #[.int .i64 0, .int .i64 4, .int .i64 6] 3)
  have nl : Below w.heap.size w (W3.alloc (.cells #[.int .i64 0, .int .i64 4, .int .i64 6] 3)) := nl0; clear nl0
  have o0 : Blk (W3.alloc (.cells #[.int .i64 0, .int .i64 4, .int .i64 6] 3)) B2 [.int .i64 12, .int .i64 13, .int .i64 15] 3 := (K3_0.out.alloc (.cells #[.int .i64 0, .int .i64 4, .int .i64 6] 3))
  have d4_0 : B2 < W3.heap.size := K3_0.out.lt
  have o1 : Blk (W3.alloc (.cells #[.int .i64 0, .int .i64 4, .int .i64 6] 3)) B3 [.int .i64 1, .int .i64 5, .int .i64 7] 3 := (K3_1.out.alloc (.cells #[.int .i64 0, .int .i64 4, .int .i64 6] 3))
  have d4_1 : B3 < W3.heap.size := K3_1.out.lt
  obtain ⟨B4, hB0⟩ : ∃ B, B = W3.heap.size := ⟨_, rfl⟩
  obtain ⟨W4, hW⟩ : ∃ W, W = (W3.alloc (.cells #[.int .i64 0, .int .i64 4, .int .i64 6] 3)) := ⟨_, rfl⟩
  rw [← hW] at nl nb0 o0 o1
  rw [← hB0] at nb0
  rw [← hW]
  try rw [← hB0]
  have K4_0 := Lib.hid o0
  have K4_1 := Lib.hid o1
  have K4_2 := Lib.hid nb0
  have G4 : Hid (w.heap.size ≤ B4) := Lib.hid (by have := L3.out.size; omega)
  have x4_0_0 : B2 ≠ B4 := by omega
  have x4_1_0 : B3 ≠ B4 := by omega
  have X4_0_0 := Lib.hid x4_0_0; clear x4_0_0
  have X4_1_0 := Lib.hid x4_1_0; clear x4_1_0
  have L4 := Lib.hid nl
  clear nl hW nb0 hB0 o0 d4_0 o1 d4_1 K3_0 K3_1
  refine (R3.out _ _ K4_2.out).mono ?_
  rintro e wx ⟨rfl, rfl⟩
  go_wp2
  go_ret
  exact ⟨rfl, L4.out⟩
theorem more_q (E : Ent) (k : Int) (M : Md) (h : chk E k M = true) : chk ⟨E.v, true, E.w, true, E.u, true, true, true, E.rsw, E.ppn⟩ k M = true := by
  simp only [chk, rch] at *
  split at h
  · simp_all
  split at h
  · simp_all
  split at h
  · simp_all
  · simp at h
theorem more_load (E : Ent) (M : Md) (h : chk E 2 M = true) : chk E 1 M = true := by
  obtain ⟨v, r, x1, x, u, g, a, d, rsw, ppn⟩ := E
  simp [chk, rch] at *
  cases v <;> cases r <;> cases x1 <;> cases x <;> cases a <;> simp_all
theorem more_n (E : Ent) (k : Int) (M : Md) (h : chk E k M = true) : chk E k ⟨M.user, true, true⟩ = true := by
  obtain ⟨v, r, x1, x, u, g, a, d, rsw, ppn⟩ := E
  obtain ⟨us, sm, mx⟩ := M
  simp only [chk, rch] at *
  split at h
  · simp_all
  split at h
  · cases us <;> simp_all
  split at h
  · cases us <;> cases x1 <;> cases r <;> simp_all
  · simp at h
theorem more_bad (k : Int) (M : Md) : chk ⟨false, true, true, true, true, false, true, true, 0, 0⟩ k M = false := by simp [chk]
set_option maxHeartbeats 4000000 in
theorem more_walk (E : Ent) (k : Int) (M : Md) (w : World) : Calls Try.prog 6 #[pv E, .int .i64 k, mv M] w fun e w' => e = .returned (.bool true) ∧ Below w.heap.size w w' := by
  have h1 := fun w => check_any E k M w
  have h2 := fun w => check_any ⟨E.v, true, E.w, true, E.u, true, true, true, E.rsw, E.ppn⟩ k M w
  have h3 := fun w => check_any E 1 M w
  have h4 := fun w => check_any E k ⟨M.user, true, true⟩ w
  have h5 := fun w => check_any ⟨false, true, true, true, true, false, true, true, 0, 0⟩ k M w
  rw [more_bad] at h5
  obtain ⟨c, hc⟩ : ∃ c, c = chk E k M := ⟨_, rfl⟩
  rw [← hc] at h1
  have q2 := more_q E k M
  have q3 := more_load E M
  have q4 := more_n E k M
  rw [← hc] at q2 q4
  have q3' : k = 2 → c = true → chk E 1 M = true := fun h h' => by subst h; exact q3 (hc ▸ h')
  clear q3 hc
  generalize chk ⟨E.v, true, E.w, true, E.u, true, true, true, E.rsw, E.ppn⟩ k M = c2 at h2 q2
  generalize chk E 1 M = c3 at h3 q3'
  generalize chk E k ⟨M.user, true, true⟩ = c4 at h4 q4
  obtain ⟨v, r, x1, x, u, g, a, d, rsw, ppn⟩ := E
  obtain ⟨us, sm, mx⟩ := M
  unfold pv mv at *
  dsimp only at *
  have H1 := Lib.hid h1; have H2 := Lib.hid h2; have H3 := Lib.hid h3; have H4 := Lib.hid h4; have H5 := Lib.hid h5; clear h1 h2 h3 h4 h5
  have Q2 := Lib.hid q2; have Q3 := Lib.hid q3'; have Q4 := Lib.hid q4; clear q2 q3' q4
  go_enter Try.func6, Try.ntmps6
  go_wp2_with fail
  have nb0 : Blk (w.alloc (.cells #[.bool v, .bool r, .bool x1, .bool x, .bool u, .bool g, .bool a, .bool d, .int .i64 rsw, .int .u64 (ppn : Int)] 24)) (w.heap.size) [.bool v, .bool r, .bool x1, .bool x, .bool u, .bool g, .bool a, .bool d, .int .i64 rsw, .int .u64 (ppn : Int)] 24 := Blk.new w [.bool v, .bool r, .bool x1, .bool x, .bool u, .bool g, .bool a, .bool d, .int .i64 rsw, .int .u64 (ppn : Int)] 24
  replace nb0 := nb0.alloc (.cells #[.bool us, .bool sm, .bool mx] 27)
  have nb1 : Blk ((w.alloc (.cells #[.bool v, .bool r, .bool x1, .bool x, .bool u, .bool g, .bool a, .bool d, .int .i64 rsw, .int .u64 (ppn : Int)] 24)).alloc (.cells #[.bool us, .bool sm, .bool mx] 27)) (w.heap.size + 1) [.bool us, .bool sm, .bool mx] 27 := Blk.nextn (w.alloc (.cells #[.bool v, .bool r, .bool x1, .bool x, .bool u, .bool g, .bool a, .bool d, .int .i64 rsw, .int .u64 (ppn : Int)] 24)) (w.heap.size + 1) [.bool us, .bool sm, .bool mx] 27 (by simp)
  have nl0 := (Below.refl w.heap.size w).alloc (Nat.le_refl w.heap.size) (.cells #[.bool v, .bool r, .bool x1, .bool x, .bool u, .bool g, .bool a, .bool d, .int .i64 rsw, .int .u64 (ppn : Int)] 24)
  have nl1 := nl0.alloc nl0.size (.cells #[.bool us, .bool sm, .bool mx] 27)
  have nl : Below w.heap.size w ((w.alloc (.cells #[.bool v, .bool r, .bool x1, .bool x, .bool u, .bool g, .bool a, .bool d, .int .i64 rsw, .int .u64 (ppn : Int)] 24)).alloc (.cells #[.bool us, .bool sm, .bool mx] 27)) := nl1; clear nl0 nl1
  obtain ⟨B1_1, hB1⟩ : ∃ B, B = w.heap.size + 1 := ⟨_, rfl⟩
  obtain ⟨B1_0, hB0⟩ : ∃ B, B = w.heap.size := ⟨_, rfl⟩
  obtain ⟨W1, hW⟩ : ∃ W, W = ((w.alloc (.cells #[.bool v, .bool r, .bool x1, .bool x, .bool u, .bool g, .bool a, .bool d, .int .i64 rsw, .int .u64 (ppn : Int)] 24)).alloc (.cells #[.bool us, .bool sm, .bool mx] 27)) := ⟨_, rfl⟩
  rw [← hW] at nl nb0 nb1
  rw [← hB1] at nb1
  rw [← hB0] at nb0
  rw [← hW]
  try rw [← hB1]
  try rw [← hB0]
  have K1_0 := Lib.hid nb0
  have G1_0 : Hid (w.heap.size ≤ B1_0) := Lib.hid (by have := (Nat.le_refl w.heap.size); omega)
  have K1_1 := Lib.hid nb1
  have G1_1 : Hid (w.heap.size ≤ B1_1) := Lib.hid (by have := (Nat.le_refl w.heap.size); omega)
  have y1_0_1 : B1_0 ≠ B1_1 := by omega
  have Y1_0_1 := Lib.hid y1_0_1; clear y1_0_1
  have L1 := Lib.hid nl
  clear nl hW nb0 hB0 nb1 hB1
  refine (first_any _).mono ?_
  rintro e w2 ⟨rfl, hb⟩
  have L2 := Lib.hid (L1.out.trans (hb.mono L1.out.size))
  have K2_0 := Lib.hid (K1_0.out.below hb K1_0.out.lt)
  have K2_1 := Lib.hid (K1_1.out.below hb K1_1.out.lt)
  clear hb K1_0 K1_1
  have m0_0 : w2.cell? ⟨B1_0, 0, none⟩ = some _ := K2_0.out.cell 0
  have m0_1 : w2.cell? ⟨B1_0, 1, none⟩ = some _ := K2_0.out.cell 1
  have m0_2 : w2.cell? ⟨B1_0, 2, none⟩ = some _ := K2_0.out.cell 2
  have m0_3 : w2.cell? ⟨B1_0, 3, none⟩ = some _ := K2_0.out.cell 3
  have m0_4 : w2.cell? ⟨B1_0, 4, none⟩ = some _ := K2_0.out.cell 4
  have m0_5 : w2.cell? ⟨B1_0, 5, none⟩ = some _ := K2_0.out.cell 5
  have m0_6 : w2.cell? ⟨B1_0, 6, none⟩ = some _ := K2_0.out.cell 6
  have m0_7 : w2.cell? ⟨B1_0, 7, none⟩ = some _ := K2_0.out.cell 7
  have m0_8 : w2.cell? ⟨B1_0, 8, none⟩ = some _ := K2_0.out.cell 8
  have m0_9 : w2.cell? ⟨B1_0, 9, none⟩ = some _ := K2_0.out.cell 9
  have mlt0 : B1_0 < w2.heap.size := K2_0.out.lt
  have m1_0 : w2.cell? ⟨B1_1, 0, none⟩ = some _ := K2_1.out.cell 0
  have m1_1 : w2.cell? ⟨B1_1, 1, none⟩ = some _ := K2_1.out.cell 1
  have m1_2 : w2.cell? ⟨B1_1, 2, none⟩ = some _ := K2_1.out.cell 2
  have mlt1 : B1_1 < w2.heap.size := K2_1.out.lt
  go_wp2_with fail
  clear m0_0 m0_1 m0_2 m0_3 m0_4 m0_5 m0_6 m0_7 m0_8 m0_9 mlt0 m1_0 m1_1 m1_2 mlt1
  refine (H1.out _).mono ?_
  rintro e w3 ⟨rfl, hb⟩
  have L3 := Lib.hid (L2.out.trans (hb.mono L2.out.size))
  have K3_0 := Lib.hid (K2_0.out.below hb K2_0.out.lt)
  have K3_1 := Lib.hid (K2_1.out.below hb K2_1.out.lt)
  clear hb K2_0 K2_1
  cases c
  · go_wp2
    go_ret
    exact ⟨rfl, L3.out⟩
  obtain rfl := Q2.out rfl
  obtain rfl := Q4.out rfl
  have m0_0 : w3.cell? ⟨B1_0, 0, none⟩ = some _ := K3_0.out.cell 0
  have m0_1 : w3.cell? ⟨B1_0, 1, none⟩ = some _ := K3_0.out.cell 1
  have m0_2 : w3.cell? ⟨B1_0, 2, none⟩ = some _ := K3_0.out.cell 2
  have m0_3 : w3.cell? ⟨B1_0, 3, none⟩ = some _ := K3_0.out.cell 3
  have m0_4 : w3.cell? ⟨B1_0, 4, none⟩ = some _ := K3_0.out.cell 4
  have m0_5 : w3.cell? ⟨B1_0, 5, none⟩ = some _ := K3_0.out.cell 5
  have m0_6 : w3.cell? ⟨B1_0, 6, none⟩ = some _ := K3_0.out.cell 6
  have m0_7 : w3.cell? ⟨B1_0, 7, none⟩ = some _ := K3_0.out.cell 7
  have m0_8 : w3.cell? ⟨B1_0, 8, none⟩ = some _ := K3_0.out.cell 8
  have m0_9 : w3.cell? ⟨B1_0, 9, none⟩ = some _ := K3_0.out.cell 9
  have mlt0 : B1_0 < w3.heap.size := K3_0.out.lt
  have m1_0 : w3.cell? ⟨B1_1, 0, none⟩ = some _ := K3_1.out.cell 0
  have m1_1 : w3.cell? ⟨B1_1, 1, none⟩ = some _ := K3_1.out.cell 1
  have m1_2 : w3.cell? ⟨B1_1, 2, none⟩ = some _ := K3_1.out.cell 2
  have mlt1 : B1_1 < w3.heap.size := K3_1.out.lt
  go_wp2_with fail
  clear m0_0 m0_1 m0_2 m0_3 m0_4 m0_5 m0_6 m0_7 m0_8 m0_9 mlt0 m1_0 m1_1 m1_2 mlt1
  have nb0 : Blk (w3.alloc (.cells #[.bool v, .bool true, .bool x1, .bool true, .bool u, .bool true, .bool true, .bool true, .int .i64 rsw, .int .u64 (ppn : Int)] 24)) (w3.heap.size) [.bool v, .bool true, .bool x1, .bool true, .bool u, .bool true, .bool true, .bool true, .int .i64 rsw, .int .u64 (ppn : Int)] 24 := Blk.new w3 [.bool v, .bool true, .bool x1, .bool true, .bool u, .bool true, .bool true, .bool true, .int .i64 rsw, .int .u64 (ppn : Int)] 24
  have nl0 := L3.out.alloc L3.out.size (.cells #[.bool v, .bool true, .bool x1, .bool true, .bool u, .bool true, .bool true, .bool true, .int .i64 rsw, .int .u64 (ppn : Int)] 24)
  have nl : Below w.heap.size w (w3.alloc (.cells #[.bool v, .bool true, .bool x1, .bool true, .bool u, .bool true, .bool true, .bool true, .int .i64 rsw, .int .u64 (ppn : Int)] 24)) := nl0; clear nl0
  have o0 : Blk (w3.alloc (.cells #[.bool v, .bool true, .bool x1, .bool true, .bool u, .bool true, .bool true, .bool true, .int .i64 rsw, .int .u64 (ppn : Int)] 24)) B1_0 [.bool v, .bool r, .bool x1, .bool x, .bool u, .bool g, .bool a, .bool d, .int .i64 rsw, .int .u64 (ppn : Int)] 24 := (K3_0.out.alloc (.cells #[.bool v, .bool true, .bool x1, .bool true, .bool u, .bool true, .bool true, .bool true, .int .i64 rsw, .int .u64 (ppn : Int)] 24))
  have d4_0 : B1_0 < w3.heap.size := K3_0.out.lt
  have o1 : Blk (w3.alloc (.cells #[.bool v, .bool true, .bool x1, .bool true, .bool u, .bool true, .bool true, .bool true, .int .i64 rsw, .int .u64 (ppn : Int)] 24)) B1_1 [.bool us, .bool sm, .bool mx] 27 := (K3_1.out.alloc (.cells #[.bool v, .bool true, .bool x1, .bool true, .bool u, .bool true, .bool true, .bool true, .int .i64 rsw, .int .u64 (ppn : Int)] 24))
  have d4_1 : B1_1 < w3.heap.size := K3_1.out.lt
  obtain ⟨B4, hB0⟩ : ∃ B, B = w3.heap.size := ⟨_, rfl⟩
  obtain ⟨W4, hW⟩ : ∃ W, W = (w3.alloc (.cells #[.bool v, .bool true, .bool x1, .bool true, .bool u, .bool true, .bool true, .bool true, .int .i64 rsw, .int .u64 (ppn : Int)] 24)) := ⟨_, rfl⟩
  rw [← hW] at nl nb0 o0 o1
  rw [← hB0] at nb0
  rw [← hW]
  try rw [← hB0]
  have K4_0 := Lib.hid o0
  have K4_1 := Lib.hid o1
  have K4_2 := Lib.hid nb0
  have G4 : Hid (w.heap.size ≤ B4) := Lib.hid (by have := L3.out.size; omega)
  have x4_0_0 : B1_0 ≠ B4 := by omega
  have x4_1_0 : B1_1 ≠ B4 := by omega
  have X4_0_0 := Lib.hid x4_0_0; clear x4_0_0
  have X4_1_0 := Lib.hid x4_1_0; clear x4_1_0
  have L4 := Lib.hid nl
  clear nl hW nb0 hB0 o0 d4_0 o1 d4_1 K3_0 K3_1
  refine (H2.out _).mono ?_
  rintro e w5 ⟨rfl, hb⟩
  have L5 := Lib.hid (L4.out.trans (hb.mono L4.out.size))
  have K5_0 := Lib.hid (K4_0.out.below hb K4_0.out.lt)
  have K5_1 := Lib.hid (K4_1.out.below hb K4_1.out.lt)
  have K5_2 := Lib.hid (K4_2.out.below hb K4_2.out.lt)
  clear hb K4_0 K4_1 K4_2
  by_cases hk : k = 2
  · subst hk
    obtain rfl := Q3.out rfl (by trivial)
    have m0_0 : w5.cell? ⟨B1_0, 0, none⟩ = some _ := K5_0.out.cell 0
    have m0_1 : w5.cell? ⟨B1_0, 1, none⟩ = some _ := K5_0.out.cell 1
    have m0_2 : w5.cell? ⟨B1_0, 2, none⟩ = some _ := K5_0.out.cell 2
    have m0_3 : w5.cell? ⟨B1_0, 3, none⟩ = some _ := K5_0.out.cell 3
    have m0_4 : w5.cell? ⟨B1_0, 4, none⟩ = some _ := K5_0.out.cell 4
    have m0_5 : w5.cell? ⟨B1_0, 5, none⟩ = some _ := K5_0.out.cell 5
    have m0_6 : w5.cell? ⟨B1_0, 6, none⟩ = some _ := K5_0.out.cell 6
    have m0_7 : w5.cell? ⟨B1_0, 7, none⟩ = some _ := K5_0.out.cell 7
    have m0_8 : w5.cell? ⟨B1_0, 8, none⟩ = some _ := K5_0.out.cell 8
    have m0_9 : w5.cell? ⟨B1_0, 9, none⟩ = some _ := K5_0.out.cell 9
    have mlt0 : B1_0 < w5.heap.size := K5_0.out.lt
    have m1_0 : w5.cell? ⟨B1_1, 0, none⟩ = some _ := K5_1.out.cell 0
    have m1_1 : w5.cell? ⟨B1_1, 1, none⟩ = some _ := K5_1.out.cell 1
    have m1_2 : w5.cell? ⟨B1_1, 2, none⟩ = some _ := K5_1.out.cell 2
    have mlt1 : B1_1 < w5.heap.size := K5_1.out.lt
    go_wp2_with fail
    clear m0_0 m0_1 m0_2 m0_3 m0_4 m0_5 m0_6 m0_7 m0_8 m0_9 mlt0 m1_0 m1_1 m1_2 mlt1
    refine (H3.out _).mono ?_
    rintro e w6 ⟨rfl, hb⟩
    have L6 := Lib.hid (L5.out.trans (hb.mono L5.out.size))
    have K6_0 := Lib.hid (K5_0.out.below hb K5_0.out.lt)
    have K6_1 := Lib.hid (K5_1.out.below hb K5_1.out.lt)
    have K6_2 := Lib.hid (K5_2.out.below hb K5_2.out.lt)
    clear hb K5_0 K5_1 K5_2
    have m0_0 : w6.cell? ⟨B1_0, 0, none⟩ = some _ := K6_0.out.cell 0
    have m0_1 : w6.cell? ⟨B1_0, 1, none⟩ = some _ := K6_0.out.cell 1
    have m0_2 : w6.cell? ⟨B1_0, 2, none⟩ = some _ := K6_0.out.cell 2
    have m0_3 : w6.cell? ⟨B1_0, 3, none⟩ = some _ := K6_0.out.cell 3
    have m0_4 : w6.cell? ⟨B1_0, 4, none⟩ = some _ := K6_0.out.cell 4
    have m0_5 : w6.cell? ⟨B1_0, 5, none⟩ = some _ := K6_0.out.cell 5
    have m0_6 : w6.cell? ⟨B1_0, 6, none⟩ = some _ := K6_0.out.cell 6
    have m0_7 : w6.cell? ⟨B1_0, 7, none⟩ = some _ := K6_0.out.cell 7
    have m0_8 : w6.cell? ⟨B1_0, 8, none⟩ = some _ := K6_0.out.cell 8
    have m0_9 : w6.cell? ⟨B1_0, 9, none⟩ = some _ := K6_0.out.cell 9
    have mlt0 : B1_0 < w6.heap.size := K6_0.out.lt
    have m1_0 : w6.cell? ⟨B1_1, 0, none⟩ = some _ := K6_1.out.cell 0
    have m1_1 : w6.cell? ⟨B1_1, 1, none⟩ = some _ := K6_1.out.cell 1
    have m1_2 : w6.cell? ⟨B1_1, 2, none⟩ = some _ := K6_1.out.cell 2
    have mlt1 : B1_1 < w6.heap.size := K6_1.out.lt
    go_wp2_with fail
    clear m0_0 m0_1 m0_2 m0_3 m0_4 m0_5 m0_6 m0_7 m0_8 m0_9 mlt0 m1_0 m1_1 m1_2 mlt1
    have nb0 : Blk (w6.alloc (.cells #[.bool us, .bool true, .bool true] 27)) (w6.heap.size) [.bool us, .bool true, .bool true] 27 := Blk.new w6 [.bool us, .bool true, .bool true] 27
    have nl0 := L6.out.alloc L6.out.size (.cells #[.bool us, .bool true, .bool true] 27)
    have nl : Below w.heap.size w (w6.alloc (.cells #[.bool us, .bool true, .bool true] 27)) := nl0; clear nl0
    have o0 : Blk (w6.alloc (.cells #[.bool us, .bool true, .bool true] 27)) B1_0 [.bool v, .bool r, .bool x1, .bool x, .bool u, .bool g, .bool a, .bool d, .int .i64 rsw, .int .u64 (ppn : Int)] 24 := (K6_0.out.alloc (.cells #[.bool us, .bool true, .bool true] 27))
    have d7_0 : B1_0 < w6.heap.size := K6_0.out.lt
    have o1 : Blk (w6.alloc (.cells #[.bool us, .bool true, .bool true] 27)) B1_1 [.bool us, .bool sm, .bool mx] 27 := (K6_1.out.alloc (.cells #[.bool us, .bool true, .bool true] 27))
    have d7_1 : B1_1 < w6.heap.size := K6_1.out.lt
    have o2 : Blk (w6.alloc (.cells #[.bool us, .bool true, .bool true] 27)) B4 [.bool v, .bool true, .bool x1, .bool true, .bool u, .bool true, .bool true, .bool true, .int .i64 rsw, .int .u64 (ppn : Int)] 24 := (K6_2.out.alloc (.cells #[.bool us, .bool true, .bool true] 27))
    have d7_2 : B4 < w6.heap.size := K6_2.out.lt
    obtain ⟨B7, hB0⟩ : ∃ B, B = w6.heap.size := ⟨_, rfl⟩
    obtain ⟨W7, hW⟩ : ∃ W, W = (w6.alloc (.cells #[.bool us, .bool true, .bool true] 27)) := ⟨_, rfl⟩
    rw [← hW] at nl nb0 o0 o1 o2
    rw [← hB0] at nb0
    rw [← hW]
    try rw [← hB0]
    have K7_0 := Lib.hid o0
    have K7_1 := Lib.hid o1
    have K7_2 := Lib.hid o2
    have K7_3 := Lib.hid nb0
    have G7 : Hid (w.heap.size ≤ B7) := Lib.hid (by have := L6.out.size; omega)
    have x7_0_0 : B1_0 ≠ B7 := by omega
    have x7_1_0 : B1_1 ≠ B7 := by omega
    have x7_2_0 : B4 ≠ B7 := by omega
    have X7_0_0 := Lib.hid x7_0_0; clear x7_0_0
    have X7_1_0 := Lib.hid x7_1_0; clear x7_1_0
    have X7_2_0 := Lib.hid x7_2_0; clear x7_2_0
    have L7 := Lib.hid nl
    clear nl hW nb0 hB0 o0 d7_0 o1 d7_1 o2 d7_2 K6_0 K6_1 K6_2
    refine (H4.out _).mono ?_
    rintro e w8 ⟨rfl, hb⟩
    have L8 := Lib.hid (L7.out.trans (hb.mono L7.out.size))
    have K8_0 := Lib.hid (K7_0.out.below hb K7_0.out.lt)
    have K8_1 := Lib.hid (K7_1.out.below hb K7_1.out.lt)
    have K8_2 := Lib.hid (K7_2.out.below hb K7_2.out.lt)
    have K8_3 := Lib.hid (K7_3.out.below hb K7_3.out.lt)
    clear hb K7_0 K7_1 K7_2 K7_3
    have m1_0 : w8.cell? ⟨B1_1, 0, none⟩ = some _ := K8_1.out.cell 0
    have m1_1 : w8.cell? ⟨B1_1, 1, none⟩ = some _ := K8_1.out.cell 1
    have m1_2 : w8.cell? ⟨B1_1, 2, none⟩ = some _ := K8_1.out.cell 2
    have mlt1 : B1_1 < w8.heap.size := K8_1.out.lt
    go_wp2_with fail
    clear m1_0 m1_1 m1_2 mlt1
    refine (H5.out _).mono ?_
    rintro e w9 ⟨rfl, hb⟩
    have L9 := Lib.hid (L8.out.trans (hb.mono L8.out.size))
    have K9_0 := Lib.hid (K8_0.out.below hb K8_0.out.lt)
    have K9_1 := Lib.hid (K8_1.out.below hb K8_1.out.lt)
    have K9_2 := Lib.hid (K8_2.out.below hb K8_2.out.lt)
    have K9_3 := Lib.hid (K8_3.out.below hb K8_3.out.lt)
    clear hb K8_0 K8_1 K8_2 K8_3
    go_wp2
    go_ret
    exact ⟨rfl, L9.out⟩
  · have hk2 : (k == 2) = false := by simp [hk]
    clear hk
    have m0_0 : w5.cell? ⟨B1_0, 0, none⟩ = some _ := K5_0.out.cell 0
    have m0_1 : w5.cell? ⟨B1_0, 1, none⟩ = some _ := K5_0.out.cell 1
    have m0_2 : w5.cell? ⟨B1_0, 2, none⟩ = some _ := K5_0.out.cell 2
    have m0_3 : w5.cell? ⟨B1_0, 3, none⟩ = some _ := K5_0.out.cell 3
    have m0_4 : w5.cell? ⟨B1_0, 4, none⟩ = some _ := K5_0.out.cell 4
    have m0_5 : w5.cell? ⟨B1_0, 5, none⟩ = some _ := K5_0.out.cell 5
    have m0_6 : w5.cell? ⟨B1_0, 6, none⟩ = some _ := K5_0.out.cell 6
    have m0_7 : w5.cell? ⟨B1_0, 7, none⟩ = some _ := K5_0.out.cell 7
    have m0_8 : w5.cell? ⟨B1_0, 8, none⟩ = some _ := K5_0.out.cell 8
    have m0_9 : w5.cell? ⟨B1_0, 9, none⟩ = some _ := K5_0.out.cell 9
    have mlt0 : B1_0 < w5.heap.size := K5_0.out.lt
    have m1_0 : w5.cell? ⟨B1_1, 0, none⟩ = some _ := K5_1.out.cell 0
    have m1_1 : w5.cell? ⟨B1_1, 1, none⟩ = some _ := K5_1.out.cell 1
    have m1_2 : w5.cell? ⟨B1_1, 2, none⟩ = some _ := K5_1.out.cell 2
    have mlt1 : B1_1 < w5.heap.size := K5_1.out.lt
    go_wp2_with fail
    clear m0_0 m0_1 m0_2 m0_3 m0_4 m0_5 m0_6 m0_7 m0_8 m0_9 mlt0 m1_0 m1_1 m1_2 mlt1
    have nb0 : Blk (w5.alloc (.cells #[.bool us, .bool true, .bool true] 27)) (w5.heap.size) [.bool us, .bool true, .bool true] 27 := Blk.new w5 [.bool us, .bool true, .bool true] 27
    have nl0 := L5.out.alloc L5.out.size (.cells #[.bool us, .bool true, .bool true] 27)
    have nl : Below w.heap.size w (w5.alloc (.cells #[.bool us, .bool true, .bool true] 27)) := nl0; clear nl0
    have o0 : Blk (w5.alloc (.cells #[.bool us, .bool true, .bool true] 27)) B1_0 [.bool v, .bool r, .bool x1, .bool x, .bool u, .bool g, .bool a, .bool d, .int .i64 rsw, .int .u64 (ppn : Int)] 24 := (K5_0.out.alloc (.cells #[.bool us, .bool true, .bool true] 27))
    have d10_0 : B1_0 < w5.heap.size := K5_0.out.lt
    have o1 : Blk (w5.alloc (.cells #[.bool us, .bool true, .bool true] 27)) B1_1 [.bool us, .bool sm, .bool mx] 27 := (K5_1.out.alloc (.cells #[.bool us, .bool true, .bool true] 27))
    have d10_1 : B1_1 < w5.heap.size := K5_1.out.lt
    have o2 : Blk (w5.alloc (.cells #[.bool us, .bool true, .bool true] 27)) B4 [.bool v, .bool true, .bool x1, .bool true, .bool u, .bool true, .bool true, .bool true, .int .i64 rsw, .int .u64 (ppn : Int)] 24 := (K5_2.out.alloc (.cells #[.bool us, .bool true, .bool true] 27))
    have d10_2 : B4 < w5.heap.size := K5_2.out.lt
    obtain ⟨B10, hB0⟩ : ∃ B, B = w5.heap.size := ⟨_, rfl⟩
    obtain ⟨W10, hW⟩ : ∃ W, W = (w5.alloc (.cells #[.bool us, .bool true, .bool true] 27)) := ⟨_, rfl⟩
    rw [← hW] at nl nb0 o0 o1 o2
    rw [← hB0] at nb0
    rw [← hW]
    try rw [← hB0]
    have K10_0 := Lib.hid o0
    have K10_1 := Lib.hid o1
    have K10_2 := Lib.hid o2
    have K10_3 := Lib.hid nb0
    have G10 : Hid (w.heap.size ≤ B10) := Lib.hid (by have := L5.out.size; omega)
    have x10_0_0 : B1_0 ≠ B10 := by omega
    have x10_1_0 : B1_1 ≠ B10 := by omega
    have x10_2_0 : B4 ≠ B10 := by omega
    have X10_0_0 := Lib.hid x10_0_0; clear x10_0_0
    have X10_1_0 := Lib.hid x10_1_0; clear x10_1_0
    have X10_2_0 := Lib.hid x10_2_0; clear x10_2_0
    have L10 := Lib.hid nl
    clear nl hW nb0 hB0 o0 d10_0 o1 d10_1 o2 d10_2 K5_0 K5_1 K5_2
    refine (H4.out _).mono ?_
    rintro e w11 ⟨rfl, hb⟩
    have L11 := Lib.hid (L10.out.trans (hb.mono L10.out.size))
    have K11_0 := Lib.hid (K10_0.out.below hb K10_0.out.lt)
    have K11_1 := Lib.hid (K10_1.out.below hb K10_1.out.lt)
    have K11_2 := Lib.hid (K10_2.out.below hb K10_2.out.lt)
    have K11_3 := Lib.hid (K10_3.out.below hb K10_3.out.lt)
    clear hb K10_0 K10_1 K10_2 K10_3
    have m1_0 : w11.cell? ⟨B1_1, 0, none⟩ = some _ := K11_1.out.cell 0
    have m1_1 : w11.cell? ⟨B1_1, 1, none⟩ = some _ := K11_1.out.cell 1
    have m1_2 : w11.cell? ⟨B1_1, 2, none⟩ = some _ := K11_1.out.cell 2
    have mlt1 : B1_1 < w11.heap.size := K11_1.out.lt
    go_wp2_with fail
    clear m1_0 m1_1 m1_2 mlt1
    refine (H5.out _).mono ?_
    rintro e w12 ⟨rfl, hb⟩
    have L12 := Lib.hid (L11.out.trans (hb.mono L11.out.size))
    have K12_0 := Lib.hid (K11_0.out.below hb K11_0.out.lt)
    have K12_1 := Lib.hid (K11_1.out.below hb K11_1.out.lt)
    have K12_2 := Lib.hid (K11_2.out.below hb K11_2.out.lt)
    have K12_3 := Lib.hid (K11_3.out.below hb K11_3.out.lt)
    clear hb K11_0 K11_1 K11_2 K11_3
    go_wp2
    go_ret
    exact ⟨rfl, L12.out⟩
end Go.Proofs.Ytbdfibckbibhnaa
