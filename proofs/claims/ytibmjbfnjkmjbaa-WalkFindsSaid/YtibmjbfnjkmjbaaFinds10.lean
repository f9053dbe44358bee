/-
  The statement WalkFinds: its walk over the translation. No conditions but that the arguments are of their types.
-/
import Derived.Test.YtibmjbfnjkmjbaaLaw10
import Derived.Test.YtibmjbfnjkmjbaaRefW10
import Derived.Laws.StructEq
namespace Go.Proofs.Ytibmjbfnjkmjbaa
open Go.RowKit
set_option linter.unusedVariables false
set_option linter.unusedSimpArgs false
attribute [local go_sem] setCell_drewN alloc_drewN

theorem load_u64 {w : World} {b k : Nat} {c : Value} (h : w.cell? ⟨b, k, none⟩ = some c) : (Instr.loadAt 23 (.pointer (some ⟨b, k, none⟩))).run Try.prog w = .ok c w := by
  go_simp
theorem yield_u64 {w : World} {b k : Nat} {c : Value} (a : Act) (o : Oper) (x : Operand) (ho : o.op = .load 23 x) (hx : a.eval x = .pointer (some ⟨b, k, none⟩)) (h : w.cell? ⟨b, k, none⟩ = some c) :
    (execOp a.eval o).run Try.prog w = .ok (.value c) w := by
  have e := load_u64 h
  obtain ⟨op, _, _, _, _, _⟩ := o
  dsimp only at ho
  subst ho
  unfold execOp
  simp only [hx]
  simp [e]
theorem load_i64 {w : World} {b k : Nat} {c : Value} (h : w.cell? ⟨b, k, none⟩ = some c) : (Instr.loadAt 3 (.pointer (some ⟨b, k, none⟩))).run Try.prog w = .ok c w := by
  go_simp
theorem yield_i64 {w : World} {b k : Nat} {c : Value} (a : Act) (o : Oper) (x : Operand) (ho : o.op = .load 3 x) (hx : a.eval x = .pointer (some ⟨b, k, none⟩)) (h : w.cell? ⟨b, k, none⟩ = some c) :
    (execOp a.eval o).run Try.prog w = .ok (.value c) w := by
  have e := load_i64 h
  obtain ⟨op, _, _, _, _, _⟩ := o
  dsimp only at ho
  subst ho
  unfold execOp
  simp only [hx]
  simp [e]
set_option maxHeartbeats 8000000 in
theorem finds_walk (A : Option Addr) (len cap : Nat) (ws : List (Nat × Nat)) (S : Stp) (va : Nat) (w : World) (hW : IsWords w A len ws) (hl : len ≤ 9223372036854775807) (hs : S.ppn < 18446744073709551616) (hv : va < 18446744073709551616) :
    Calls Try.prog 3 #[.slice A len cap, sv S, .int .u64 va] w fun e w' => e = .returned (.bool true) ∧ Below w.heap.size w w' := by
  have h0 := fun w' (hb : Below w.heap.size w w') => laid_any 6 A len cap ws w' (by omega) (by omega) (hW.below hb) hl
  have h1 := fun mp n C F w hM => wfind_any mp 6 n va S C F w hM hv hs
  have h2 := fun rm vv C L w hM hA hw => rfind_any rm 6 va S vv C L w hM hA hw (by omega) hv hs
  have h3 := fun M => findW_lv (fr := 6) (M := M) (va := va) S
  obtain ⟨on, asid, ppn⟩ := S
  unfold sv at *
  dsimp only at *
  have H0 := Lib.hid h0; have H1 := Lib.hid h1; have H2 := Lib.hid h2; have H3 := Lib.hid h3; clear h0 h1 h2 h3 hW
  go_enter Try.func3, Try.ntmps3
  go_wp2_with fail
  have nb0 : Blk (w.alloc (.cells #[.bool on, .int .i64 asid, .int .u64 (ppn : Int)] 25)) (w.heap.size) [.bool on, .int .i64 asid, .int .u64 (ppn : Int)] 25 := Blk.new w [.bool on, .int .i64 asid, .int .u64 (ppn : Int)] 25
  have nls : Below w.heap.size w w := (Below.refl w.heap.size w)
  have nl0 := nls.alloc nls.size (.cells #[.bool on, .int .i64 asid, .int .u64 (ppn : Int)] 25)
  have nl : Below w.heap.size w (w.alloc (.cells #[.bool on, .int .i64 asid, .int .u64 (ppn : Int)] 25)) := nl0; clear nls nl0
  obtain ⟨B1, hB0⟩ : ∃ B, B = w.heap.size := ⟨_, rfl⟩
  obtain ⟨W1, hW⟩ : ∃ W, W = (w.alloc (.cells #[.bool on, .int .i64 asid, .int .u64 (ppn : Int)] 25)) := ⟨_, rfl⟩
  rw [← hW] at nl nb0
  rw [← hB0] at nb0
  rw [← hW]
  try rw [← hB0]
  have K1_0 := Lib.hid nb0
  have G1 : Hid (w.heap.size ≤ B1) := Lib.hid (by have := (Nat.le_refl w.heap.size); omega)
  have L1 := Lib.hid nl
  clear nl hW nb0 hB0
  refine (first_any _).mono ?_
  rintro e w2 ⟨rfl, hb⟩
  have L2 := Lib.hid (L1.out.trans (hb.mono L1.out.size))
  have K2_0 := Lib.hid (K1_0.out.below hb K1_0.out.lt)
  clear hb K1_0
  go_wp2_with fail
  refine (H0.out _ L2.out).mono ?_
  rintro e w3 ⟨mp, rm, F, vv, C, kk, rfl, hT, hb⟩
  have L3 := Lib.hid (L2.out.trans (hb.mono L2.out.size))
  have K3_0 := Lib.hid (K2_0.out.below hb K2_0.out.lt)
  clear hb K2_0
  have TT := Lib.hid hT; clear hT
  have hlv := H3.out (Mw C)
  have hf := fun w' (hb : Below w3.heap.size w3 w') => H1.out mp kk C F w' (TT.out.mem.below hb)
  have hr := fun w' (hb : Below w3.heap.size w3 w') => H2.out rm vv C _ w' (TT.out.ref.below hb) TT.out.agr TT.out.mem.word
  generalize findW 6 (Mw C) ⟨on, asid, ppn⟩ va = Z at *
  obtain ⟨⟨⟨v, r, x1, x, u, g, a, d, rsw, pn⟩, lv, pl⟩, er⟩ := Z
  dsimp only at *
  have hp := fun w => place_any ⟨⟨v, r, x1, x, u, g, a, d, rsw, pn⟩, lv, pl⟩ va w hlv.2 hv hlv.1
  have hj := fun w => Calls.belowD (rjoin_yes pn va lv w hlv.2 hv hlv.1)
  dsimp only at hp
  generalize joinN pn va (2 ^ (12 + 9 * lv)) = J at *
  unfold lfv at *
  dsimp only at *
  have HF := Lib.hid hf; have HR := Lib.hid hr; have HP := Lib.hid hp; have HJ := Lib.hid hj; clear hf hr hp hj hlv
  have m0_0 : w3.cell? ⟨B1, 0, none⟩ = some _ := K3_0.out.cell 0
  have m0_1 : w3.cell? ⟨B1, 1, none⟩ = some _ := K3_0.out.cell 1
  have m0_2 : w3.cell? ⟨B1, 2, none⟩ = some _ := K3_0.out.cell 2
  have mlt0 : B1 < w3.heap.size := K3_0.out.lt
  go_wp2_with fail
  clear m0_0 m0_1 m0_2 mlt0
  refine (HF.out _ (Below.refl _ _)).mono ?_
  rintro e w4 ⟨rfl, hb⟩
  have L4 := Lib.hid ((Below.refl w3.heap.size w3).trans (hb.mono (Nat.le_refl w3.heap.size)))
  have K4_0 := Lib.hid (K3_0.out.below hb K3_0.out.lt)
  clear hb K3_0
  have m0_0 : w4.cell? ⟨B1, 0, none⟩ = some _ := K4_0.out.cell 0
  have m0_1 : w4.cell? ⟨B1, 1, none⟩ = some _ := K4_0.out.cell 1
  have m0_2 : w4.cell? ⟨B1, 2, none⟩ = some _ := K4_0.out.cell 2
  have mlt0 : B1 < w4.heap.size := K4_0.out.lt
  go_upto_region 5 with (fail)
  clear m0_0 m0_1 m0_2 mlt0
  have nb0 : Blk (w4.alloc (.cells #[.bool v, .bool r, .bool x1, .bool x, .bool u, .bool g, .bool a, .bool d, .int .i64 rsw, .int .u64 (pn : Int), .int .i64 (lv : Int), .int .u64 (pl : Int)] 34)) (w4.heap.size) [.bool v, .bool r, .bool x1, .bool x, .bool u, .bool g, .bool a, .bool d, .int .i64 rsw, .int .u64 (pn : Int), .int .i64 (lv : Int), .int .u64 (pl : Int)] 34 := Blk.new w4 [.bool v, .bool r, .bool x1, .bool x, .bool u, .bool g, .bool a, .bool d, .int .i64 rsw, .int .u64 (pn : Int), .int .i64 (lv : Int), .int .u64 (pl : Int)] 34
  have nls : Below w3.heap.size w3 w4 := L4.out
  have nl0 := nls.alloc nls.size (.cells #[.bool v, .bool r, .bool x1, .bool x, .bool u, .bool g, .bool a, .bool d, .int .i64 rsw, .int .u64 (pn : Int), .int .i64 (lv : Int), .int .u64 (pl : Int)] 34)
  have nl : Below w3.heap.size w3 (w4.alloc (.cells #[.bool v, .bool r, .bool x1, .bool x, .bool u, .bool g, .bool a, .bool d, .int .i64 rsw, .int .u64 (pn : Int), .int .i64 (lv : Int), .int .u64 (pl : Int)] 34)) := nl0; clear nls nl0
  have o0 : Blk (w4.alloc (.cells #[.bool v, .bool r, .bool x1, .bool x, .bool u, .bool g, .bool a, .bool d, .int .i64 rsw, .int .u64 (pn : Int), .int .i64 (lv : Int), .int .u64 (pl : Int)] 34)) B1 [.bool on, .int .i64 asid, .int .u64 (ppn : Int)] 25 := (K4_0.out.alloc (.cells #[.bool v, .bool r, .bool x1, .bool x, .bool u, .bool g, .bool a, .bool d, .int .i64 rsw, .int .u64 (pn : Int), .int .i64 (lv : Int), .int .u64 (pl : Int)] 34))
  have d5_0 : B1 < w4.heap.size := K4_0.out.lt
  obtain ⟨B5, hB0⟩ : ∃ B, B = w4.heap.size := ⟨_, rfl⟩
  obtain ⟨W5, hW⟩ : ∃ W, W = (w4.alloc (.cells #[.bool v, .bool r, .bool x1, .bool x, .bool u, .bool g, .bool a, .bool d, .int .i64 rsw, .int .u64 (pn : Int), .int .i64 (lv : Int), .int .u64 (pl : Int)] 34)) := ⟨_, rfl⟩
  rw [← hW] at nl nb0 o0
  rw [← hB0] at nb0
  rw [← hW]
  try rw [← hB0]
  have K5_0 := Lib.hid o0
  have K5_1 := Lib.hid nb0
  have G5 : Hid (w3.heap.size ≤ B5) := Lib.hid (by have := L4.out.size; omega)
  have x5_0_0 : B1 ≠ B5 := by omega
  have X5_0_0 := Lib.hid x5_0_0; clear x5_0_0
  have L5 := Lib.hid nl
  clear nl hW nb0 hB0 o0 d5_0 K4_0
  have m0_0 : W5.cell? ⟨B1, 0, none⟩ = some _ := K5_0.out.cell 0
  have m0_1 : W5.cell? ⟨B1, 1, none⟩ = some _ := K5_0.out.cell 1
  have m0_2 : W5.cell? ⟨B1, 2, none⟩ = some _ := K5_0.out.cell 2
  have mlt0 : B1 < W5.heap.size := K5_0.out.lt
  go_wp2_with fail
  clear m0_0 m0_1 m0_2 mlt0
  refine (HR.out _ L5.out).mono ?_
  rintro e w6 ⟨rfl, hb⟩
  have L6 := Lib.hid (L5.out.trans (hb.mono L5.out.size))
  have K6_0 := Lib.hid (K5_0.out.below hb K5_0.out.lt)
  have K6_1 := Lib.hid (K5_1.out.below hb K5_1.out.lt)
  clear hb K5_0 K5_1
  have m0_0 : w6.cell? ⟨B1, 0, none⟩ = some _ := K6_0.out.cell 0
  have m0_1 : w6.cell? ⟨B1, 1, none⟩ = some _ := K6_0.out.cell 1
  have m0_2 : w6.cell? ⟨B1, 2, none⟩ = some _ := K6_0.out.cell 2
  have mlt0 : B1 < w6.heap.size := K6_0.out.lt
  go_upto_region 6 with (fail)
  clear m0_0 m0_1 m0_2 mlt0
  have nb0 : Blk (w6.alloc (.cells #[.bool v, .bool r, .bool x1, .bool x, .bool u, .bool g, .bool a, .bool d, .int .i64 rsw, .int .u64 (pn : Int), .int .i64 (lv : Int), .int .u64 (pl : Int)] 34)) (w6.heap.size) [.bool v, .bool r, .bool x1, .bool x, .bool u, .bool g, .bool a, .bool d, .int .i64 rsw, .int .u64 (pn : Int), .int .i64 (lv : Int), .int .u64 (pl : Int)] 34 := Blk.new w6 [.bool v, .bool r, .bool x1, .bool x, .bool u, .bool g, .bool a, .bool d, .int .i64 rsw, .int .u64 (pn : Int), .int .i64 (lv : Int), .int .u64 (pl : Int)] 34
  have nls : Below w3.heap.size w3 w6 := L6.out
  have nl0 := nls.alloc nls.size (.cells #[.bool v, .bool r, .bool x1, .bool x, .bool u, .bool g, .bool a, .bool d, .int .i64 rsw, .int .u64 (pn : Int), .int .i64 (lv : Int), .int .u64 (pl : Int)] 34)
  have nl : Below w3.heap.size w3 (w6.alloc (.cells #[.bool v, .bool r, .bool x1, .bool x, .bool u, .bool g, .bool a, .bool d, .int .i64 rsw, .int .u64 (pn : Int), .int .i64 (lv : Int), .int .u64 (pl : Int)] 34)) := nl0; clear nls nl0
  have o0 : Blk (w6.alloc (.cells #[.bool v, .bool r, .bool x1, .bool x, .bool u, .bool g, .bool a, .bool d, .int .i64 rsw, .int .u64 (pn : Int), .int .i64 (lv : Int), .int .u64 (pl : Int)] 34)) B1 [.bool on, .int .i64 asid, .int .u64 (ppn : Int)] 25 := (K6_0.out.alloc (.cells #[.bool v, .bool r, .bool x1, .bool x, .bool u, .bool g, .bool a, .bool d, .int .i64 rsw, .int .u64 (pn : Int), .int .i64 (lv : Int), .int .u64 (pl : Int)] 34))
  have d7_0 : B1 < w6.heap.size := K6_0.out.lt
  have o1 : Blk (w6.alloc (.cells #[.bool v, .bool r, .bool x1, .bool x, .bool u, .bool g, .bool a, .bool d, .int .i64 rsw, .int .u64 (pn : Int), .int .i64 (lv : Int), .int .u64 (pl : Int)] 34)) B5 [.bool v, .bool r, .bool x1, .bool x, .bool u, .bool g, .bool a, .bool d, .int .i64 rsw, .int .u64 (pn : Int), .int .i64 (lv : Int), .int .u64 (pl : Int)] 34 := (K6_1.out.alloc (.cells #[.bool v, .bool r, .bool x1, .bool x, .bool u, .bool g, .bool a, .bool d, .int .i64 rsw, .int .u64 (pn : Int), .int .i64 (lv : Int), .int .u64 (pl : Int)] 34))
  have d7_1 : B5 < w6.heap.size := K6_1.out.lt
  obtain ⟨B7, hB0⟩ : ∃ B, B = w6.heap.size := ⟨_, rfl⟩
  obtain ⟨W7, hW⟩ : ∃ W, W = (w6.alloc (.cells #[.bool v, .bool r, .bool x1, .bool x, .bool u, .bool g, .bool a, .bool d, .int .i64 rsw, .int .u64 (pn : Int), .int .i64 (lv : Int), .int .u64 (pl : Int)] 34)) := ⟨_, rfl⟩
  rw [← hW] at nl nb0 o0 o1
  rw [← hB0] at nb0
  rw [← hW]
  try rw [← hB0]
  have K7_0 := Lib.hid o0
  have K7_1 := Lib.hid o1
  have K7_2 := Lib.hid nb0
  have G7 : Hid (w3.heap.size ≤ B7) := Lib.hid (by have := L6.out.size; omega)
  have x7_0_0 : B1 ≠ B7 := by omega
  have x7_1_0 : B5 ≠ B7 := by omega
  have X7_0_0 := Lib.hid x7_0_0; clear x7_0_0
  have X7_1_0 := Lib.hid x7_1_0; clear x7_1_0
  have L7 := Lib.hid nl
  clear nl hW nb0 hB0 o0 d7_0 o1 d7_1 K6_0 K6_1
  refine wp_region_held_drew (S := fun w' => Blk w' B5 [.bool v, .bool r, .bool x1, .bool x, .bool u, .bool g, .bool a, .bool d, .int .i64 rsw, .int .u64 (pn : Int), .int .i64 (lv : Int), .int .u64 (pl : Int)] 34 ∧ Blk w' B7 [.bool v, .bool r, .bool x1, .bool x, .bool u, .bool g, .bool a, .bool d, .int .i64 rsw, .int .u64 (pn : Int), .int .i64 (lv : Int), .int .u64 (pl : Int)] 34) (by kernel_rfl) ⟨K7_1.out, K7_2.out⟩ (fun hHeld => ?_)
  simp only [List.size_toArray, List.length_cons, List.length_nil, Nat.reduceAdd]
  rw [show Array.replicate 22 false = [false, false, false, false, false, false, false, false, false, false, false, false, false, false, false, false, false, false, false, false, false, false].toArray from rfl]
  refine wpAnyH_take (i := 0) (v := _) rfl (by kernel_rfl) (by kernel_rfl) (by kernel_rfl) (fun _ _ _ h => h) (Or.inl ⟨by rfl, fun w hSw => yield_leaf _ _ _ rfl rfl hSw.1⟩) (by assumption) ?_
  try simp only [Act.put, List.setIfInBounds_toArray, List.set_cons_zero, List.set_cons_succ, List.getElem_toArray, List.getElem_cons_succ, List.getElem_cons_zero]
  refine wpAnyH_take (i := 1) (v := _) rfl (by kernel_rfl) (by kernel_rfl) (by kernel_rfl) (fun _ _ _ h => h) (Or.inl ⟨by rfl, fun w hSw => yield_leaf _ _ _ rfl rfl hSw.2⟩) (by assumption) ?_
  try simp only [Act.put, List.setIfInBounds_toArray, List.set_cons_zero, List.set_cons_succ, List.getElem_toArray, List.getElem_cons_succ, List.getElem_cons_zero]
  refine wpAnyH_take (i := 2) (v := ?_) rfl (by kernel_rfl) (by kernel_rfl) (by kernel_rfl) (fun _ _ _ h => h) (Or.inl ⟨by rfl, ?yldq⟩) (by assumption) ?_
  case yldq => (intro w hSw; (try dsimp only at hSw); go_simp; try with_reducible rfl)
  try simp only [Act.put, List.setIfInBounds_toArray, List.set_cons_zero, List.set_cons_succ, List.getElem_toArray, List.getElem_cons_succ, List.getElem_cons_zero]
  refine wpAnyH_take (i := 3) (v := ?_) rfl (by kernel_rfl) (by kernel_rfl) (by kernel_rfl) (fun _ _ _ h => h) (Or.inl ⟨by rfl, ?yldq⟩) (by assumption) ?_
  case yldq => (intro w hSw; (try dsimp only at hSw); go_simp; try with_reducible rfl)
  try simp only [Act.put, List.setIfInBounds_toArray, List.set_cons_zero, List.set_cons_succ, List.getElem_toArray, List.getElem_cons_succ, List.getElem_cons_zero]
  refine wpAnyH_take (i := 4) (v := ?_) rfl (by kernel_rfl) (by kernel_rfl) (by kernel_rfl) (fun _ _ _ h => h) (Or.inl ⟨by rfl, ?yldq⟩) (by assumption) ?_
  case yldq => (intro w hSw; (try dsimp only at hSw); go_simp; try with_reducible rfl)
  try simp only [Act.put, List.setIfInBounds_toArray, List.set_cons_zero, List.set_cons_succ, List.getElem_toArray, List.getElem_cons_succ, List.getElem_cons_zero]
  refine wpAnyH_take (i := 5) (v := ?_) rfl (by kernel_rfl) (by kernel_rfl) (by kernel_rfl) (fun _ _ _ h => h) (Or.inl ⟨by rfl, ?yldq⟩) (by assumption) ?_
  case yldq => (intro w hSw; (try dsimp only at hSw); go_simp; try with_reducible rfl)
  try simp only [Act.put, List.setIfInBounds_toArray, List.set_cons_zero, List.set_cons_succ, List.getElem_toArray, List.getElem_cons_succ, List.getElem_cons_zero]
  refine wpAnyH_take (i := 6) (v := ?_) rfl (by kernel_rfl) (by kernel_rfl) (by kernel_rfl) (fun _ _ _ h => h) (Or.inl ⟨by rfl, ?yldq⟩) (by assumption) ?_
  case yldq => (intro w hSw; (try dsimp only at hSw); go_simp; try with_reducible rfl)
  try simp only [Act.put, List.setIfInBounds_toArray, List.set_cons_zero, List.set_cons_succ, List.getElem_toArray, List.getElem_cons_succ, List.getElem_cons_zero]
  refine wpAnyH_take (i := 7) (v := ?_) rfl (by kernel_rfl) (by kernel_rfl) (by kernel_rfl) (fun _ _ _ h => h) (Or.inl ⟨by rfl, ?yldq⟩) (by assumption) ?_
  case yldq => (intro w hSw; (try dsimp only at hSw); go_simp; try with_reducible rfl)
  try simp only [Act.put, List.setIfInBounds_toArray, List.set_cons_zero, List.set_cons_succ, List.getElem_toArray, List.getElem_cons_succ, List.getElem_cons_zero]
  refine wpAnyH_take (i := 8) (v := ?_) rfl (by kernel_rfl) (by kernel_rfl) (by kernel_rfl) (fun _ _ _ h => h) (Or.inl ⟨by rfl, ?yldq⟩) (by assumption) ?_
  case yldq => (intro w hSw; (try dsimp only at hSw); go_simp; try with_reducible rfl)
  try simp only [Act.put, List.setIfInBounds_toArray, List.set_cons_zero, List.set_cons_succ, List.getElem_toArray, List.getElem_cons_succ, List.getElem_cons_zero]
  refine wpAnyH_take (i := 9) (v := _) rfl (by kernel_rfl) (by kernel_rfl) (by kernel_rfl) (fun _ _ _ h => h) (Or.inl ⟨by rfl, fun w hSw => yield_leaf _ _ _ rfl rfl hSw.1⟩) (by assumption) ?_
  try simp only [Act.put, List.setIfInBounds_toArray, List.set_cons_zero, List.set_cons_succ, List.getElem_toArray, List.getElem_cons_succ, List.getElem_cons_zero]
  refine wpAnyH_take (i := 10) (v := ?_) rfl (by kernel_rfl) (by kernel_rfl) (by kernel_rfl) (fun _ _ _ h => h) (Or.inl ⟨by rfl, ?yldq⟩) (by assumption) ?_
  case yldq => (intro w hSw; (try dsimp only at hSw); go_simp; try with_reducible rfl)
  try simp only [Act.put, List.setIfInBounds_toArray, List.set_cons_zero, List.set_cons_succ, List.getElem_toArray, List.getElem_cons_succ, List.getElem_cons_zero]
  refine wpAnyH_take (i := 12) (v := ?_) rfl (by kernel_rfl) (by kernel_rfl) (by kernel_rfl) (fun _ _ _ h => h) (Or.inl ⟨by rfl, ?yldq⟩) (by assumption) ?_
  case yldq => (intro w hSw; (try dsimp only at hSw); go_simp; try with_reducible rfl)
  try simp only [Act.put, List.setIfInBounds_toArray, List.set_cons_zero, List.set_cons_succ, List.getElem_toArray, List.getElem_cons_succ, List.getElem_cons_zero]
  refine wpAnyH_take (i := 13) (v := ?_) rfl (by kernel_rfl) (by kernel_rfl) (by kernel_rfl) (fun _ _ _ h => h) (Or.inl ⟨by rfl, ?yldq⟩) (by assumption) ?_
  case yldq => (intro w hSw; (try dsimp only at hSw); go_simp; try with_reducible rfl)
  try simp only [Act.put, List.setIfInBounds_toArray, List.set_cons_zero, List.set_cons_succ, List.getElem_toArray, List.getElem_cons_succ, List.getElem_cons_zero]
  refine wpAnyH_take (i := 14) (v := _) rfl (by kernel_rfl) (by kernel_rfl) (by kernel_rfl) (fun _ _ _ h => h) (Or.inl ⟨by rfl, fun w hSw => yield_u64 _ _ _ rfl rfl (hSw.1.cell 9)⟩) (by assumption) ?_
  try simp only [Act.put, List.setIfInBounds_toArray, List.set_cons_zero, List.set_cons_succ, List.getElem_toArray, List.getElem_cons_succ, List.getElem_cons_zero]
  refine wpAnyH_take (i := 15) (v := ?_) rfl (by kernel_rfl) (by kernel_rfl) (by kernel_rfl) (fun _ _ _ h => h) (Or.inl ⟨by rfl, ?yldq⟩) (by assumption) ?_
  case yldq => (intro w hSw; (try dsimp only at hSw); go_simp; try with_reducible rfl)
  try simp only [Act.put, List.setIfInBounds_toArray, List.set_cons_zero, List.set_cons_succ, List.getElem_toArray, List.getElem_cons_succ, List.getElem_cons_zero]
  refine wpAnyH_take (i := 16) (v := ?_) rfl (by kernel_rfl) (by kernel_rfl) (by kernel_rfl) (fun _ _ _ h => h) (Or.inl ⟨by rfl, ?yldq⟩) (by assumption) ?_
  case yldq => (intro w hSw; (try dsimp only at hSw); go_simp; try with_reducible rfl)
  try simp only [Act.put, List.setIfInBounds_toArray, List.set_cons_zero, List.set_cons_succ, List.getElem_toArray, List.getElem_cons_succ, List.getElem_cons_zero]
  refine wpAnyH_take (i := 17) (v := _) rfl (by kernel_rfl) (by kernel_rfl) (by kernel_rfl) (fun _ _ _ h => h) (Or.inl ⟨by rfl, fun w hSw => yield_i64 _ _ _ rfl rfl (hSw.1.cell 10)⟩) (by assumption) ?_
  try simp only [Act.put, List.setIfInBounds_toArray, List.set_cons_zero, List.set_cons_succ, List.getElem_toArray, List.getElem_cons_succ, List.getElem_cons_zero]
  refine wpAnyH_ready (rs := [11]) (by kernel_rfl) (by simp) ?_
  refine AllReadyH.cons rfl (fun K hK => ?_) AllReadyH.nil
  go_simp
  refine (HP.out _).mono ?_
  rintro e w8 ⟨rfl, hb⟩
  have L8 := Lib.hid ((L7.out.drew).trans (hb.mono L7.out.size))
  have K8_0 := Lib.hid ((Blk.drewN K7_1.out 1).below hb K7_1.out.lt)
  have K8_1 := Lib.hid ((Blk.drewN K7_2.out 1).below hb K7_2.out.lt)
  clear hb K7_1 K7_2
  refine hK.out _ _ ⟨K8_0.out, K8_1.out⟩ (fun hS11 => ?_)
  clear hK K
  refine wpAnyH_ready (rs := [18]) (by kernel_rfl) (by simp) ?_
  refine AllReadyH.cons rfl (fun K hK => ?_) AllReadyH.nil
  go_simp
  refine (HJ.out _).mono ?_
  rintro e w9 ⟨rfl, hb⟩
  have L9 := Lib.hid (L8.out.trans (hb.mono L8.out.size))
  have K9_0 := Lib.hid (K8_0.out.below hb K8_0.out.lt)
  have K9_1 := Lib.hid (K8_1.out.below hb K8_1.out.lt)
  clear hb K8_0 K8_1
  refine hK.out _ _ ⟨K9_0.out, K9_1.out⟩ (fun hS18 => ?_)
  clear hK K
  refine wpAnyH_take (i := 19) (v := ?_) rfl (by kernel_rfl) (by kernel_rfl) (by kernel_rfl) (fun _ _ _ h => h) (Or.inl ⟨by rfl, ?yldq⟩) (by assumption) ?_
  case yldq => (intro w hSw; (try dsimp only at hSw); go_simp; try with_reducible rfl)
  try simp only [Act.put, List.setIfInBounds_toArray, List.set_cons_zero, List.set_cons_succ, List.getElem_toArray, List.getElem_cons_succ, List.getElem_cons_zero]
  refine wpAnyH_take (i := 20) (v := ?_) rfl (by kernel_rfl) (by kernel_rfl) (by kernel_rfl) (fun _ _ _ h => h) (Or.inl ⟨by rfl, ?yldq⟩) (by assumption) ?_
  case yldq => (intro w hSw; (try dsimp only at hSw); go_simp; try with_reducible rfl)
  try simp only [Act.put, List.setIfInBounds_toArray, List.set_cons_zero, List.set_cons_succ, List.getElem_toArray, List.getElem_cons_succ, List.getElem_cons_zero]
  refine wpAnyH_take (i := 21) (v := ?_) rfl (by kernel_rfl) (by kernel_rfl) (by kernel_rfl) (fun _ _ _ h => h) (Or.inl ⟨by rfl, ?yldq⟩) (by assumption) ?_
  case yldq => (intro w hSw; (try dsimp only at hSw); go_simp; try with_reducible rfl)
  try simp only [Act.put, List.setIfInBounds_toArray, List.set_cons_zero, List.set_cons_succ, List.getElem_toArray, List.getElem_cons_succ, List.getElem_cons_zero]
  refine wpAnyH_done (by kernel_rfl) ?_ _
  go_wp2
  go_ret
  exact ⟨rfl, L3.out.trans (L9.out.mono L3.out.size)⟩
end Go.Proofs.Ytibmjbfnjkmjbaa
