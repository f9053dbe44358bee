/-
  What walk.Walk answers: contracts over the translation. Each says its own conditions.
-/
import Derived.Test.YtibmjbfnjkmjbaaFindP10
namespace Go.Proofs.Ytibmjbfnjkmjbaa
open Go.RowKit
set_option linter.unusedVariables false
set_option linter.unusedSimpArgs false
attribute [local go_sem] setCell_drewN alloc_drewN

/-- what an access comes to, by what is found -/
def wk (f : Lf) (er : Nat) (k : Int) (m : Md) : Lf × Int := if er = 61 then (zl, cau k 1 5 7) else if (er != 0) || !chk f.e k m then (zl, cau k 12 13 15) else (f, -1)
set_option maxHeartbeats 8000000 in
theorem wwalk_of (p : Value) (S : Stp) (va er : Nat) (k : Int) (m : Md) (f : Lf) (w : World)
    (hF : ∀ w', Below w.heap.size w w' → Calls Try.prog 8 #[p, sv S, .int .u64 va] w' fun r w'' => r = .returned (.tuple #[lfv f, .int .i64 (er : Nat)]) ∧ Below w'.heap.size w' w'') :
    Calls Try.prog 12 #[p, sv S, .int .u64 va, .int .i64 k, mv m] w fun r w' => r = .returned (.tuple #[lfv (wk f er k m).1, .int .i64 (wk f er k m).2]) ∧ Below w.heap.size w w' := by
  have h1 := fun w => Calls.belowE (bound_any k w)
  have h2 := fun w => Calls.belowE (page_any k w)
  have h3 := fun w => check_any f.e k m w
  obtain ⟨Z, hZ⟩ : ∃ Z, Z = wk f er k m := ⟨_, rfl⟩
  rw [← hZ]
  unfold wk at hZ
  generalize cau k 1 5 7 = c1 at *
  generalize cau k 12 13 15 = c2 at *
  generalize chk f.e k m = Q at *
  have e1 : er = 61 → Z = (zl, c1) := fun h => by rw [hZ, if_pos h]
  have e2 : er ≠ 61 → er ≠ 0 → Z = (zl, c2) := fun h h' => by rw [hZ, if_neg h, if_pos (by simp [h'])]
  have e3 : er = 0 → Q = false → Z = (zl, c2) := fun h h' => by rw [hZ, if_neg (by omega), if_pos (by simp [h'])]
  have e4 : er = 0 → Q = true → Z = (f, -1) := fun h h' => by rw [hZ, if_neg (by omega), if_neg (by simp [h, h'])]
  clear hZ
  obtain ⟨on, asid, ppn⟩ := S
  obtain ⟨us, sm, mx⟩ := m
  obtain ⟨⟨v, r, x1, x, u, g, a, d, rsw, pn⟩, lv, pl⟩ := f
  unfold lfv pv sv mv at *
  dsimp only at *
  have HF := Lib.hid hF; have H1 := Lib.hid h1; have H2 := Lib.hid h2; have H3 := Lib.hid h3; have E1 := Lib.hid e1; have E2 := Lib.hid e2; have E3 := Lib.hid e3; have E4 := Lib.hid e4; clear hF h1 h2 h3 e1 e2 e3 e4
  go_enter Try.func12, Try.ntmps12
  go_upto_region 1 with (fail)
  have nb0 : Blk (w.alloc (.cells #[.bool on, .int .i64 asid, .int .u64 (ppn : Int)] 25)) (w.heap.size) [.bool on, .int .i64 asid, .int .u64 (ppn : Int)] 25 := Blk.new w [.bool on, .int .i64 asid, .int .u64 (ppn : Int)] 25
  replace nb0 := nb0.alloc (.cells #[.bool us, .bool sm, .bool mx] 46)
  replace nb0 := nb0.alloc (.cells #[.bool false, .bool false, .bool false, .bool false, .bool false, .bool false, .bool false, .bool false, .int .i64 0, .int .u64 0, .int .i64 0, .int .u64 0] 34)
  have nb1 : Blk ((w.alloc (.cells #[.bool on, .int .i64 asid, .int .u64 (ppn : Int)] 25)).alloc (.cells #[.bool us, .bool sm, .bool mx] 46)) (w.heap.size + 1) [.bool us, .bool sm, .bool mx] 46 := Blk.nextn (w.alloc (.cells #[.bool on, .int .i64 asid, .int .u64 (ppn : Int)] 25)) (w.heap.size + 1) [.bool us, .bool sm, .bool mx] 46 (by simp)
  replace nb1 := nb1.alloc (.cells #[.bool false, .bool false, .bool false, .bool false, .bool false, .bool false, .bool false, .bool false, .int .i64 0, .int .u64 0, .int .i64 0, .int .u64 0] 34)
  have nb2 : Blk (((w.alloc (.cells #[.bool on, .int .i64 asid, .int .u64 (ppn : Int)] 25)).alloc (.cells #[.bool us, .bool sm, .bool mx] 46)).alloc (.cells #[.bool false, .bool false, .bool false, .bool false, .bool false, .bool false, .bool false, .bool false, .int .i64 0, .int .u64 0, .int .i64 0, .int .u64 0] 34)) (w.heap.size + 2) [.bool false, .bool false, .bool false, .bool false, .bool false, .bool false, .bool false, .bool false, .int .i64 0, .int .u64 0, .int .i64 0, .int .u64 0] 34 := Blk.nextn ((w.alloc (.cells #[.bool on, .int .i64 asid, .int .u64 (ppn : Int)] 25)).alloc (.cells #[.bool us, .bool sm, .bool mx] 46)) (w.heap.size + 2) [.bool false, .bool false, .bool false, .bool false, .bool false, .bool false, .bool false, .bool false, .int .i64 0, .int .u64 0, .int .i64 0, .int .u64 0] 34 (by simp)
  have nls : Below w.heap.size w w := (Below.refl w.heap.size w)
  have nl0 := nls.alloc nls.size (.cells #[.bool on, .int .i64 asid, .int .u64 (ppn : Int)] 25)
  have nl1 := nl0.alloc nl0.size (.cells #[.bool us, .bool sm, .bool mx] 46)
  have nl2 := nl1.alloc nl1.size (.cells #[.bool false, .bool false, .bool false, .bool false, .bool false, .bool false, .bool false, .bool false, .int .i64 0, .int .u64 0, .int .i64 0, .int .u64 0] 34)
  have nl : Below w.heap.size w (((w.alloc (.cells #[.bool on, .int .i64 asid, .int .u64 (ppn : Int)] 25)).alloc (.cells #[.bool us, .bool sm, .bool mx] 46)).alloc (.cells #[.bool false, .bool false, .bool false, .bool false, .bool false, .bool false, .bool false, .bool false, .int .i64 0, .int .u64 0, .int .i64 0, .int .u64 0] 34)) := nl2; clear nls nl0 nl1 nl2
  obtain ⟨B1_2, hB2⟩ : ∃ B, B = w.heap.size + 2 := ⟨_, rfl⟩
  obtain ⟨B1_1, hB1⟩ : ∃ B, B = w.heap.size + 1 := ⟨_, rfl⟩
  obtain ⟨B1_0, hB0⟩ : ∃ B, B = w.heap.size := ⟨_, rfl⟩
  obtain ⟨W1, hW⟩ : ∃ W, W = (((w.alloc (.cells #[.bool on, .int .i64 asid, .int .u64 (ppn : Int)] 25)).alloc (.cells #[.bool us, .bool sm, .bool mx] 46)).alloc (.cells #[.bool false, .bool false, .bool false, .bool false, .bool false, .bool false, .bool false, .bool false, .int .i64 0, .int .u64 0, .int .i64 0, .int .u64 0] 34)) := ⟨_, rfl⟩
  rw [← hW] at nl nb0 nb1 nb2
  rw [← hB2] at nb2
  rw [← hB1] at nb1
  rw [← hB0] at nb0
  rw [← hW]
  try rw [← hB2]
  try rw [← hB1]
  try rw [← hB0]
  have K1_0 := Lib.hid nb0
  have G1_0 : Hid (w.heap.size ≤ B1_0) := Lib.hid (by have := (Nat.le_refl w.heap.size); omega)
  have K1_1 := Lib.hid nb1
  have G1_1 : Hid (w.heap.size ≤ B1_1) := Lib.hid (by have := (Nat.le_refl w.heap.size); omega)
  have y1_0_1 : B1_0 ≠ B1_1 := by omega
  have K1_2 := Lib.hid nb2
  have G1_2 : Hid (w.heap.size ≤ B1_2) := Lib.hid (by have := (Nat.le_refl w.heap.size); omega)
  have y1_0_2 : B1_0 ≠ B1_2 := by omega
  have y1_1_2 : B1_1 ≠ B1_2 := by omega
  have Y1_0_1 := Lib.hid y1_0_1; clear y1_0_1
  have Y1_0_2 := Lib.hid y1_0_2; clear y1_0_2
  have Y1_1_2 := Lib.hid y1_1_2; clear y1_1_2
  have L1 := Lib.hid nl
  clear nl hW nb0 hB0 nb1 hB1 nb2 hB2
  have m0_0 : W1.cell? ⟨B1_0, 0, none⟩ = some _ := K1_0.out.cell 0
  have m0_1 : W1.cell? ⟨B1_0, 1, none⟩ = some _ := K1_0.out.cell 1
  have m0_2 : W1.cell? ⟨B1_0, 2, none⟩ = some _ := K1_0.out.cell 2
  have mlt0 : B1_0 < W1.heap.size := K1_0.out.lt
  go_wp2_with fail
  clear m0_0 m0_1 m0_2 mlt0
  refine (HF.out _ L1.out).mono ?_
  rintro e w2 ⟨rfl, hb⟩
  have L2 := Lib.hid (L1.out.trans (hb.mono L1.out.size))
  have K2_0 := Lib.hid (K1_0.out.below hb K1_0.out.lt)
  have K2_1 := Lib.hid (K1_1.out.below hb K1_1.out.lt)
  have K2_2 := Lib.hid (K1_2.out.below hb K1_2.out.lt)
  clear hb K1_0 K1_1 K1_2
  go_upto_region 2 with (fail)
  have nb0 : Blk (w2.alloc (.cells #[.bool v, .bool r, .bool x1, .bool x, .bool u, .bool g, .bool a, .bool d, .int .i64 rsw, .int .u64 (pn : Int), .int .i64 (lv : Int), .int .u64 (pl : Int)] 34)) (w2.heap.size) [.bool v, .bool r, .bool x1, .bool x, .bool u, .bool g, .bool a, .bool d, .int .i64 rsw, .int .u64 (pn : Int), .int .i64 (lv : Int), .int .u64 (pl : Int)] 34 := Blk.new w2 [.bool v, .bool r, .bool x1, .bool x, .bool u, .bool g, .bool a, .bool d, .int .i64 rsw, .int .u64 (pn : Int), .int .i64 (lv : Int), .int .u64 (pl : Int)] 34
  have nls : Below w.heap.size w w2 := L2.out
  have nl0 := nls.alloc nls.size (.cells #[.bool v, .bool r, .bool x1, .bool x, .bool u, .bool g, .bool a, .bool d, .int .i64 rsw, .int .u64 (pn : Int), .int .i64 (lv : Int), .int .u64 (pl : Int)] 34)
  have nl : Below w.heap.size w (w2.alloc (.cells #[.bool v, .bool r, .bool x1, .bool x, .bool u, .bool g, .bool a, .bool d, .int .i64 rsw, .int .u64 (pn : Int), .int .i64 (lv : Int), .int .u64 (pl : Int)] 34)) := nl0; clear nls nl0
  have o0 : Blk (w2.alloc (.cells #[.bool v, .bool r, .bool x1, .bool x, .bool u, .bool g, .bool a, .bool d, .int .i64 rsw, .int .u64 (pn : Int), .int .i64 (lv : Int), .int .u64 (pl : Int)] 34)) B1_0 [.bool on, .int .i64 asid, .int .u64 (ppn : Int)] 25 := (K2_0.out.alloc (.cells #[.bool v, .bool r, .bool x1, .bool x, .bool u, .bool g, .bool a, .bool d, .int .i64 rsw, .int .u64 (pn : Int), .int .i64 (lv : Int), .int .u64 (pl : Int)] 34))
  have d3_0 : B1_0 < w2.heap.size := K2_0.out.lt
  have o1 : Blk (w2.alloc (.cells #[.bool v, .bool r, .bool x1, .bool x, .bool u, .bool g, .bool a, .bool d, .int .i64 rsw, .int .u64 (pn : Int), .int .i64 (lv : Int), .int .u64 (pl : Int)] 34)) B1_1 [.bool us, .bool sm, .bool mx] 46 := (K2_1.out.alloc (.cells #[.bool v, .bool r, .bool x1, .bool x, .bool u, .bool g, .bool a, .bool d, .int .i64 rsw, .int .u64 (pn : Int), .int .i64 (lv : Int), .int .u64 (pl : Int)] 34))
  have d3_1 : B1_1 < w2.heap.size := K2_1.out.lt
  have o2 : Blk (w2.alloc (.cells #[.bool v, .bool r, .bool x1, .bool x, .bool u, .bool g, .bool a, .bool d, .int .i64 rsw, .int .u64 (pn : Int), .int .i64 (lv : Int), .int .u64 (pl : Int)] 34)) B1_2 [.bool false, .bool false, .bool false, .bool false, .bool false, .bool false, .bool false, .bool false, .int .i64 0, .int .u64 0, .int .i64 0, .int .u64 0] 34 := (K2_2.out.alloc (.cells #[.bool v, .bool r, .bool x1, .bool x, .bool u, .bool g, .bool a, .bool d, .int .i64 rsw, .int .u64 (pn : Int), .int .i64 (lv : Int), .int .u64 (pl : Int)] 34))
  have d3_2 : B1_2 < w2.heap.size := K2_2.out.lt
  obtain ⟨B3, hB0⟩ : ∃ B, B = w2.heap.size := ⟨_, rfl⟩
  obtain ⟨W3, hW⟩ : ∃ W, W = (w2.alloc (.cells #[.bool v, .bool r, .bool x1, .bool x, .bool u, .bool g, .bool a, .bool d, .int .i64 rsw, .int .u64 (pn : Int), .int .i64 (lv : Int), .int .u64 (pl : Int)] 34)) := ⟨_, rfl⟩
  rw [← hW] at nl nb0 o0 o1 o2
  rw [← hB0] at nb0
  rw [← hW]
  try rw [← hB0]
  have K3_0 := Lib.hid o0
  have K3_1 := Lib.hid o1
  have K3_2 := Lib.hid o2
  have K3_3 := Lib.hid nb0
  have G3 : Hid (w.heap.size ≤ B3) := Lib.hid (by have := L2.out.size; omega)
  have x3_0_0 : B1_0 ≠ B3 := by omega
  have x3_1_0 : B1_1 ≠ B3 := by omega
  have x3_2_0 : B1_2 ≠ B3 := by omega
  have X3_0_0 := Lib.hid x3_0_0; clear x3_0_0
  have X3_1_0 := Lib.hid x3_1_0; clear x3_1_0
  have X3_2_0 := Lib.hid x3_2_0; clear x3_2_0
  have L3 := Lib.hid nl
  clear nl hW nb0 hB0 o0 d3_0 o1 d3_1 o2 d3_2 K2_0 K2_1 K2_2
  by_cases h61 : er = 61
  · subst h61
    obtain rfl := E1.out rfl
    go_wp2_with fail
    refine (H1.out _).mono ?_
    rintro e w4 ⟨rfl, hb⟩
    have L4 := Lib.hid (L3.out.trans (hb.mono L3.out.size))
    have K4_0 := Lib.hid (K3_0.out.below hb K3_0.out.lt)
    have K4_1 := Lib.hid (K3_1.out.below hb K3_1.out.lt)
    have K4_2 := Lib.hid (K3_2.out.below hb K3_2.out.lt)
    have K4_3 := Lib.hid (K3_3.out.below hb K3_3.out.lt)
    clear hb K3_0 K3_1 K3_2 K3_3
    have m2_0 : w4.cell? ⟨B1_2, 0, none⟩ = some _ := K4_2.out.cell 0
    have m2_1 : w4.cell? ⟨B1_2, 1, none⟩ = some _ := K4_2.out.cell 1
    have m2_2 : w4.cell? ⟨B1_2, 2, none⟩ = some _ := K4_2.out.cell 2
    have m2_3 : w4.cell? ⟨B1_2, 3, none⟩ = some _ := K4_2.out.cell 3
    have m2_4 : w4.cell? ⟨B1_2, 4, none⟩ = some _ := K4_2.out.cell 4
    have m2_5 : w4.cell? ⟨B1_2, 5, none⟩ = some _ := K4_2.out.cell 5
    have m2_6 : w4.cell? ⟨B1_2, 6, none⟩ = some _ := K4_2.out.cell 6
    have m2_7 : w4.cell? ⟨B1_2, 7, none⟩ = some _ := K4_2.out.cell 7
    have m2_8 : w4.cell? ⟨B1_2, 8, none⟩ = some _ := K4_2.out.cell 8
    have m2_9 : w4.cell? ⟨B1_2, 9, none⟩ = some _ := K4_2.out.cell 9
    have m2_10 : w4.cell? ⟨B1_2, 10, none⟩ = some _ := K4_2.out.cell 10
    have m2_11 : w4.cell? ⟨B1_2, 11, none⟩ = some _ := K4_2.out.cell 11
    have mlt2 : B1_2 < w4.heap.size := K4_2.out.lt
    have mf2 : ∀ o, w4.frozen? ⟨B1_2, o, none⟩ = false := fun o => K4_2.out.free o
    go_wp2
    clear m2_0 m2_1 m2_2 m2_3 m2_4 m2_5 m2_6 m2_7 m2_8 m2_9 m2_10 m2_11 mlt2 mf2
    obtain ⟨W3, hW3⟩ : ∃ W9, W9 = ((((((((((((w4.setCell ⟨B1_2, 0, none⟩ (.bool false)).setCell ⟨B1_2, 1, none⟩ (.bool false)).setCell ⟨B1_2, 2, none⟩ (.bool false)).setCell ⟨B1_2, 3, none⟩ (.bool false)).setCell ⟨B1_2, 4, none⟩ (.bool false)).setCell ⟨B1_2, 5, none⟩ (.bool false)).setCell ⟨B1_2, 6, none⟩ (.bool false)).setCell ⟨B1_2, 7, none⟩ (.bool false)).setCell ⟨B1_2, 8, none⟩ (.int .i64 0)).setCell ⟨B1_2, 9, none⟩ (.int .u64 0)).setCell ⟨B1_2, 10, none⟩ (.int .i64 0)).setCell ⟨B1_2, 11, none⟩ (.int .u64 0)) := ⟨_, rfl⟩
    rw [← hW3]
    have b3 : Blk W3 B1_2 [.bool false, .bool false, .bool false, .bool false, .bool false, .bool false, .bool false, .bool false, .int .i64 0, .int .u64 0, .int .i64 0, .int .u64 0] 34 := hW3 ▸ ((((((((((((K4_2.out.set 0 (.bool false)).set 1 (.bool false)).set 2 (.bool false)).set 3 (.bool false)).set 4 (.bool false)).set 5 (.bool false)).set 6 (.bool false)).set 7 (.bool false)).set 8 (.int .i64 0)).set 9 (.int .u64 0)).set 10 (.int .i64 0)).set 11 (.int .u64 0))
    have l3 : Below w.heap.size w W3 := hW3 ▸ (Below.setCell (Below.setCell (Below.setCell (Below.setCell (Below.setCell (Below.setCell (Below.setCell (Below.setCell (Below.setCell (Below.setCell (Below.setCell (Below.setCell L4.out G1_2.out _) G1_2.out _) G1_2.out _) G1_2.out _) G1_2.out _) G1_2.out _) G1_2.out _) G1_2.out _) G1_2.out _) G1_2.out _) G1_2.out _) G1_2.out _)
    clear hW3
    have r0 : W3.cell? ⟨B1_2, 0, none⟩ = some _ := b3.cell 0
    have r1 : W3.cell? ⟨B1_2, 1, none⟩ = some _ := b3.cell 1
    have r2 : W3.cell? ⟨B1_2, 2, none⟩ = some _ := b3.cell 2
    have r3 : W3.cell? ⟨B1_2, 3, none⟩ = some _ := b3.cell 3
    have r4 : W3.cell? ⟨B1_2, 4, none⟩ = some _ := b3.cell 4
    have r5 : W3.cell? ⟨B1_2, 5, none⟩ = some _ := b3.cell 5
    have r6 : W3.cell? ⟨B1_2, 6, none⟩ = some _ := b3.cell 6
    have r7 : W3.cell? ⟨B1_2, 7, none⟩ = some _ := b3.cell 7
    have r8 : W3.cell? ⟨B1_2, 8, none⟩ = some _ := b3.cell 8
    have r9 : W3.cell? ⟨B1_2, 9, none⟩ = some _ := b3.cell 9
    have r10 : W3.cell? ⟨B1_2, 10, none⟩ = some _ := b3.cell 10
    have r11 : W3.cell? ⟨B1_2, 11, none⟩ = some _ := b3.cell 11
    have Q3 := Lib.hid b3; have QL := Lib.hid l3; clear b3 l3
    refine bodyPost_ret (v := .tuple #[.agg #[.bool false, .bool false, .bool false, .bool false, .bool false, .bool false, .bool false, .bool false, .int .i64 0, .int .u64 0, .int .i64 0, .int .u64 0], .int .i64 c1]) (by simp [results, Try.results12, go_sem, r0, r1, r2, r3, r4, r5, r6, r7, r8, r9, r10, r11]) rfl ⟨rfl, QL.out⟩
  have f61 : ((er : Int) == 61) = false := by simp; omega
  by_cases h0 : er = 0
  · subst h0
    have m1_0 : W3.cell? ⟨B1_1, 0, none⟩ = some _ := K3_1.out.cell 0
    have m1_1 : W3.cell? ⟨B1_1, 1, none⟩ = some _ := K3_1.out.cell 1
    have m1_2 : W3.cell? ⟨B1_1, 2, none⟩ = some _ := K3_1.out.cell 2
    have mlt1 : B1_1 < W3.heap.size := K3_1.out.lt
    have m3_0 : W3.cell? ⟨B3, 0, none⟩ = some _ := K3_3.out.cell 0
    have m3_1 : W3.cell? ⟨B3, 1, none⟩ = some _ := K3_3.out.cell 1
    have m3_2 : W3.cell? ⟨B3, 2, none⟩ = some _ := K3_3.out.cell 2
    have m3_3 : W3.cell? ⟨B3, 3, none⟩ = some _ := K3_3.out.cell 3
    have m3_4 : W3.cell? ⟨B3, 4, none⟩ = some _ := K3_3.out.cell 4
    have m3_5 : W3.cell? ⟨B3, 5, none⟩ = some _ := K3_3.out.cell 5
    have m3_6 : W3.cell? ⟨B3, 6, none⟩ = some _ := K3_3.out.cell 6
    have m3_7 : W3.cell? ⟨B3, 7, none⟩ = some _ := K3_3.out.cell 7
    have m3_8 : W3.cell? ⟨B3, 8, none⟩ = some _ := K3_3.out.cell 8
    have m3_9 : W3.cell? ⟨B3, 9, none⟩ = some _ := K3_3.out.cell 9
    have m3_10 : W3.cell? ⟨B3, 10, none⟩ = some _ := K3_3.out.cell 10
    have m3_11 : W3.cell? ⟨B3, 11, none⟩ = some _ := K3_3.out.cell 11
    have mlt3 : B3 < W3.heap.size := K3_3.out.lt
    go_wp2_with fail
    clear m1_0 m1_1 m1_2 mlt1 m3_0 m3_1 m3_2 m3_3 m3_4 m3_5 m3_6 m3_7 m3_8 m3_9 m3_10 m3_11 mlt3
    refine (H3.out _).mono ?_
    rintro e w5 ⟨rfl, hb⟩
    have L5 := Lib.hid (L3.out.trans (hb.mono L3.out.size))
    have K5_0 := Lib.hid (K3_0.out.below hb K3_0.out.lt)
    have K5_1 := Lib.hid (K3_1.out.below hb K3_1.out.lt)
    have K5_2 := Lib.hid (K3_2.out.below hb K3_2.out.lt)
    have K5_3 := Lib.hid (K3_3.out.below hb K3_3.out.lt)
    clear hb K3_0 K3_1 K3_2 K3_3
    cases Q
    · obtain rfl := E3.out (by trivial) (by trivial)
      go_wp2_with fail
      refine (H2.out _).mono ?_
      rintro e w6 ⟨rfl, hb⟩
      have L6 := Lib.hid (L5.out.trans (hb.mono L5.out.size))
      have K6_0 := Lib.hid (K5_0.out.below hb K5_0.out.lt)
      have K6_1 := Lib.hid (K5_1.out.below hb K5_1.out.lt)
      have K6_2 := Lib.hid (K5_2.out.below hb K5_2.out.lt)
      have K6_3 := Lib.hid (K5_3.out.below hb K5_3.out.lt)
      clear hb K5_0 K5_1 K5_2 K5_3
      have m2_0 : w6.cell? ⟨B1_2, 0, none⟩ = some _ := K6_2.out.cell 0
      have m2_1 : w6.cell? ⟨B1_2, 1, none⟩ = some _ := K6_2.out.cell 1
      have m2_2 : w6.cell? ⟨B1_2, 2, none⟩ = some _ := K6_2.out.cell 2
      have m2_3 : w6.cell? ⟨B1_2, 3, none⟩ = some _ := K6_2.out.cell 3
      have m2_4 : w6.cell? ⟨B1_2, 4, none⟩ = some _ := K6_2.out.cell 4
      have m2_5 : w6.cell? ⟨B1_2, 5, none⟩ = some _ := K6_2.out.cell 5
      have m2_6 : w6.cell? ⟨B1_2, 6, none⟩ = some _ := K6_2.out.cell 6
      have m2_7 : w6.cell? ⟨B1_2, 7, none⟩ = some _ := K6_2.out.cell 7
      have m2_8 : w6.cell? ⟨B1_2, 8, none⟩ = some _ := K6_2.out.cell 8
      have m2_9 : w6.cell? ⟨B1_2, 9, none⟩ = some _ := K6_2.out.cell 9
      have m2_10 : w6.cell? ⟨B1_2, 10, none⟩ = some _ := K6_2.out.cell 10
      have m2_11 : w6.cell? ⟨B1_2, 11, none⟩ = some _ := K6_2.out.cell 11
      have mlt2 : B1_2 < w6.heap.size := K6_2.out.lt
      have mf2 : ∀ o, w6.frozen? ⟨B1_2, o, none⟩ = false := fun o => K6_2.out.free o
      go_wp2
      clear m2_0 m2_1 m2_2 m2_3 m2_4 m2_5 m2_6 m2_7 m2_8 m2_9 m2_10 m2_11 mlt2 mf2
      obtain ⟨W3, hW3⟩ : ∃ W9, W9 = ((((((((((((w6.setCell ⟨B1_2, 0, none⟩ (.bool false)).setCell ⟨B1_2, 1, none⟩ (.bool false)).setCell ⟨B1_2, 2, none⟩ (.bool false)).setCell ⟨B1_2, 3, none⟩ (.bool false)).setCell ⟨B1_2, 4, none⟩ (.bool false)).setCell ⟨B1_2, 5, none⟩ (.bool false)).setCell ⟨B1_2, 6, none⟩ (.bool false)).setCell ⟨B1_2, 7, none⟩ (.bool false)).setCell ⟨B1_2, 8, none⟩ (.int .i64 0)).setCell ⟨B1_2, 9, none⟩ (.int .u64 0)).setCell ⟨B1_2, 10, none⟩ (.int .i64 0)).setCell ⟨B1_2, 11, none⟩ (.int .u64 0)) := ⟨_, rfl⟩
      rw [← hW3]
      have b3 : Blk W3 B1_2 [.bool false, .bool false, .bool false, .bool false, .bool false, .bool false, .bool false, .bool false, .int .i64 0, .int .u64 0, .int .i64 0, .int .u64 0] 34 := hW3 ▸ ((((((((((((K6_2.out.set 0 (.bool false)).set 1 (.bool false)).set 2 (.bool false)).set 3 (.bool false)).set 4 (.bool false)).set 5 (.bool false)).set 6 (.bool false)).set 7 (.bool false)).set 8 (.int .i64 0)).set 9 (.int .u64 0)).set 10 (.int .i64 0)).set 11 (.int .u64 0))
      have l3 : Below w.heap.size w W3 := hW3 ▸ (Below.setCell (Below.setCell (Below.setCell (Below.setCell (Below.setCell (Below.setCell (Below.setCell (Below.setCell (Below.setCell (Below.setCell (Below.setCell (Below.setCell L6.out G1_2.out _) G1_2.out _) G1_2.out _) G1_2.out _) G1_2.out _) G1_2.out _) G1_2.out _) G1_2.out _) G1_2.out _) G1_2.out _) G1_2.out _) G1_2.out _)
      clear hW3
      have r0 : W3.cell? ⟨B1_2, 0, none⟩ = some _ := b3.cell 0
      have r1 : W3.cell? ⟨B1_2, 1, none⟩ = some _ := b3.cell 1
      have r2 : W3.cell? ⟨B1_2, 2, none⟩ = some _ := b3.cell 2
      have r3 : W3.cell? ⟨B1_2, 3, none⟩ = some _ := b3.cell 3
      have r4 : W3.cell? ⟨B1_2, 4, none⟩ = some _ := b3.cell 4
      have r5 : W3.cell? ⟨B1_2, 5, none⟩ = some _ := b3.cell 5
      have r6 : W3.cell? ⟨B1_2, 6, none⟩ = some _ := b3.cell 6
      have r7 : W3.cell? ⟨B1_2, 7, none⟩ = some _ := b3.cell 7
      have r8 : W3.cell? ⟨B1_2, 8, none⟩ = some _ := b3.cell 8
      have r9 : W3.cell? ⟨B1_2, 9, none⟩ = some _ := b3.cell 9
      have r10 : W3.cell? ⟨B1_2, 10, none⟩ = some _ := b3.cell 10
      have r11 : W3.cell? ⟨B1_2, 11, none⟩ = some _ := b3.cell 11
      have Q3 := Lib.hid b3; have QL := Lib.hid l3; clear b3 l3
      refine bodyPost_ret (v := .tuple #[.agg #[.bool false, .bool false, .bool false, .bool false, .bool false, .bool false, .bool false, .bool false, .int .i64 0, .int .u64 0, .int .i64 0, .int .u64 0], .int .i64 c2]) (by simp [results, Try.results12, go_sem, r0, r1, r2, r3, r4, r5, r6, r7, r8, r9, r10, r11]) rfl ⟨rfl, QL.out⟩
    · obtain rfl := E4.out (by trivial) (by trivial)
      have m3_0 : w5.cell? ⟨B3, 0, none⟩ = some _ := K5_3.out.cell 0
      have m3_1 : w5.cell? ⟨B3, 1, none⟩ = some _ := K5_3.out.cell 1
      have m3_2 : w5.cell? ⟨B3, 2, none⟩ = some _ := K5_3.out.cell 2
      have m3_3 : w5.cell? ⟨B3, 3, none⟩ = some _ := K5_3.out.cell 3
      have m3_4 : w5.cell? ⟨B3, 4, none⟩ = some _ := K5_3.out.cell 4
      have m3_5 : w5.cell? ⟨B3, 5, none⟩ = some _ := K5_3.out.cell 5
      have m3_6 : w5.cell? ⟨B3, 6, none⟩ = some _ := K5_3.out.cell 6
      have m3_7 : w5.cell? ⟨B3, 7, none⟩ = some _ := K5_3.out.cell 7
      have m3_8 : w5.cell? ⟨B3, 8, none⟩ = some _ := K5_3.out.cell 8
      have m3_9 : w5.cell? ⟨B3, 9, none⟩ = some _ := K5_3.out.cell 9
      have m3_10 : w5.cell? ⟨B3, 10, none⟩ = some _ := K5_3.out.cell 10
      have m3_11 : w5.cell? ⟨B3, 11, none⟩ = some _ := K5_3.out.cell 11
      have mlt3 : B3 < w5.heap.size := K5_3.out.lt
      have m2_0 : w5.cell? ⟨B1_2, 0, none⟩ = some _ := K5_2.out.cell 0
      have m2_1 : w5.cell? ⟨B1_2, 1, none⟩ = some _ := K5_2.out.cell 1
      have m2_2 : w5.cell? ⟨B1_2, 2, none⟩ = some _ := K5_2.out.cell 2
      have m2_3 : w5.cell? ⟨B1_2, 3, none⟩ = some _ := K5_2.out.cell 3
      have m2_4 : w5.cell? ⟨B1_2, 4, none⟩ = some _ := K5_2.out.cell 4
      have m2_5 : w5.cell? ⟨B1_2, 5, none⟩ = some _ := K5_2.out.cell 5
      have m2_6 : w5.cell? ⟨B1_2, 6, none⟩ = some _ := K5_2.out.cell 6
      have m2_7 : w5.cell? ⟨B1_2, 7, none⟩ = some _ := K5_2.out.cell 7
      have m2_8 : w5.cell? ⟨B1_2, 8, none⟩ = some _ := K5_2.out.cell 8
      have m2_9 : w5.cell? ⟨B1_2, 9, none⟩ = some _ := K5_2.out.cell 9
      have m2_10 : w5.cell? ⟨B1_2, 10, none⟩ = some _ := K5_2.out.cell 10
      have m2_11 : w5.cell? ⟨B1_2, 11, none⟩ = some _ := K5_2.out.cell 11
      have mlt2 : B1_2 < w5.heap.size := K5_2.out.lt
      have mf2 : ∀ o, w5.frozen? ⟨B1_2, o, none⟩ = false := fun o => K5_2.out.free o
      go_wp2
      clear m3_0 m3_1 m3_2 m3_3 m3_4 m3_5 m3_6 m3_7 m3_8 m3_9 m3_10 m3_11 mlt3 m2_0 m2_1 m2_2 m2_3 m2_4 m2_5 m2_6 m2_7 m2_8 m2_9 m2_10 m2_11 mlt2 mf2
      obtain ⟨W3, hW3⟩ : ∃ W9, W9 = ((((((((((((w5.setCell ⟨B1_2, 0, none⟩ (.bool v)).setCell ⟨B1_2, 1, none⟩ (.bool r)).setCell ⟨B1_2, 2, none⟩ (.bool x1)).setCell ⟨B1_2, 3, none⟩ (.bool x)).setCell ⟨B1_2, 4, none⟩ (.bool u)).setCell ⟨B1_2, 5, none⟩ (.bool g)).setCell ⟨B1_2, 6, none⟩ (.bool a)).setCell ⟨B1_2, 7, none⟩ (.bool d)).setCell ⟨B1_2, 8, none⟩ (.int .i64 rsw)).setCell ⟨B1_2, 9, none⟩ (.int .u64 (pn : Int))).setCell ⟨B1_2, 10, none⟩ (.int .i64 (lv : Int))).setCell ⟨B1_2, 11, none⟩ (.int .u64 (pl : Int))) := ⟨_, rfl⟩
      rw [← hW3]
      have b3 : Blk W3 B1_2 [.bool v, .bool r, .bool x1, .bool x, .bool u, .bool g, .bool a, .bool d, .int .i64 rsw, .int .u64 (pn : Int), .int .i64 (lv : Int), .int .u64 (pl : Int)] 34 := hW3 ▸ ((((((((((((K5_2.out.set 0 (.bool v)).set 1 (.bool r)).set 2 (.bool x1)).set 3 (.bool x)).set 4 (.bool u)).set 5 (.bool g)).set 6 (.bool a)).set 7 (.bool d)).set 8 (.int .i64 rsw)).set 9 (.int .u64 (pn : Int))).set 10 (.int .i64 (lv : Int))).set 11 (.int .u64 (pl : Int)))
      have l3 : Below w.heap.size w W3 := hW3 ▸ (Below.setCell (Below.setCell (Below.setCell (Below.setCell (Below.setCell (Below.setCell (Below.setCell (Below.setCell (Below.setCell (Below.setCell (Below.setCell (Below.setCell L5.out G1_2.out _) G1_2.out _) G1_2.out _) G1_2.out _) G1_2.out _) G1_2.out _) G1_2.out _) G1_2.out _) G1_2.out _) G1_2.out _) G1_2.out _) G1_2.out _)
      clear hW3
      have r0 : W3.cell? ⟨B1_2, 0, none⟩ = some _ := b3.cell 0
      have r1 : W3.cell? ⟨B1_2, 1, none⟩ = some _ := b3.cell 1
      have r2 : W3.cell? ⟨B1_2, 2, none⟩ = some _ := b3.cell 2
      have r3 : W3.cell? ⟨B1_2, 3, none⟩ = some _ := b3.cell 3
      have r4 : W3.cell? ⟨B1_2, 4, none⟩ = some _ := b3.cell 4
      have r5 : W3.cell? ⟨B1_2, 5, none⟩ = some _ := b3.cell 5
      have r6 : W3.cell? ⟨B1_2, 6, none⟩ = some _ := b3.cell 6
      have r7 : W3.cell? ⟨B1_2, 7, none⟩ = some _ := b3.cell 7
      have r8 : W3.cell? ⟨B1_2, 8, none⟩ = some _ := b3.cell 8
      have r9 : W3.cell? ⟨B1_2, 9, none⟩ = some _ := b3.cell 9
      have r10 : W3.cell? ⟨B1_2, 10, none⟩ = some _ := b3.cell 10
      have r11 : W3.cell? ⟨B1_2, 11, none⟩ = some _ := b3.cell 11
      have Q3 := Lib.hid b3; have QL := Lib.hid l3; clear b3 l3
      refine bodyPost_ret (v := .tuple #[.agg #[.bool v, .bool r, .bool x1, .bool x, .bool u, .bool g, .bool a, .bool d, .int .i64 rsw, .int .u64 (pn : Int), .int .i64 (lv : Int), .int .u64 (pl : Int)], .int .i64 (-1)]) (by simp [results, Try.results12, go_sem, r0, r1, r2, r3, r4, r5, r6, r7, r8, r9, r10, r11]) rfl ⟨rfl, QL.out⟩
  · have f0 : ((er : Int) != 0) = true := by simp; omega
    obtain rfl := E2.out h61 h0
    clear h61 h0
    go_wp2_with fail
    refine (H2.out _).mono ?_
    rintro e w7 ⟨rfl, hb⟩
    have L7 := Lib.hid (L3.out.trans (hb.mono L3.out.size))
    have K7_0 := Lib.hid (K3_0.out.below hb K3_0.out.lt)
    have K7_1 := Lib.hid (K3_1.out.below hb K3_1.out.lt)
    have K7_2 := Lib.hid (K3_2.out.below hb K3_2.out.lt)
    have K7_3 := Lib.hid (K3_3.out.below hb K3_3.out.lt)
    clear hb K3_0 K3_1 K3_2 K3_3
    have m2_0 : w7.cell? ⟨B1_2, 0, none⟩ = some _ := K7_2.out.cell 0
    have m2_1 : w7.cell? ⟨B1_2, 1, none⟩ = some _ := K7_2.out.cell 1
    have m2_2 : w7.cell? ⟨B1_2, 2, none⟩ = some _ := K7_2.out.cell 2
    have m2_3 : w7.cell? ⟨B1_2, 3, none⟩ = some _ := K7_2.out.cell 3
    have m2_4 : w7.cell? ⟨B1_2, 4, none⟩ = some _ := K7_2.out.cell 4
    have m2_5 : w7.cell? ⟨B1_2, 5, none⟩ = some _ := K7_2.out.cell 5
    have m2_6 : w7.cell? ⟨B1_2, 6, none⟩ = some _ := K7_2.out.cell 6
    have m2_7 : w7.cell? ⟨B1_2, 7, none⟩ = some _ := K7_2.out.cell 7
    have m2_8 : w7.cell? ⟨B1_2, 8, none⟩ = some _ := K7_2.out.cell 8
    have m2_9 : w7.cell? ⟨B1_2, 9, none⟩ = some _ := K7_2.out.cell 9
    have m2_10 : w7.cell? ⟨B1_2, 10, none⟩ = some _ := K7_2.out.cell 10
    have m2_11 : w7.cell? ⟨B1_2, 11, none⟩ = some _ := K7_2.out.cell 11
    have mlt2 : B1_2 < w7.heap.size := K7_2.out.lt
    have mf2 : ∀ o, w7.frozen? ⟨B1_2, o, none⟩ = false := fun o => K7_2.out.free o
    go_wp2
    clear m2_0 m2_1 m2_2 m2_3 m2_4 m2_5 m2_6 m2_7 m2_8 m2_9 m2_10 m2_11 mlt2 mf2
    obtain ⟨W3, hW3⟩ : ∃ W9, W9 = ((((((((((((w7.setCell ⟨B1_2, 0, none⟩ (.bool false)).setCell ⟨B1_2, 1, none⟩ (.bool false)).setCell ⟨B1_2, 2, none⟩ (.bool false)).setCell ⟨B1_2, 3, none⟩ (.bool false)).setCell ⟨B1_2, 4, none⟩ (.bool false)).setCell ⟨B1_2, 5, none⟩ (.bool false)).setCell ⟨B1_2, 6, none⟩ (.bool false)).setCell ⟨B1_2, 7, none⟩ (.bool false)).setCell ⟨B1_2, 8, none⟩ (.int .i64 0)).setCell ⟨B1_2, 9, none⟩ (.int .u64 0)).setCell ⟨B1_2, 10, none⟩ (.int .i64 0)).setCell ⟨B1_2, 11, none⟩ (.int .u64 0)) := ⟨_, rfl⟩
    rw [← hW3]
    have b3 : Blk W3 B1_2 [.bool false, .bool false, .bool false, .bool false, .bool false, .bool false, .bool false, .bool false, .int .i64 0, .int .u64 0, .int .i64 0, .int .u64 0] 34 := hW3 ▸ ((((((((((((K7_2.out.set 0 (.bool false)).set 1 (.bool false)).set 2 (.bool false)).set 3 (.bool false)).set 4 (.bool false)).set 5 (.bool false)).set 6 (.bool false)).set 7 (.bool false)).set 8 (.int .i64 0)).set 9 (.int .u64 0)).set 10 (.int .i64 0)).set 11 (.int .u64 0))
    have l3 : Below w.heap.size w W3 := hW3 ▸ (Below.setCell (Below.setCell (Below.setCell (Below.setCell (Below.setCell (Below.setCell (Below.setCell (Below.setCell (Below.setCell (Below.setCell (Below.setCell (Below.setCell L7.out G1_2.out _) G1_2.out _) G1_2.out _) G1_2.out _) G1_2.out _) G1_2.out _) G1_2.out _) G1_2.out _) G1_2.out _) G1_2.out _) G1_2.out _) G1_2.out _)
    clear hW3
    have r0 : W3.cell? ⟨B1_2, 0, none⟩ = some _ := b3.cell 0
    have r1 : W3.cell? ⟨B1_2, 1, none⟩ = some _ := b3.cell 1
    have r2 : W3.cell? ⟨B1_2, 2, none⟩ = some _ := b3.cell 2
    have r3 : W3.cell? ⟨B1_2, 3, none⟩ = some _ := b3.cell 3
    have r4 : W3.cell? ⟨B1_2, 4, none⟩ = some _ := b3.cell 4
    have r5 : W3.cell? ⟨B1_2, 5, none⟩ = some _ := b3.cell 5
    have r6 : W3.cell? ⟨B1_2, 6, none⟩ = some _ := b3.cell 6
    have r7 : W3.cell? ⟨B1_2, 7, none⟩ = some _ := b3.cell 7
    have r8 : W3.cell? ⟨B1_2, 8, none⟩ = some _ := b3.cell 8
    have r9 : W3.cell? ⟨B1_2, 9, none⟩ = some _ := b3.cell 9
    have r10 : W3.cell? ⟨B1_2, 10, none⟩ = some _ := b3.cell 10
    have r11 : W3.cell? ⟨B1_2, 11, none⟩ = some _ := b3.cell 11
    have Q3 := Lib.hid b3; have QL := Lib.hid l3; clear b3 l3
    refine bodyPost_ret (v := .tuple #[.agg #[.bool false, .bool false, .bool false, .bool false, .bool false, .bool false, .bool false, .bool false, .int .i64 0, .int .u64 0, .int .i64 0, .int .u64 0], .int .i64 c2]) (by simp [results, Try.results12, go_sem, r0, r1, r2, r3, r4, r5, r6, r7, r8, r9, r10, r11]) rfl ⟨rfl, QL.out⟩
theorem wwalk_any (mp fr n va : Nat) (S : Stp) (k : Int) (m : Md) (C : Nat → List Int) (F : Nat → Prop) (w : World) (hM : MemX w mp fr n C F) (hv : va < 18446744073709551616) (hs : S.ppn < 18446744073709551616) :
    Calls Try.prog 12 #[.pointer (some ⟨mp, 0, none⟩), sv S, .int .u64 va, .int .i64 k, mv m] w fun r w' => r = .returned (.tuple #[lfv (walkW fr (Mw C) S va k m).1, .int .i64 (walkW fr (Mw C) S va k m).2]) ∧ Below w.heap.size w w' :=
  wwalk_of _ S va _ k m _ w (fun w' hb => wfind_any mp fr n va S C F w' (hM.below hb) hv hs)
theorem wwalk_nil (va : Nat) (S : Stp) (k : Int) (m : Md) (w : World) :
    Calls Try.prog 12 #[.pointer none, sv S, .int .u64 va, .int .i64 k, mv m] w fun r w' => r = .returned (.tuple #[lfv zl, .int .i64 (cau k 12 13 15)]) ∧ Below w.heap.size w w' :=
  wwalk_of _ S va 1 k m zl w (fun w' hb => wfind_nil S va w')
end Go.Proofs.Ytibmjbfnjkmjbaa
