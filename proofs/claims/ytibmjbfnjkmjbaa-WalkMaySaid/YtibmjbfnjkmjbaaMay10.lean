/-
  The statement WalkMay: its walk over the translation. No conditions but that the arguments are of their types.
-/
import Derived.Test.YtibmjbfnjkmjbaaLaw10
import Derived.Test.YtibmjbfnjkmjbaaRefW10
import Derived.Laws.StructEq
import Derived.Deep.Cut
namespace Go.Proofs.Ytibmjbfnjkmjbaa
open Go.RowKit
set_option linter.unusedVariables false
set_option linter.unusedSimpArgs false
attribute [local go_sem] setCell_drewN alloc_drewN

set_option maxHeartbeats 8000000 in
theorem may_walk (A : Option Addr) (len cap : Nat) (ws : List (Nat × Nat)) (va n0 n1 n2 n3 n4 : Nat) (w : World) (hW : IsWords w A len ws) (hl : len ≤ 9223372036854775807) (hv : va < 18446744073709551616) (b0 : n0 < 256) (b1 : n1 < 256) (b2 : n2 < 256) (b3 : n3 < 256) :
    Calls Try.prog 4 #[.slice A len cap, .int .u64 va, .agg #[.int .u8 (n0 : Int), .int .u8 (n1 : Int), .int .u8 (n2 : Int), .int .u8 (n3 : Int), .int .u8 (n4 : Int)]] w fun e w' => e = .returned (.bool true) ∧ Below w.heap.size w w' := by
  have h0 := fun w' (hb : Below w.heap.size w w') => laid_any 6 A len cap ws w' (by omega) (by omega) (hW.below hb) hl
  have H0 := Lib.hid h0; clear h0 hW
  go_enter Try.func4, Try.ntmps4
  go_wp2_with fail
  have nb0 : Blk (w.alloc (.cells #[.int .u8 (n0 : Int), .int .u8 (n1 : Int), .int .u8 (n2 : Int), .int .u8 (n3 : Int), .int .u8 (n4 : Int)] 43)) (w.heap.size) [.int .u8 (n0 : Int), .int .u8 (n1 : Int), .int .u8 (n2 : Int), .int .u8 (n3 : Int), .int .u8 (n4 : Int)] 43 := Blk.new w [.int .u8 (n0 : Int), .int .u8 (n1 : Int), .int .u8 (n2 : Int), .int .u8 (n3 : Int), .int .u8 (n4 : Int)] 43
  have nls : Below w.heap.size w w := (Below.refl w.heap.size w)
  have nl0 := nls.alloc nls.size (.cells #[.int .u8 (n0 : Int), .int .u8 (n1 : Int), .int .u8 (n2 : Int), .int .u8 (n3 : Int), .int .u8 (n4 : Int)] 43)
  have nl : Below w.heap.size w (w.alloc (.cells #[.int .u8 (n0 : Int), .int .u8 (n1 : Int), .int .u8 (n2 : Int), .int .u8 (n3 : Int), .int .u8 (n4 : Int)] 43)) := nl0; clear nls nl0
  obtain ⟨B1, hB0⟩ : ∃ B, B = w.heap.size := ⟨_, rfl⟩
  obtain ⟨W1, hW⟩ : ∃ W, W = (w.alloc (.cells #[.int .u8 (n0 : Int), .int .u8 (n1 : Int), .int .u8 (n2 : Int), .int .u8 (n3 : Int), .int .u8 (n4 : Int)] 43)) := ⟨_, rfl⟩
  rw [← hW] at nl nb0
  rw [← hB0] at nb0
  rw [← hW]
  try rw [← hB0]
  have K1_0 := Lib.hid nb0
  have G1 : Hid (w.heap.size ≤ B1) := Lib.hid (by have := (Nat.le_refl w.heap.size); omega)
  have L1 := Lib.hid nl
  clear nl hW nb0 hB0
  refine (first_any _).mono ?_
  rintro e w2 ⟨rfl, hb⟩
  have L2 := Lib.hid (L1.out.trans (hb.mono L1.out.size))
  have K2_0 := Lib.hid (K1_0.out.below hb K1_0.out.lt)
  clear hb K1_0
  go_wp2_with fail
  refine (H0.out _ L2.out).mono ?_
  rintro e w3 ⟨mp, rm, F, vv, C, kk, rfl, hT, hb⟩
  have L3 := Lib.hid (L2.out.trans (hb.mono L2.out.size))
  have K3_0 := Lib.hid (K2_0.out.below hb K2_0.out.lt)
  clear hb K2_0
  have TT := Lib.hid hT; clear hT
  obtain ⟨on, hon⟩ : ∃ b, decide (0 < (n0 : Int) % 8) = b := ⟨_, rfl⟩
  obtain ⟨ppn, hpp⟩ : ∃ p : Nat, (n1 : Int) % 8 = (p : Int) := ⟨n1 % 8, by omega⟩
  obtain ⟨k, hk⟩ : ∃ k : Int, (n2 : Int) % 5 - 1 = k := ⟨_, rfl⟩
  obtain ⟨us, hus⟩ : ∃ b, ((n3 : Int) % 2 == 0) = b := ⟨_, rfl⟩
  obtain ⟨sm, hsm⟩ : ∃ b, decide (1 < (n3 : Int) % 4) = b := ⟨_, rfl⟩
  obtain ⟨mx, hmx⟩ : ∃ b, decide (3 < (n3 : Int) % 8) = b := ⟨_, rfl⟩
  have hs : ppn < 18446744073709551616 := by omega
  have hk5 : k = -1 ∨ k = 0 ∨ k = 1 ∨ k = 2 ∨ k = 3 := by omega
  have HK5 := Lib.hid hk5; clear hk5
  have hf := fun w' (hb : Below w3.heap.size w3 w') => wwalk_any mp 6 kk va ⟨on, 0, ppn⟩ k ⟨us, sm, mx⟩ C F w' (TT.out.mem.below hb) hv hs
  have hr := fun w' (hb : Below w3.heap.size w3 w') => rwalk_any rm 6 va ⟨on, 0, ppn⟩ k ⟨us, sm, mx⟩ vv C _ w' (TT.out.ref.below hb) TT.out.agr TT.out.mem.word (by omega) hv hs
  have hn : ∀ w, Calls Try.prog 12 #[.pointer none, sv ⟨on, 0, ppn⟩, .int .u64 va, .int .i64 k, mv ⟨us, sm, mx⟩] w fun r w' => r = .returned (.tuple #[.agg #[.bool false, .bool false, .bool false, .bool false, .bool false, .bool false, .bool false, .bool false, .int .i64 0, .int .u64 0, .int .i64 0, .int .u64 0], .int .i64 (cau k 12 13 15)]) ∧ Below w.heap.size w w' := fun w => wwalk_nil va ⟨on, 0, ppn⟩ k ⟨us, sm, mx⟩ w
  obtain ⟨c9, hc9⟩ : ∃ c, cau k 12 13 15 = c := ⟨_, rfl⟩
  rw [hc9] at hn
  generalize walkW 6 (Mw C) ⟨on, 0, ppn⟩ va k ⟨us, sm, mx⟩ = Z at *
  obtain ⟨⟨⟨v, r, x1, x, u, g, a, d, rsw, pn⟩, lv, pl⟩, er⟩ := Z
  unfold lfv sv mv at *
  dsimp only at *
  have HF := Lib.hid hf; have HR := Lib.hid hr; have HN := Lib.hid hn; have HC9 := Lib.hid hc9; clear hf hr hn hc9
  have m0_0 : w3.cell? ⟨B1, 0, none⟩ = some _ := K3_0.out.cell 0
  have m0_1 : w3.cell? ⟨B1, 1, none⟩ = some _ := K3_0.out.cell 1
  have m0_2 : w3.cell? ⟨B1, 2, none⟩ = some _ := K3_0.out.cell 2
  have m0_3 : w3.cell? ⟨B1, 3, none⟩ = some _ := K3_0.out.cell 3
  have m0_4 : w3.cell? ⟨B1, 4, none⟩ = some _ := K3_0.out.cell 4
  have mlt0 : B1 < w3.heap.size := K3_0.out.lt
  go_upto_region 7 with (fail)
  clear m0_0 m0_1 m0_2 m0_3 m0_4 mlt0
  have HPP := Lib.hid hpp; have HK := Lib.hid hk; clear hon hpp hk hus hsm hmx
  have nb0 : Blk (w3.alloc (.cells #[.bool on, .int .i64 0, .int .u64 (ppn : Int)] 25)) (w3.heap.size) [.bool on, .int .i64 0, .int .u64 (ppn : Int)] 25 := Blk.new w3 [.bool on, .int .i64 0, .int .u64 (ppn : Int)] 25
  replace nb0 := nb0.alloc (.cells #[.bool us, .bool sm, .bool mx] 46)
  have nb1 : Blk ((w3.alloc (.cells #[.bool on, .int .i64 0, .int .u64 (ppn : Int)] 25)).alloc (.cells #[.bool us, .bool sm, .bool mx] 46)) (w3.heap.size + 1) [.bool us, .bool sm, .bool mx] 46 := Blk.nextn (w3.alloc (.cells #[.bool on, .int .i64 0, .int .u64 (ppn : Int)] 25)) (w3.heap.size + 1) [.bool us, .bool sm, .bool mx] 46 (by simp)
  have nls : Below w3.heap.size w3 w3 := (Below.refl w3.heap.size w3)
  have nl0 := nls.alloc nls.size (.cells #[.bool on, .int .i64 0, .int .u64 (ppn : Int)] 25)
  have nl1 := nl0.alloc nl0.size (.cells #[.bool us, .bool sm, .bool mx] 46)
  have nl : Below w3.heap.size w3 ((w3.alloc (.cells #[.bool on, .int .i64 0, .int .u64 (ppn : Int)] 25)).alloc (.cells #[.bool us, .bool sm, .bool mx] 46)) := nl1; clear nls nl0 nl1
  have o0 : Blk ((w3.alloc (.cells #[.bool on, .int .i64 0, .int .u64 (ppn : Int)] 25)).alloc (.cells #[.bool us, .bool sm, .bool mx] 46)) B1 [.int .u8 (n0 : Int), .int .u8 (n1 : Int), .int .u8 (n2 : Int), .int .u8 (n3 : Int), .int .u8 (n4 : Int)] 43 := ((K3_0.out.alloc (.cells #[.bool on, .int .i64 0, .int .u64 (ppn : Int)] 25)).alloc (.cells #[.bool us, .bool sm, .bool mx] 46))
  have d4_0 : B1 < w3.heap.size := K3_0.out.lt
  obtain ⟨B4_1, hB1⟩ : ∃ B, B = w3.heap.size + 1 := ⟨_, rfl⟩
  obtain ⟨B4_0, hB0⟩ : ∃ B, B = w3.heap.size := ⟨_, rfl⟩
  obtain ⟨W4, hW⟩ : ∃ W, W = ((w3.alloc (.cells #[.bool on, .int .i64 0, .int .u64 (ppn : Int)] 25)).alloc (.cells #[.bool us, .bool sm, .bool mx] 46)) := ⟨_, rfl⟩
  rw [← hW] at nl nb0 nb1 o0
  rw [← hB1] at nb1
  rw [← hB0] at nb0
  rw [← hW]
  try rw [← hB1]
  try rw [← hB0]
  have K4_0 := Lib.hid o0
  have K4_1 := Lib.hid nb0
  have G4_0 : Hid (w3.heap.size ≤ B4_0) := Lib.hid (by have := (Nat.le_refl w3.heap.size); omega)
  have x4_0_0 : B1 ≠ B4_0 := by omega
  have K4_2 := Lib.hid nb1
  have G4_1 : Hid (w3.heap.size ≤ B4_1) := Lib.hid (by have := (Nat.le_refl w3.heap.size); omega)
  have x4_0_1 : B1 ≠ B4_1 := by omega
  have y4_0_1 : B4_0 ≠ B4_1 := by omega
  have X4_0_0 := Lib.hid x4_0_0; clear x4_0_0
  have X4_0_1 := Lib.hid x4_0_1; clear x4_0_1
  have Y4_0_1 := Lib.hid y4_0_1; clear y4_0_1
  have L4 := Lib.hid nl
  clear nl hW nb0 hB0 nb1 hB1 o0 d4_0 K3_0
  have m0_0 : W4.cell? ⟨B4_0, 0, none⟩ = some _ := K4_1.out.cell 0
  have m0_1 : W4.cell? ⟨B4_0, 1, none⟩ = some _ := K4_1.out.cell 1
  have m0_2 : W4.cell? ⟨B4_0, 2, none⟩ = some _ := K4_1.out.cell 2
  have mlt0 : B4_0 < W4.heap.size := K4_1.out.lt
  have m1_0 : W4.cell? ⟨B4_1, 0, none⟩ = some _ := K4_2.out.cell 0
  have m1_1 : W4.cell? ⟨B4_1, 1, none⟩ = some _ := K4_2.out.cell 1
  have m1_2 : W4.cell? ⟨B4_1, 2, none⟩ = some _ := K4_2.out.cell 2
  have mlt1 : B4_1 < W4.heap.size := K4_2.out.lt
  go_wp2_with fail
  clear m0_0 m0_1 m0_2 mlt0 m1_0 m1_1 m1_2 mlt1
  refine (HF.out _ L4.out).mono ?_
  rintro e w5 ⟨rfl, hb⟩
  have L5 := Lib.hid (L4.out.trans (hb.mono L4.out.size))
  have K5_0 := Lib.hid (K4_1.out.below hb K4_1.out.lt)
  have K5_1 := Lib.hid (K4_2.out.below hb K4_2.out.lt)
  clear hb K4_1 K4_2
  go_upto_region 8 with (fail)
  have nb0 : Blk (w5.alloc (.cells #[.bool v, .bool r, .bool x1, .bool x, .bool u, .bool g, .bool a, .bool d, .int .i64 rsw, .int .u64 (pn : Int), .int .i64 (lv : Int), .int .u64 (pl : Int)] 34)) (w5.heap.size) [.bool v, .bool r, .bool x1, .bool x, .bool u, .bool g, .bool a, .bool d, .int .i64 rsw, .int .u64 (pn : Int), .int .i64 (lv : Int), .int .u64 (pl : Int)] 34 := Blk.new w5 [.bool v, .bool r, .bool x1, .bool x, .bool u, .bool g, .bool a, .bool d, .int .i64 rsw, .int .u64 (pn : Int), .int .i64 (lv : Int), .int .u64 (pl : Int)] 34
  have nls : Below w3.heap.size w3 w5 := L5.out
  have nl0 := nls.alloc nls.size (.cells #[.bool v, .bool r, .bool x1, .bool x, .bool u, .bool g, .bool a, .bool d, .int .i64 rsw, .int .u64 (pn : Int), .int .i64 (lv : Int), .int .u64 (pl : Int)] 34)
  have nl : Below w3.heap.size w3 (w5.alloc (.cells #[.bool v, .bool r, .bool x1, .bool x, .bool u, .bool g, .bool a, .bool d, .int .i64 rsw, .int .u64 (pn : Int), .int .i64 (lv : Int), .int .u64 (pl : Int)] 34)) := nl0; clear nls nl0
  have o0 : Blk (w5.alloc (.cells #[.bool v, .bool r, .bool x1, .bool x, .bool u, .bool g, .bool a, .bool d, .int .i64 rsw, .int .u64 (pn : Int), .int .i64 (lv : Int), .int .u64 (pl : Int)] 34)) B4_0 [.bool on, .int .i64 0, .int .u64 (ppn : Int)] 25 := (K5_0.out.alloc (.cells #[.bool v, .bool r, .bool x1, .bool x, .bool u, .bool g, .bool a, .bool d, .int .i64 rsw, .int .u64 (pn : Int), .int .i64 (lv : Int), .int .u64 (pl : Int)] 34))
  have d6_0 : B4_0 < w5.heap.size := K5_0.out.lt
  have o1 : Blk (w5.alloc (.cells #[.bool v, .bool r, .bool x1, .bool x, .bool u, .bool g, .bool a, .bool d, .int .i64 rsw, .int .u64 (pn : Int), .int .i64 (lv : Int), .int .u64 (pl : Int)] 34)) B4_1 [.bool us, .bool sm, .bool mx] 46 := (K5_1.out.alloc (.cells #[.bool v, .bool r, .bool x1, .bool x, .bool u, .bool g, .bool a, .bool d, .int .i64 rsw, .int .u64 (pn : Int), .int .i64 (lv : Int), .int .u64 (pl : Int)] 34))
  have d6_1 : B4_1 < w5.heap.size := K5_1.out.lt
  obtain ⟨B6, hB0⟩ : ∃ B, B = w5.heap.size := ⟨_, rfl⟩
  obtain ⟨W6, hW⟩ : ∃ W, W = (w5.alloc (.cells #[.bool v, .bool r, .bool x1, .bool x, .bool u, .bool g, .bool a, .bool d, .int .i64 rsw, .int .u64 (pn : Int), .int .i64 (lv : Int), .int .u64 (pl : Int)] 34)) := ⟨_, rfl⟩
  rw [← hW] at nl nb0 o0 o1
  rw [← hB0] at nb0
  rw [← hW]
  try rw [← hB0]
  have K6_0 := Lib.hid o0
  have K6_1 := Lib.hid o1
  have K6_2 := Lib.hid nb0
  have G6 : Hid (w3.heap.size ≤ B6) := Lib.hid (by have := L5.out.size; omega)
  have x6_0_0 : B4_0 ≠ B6 := by omega
  have x6_1_0 : B4_1 ≠ B6 := by omega
  have X6_0_0 := Lib.hid x6_0_0; clear x6_0_0
  have X6_1_0 := Lib.hid x6_1_0; clear x6_1_0
  have L6 := Lib.hid nl
  clear nl hW nb0 hB0 o0 d6_0 o1 d6_1 K5_0 K5_1
  have m0_0 : W6.cell? ⟨B4_0, 0, none⟩ = some _ := K6_0.out.cell 0
  have m0_1 : W6.cell? ⟨B4_0, 1, none⟩ = some _ := K6_0.out.cell 1
  have m0_2 : W6.cell? ⟨B4_0, 2, none⟩ = some _ := K6_0.out.cell 2
  have mlt0 : B4_0 < W6.heap.size := K6_0.out.lt
  have m1_0 : W6.cell? ⟨B4_1, 0, none⟩ = some _ := K6_1.out.cell 0
  have m1_1 : W6.cell? ⟨B4_1, 1, none⟩ = some _ := K6_1.out.cell 1
  have m1_2 : W6.cell? ⟨B4_1, 2, none⟩ = some _ := K6_1.out.cell 2
  have mlt1 : B4_1 < W6.heap.size := K6_1.out.lt
  go_wp2_with fail
  clear m0_0 m0_1 m0_2 mlt0 m1_0 m1_1 m1_2 mlt1
  refine (HR.out _ L6.out).mono ?_
  rintro e w7 ⟨rfl, hb⟩
  have L7 := Lib.hid (L6.out.trans (hb.mono L6.out.size))
  have K7_0 := Lib.hid (K6_0.out.below hb K6_0.out.lt)
  have K7_1 := Lib.hid (K6_1.out.below hb K6_1.out.lt)
  have K7_2 := Lib.hid (K6_2.out.below hb K6_2.out.lt)
  clear hb K6_0 K6_1 K6_2
  go_upto_region 9 with (fail)
  have nb0 : Blk (w7.alloc (.cells #[.bool v, .bool r, .bool x1, .bool x, .bool u, .bool g, .bool a, .bool d, .int .i64 rsw, .int .u64 (pn : Int), .int .i64 (lv : Int), .int .u64 (pl : Int)] 34)) (w7.heap.size) [.bool v, .bool r, .bool x1, .bool x, .bool u, .bool g, .bool a, .bool d, .int .i64 rsw, .int .u64 (pn : Int), .int .i64 (lv : Int), .int .u64 (pl : Int)] 34 := Blk.new w7 [.bool v, .bool r, .bool x1, .bool x, .bool u, .bool g, .bool a, .bool d, .int .i64 rsw, .int .u64 (pn : Int), .int .i64 (lv : Int), .int .u64 (pl : Int)] 34
  have nls : Below w3.heap.size w3 w7 := L7.out
  have nl0 := nls.alloc nls.size (.cells #[.bool v, .bool r, .bool x1, .bool x, .bool u, .bool g, .bool a, .bool d, .int .i64 rsw, .int .u64 (pn : Int), .int .i64 (lv : Int), .int .u64 (pl : Int)] 34)
  have nl : Below w3.heap.size w3 (w7.alloc (.cells #[.bool v, .bool r, .bool x1, .bool x, .bool u, .bool g, .bool a, .bool d, .int .i64 rsw, .int .u64 (pn : Int), .int .i64 (lv : Int), .int .u64 (pl : Int)] 34)) := nl0; clear nls nl0
  have o0 : Blk (w7.alloc (.cells #[.bool v, .bool r, .bool x1, .bool x, .bool u, .bool g, .bool a, .bool d, .int .i64 rsw, .int .u64 (pn : Int), .int .i64 (lv : Int), .int .u64 (pl : Int)] 34)) B4_0 [.bool on, .int .i64 0, .int .u64 (ppn : Int)] 25 := (K7_0.out.alloc (.cells #[.bool v, .bool r, .bool x1, .bool x, .bool u, .bool g, .bool a, .bool d, .int .i64 rsw, .int .u64 (pn : Int), .int .i64 (lv : Int), .int .u64 (pl : Int)] 34))
  have d8_0 : B4_0 < w7.heap.size := K7_0.out.lt
  have o1 : Blk (w7.alloc (.cells #[.bool v, .bool r, .bool x1, .bool x, .bool u, .bool g, .bool a, .bool d, .int .i64 rsw, .int .u64 (pn : Int), .int .i64 (lv : Int), .int .u64 (pl : Int)] 34)) B4_1 [.bool us, .bool sm, .bool mx] 46 := (K7_1.out.alloc (.cells #[.bool v, .bool r, .bool x1, .bool x, .bool u, .bool g, .bool a, .bool d, .int .i64 rsw, .int .u64 (pn : Int), .int .i64 (lv : Int), .int .u64 (pl : Int)] 34))
  have d8_1 : B4_1 < w7.heap.size := K7_1.out.lt
  have o2 : Blk (w7.alloc (.cells #[.bool v, .bool r, .bool x1, .bool x, .bool u, .bool g, .bool a, .bool d, .int .i64 rsw, .int .u64 (pn : Int), .int .i64 (lv : Int), .int .u64 (pl : Int)] 34)) B6 [.bool v, .bool r, .bool x1, .bool x, .bool u, .bool g, .bool a, .bool d, .int .i64 rsw, .int .u64 (pn : Int), .int .i64 (lv : Int), .int .u64 (pl : Int)] 34 := (K7_2.out.alloc (.cells #[.bool v, .bool r, .bool x1, .bool x, .bool u, .bool g, .bool a, .bool d, .int .i64 rsw, .int .u64 (pn : Int), .int .i64 (lv : Int), .int .u64 (pl : Int)] 34))
  have d8_2 : B6 < w7.heap.size := K7_2.out.lt
  obtain ⟨B8, hB0⟩ : ∃ B, B = w7.heap.size := ⟨_, rfl⟩
  obtain ⟨W8, hW⟩ : ∃ W, W = (w7.alloc (.cells #[.bool v, .bool r, .bool x1, .bool x, .bool u, .bool g, .bool a, .bool d, .int .i64 rsw, .int .u64 (pn : Int), .int .i64 (lv : Int), .int .u64 (pl : Int)] 34)) := ⟨_, rfl⟩
  rw [← hW] at nl nb0 o0 o1 o2
  rw [← hB0] at nb0
  rw [← hW]
  try rw [← hB0]
  have K8_0 := Lib.hid o0
  have K8_1 := Lib.hid o1
  have K8_2 := Lib.hid o2
  have K8_3 := Lib.hid nb0
  have G8 : Hid (w3.heap.size ≤ B8) := Lib.hid (by have := L7.out.size; omega)
  have x8_0_0 : B4_0 ≠ B8 := by omega
  have x8_1_0 : B4_1 ≠ B8 := by omega
  have x8_2_0 : B6 ≠ B8 := by omega
  have X8_0_0 := Lib.hid x8_0_0; clear x8_0_0
  have X8_1_0 := Lib.hid x8_1_0; clear x8_1_0
  have X8_2_0 := Lib.hid x8_2_0; clear x8_2_0
  have L8 := Lib.hid nl
  clear nl hW nb0 hB0 o0 d8_0 o1 d8_1 o2 d8_2 K7_0 K7_1 K7_2
  have m0_0 : W8.cell? ⟨B4_0, 0, none⟩ = some _ := K8_0.out.cell 0
  have m0_1 : W8.cell? ⟨B4_0, 1, none⟩ = some _ := K8_0.out.cell 1
  have m0_2 : W8.cell? ⟨B4_0, 2, none⟩ = some _ := K8_0.out.cell 2
  have mlt0 : B4_0 < W8.heap.size := K8_0.out.lt
  have m1_0 : W8.cell? ⟨B4_1, 0, none⟩ = some _ := K8_1.out.cell 0
  have m1_1 : W8.cell? ⟨B4_1, 1, none⟩ = some _ := K8_1.out.cell 1
  have m1_2 : W8.cell? ⟨B4_1, 2, none⟩ = some _ := K8_1.out.cell 2
  have mlt1 : B4_1 < W8.heap.size := K8_1.out.lt
  go_wp2_with fail
  clear m0_0 m0_1 m0_2 mlt0 m1_0 m1_1 m1_2 mlt1
  refine (HN.out _).mono ?_
  rintro e w9 ⟨rfl, hb⟩
  have L9 := Lib.hid (L8.out.trans (hb.mono L8.out.size))
  have K9_0 := Lib.hid (K8_0.out.below hb K8_0.out.lt)
  have K9_1 := Lib.hid (K8_1.out.below hb K8_1.out.lt)
  have K9_2 := Lib.hid (K8_2.out.below hb K8_2.out.lt)
  have K9_3 := Lib.hid (K8_3.out.below hb K8_3.out.lt)
  clear hb K8_0 K8_1 K8_2 K8_3
  go_upto_region 10 with (fail)
  have nb0 : Blk (w9.alloc (.cells #[.bool false, .bool false, .bool false, .bool false, .bool false, .bool false, .bool false, .bool false, .int .i64 0, .int .u64 0, .int .i64 0, .int .u64 0] 34)) (w9.heap.size) [.bool false, .bool false, .bool false, .bool false, .bool false, .bool false, .bool false, .bool false, .int .i64 0, .int .u64 0, .int .i64 0, .int .u64 0] 34 := Blk.new w9 [.bool false, .bool false, .bool false, .bool false, .bool false, .bool false, .bool false, .bool false, .int .i64 0, .int .u64 0, .int .i64 0, .int .u64 0] 34
  have nls : Below w3.heap.size w3 w9 := L9.out
  have nl0 := nls.alloc nls.size (.cells #[.bool false, .bool false, .bool false, .bool false, .bool false, .bool false, .bool false, .bool false, .int .i64 0, .int .u64 0, .int .i64 0, .int .u64 0] 34)
  have nl : Below w3.heap.size w3 (w9.alloc (.cells #[.bool false, .bool false, .bool false, .bool false, .bool false, .bool false, .bool false, .bool false, .int .i64 0, .int .u64 0, .int .i64 0, .int .u64 0] 34)) := nl0; clear nls nl0
  have o0 : Blk (w9.alloc (.cells #[.bool false, .bool false, .bool false, .bool false, .bool false, .bool false, .bool false, .bool false, .int .i64 0, .int .u64 0, .int .i64 0, .int .u64 0] 34)) B4_0 [.bool on, .int .i64 0, .int .u64 (ppn : Int)] 25 := (K9_0.out.alloc (.cells #[.bool false, .bool false, .bool false, .bool false, .bool false, .bool false, .bool false, .bool false, .int .i64 0, .int .u64 0, .int .i64 0, .int .u64 0] 34))
  have d10_0 : B4_0 < w9.heap.size := K9_0.out.lt
  have o1 : Blk (w9.alloc (.cells #[.bool false, .bool false, .bool false, .bool false, .bool false, .bool false, .bool false, .bool false, .int .i64 0, .int .u64 0, .int .i64 0, .int .u64 0] 34)) B4_1 [.bool us, .bool sm, .bool mx] 46 := (K9_1.out.alloc (.cells #[.bool false, .bool false, .bool false, .bool false, .bool false, .bool false, .bool false, .bool false, .int .i64 0, .int .u64 0, .int .i64 0, .int .u64 0] 34))
  have d10_1 : B4_1 < w9.heap.size := K9_1.out.lt
  have o2 : Blk (w9.alloc (.cells #[.bool false, .bool false, .bool false, .bool false, .bool false, .bool false, .bool false, .bool false, .int .i64 0, .int .u64 0, .int .i64 0, .int .u64 0] 34)) B6 [.bool v, .bool r, .bool x1, .bool x, .bool u, .bool g, .bool a, .bool d, .int .i64 rsw, .int .u64 (pn : Int), .int .i64 (lv : Int), .int .u64 (pl : Int)] 34 := (K9_2.out.alloc (.cells #[.bool false, .bool false, .bool false, .bool false, .bool false, .bool false, .bool false, .bool false, .int .i64 0, .int .u64 0, .int .i64 0, .int .u64 0] 34))
  have d10_2 : B6 < w9.heap.size := K9_2.out.lt
  have o3 : Blk (w9.alloc (.cells #[.bool false, .bool false, .bool false, .bool false, .bool false, .bool false, .bool false, .bool false, .int .i64 0, .int .u64 0, .int .i64 0, .int .u64 0] 34)) B8 [.bool v, .bool r, .bool x1, .bool x, .bool u, .bool g, .bool a, .bool d, .int .i64 rsw, .int .u64 (pn : Int), .int .i64 (lv : Int), .int .u64 (pl : Int)] 34 := (K9_3.out.alloc (.cells #[.bool false, .bool false, .bool false, .bool false, .bool false, .bool false, .bool false, .bool false, .int .i64 0, .int .u64 0, .int .i64 0, .int .u64 0] 34))
  have d10_3 : B8 < w9.heap.size := K9_3.out.lt
  obtain ⟨B10, hB0⟩ : ∃ B, B = w9.heap.size := ⟨_, rfl⟩
  obtain ⟨W10, hW⟩ : ∃ W, W = (w9.alloc (.cells #[.bool false, .bool false, .bool false, .bool false, .bool false, .bool false, .bool false, .bool false, .int .i64 0, .int .u64 0, .int .i64 0, .int .u64 0] 34)) := ⟨_, rfl⟩
  rw [← hW] at nl nb0 o0 o1 o2 o3
  rw [← hB0] at nb0
  rw [← hW]
  try rw [← hB0]
  have K10_0 := Lib.hid o0
  have K10_1 := Lib.hid o1
  have K10_2 := Lib.hid o2
  have K10_3 := Lib.hid o3
  have K10_4 := Lib.hid nb0
  have G10 : Hid (w3.heap.size ≤ B10) := Lib.hid (by have := L9.out.size; omega)
  have x10_0_0 : B4_0 ≠ B10 := by omega
  have x10_1_0 : B4_1 ≠ B10 := by omega
  have x10_2_0 : B6 ≠ B10 := by omega
  have x10_3_0 : B8 ≠ B10 := by omega
  have X10_0_0 := Lib.hid x10_0_0; clear x10_0_0
  have X10_1_0 := Lib.hid x10_1_0; clear x10_1_0
  have X10_2_0 := Lib.hid x10_2_0; clear x10_2_0
  have X10_3_0 := Lib.hid x10_3_0; clear x10_3_0
  have L10 := Lib.hid nl
  clear nl hW nb0 hB0 o0 d10_0 o1 d10_1 o2 d10_2 o3 d10_3 K9_0 K9_1 K9_2 K9_3
  have hc9 := HC9.out
  have hk5 := HK5.out
  clear HC9 HK5 HK HF HR HN HPP
  rcases hk5 with rfl | rfl | rfl | rfl | rfl
  all_goals
    simp [cau] at hc9
    subst hc9
    have m2_0 : W10.cell? ⟨B6, 0, none⟩ = some _ := K10_2.out.cell 0
    have m2_1 : W10.cell? ⟨B6, 1, none⟩ = some _ := K10_2.out.cell 1
    have m2_2 : W10.cell? ⟨B6, 2, none⟩ = some _ := K10_2.out.cell 2
    have m2_3 : W10.cell? ⟨B6, 3, none⟩ = some _ := K10_2.out.cell 3
    have m2_4 : W10.cell? ⟨B6, 4, none⟩ = some _ := K10_2.out.cell 4
    have m2_5 : W10.cell? ⟨B6, 5, none⟩ = some _ := K10_2.out.cell 5
    have m2_6 : W10.cell? ⟨B6, 6, none⟩ = some _ := K10_2.out.cell 6
    have m2_7 : W10.cell? ⟨B6, 7, none⟩ = some _ := K10_2.out.cell 7
    have m2_8 : W10.cell? ⟨B6, 8, none⟩ = some _ := K10_2.out.cell 8
    have m2_9 : W10.cell? ⟨B6, 9, none⟩ = some _ := K10_2.out.cell 9
    have m2_10 : W10.cell? ⟨B6, 10, none⟩ = some _ := K10_2.out.cell 10
    have m2_11 : W10.cell? ⟨B6, 11, none⟩ = some _ := K10_2.out.cell 11
    have mlt2 : B6 < W10.heap.size := K10_2.out.lt
    have m3_0 : W10.cell? ⟨B8, 0, none⟩ = some _ := K10_3.out.cell 0
    have m3_1 : W10.cell? ⟨B8, 1, none⟩ = some _ := K10_3.out.cell 1
    have m3_2 : W10.cell? ⟨B8, 2, none⟩ = some _ := K10_3.out.cell 2
    have m3_3 : W10.cell? ⟨B8, 3, none⟩ = some _ := K10_3.out.cell 3
    have m3_4 : W10.cell? ⟨B8, 4, none⟩ = some _ := K10_3.out.cell 4
    have m3_5 : W10.cell? ⟨B8, 5, none⟩ = some _ := K10_3.out.cell 5
    have m3_6 : W10.cell? ⟨B8, 6, none⟩ = some _ := K10_3.out.cell 6
    have m3_7 : W10.cell? ⟨B8, 7, none⟩ = some _ := K10_3.out.cell 7
    have m3_8 : W10.cell? ⟨B8, 8, none⟩ = some _ := K10_3.out.cell 8
    have m3_9 : W10.cell? ⟨B8, 9, none⟩ = some _ := K10_3.out.cell 9
    have m3_10 : W10.cell? ⟨B8, 10, none⟩ = some _ := K10_3.out.cell 10
    have m3_11 : W10.cell? ⟨B8, 11, none⟩ = some _ := K10_3.out.cell 11
    have mlt3 : B8 < W10.heap.size := K10_3.out.lt
    have m4_0 : W10.cell? ⟨B10, 0, none⟩ = some _ := K10_4.out.cell 0
    have m4_1 : W10.cell? ⟨B10, 1, none⟩ = some _ := K10_4.out.cell 1
    have m4_2 : W10.cell? ⟨B10, 2, none⟩ = some _ := K10_4.out.cell 2
    have m4_3 : W10.cell? ⟨B10, 3, none⟩ = some _ := K10_4.out.cell 3
    have m4_4 : W10.cell? ⟨B10, 4, none⟩ = some _ := K10_4.out.cell 4
    have m4_5 : W10.cell? ⟨B10, 5, none⟩ = some _ := K10_4.out.cell 5
    have m4_6 : W10.cell? ⟨B10, 6, none⟩ = some _ := K10_4.out.cell 6
    have m4_7 : W10.cell? ⟨B10, 7, none⟩ = some _ := K10_4.out.cell 7
    have m4_8 : W10.cell? ⟨B10, 8, none⟩ = some _ := K10_4.out.cell 8
    have m4_9 : W10.cell? ⟨B10, 9, none⟩ = some _ := K10_4.out.cell 9
    have m4_10 : W10.cell? ⟨B10, 10, none⟩ = some _ := K10_4.out.cell 10
    have m4_11 : W10.cell? ⟨B10, 11, none⟩ = some _ := K10_4.out.cell 11
    have mlt4 : B10 < W10.heap.size := K10_4.out.lt
    go_wp2
    clear m2_0 m2_1 m2_2 m2_3 m2_4 m2_5 m2_6 m2_7 m2_8 m2_9 m2_10 m2_11 mlt2 m3_0 m3_1 m3_2 m3_3 m3_4 m3_5 m3_6 m3_7 m3_8 m3_9 m3_10 m3_11 mlt3 m4_0 m4_1 m4_2 m4_3 m4_4 m4_5 m4_6 m4_7 m4_8 m4_9 m4_10 m4_11 mlt4
    go_ret
    exact ⟨rfl, L3.out.trans (L10.out.mono L3.out.size)⟩
end Go.Proofs.Ytibmjbfnjkmjbaa
