/-
  What the statements of layer 10 ask first: a walk over the translation.
-/
import Derived.Test.YtibmjbfnjkmjbaaPure10
import Derived.Test.YtibmjbfnjkmjbaaWalkP10
namespace Go.Proofs.Ytibmjbfnjkmjbaa
open Go.RowKit
set_option linter.unusedVariables false
set_option linter.unusedSimpArgs false
attribute [local go_sem] setCell_drewN alloc_drewN

theorem isw3 {w : World} {b : Nat} (h : Blk w b [.int .u64 0, .int .u64 1025, .int .u64 4096, .int .u64 2049, .int .u64 8200, .int .u64 3295] 54) : IsWords w (some ⟨b, 0, none⟩) 3 lay3 := by
  refine ⟨rfl, fun _ => ⟨b, 0, rfl, fun i hi => ?_⟩⟩
  have hi' : i = 0 ∨ i = 1 ∨ i = 2 := by have : i < 3 := hi; omega
  rcases hi' with rfl | rfl | rfl
  · exact ⟨h.cell 0, h.cell 1, by simp [lay3], by simp [lay3]⟩
  · exact ⟨h.cell 2, h.cell 3, by simp [lay3], by simp [lay3]⟩
  · exact ⟨h.cell 4, h.cell 5, by simp [lay3], by simp [lay3]⟩
theorem fcall1 (mp n : Nat) (C : Nat → List Int) (F : Nat → Prop) (w : World) (hM : MemX w mp 4 n C F) (hA : Agree C (laidL 4 lay3)) :
    Calls Try.prog 12 #[.pointer (some ⟨mp, 0, none⟩), .agg #[.bool true, .int .i64 0, .int .u64 0], .int .u64 4660, .int .i64 2, .agg #[.bool true, .bool false, .bool false]] w fun r w' => r = .returned (.tuple #[.agg #[.bool true, .bool true, .bool true, .bool true, .bool true, .bool false, .bool true, .bool true, .int .i64 0, .int .u64 3, .int .i64 0, .int .u64 8200], .int .i64 (-1)]) ∧ Below w.heap.size w w' := by
  have h := wwalk_any mp 4 n 4660 ⟨true, 0, 0⟩ 2 ⟨true, false, false⟩ C F w hM (by decide) (by decide)
  rw [walkW_congr (fun a ha => M3_of hA a ha), fw1] at h
  exact h
theorem fcall2 (mp n : Nat) (C : Nat → List Int) (F : Nat → Prop) (w : World) (hM : MemX w mp 4 n C F) (hA : Agree C (laidL 4 lay3)) :
    Calls Try.prog 12 #[.pointer (some ⟨mp, 0, none⟩), .agg #[.bool true, .int .i64 0, .int .u64 0], .int .u64 8756, .int .i64 1, .agg #[.bool true, .bool false, .bool false]] w fun r w' => r = .returned (.tuple #[.agg #[.bool false, .bool false, .bool false, .bool false, .bool false, .bool false, .bool false, .bool false, .int .i64 0, .int .u64 0, .int .i64 0, .int .u64 0], .int .i64 13]) ∧ Below w.heap.size w w' := by
  have h := wwalk_any mp 4 n 8756 ⟨true, 0, 0⟩ 1 ⟨true, false, false⟩ C F w hM (by decide) (by decide)
  rw [walkW_congr (fun a ha => M3_of hA a ha), fw2] at h
  exact h
theorem fcall3 (w : World) : Calls Try.prog 8 #[.pointer none, .agg #[.bool true, .int .i64 0, .int .u64 0], .int .u64 0] w fun r w' => r = .returned (.tuple #[.agg #[.bool false, .bool false, .bool false, .bool false, .bool false, .bool false, .bool false, .bool false, .int .i64 0, .int .u64 0, .int .i64 0, .int .u64 0], .int .i64 1]) ∧ Below w.heap.size w w' :=
  wfind_nil ⟨true, 0, 0⟩ 0 w
theorem fcall4 (w : World) : Calls Try.prog 10 #[.agg #[.bool true, .bool true, .bool true, .bool true, .bool true, .bool false, .bool true, .bool true, .int .i64 0, .int .u64 3, .int .i64 0, .int .u64 8200], .int .u64 4660] w fun r w' => r = .returned (.int .u64 12852) ∧ Below w.heap.size w w' :=
  place_any ⟨⟨true, true, true, true, true, false, true, true, 0, 3⟩, 0, 8200⟩ 4660 w (by decide) (by decide) (by decide)
set_option maxHeartbeats 4000000 in
theorem first_any (w : World) : Calls Try.prog 6 #[] w fun e w' => e = .returned (.bool true) ∧ Below w.heap.size w w' := by
  have h0 := fun A w (h : IsWords w A 3 lay3) => laid_any 4 A 3 3 lay3 w (by omega) (by omega) h (by omega)
  rw [show lay3.take 60 = lay3 from rfl] at h0
  have H0 := Lib.hid h0; clear h0
  go_enter Try.func6, Try.ntmps6
  go_wp2_with fail
  have nb0 : Blk (w.alloc (.cells #[.int .u64 0, .int .u64 1025, .int .u64 4096, .int .u64 2049, .int .u64 8200, .int .u64 3295] 54)) (w.heap.size) [.int .u64 0, .int .u64 1025, .int .u64 4096, .int .u64 2049, .int .u64 8200, .int .u64 3295] 54 := Blk.new w [.int .u64 0, .int .u64 1025, .int .u64 4096, .int .u64 2049, .int .u64 8200, .int .u64 3295] 54
  have nls : Below w.heap.size w w := (Below.refl w.heap.size w)
  have nl0 := nls.alloc nls.size (.cells #[.int .u64 0, .int .u64 1025, .int .u64 4096, .int .u64 2049, .int .u64 8200, .int .u64 3295] 54)
  have nl : Below w.heap.size w (w.alloc (.cells #[.int .u64 0, .int .u64 1025, .int .u64 4096, .int .u64 2049, .int .u64 8200, .int .u64 3295] 54)) := nl0; clear nls nl0
  obtain ⟨B1, hB0⟩ : ∃ B, B = w.heap.size := ⟨_, rfl⟩
  obtain ⟨W1, hW⟩ : ∃ W, W = (w.alloc (.cells #[.int .u64 0, .int .u64 1025, .int .u64 4096, .int .u64 2049, .int .u64 8200, .int .u64 3295] 54)) := ⟨_, rfl⟩
  rw [← hW] at nl nb0
  rw [← hB0] at nb0
  rw [← hW]
  try rw [← hB0]
  have K1_0 := Lib.hid nb0
  have G1 : Hid (w.heap.size ≤ B1) := Lib.hid (by have := (Nat.le_refl w.heap.size); omega)
  have L1 := Lib.hid nl
  clear nl hW nb0 hB0
  refine (H0.out _ _ (isw3 K1_0.out)).mono ?_
  rintro e w2 ⟨mp, rm, F, vv, C, kk, rfl, hT, hb⟩
  have L2 := Lib.hid (L1.out.trans (hb.mono L1.out.size))
  have K2_0 := Lib.hid (K1_0.out.below hb K1_0.out.lt)
  clear hb K1_0
  have TT := Lib.hid hT; clear hT
  go_wp2_with fail
  have nb0 : Blk (w2.alloc (.cells #[.bool true, .int .i64 0, .int .u64 0] 25)) (w2.heap.size) [.bool true, .int .i64 0, .int .u64 0] 25 := Blk.new w2 [.bool true, .int .i64 0, .int .u64 0] 25
  have nls : Below w2.heap.size w2 w2 := (Below.refl w2.heap.size w2)
  have nl0 := nls.alloc nls.size (.cells #[.bool true, .int .i64 0, .int .u64 0] 25)
  have nl : Below w2.heap.size w2 (w2.alloc (.cells #[.bool true, .int .i64 0, .int .u64 0] 25)) := nl0; clear nls nl0
  obtain ⟨B3, hB0⟩ : ∃ B, B = w2.heap.size := ⟨_, rfl⟩
  obtain ⟨W3, hW⟩ : ∃ W, W = (w2.alloc (.cells #[.bool true, .int .i64 0, .int .u64 0] 25)) := ⟨_, rfl⟩
  rw [← hW] at nl nb0
  rw [← hB0] at nb0
  rw [← hW]
  try rw [← hB0]
  have K3_0 := Lib.hid nb0
  have G3 : Hid (w2.heap.size ≤ B3) := Lib.hid (by have := (Nat.le_refl w2.heap.size); omega)
  have L3 := Lib.hid nl
  clear nl hW nb0 hB0
  refine (fcall1 mp _ C F _ (TT.out.mem.below L3.out) TT.out.agr).mono ?_
  rintro e w4 ⟨rfl, hb⟩
  have L4 := Lib.hid (L3.out.trans (hb.mono L3.out.size))
  have K4_0 := Lib.hid (K3_0.out.below hb K3_0.out.lt)
  clear hb K3_0
  have m0_0 : w4.cell? ⟨B3, 0, none⟩ = some _ := K4_0.out.cell 0
  have m0_1 : w4.cell? ⟨B3, 1, none⟩ = some _ := K4_0.out.cell 1
  have m0_2 : w4.cell? ⟨B3, 2, none⟩ = some _ := K4_0.out.cell 2
  have mlt0 : B3 < w4.heap.size := K4_0.out.lt
  go_upto_region 4 with (fail)
  clear m0_0 m0_1 m0_2 mlt0
  have nb0 : Blk (w4.alloc (.cells #[.bool true, .bool true, .bool true, .bool true, .bool true, .bool false, .bool true, .bool true, .int .i64 0, .int .u64 3, .int .i64 0, .int .u64 8200] 34)) (w4.heap.size) [.bool true, .bool true, .bool true, .bool true, .bool true, .bool false, .bool true, .bool true, .int .i64 0, .int .u64 3, .int .i64 0, .int .u64 8200] 34 := Blk.new w4 [.bool true, .bool true, .bool true, .bool true, .bool true, .bool false, .bool true, .bool true, .int .i64 0, .int .u64 3, .int .i64 0, .int .u64 8200] 34
  have nls : Below w2.heap.size w2 w4 := L4.out
  have nl0 := nls.alloc nls.size (.cells #[.bool true, .bool true, .bool true, .bool true, .bool true, .bool false, .bool true, .bool true, .int .i64 0, .int .u64 3, .int .i64 0, .int .u64 8200] 34)
  have nl : Below w2.heap.size w2 (w4.alloc (.cells #[.bool true, .bool true, .bool true, .bool true, .bool true, .bool false, .bool true, .bool true, .int .i64 0, .int .u64 3, .int .i64 0, .int .u64 8200] 34)) := nl0; clear nls nl0
  have o0 : Blk (w4.alloc (.cells #[.bool true, .bool true, .bool true, .bool true, .bool true, .bool false, .bool true, .bool true, .int .i64 0, .int .u64 3, .int .i64 0, .int .u64 8200] 34)) B3 [.bool true, .int .i64 0, .int .u64 0] 25 := (K4_0.out.alloc (.cells #[.bool true, .bool true, .bool true, .bool true, .bool true, .bool false, .bool true, .bool true, .int .i64 0, .int .u64 3, .int .i64 0, .int .u64 8200] 34))
  have d5_0 : B3 < w4.heap.size := K4_0.out.lt
  obtain ⟨B5, hB0⟩ : ∃ B, B = w4.heap.size := ⟨_, rfl⟩
  obtain ⟨W5, hW⟩ : ∃ W, W = (w4.alloc (.cells #[.bool true, .bool true, .bool true, .bool true, .bool true, .bool false, .bool true, .bool true, .int .i64 0, .int .u64 3, .int .i64 0, .int .u64 8200] 34)) := ⟨_, rfl⟩
  rw [← hW] at nl nb0 o0
  rw [← hB0] at nb0
  rw [← hW]
  try rw [← hB0]
  have K5_0 := Lib.hid o0
  have K5_1 := Lib.hid nb0
  have G5 : Hid (w2.heap.size ≤ B5) := Lib.hid (by have := L4.out.size; omega)
  have x5_0_0 : B3 ≠ B5 := by omega
  have X5_0_0 := Lib.hid x5_0_0; clear x5_0_0
  have L5 := Lib.hid nl
  clear nl hW nb0 hB0 o0 d5_0 K4_0
  have m0_0 : W5.cell? ⟨B3, 0, none⟩ = some _ := K5_0.out.cell 0
  have m0_1 : W5.cell? ⟨B3, 1, none⟩ = some _ := K5_0.out.cell 1
  have m0_2 : W5.cell? ⟨B3, 2, none⟩ = some _ := K5_0.out.cell 2
  have mlt0 : B3 < W5.heap.size := K5_0.out.lt
  go_wp2_with fail
  clear m0_0 m0_1 m0_2 mlt0
  refine (fcall2 mp _ C F _ (TT.out.mem.below L5.out) TT.out.agr).mono ?_
  rintro e w6 ⟨rfl, hb⟩
  have L6 := Lib.hid (L5.out.trans (hb.mono L5.out.size))
  have K6_0 := Lib.hid (K5_0.out.below hb K5_0.out.lt)
  have K6_1 := Lib.hid (K5_1.out.below hb K5_1.out.lt)
  clear hb K5_0 K5_1
  have m0_0 : w6.cell? ⟨B3, 0, none⟩ = some _ := K6_0.out.cell 0
  have m0_1 : w6.cell? ⟨B3, 1, none⟩ = some _ := K6_0.out.cell 1
  have m0_2 : w6.cell? ⟨B3, 2, none⟩ = some _ := K6_0.out.cell 2
  have mlt0 : B3 < w6.heap.size := K6_0.out.lt
  go_upto_region 5 with (fail)
  clear m0_0 m0_1 m0_2 mlt0
  have nb0 : Blk (w6.alloc (.cells #[.bool false, .bool false, .bool false, .bool false, .bool false, .bool false, .bool false, .bool false, .int .i64 0, .int .u64 0, .int .i64 0, .int .u64 0] 34)) (w6.heap.size) [.bool false, .bool false, .bool false, .bool false, .bool false, .bool false, .bool false, .bool false, .int .i64 0, .int .u64 0, .int .i64 0, .int .u64 0] 34 := Blk.new w6 [.bool false, .bool false, .bool false, .bool false, .bool false, .bool false, .bool false, .bool false, .int .i64 0, .int .u64 0, .int .i64 0, .int .u64 0] 34
  have nls : Below w2.heap.size w2 w6 := L6.out
  have nl0 := nls.alloc nls.size (.cells #[.bool false, .bool false, .bool false, .bool false, .bool false, .bool false, .bool false, .bool false, .int .i64 0, .int .u64 0, .int .i64 0, .int .u64 0] 34)
  have nl : Below w2.heap.size w2 (w6.alloc (.cells #[.bool false, .bool false, .bool false, .bool false, .bool false, .bool false, .bool false, .bool false, .int .i64 0, .int .u64 0, .int .i64 0, .int .u64 0] 34)) := nl0; clear nls nl0
  have o0 : Blk (w6.alloc (.cells #[.bool false, .bool false, .bool false, .bool false, .bool false, .bool false, .bool false, .bool false, .int .i64 0, .int .u64 0, .int .i64 0, .int .u64 0] 34)) B3 [.bool true, .int .i64 0, .int .u64 0] 25 := (K6_0.out.alloc (.cells #[.bool false, .bool false, .bool false, .bool false, .bool false, .bool false, .bool false, .bool false, .int .i64 0, .int .u64 0, .int .i64 0, .int .u64 0] 34))
  have d7_0 : B3 < w6.heap.size := K6_0.out.lt
  have o1 : Blk (w6.alloc (.cells #[.bool false, .bool false, .bool false, .bool false, .bool false, .bool false, .bool false, .bool false, .int .i64 0, .int .u64 0, .int .i64 0, .int .u64 0] 34)) B5 [.bool true, .bool true, .bool true, .bool true, .bool true, .bool false, .bool true, .bool true, .int .i64 0, .int .u64 3, .int .i64 0, .int .u64 8200] 34 := (K6_1.out.alloc (.cells #[.bool false, .bool false, .bool false, .bool false, .bool false, .bool false, .bool false, .bool false, .int .i64 0, .int .u64 0, .int .i64 0, .int .u64 0] 34))
  have d7_1 : B5 < w6.heap.size := K6_1.out.lt
  obtain ⟨B7, hB0⟩ : ∃ B, B = w6.heap.size := ⟨_, rfl⟩
  obtain ⟨W7, hW⟩ : ∃ W, W = (w6.alloc (.cells #[.bool false, .bool false, .bool false, .bool false, .bool false, .bool false, .bool false, .bool false, .int .i64 0, .int .u64 0, .int .i64 0, .int .u64 0] 34)) := ⟨_, rfl⟩
  rw [← hW] at nl nb0 o0 o1
  rw [← hB0] at nb0
  rw [← hW]
  try rw [← hB0]
  have K7_0 := Lib.hid o0
  have K7_1 := Lib.hid o1
  have K7_2 := Lib.hid nb0
  have G7 : Hid (w2.heap.size ≤ B7) := Lib.hid (by have := L6.out.size; omega)
  have x7_0_0 : B3 ≠ B7 := by omega
  have x7_1_0 : B5 ≠ B7 := by omega
  have X7_0_0 := Lib.hid x7_0_0; clear x7_0_0
  have X7_1_0 := Lib.hid x7_1_0; clear x7_1_0
  have L7 := Lib.hid nl
  clear nl hW nb0 hB0 o0 d7_0 o1 d7_1 K6_0 K6_1
  have m0_0 : W7.cell? ⟨B3, 0, none⟩ = some _ := K7_0.out.cell 0
  have m0_1 : W7.cell? ⟨B3, 1, none⟩ = some _ := K7_0.out.cell 1
  have m0_2 : W7.cell? ⟨B3, 2, none⟩ = some _ := K7_0.out.cell 2
  have mlt0 : B3 < W7.heap.size := K7_0.out.lt
  go_wp2_with fail
  clear m0_0 m0_1 m0_2 mlt0
  refine (fcall3 _).mono ?_
  rintro e w8 ⟨rfl, hb⟩
  have L8 := Lib.hid (L7.out.trans (hb.mono L7.out.size))
  have K8_0 := Lib.hid (K7_0.out.below hb K7_0.out.lt)
  have K8_1 := Lib.hid (K7_1.out.below hb K7_1.out.lt)
  have K8_2 := Lib.hid (K7_2.out.below hb K7_2.out.lt)
  clear hb K7_0 K7_1 K7_2
  have m0_0 : w8.cell? ⟨B3, 0, none⟩ = some _ := K8_0.out.cell 0
  have m0_1 : w8.cell? ⟨B3, 1, none⟩ = some _ := K8_0.out.cell 1
  have m0_2 : w8.cell? ⟨B3, 2, none⟩ = some _ := K8_0.out.cell 2
  have mlt0 : B3 < w8.heap.size := K8_0.out.lt
  go_upto_region 6 with (fail)
  clear m0_0 m0_1 m0_2 mlt0
  have nb0 : Blk (w8.alloc (.cells #[.bool false, .bool false, .bool false, .bool false, .bool false, .bool false, .bool false, .bool false, .int .i64 0, .int .u64 0, .int .i64 0, .int .u64 0] 34)) (w8.heap.size) [.bool false, .bool false, .bool false, .bool false, .bool false, .bool false, .bool false, .bool false, .int .i64 0, .int .u64 0, .int .i64 0, .int .u64 0] 34 := Blk.new w8 [.bool false, .bool false, .bool false, .bool false, .bool false, .bool false, .bool false, .bool false, .int .i64 0, .int .u64 0, .int .i64 0, .int .u64 0] 34
  have nls : Below w2.heap.size w2 w8 := L8.out
  have nl0 := nls.alloc nls.size (.cells #[.bool false, .bool false, .bool false, .bool false, .bool false, .bool false, .bool false, .bool false, .int .i64 0, .int .u64 0, .int .i64 0, .int .u64 0] 34)
  have nl : Below w2.heap.size w2 (w8.alloc (.cells #[.bool false, .bool false, .bool false, .bool false, .bool false, .bool false, .bool false, .bool false, .int .i64 0, .int .u64 0, .int .i64 0, .int .u64 0] 34)) := nl0; clear nls nl0
  have o0 : Blk (w8.alloc (.cells #[.bool false, .bool false, .bool false, .bool false, .bool false, .bool false, .bool false, .bool false, .int .i64 0, .int .u64 0, .int .i64 0, .int .u64 0] 34)) B3 [.bool true, .int .i64 0, .int .u64 0] 25 := (K8_0.out.alloc (.cells #[.bool false, .bool false, .bool false, .bool false, .bool false, .bool false, .bool false, .bool false, .int .i64 0, .int .u64 0, .int .i64 0, .int .u64 0] 34))
  have d9_0 : B3 < w8.heap.size := K8_0.out.lt
  have o1 : Blk (w8.alloc (.cells #[.bool false, .bool false, .bool false, .bool false, .bool false, .bool false, .bool false, .bool false, .int .i64 0, .int .u64 0, .int .i64 0, .int .u64 0] 34)) B5 [.bool true, .bool true, .bool true, .bool true, .bool true, .bool false, .bool true, .bool true, .int .i64 0, .int .u64 3, .int .i64 0, .int .u64 8200] 34 := (K8_1.out.alloc (.cells #[.bool false, .bool false, .bool false, .bool false, .bool false, .bool false, .bool false, .bool false, .int .i64 0, .int .u64 0, .int .i64 0, .int .u64 0] 34))
  have d9_1 : B5 < w8.heap.size := K8_1.out.lt
  have o2 : Blk (w8.alloc (.cells #[.bool false, .bool false, .bool false, .bool false, .bool false, .bool false, .bool false, .bool false, .int .i64 0, .int .u64 0, .int .i64 0, .int .u64 0] 34)) B7 [.bool false, .bool false, .bool false, .bool false, .bool false, .bool false, .bool false, .bool false, .int .i64 0, .int .u64 0, .int .i64 0, .int .u64 0] 34 := (K8_2.out.alloc (.cells #[.bool false, .bool false, .bool false, .bool false, .bool false, .bool false, .bool false, .bool false, .int .i64 0, .int .u64 0, .int .i64 0, .int .u64 0] 34))
  have d9_2 : B7 < w8.heap.size := K8_2.out.lt
  obtain ⟨B9, hB0⟩ : ∃ B, B = w8.heap.size := ⟨_, rfl⟩
  obtain ⟨W9, hW⟩ : ∃ W, W = (w8.alloc (.cells #[.bool false, .bool false, .bool false, .bool false, .bool false, .bool false, .bool false, .bool false, .int .i64 0, .int .u64 0, .int .i64 0, .int .u64 0] 34)) := ⟨_, rfl⟩
  rw [← hW] at nl nb0 o0 o1 o2
  rw [← hB0] at nb0
  rw [← hW]
  try rw [← hB0]
  have K9_0 := Lib.hid o0
  have K9_1 := Lib.hid o1
  have K9_2 := Lib.hid o2
  have K9_3 := Lib.hid nb0
  have G9 : Hid (w2.heap.size ≤ B9) := Lib.hid (by have := L8.out.size; omega)
  have x9_0_0 : B3 ≠ B9 := by omega
  have x9_1_0 : B5 ≠ B9 := by omega
  have x9_2_0 : B7 ≠ B9 := by omega
  have X9_0_0 := Lib.hid x9_0_0; clear x9_0_0
  have X9_1_0 := Lib.hid x9_1_0; clear x9_1_0
  have X9_2_0 := Lib.hid x9_2_0; clear x9_2_0
  have L9 := Lib.hid nl
  clear nl hW nb0 hB0 o0 d9_0 o1 d9_1 o2 d9_2 K8_0 K8_1 K8_2
  have m1_0 : W9.cell? ⟨B5, 0, none⟩ = some _ := K9_1.out.cell 0
  have m1_1 : W9.cell? ⟨B5, 1, none⟩ = some _ := K9_1.out.cell 1
  have m1_2 : W9.cell? ⟨B5, 2, none⟩ = some _ := K9_1.out.cell 2
  have m1_3 : W9.cell? ⟨B5, 3, none⟩ = some _ := K9_1.out.cell 3
  have m1_4 : W9.cell? ⟨B5, 4, none⟩ = some _ := K9_1.out.cell 4
  have m1_5 : W9.cell? ⟨B5, 5, none⟩ = some _ := K9_1.out.cell 5
  have m1_6 : W9.cell? ⟨B5, 6, none⟩ = some _ := K9_1.out.cell 6
  have m1_7 : W9.cell? ⟨B5, 7, none⟩ = some _ := K9_1.out.cell 7
  have m1_8 : W9.cell? ⟨B5, 8, none⟩ = some _ := K9_1.out.cell 8
  have m1_9 : W9.cell? ⟨B5, 9, none⟩ = some _ := K9_1.out.cell 9
  have m1_10 : W9.cell? ⟨B5, 10, none⟩ = some _ := K9_1.out.cell 10
  have m1_11 : W9.cell? ⟨B5, 11, none⟩ = some _ := K9_1.out.cell 11
  have mlt1 : B5 < W9.heap.size := K9_1.out.lt
  go_wp2_with fail
  clear m1_0 m1_1 m1_2 m1_3 m1_4 m1_5 m1_6 m1_7 m1_8 m1_9 m1_10 m1_11 mlt1
  refine (fcall4 _).mono ?_
  rintro e w10 ⟨rfl, hb⟩
  have L10 := Lib.hid (L9.out.trans (hb.mono L9.out.size))
  have K10_0 := Lib.hid (K9_0.out.below hb K9_0.out.lt)
  have K10_1 := Lib.hid (K9_1.out.below hb K9_1.out.lt)
  have K10_2 := Lib.hid (K9_2.out.below hb K9_2.out.lt)
  have K10_3 := Lib.hid (K9_3.out.below hb K9_3.out.lt)
  clear hb K9_0 K9_1 K9_2 K9_3
  have m1_0 : w10.cell? ⟨B5, 0, none⟩ = some _ := K10_1.out.cell 0
  have m1_1 : w10.cell? ⟨B5, 1, none⟩ = some _ := K10_1.out.cell 1
  have m1_2 : w10.cell? ⟨B5, 2, none⟩ = some _ := K10_1.out.cell 2
  have m1_3 : w10.cell? ⟨B5, 3, none⟩ = some _ := K10_1.out.cell 3
  have m1_4 : w10.cell? ⟨B5, 4, none⟩ = some _ := K10_1.out.cell 4
  have m1_5 : w10.cell? ⟨B5, 5, none⟩ = some _ := K10_1.out.cell 5
  have m1_6 : w10.cell? ⟨B5, 6, none⟩ = some _ := K10_1.out.cell 6
  have m1_7 : w10.cell? ⟨B5, 7, none⟩ = some _ := K10_1.out.cell 7
  have m1_8 : w10.cell? ⟨B5, 8, none⟩ = some _ := K10_1.out.cell 8
  have m1_9 : w10.cell? ⟨B5, 9, none⟩ = some _ := K10_1.out.cell 9
  have m1_10 : w10.cell? ⟨B5, 10, none⟩ = some _ := K10_1.out.cell 10
  have m1_11 : w10.cell? ⟨B5, 11, none⟩ = some _ := K10_1.out.cell 11
  have mlt1 : B5 < w10.heap.size := K10_1.out.lt
  have m2_0 : w10.cell? ⟨B7, 0, none⟩ = some _ := K10_2.out.cell 0
  have m2_1 : w10.cell? ⟨B7, 1, none⟩ = some _ := K10_2.out.cell 1
  have m2_2 : w10.cell? ⟨B7, 2, none⟩ = some _ := K10_2.out.cell 2
  have m2_3 : w10.cell? ⟨B7, 3, none⟩ = some _ := K10_2.out.cell 3
  have m2_4 : w10.cell? ⟨B7, 4, none⟩ = some _ := K10_2.out.cell 4
  have m2_5 : w10.cell? ⟨B7, 5, none⟩ = some _ := K10_2.out.cell 5
  have m2_6 : w10.cell? ⟨B7, 6, none⟩ = some _ := K10_2.out.cell 6
  have m2_7 : w10.cell? ⟨B7, 7, none⟩ = some _ := K10_2.out.cell 7
  have m2_8 : w10.cell? ⟨B7, 8, none⟩ = some _ := K10_2.out.cell 8
  have m2_9 : w10.cell? ⟨B7, 9, none⟩ = some _ := K10_2.out.cell 9
  have m2_10 : w10.cell? ⟨B7, 10, none⟩ = some _ := K10_2.out.cell 10
  have m2_11 : w10.cell? ⟨B7, 11, none⟩ = some _ := K10_2.out.cell 11
  have mlt2 : B7 < w10.heap.size := K10_2.out.lt
  have m3_0 : w10.cell? ⟨B9, 0, none⟩ = some _ := K10_3.out.cell 0
  have m3_1 : w10.cell? ⟨B9, 1, none⟩ = some _ := K10_3.out.cell 1
  have m3_2 : w10.cell? ⟨B9, 2, none⟩ = some _ := K10_3.out.cell 2
  have m3_3 : w10.cell? ⟨B9, 3, none⟩ = some _ := K10_3.out.cell 3
  have m3_4 : w10.cell? ⟨B9, 4, none⟩ = some _ := K10_3.out.cell 4
  have m3_5 : w10.cell? ⟨B9, 5, none⟩ = some _ := K10_3.out.cell 5
  have m3_6 : w10.cell? ⟨B9, 6, none⟩ = some _ := K10_3.out.cell 6
  have m3_7 : w10.cell? ⟨B9, 7, none⟩ = some _ := K10_3.out.cell 7
  have m3_8 : w10.cell? ⟨B9, 8, none⟩ = some _ := K10_3.out.cell 8
  have m3_9 : w10.cell? ⟨B9, 9, none⟩ = some _ := K10_3.out.cell 9
  have m3_10 : w10.cell? ⟨B9, 10, none⟩ = some _ := K10_3.out.cell 10
  have m3_11 : w10.cell? ⟨B9, 11, none⟩ = some _ := K10_3.out.cell 11
  have mlt3 : B9 < w10.heap.size := K10_3.out.lt
  go_wp2
  clear m1_0 m1_1 m1_2 m1_3 m1_4 m1_5 m1_6 m1_7 m1_8 m1_9 m1_10 m1_11 mlt1 m2_0 m2_1 m2_2 m2_3 m2_4 m2_5 m2_6 m2_7 m2_8 m2_9 m2_10 m2_11 mlt2 m3_0 m3_1 m3_2 m3_3 m3_4 m3_5 m3_6 m3_7 m3_8 m3_9 m3_10 m3_11 mlt3
  go_ret
  exact ⟨rfl, L2.out.trans (L10.out.mono L2.out.size)⟩
end Go.Proofs.Ytibmjbfnjkmjbaa
