/-
  What May of package runrigref13 answers: a contract over the translation, which says its own conditions.
-/
import Derived.Test.YtdakfgefnapglaaRefB13
import Derived.Test.YtdakfgefnapglaaPte08
import Derived.Deep.Cut
namespace Go.Proofs.Ytdakfgefnapglaa
open Go.RowKit
set_option linter.unusedVariables false
set_option linter.unusedSimpArgs false
attribute [local go_sem] setCell_drewN alloc_drewN

set_option maxHeartbeats 4000000 in
theorem rmay_no (e : Ent) (l : Int) (w : World) (hr : -9223372036854775808 ≤ e.rsw ∧ e.rsw ≤ 9223372036854775807) (hp : e.ppn < 18446744073709551616) (hl : ¬ (0 ≤ l ∧ l < 3)) :
    Calls Try.prog 33 #[pv e, .int .i64 l] w fun r w' => r = .returned (.bool false) ∧ Below w.heap.size w w' := by
  have h1 := fun w => rput_any e w hr hp
  have h2 := fun w => rget_any (wordE e) w (by have := wordE_lt e; omega)
  have h3 := fun w => Calls.belowE (rlevel_no l w hl)
  generalize decide (wordE e < 18014398509481984) = ok at h2
  generalize entW (wordE e) = Z at h2
  generalize wordE e = P at h1 h2
  obtain ⟨v, r, x1, x, u, g, a, d, rsw, ppn⟩ := e
  obtain ⟨zv, zr, zw, zx, zu, zg, za, zd, zs, zp⟩ := Z
  unfold pv at h1 h2 ⊢
  dsimp only at h1 h2 ⊢
  have H1 := Lib.hid h1; have H2 := Lib.hid h2; have H3 := Lib.hid h3
  clear h1 h2 h3 hr hp hl
  go_enter Try.func33, Try.ntmps33
  go_wp2_with fail
  have nb0 : Blk (w.alloc (.cells #[.bool v, .bool r, .bool x1, .bool x, .bool u, .bool g, .bool a, .bool d, .int .i64 rsw, .int .u64 (ppn : Int)] 39)) (w.heap.size) [.bool v, .bool r, .bool x1, .bool x, .bool u, .bool g, .bool a, .bool d, .int .i64 rsw, .int .u64 (ppn : Int)] 39 := Blk.new w [.bool v, .bool r, .bool x1, .bool x, .bool u, .bool g, .bool a, .bool d, .int .i64 rsw, .int .u64 (ppn : Int)] 39
  have nls : Below w.heap.size w w := (Below.refl w.heap.size w)
  have nl0 := nls.alloc nls.size (.cells #[.bool v, .bool r, .bool x1, .bool x, .bool u, .bool g, .bool a, .bool d, .int .i64 rsw, .int .u64 (ppn : Int)] 39)
  have nl : Below w.heap.size w (w.alloc (.cells #[.bool v, .bool r, .bool x1, .bool x, .bool u, .bool g, .bool a, .bool d, .int .i64 rsw, .int .u64 (ppn : Int)] 39)) := nl0; clear nls nl0
  obtain ⟨B1, hB0⟩ : ∃ B, B = w.heap.size := ⟨_, rfl⟩
  obtain ⟨W1, hW⟩ : ∃ W, W = (w.alloc (.cells #[.bool v, .bool r, .bool x1, .bool x, .bool u, .bool g, .bool a, .bool d, .int .i64 rsw, .int .u64 (ppn : Int)] 39)) := ⟨_, rfl⟩
  rw [← hW] at nl nb0
  rw [← hB0] at nb0
  rw [← hW]
  try rw [← hB0]
  have K1_0 := Lib.hid nb0
  have G1 : Hid (w.heap.size ≤ B1) := Lib.hid (by have := (Nat.le_refl w.heap.size); omega)
  have L1 := Lib.hid nl
  clear nl hW nb0 hB0
  have m0_0 : W1.cell? ⟨B1, 0, none⟩ = some _ := K1_0.out.cell 0
  have m0_1 : W1.cell? ⟨B1, 1, none⟩ = some _ := K1_0.out.cell 1
  have m0_2 : W1.cell? ⟨B1, 2, none⟩ = some _ := K1_0.out.cell 2
  have m0_3 : W1.cell? ⟨B1, 3, none⟩ = some _ := K1_0.out.cell 3
  have m0_4 : W1.cell? ⟨B1, 4, none⟩ = some _ := K1_0.out.cell 4
  have m0_5 : W1.cell? ⟨B1, 5, none⟩ = some _ := K1_0.out.cell 5
  have m0_6 : W1.cell? ⟨B1, 6, none⟩ = some _ := K1_0.out.cell 6
  have m0_7 : W1.cell? ⟨B1, 7, none⟩ = some _ := K1_0.out.cell 7
  have m0_8 : W1.cell? ⟨B1, 8, none⟩ = some _ := K1_0.out.cell 8
  have m0_9 : W1.cell? ⟨B1, 9, none⟩ = some _ := K1_0.out.cell 9
  have mlt0 : B1 < W1.heap.size := K1_0.out.lt
  go_wp2_with fail
  clear m0_0 m0_1 m0_2 m0_3 m0_4 m0_5 m0_6 m0_7 m0_8 m0_9 mlt0
  refine (H1.out _).mono ?_
  rintro e w2 ⟨rfl, hb⟩
  have L2 := Lib.hid (L1.out.trans (hb.mono L1.out.size))
  have K2_0 := Lib.hid (K1_0.out.below hb K1_0.out.lt)
  clear hb K1_0
  go_wp2_with fail
  refine (H2.out _).mono ?_
  rintro e w3 ⟨rfl, hb⟩
  have L3 := Lib.hid (L2.out.trans (hb.mono L2.out.size))
  have K3_0 := Lib.hid (K2_0.out.below hb K2_0.out.lt)
  clear hb K2_0
  have m0_0 : w3.cell? ⟨B1, 0, none⟩ = some _ := K3_0.out.cell 0
  have m0_1 : w3.cell? ⟨B1, 1, none⟩ = some _ := K3_0.out.cell 1
  have m0_2 : w3.cell? ⟨B1, 2, none⟩ = some _ := K3_0.out.cell 2
  have m0_3 : w3.cell? ⟨B1, 3, none⟩ = some _ := K3_0.out.cell 3
  have m0_4 : w3.cell? ⟨B1, 4, none⟩ = some _ := K3_0.out.cell 4
  have m0_5 : w3.cell? ⟨B1, 5, none⟩ = some _ := K3_0.out.cell 5
  have m0_6 : w3.cell? ⟨B1, 6, none⟩ = some _ := K3_0.out.cell 6
  have m0_7 : w3.cell? ⟨B1, 7, none⟩ = some _ := K3_0.out.cell 7
  have m0_8 : w3.cell? ⟨B1, 8, none⟩ = some _ := K3_0.out.cell 8
  have m0_9 : w3.cell? ⟨B1, 9, none⟩ = some _ := K3_0.out.cell 9
  have mlt0 : B1 < w3.heap.size := K3_0.out.lt
  go_wp2_with fail
  clear m0_0 m0_1 m0_2 m0_3 m0_4 m0_5 m0_6 m0_7 m0_8 m0_9 mlt0
  have nb0 : Blk (w3.alloc (.cells #[.bool zv, .bool zr, .bool zw, .bool zx, .bool zu, .bool zg, .bool za, .bool zd, .int .i64 zs, .int .u64 (zp : Int)] 39)) (w3.heap.size) [.bool zv, .bool zr, .bool zw, .bool zx, .bool zu, .bool zg, .bool za, .bool zd, .int .i64 zs, .int .u64 (zp : Int)] 39 := Blk.new w3 [.bool zv, .bool zr, .bool zw, .bool zx, .bool zu, .bool zg, .bool za, .bool zd, .int .i64 zs, .int .u64 (zp : Int)] 39
  have nls : Below w.heap.size w w3 := L3.out
  have nl0 := nls.alloc nls.size (.cells #[.bool zv, .bool zr, .bool zw, .bool zx, .bool zu, .bool zg, .bool za, .bool zd, .int .i64 zs, .int .u64 (zp : Int)] 39)
  have nl : Below w.heap.size w (w3.alloc (.cells #[.bool zv, .bool zr, .bool zw, .bool zx, .bool zu, .bool zg, .bool za, .bool zd, .int .i64 zs, .int .u64 (zp : Int)] 39)) := nl0; clear nls nl0
  have o0 : Blk (w3.alloc (.cells #[.bool zv, .bool zr, .bool zw, .bool zx, .bool zu, .bool zg, .bool za, .bool zd, .int .i64 zs, .int .u64 (zp : Int)] 39)) B1 [.bool v, .bool r, .bool x1, .bool x, .bool u, .bool g, .bool a, .bool d, .int .i64 rsw, .int .u64 (ppn : Int)] 39 := (K3_0.out.alloc (.cells #[.bool zv, .bool zr, .bool zw, .bool zx, .bool zu, .bool zg, .bool za, .bool zd, .int .i64 zs, .int .u64 (zp : Int)] 39))
  have d4_0 : B1 < w3.heap.size := K3_0.out.lt
  obtain ⟨B4, hB0⟩ : ∃ B, B = w3.heap.size := ⟨_, rfl⟩
  obtain ⟨W4, hW⟩ : ∃ W, W = (w3.alloc (.cells #[.bool zv, .bool zr, .bool zw, .bool zx, .bool zu, .bool zg, .bool za, .bool zd, .int .i64 zs, .int .u64 (zp : Int)] 39)) := ⟨_, rfl⟩
  rw [← hW] at nl nb0 o0
  rw [← hB0] at nb0
  rw [← hW]
  try rw [← hB0]
  have K4_0 := Lib.hid o0
  have K4_1 := Lib.hid nb0
  have G4 : Hid (w.heap.size ≤ B4) := Lib.hid (by have := L3.out.size; omega)
  have x4_0_0 : B1 ≠ B4 := by omega
  have X4_0_0 := Lib.hid x4_0_0; clear x4_0_0
  have L4 := Lib.hid nl
  clear nl hW nb0 hB0 o0 d4_0 K3_0
  have m0_0 : W4.cell? ⟨B1, 0, none⟩ = some _ := K4_0.out.cell 0
  have m0_1 : W4.cell? ⟨B1, 1, none⟩ = some _ := K4_0.out.cell 1
  have m0_2 : W4.cell? ⟨B1, 2, none⟩ = some _ := K4_0.out.cell 2
  have m0_3 : W4.cell? ⟨B1, 3, none⟩ = some _ := K4_0.out.cell 3
  have m0_4 : W4.cell? ⟨B1, 4, none⟩ = some _ := K4_0.out.cell 4
  have m0_5 : W4.cell? ⟨B1, 5, none⟩ = some _ := K4_0.out.cell 5
  have m0_6 : W4.cell? ⟨B1, 6, none⟩ = some _ := K4_0.out.cell 6
  have m0_7 : W4.cell? ⟨B1, 7, none⟩ = some _ := K4_0.out.cell 7
  have m0_8 : W4.cell? ⟨B1, 8, none⟩ = some _ := K4_0.out.cell 8
  have m0_9 : W4.cell? ⟨B1, 9, none⟩ = some _ := K4_0.out.cell 9
  have mlt0 : B1 < W4.heap.size := K4_0.out.lt
  have m1_0 : W4.cell? ⟨B4, 0, none⟩ = some _ := K4_1.out.cell 0
  have m1_1 : W4.cell? ⟨B4, 1, none⟩ = some _ := K4_1.out.cell 1
  have m1_2 : W4.cell? ⟨B4, 2, none⟩ = some _ := K4_1.out.cell 2
  have m1_3 : W4.cell? ⟨B4, 3, none⟩ = some _ := K4_1.out.cell 3
  have m1_4 : W4.cell? ⟨B4, 4, none⟩ = some _ := K4_1.out.cell 4
  have m1_5 : W4.cell? ⟨B4, 5, none⟩ = some _ := K4_1.out.cell 5
  have m1_6 : W4.cell? ⟨B4, 6, none⟩ = some _ := K4_1.out.cell 6
  have m1_7 : W4.cell? ⟨B4, 7, none⟩ = some _ := K4_1.out.cell 7
  have m1_8 : W4.cell? ⟨B4, 8, none⟩ = some _ := K4_1.out.cell 8
  have m1_9 : W4.cell? ⟨B4, 9, none⟩ = some _ := K4_1.out.cell 9
  have mlt1 : B4 < W4.heap.size := K4_1.out.lt
  go_wp2_with fail
  clear m0_0 m0_1 m0_2 m0_3 m0_4 m0_5 m0_6 m0_7 m0_8 m0_9 mlt0 m1_0 m1_1 m1_2 m1_3 m1_4 m1_5 m1_6 m1_7 m1_8 m1_9 mlt1
  refine (H3.out _).mono ?_
  rintro e w5 ⟨rfl, hb⟩
  have L5 := Lib.hid (L4.out.trans (hb.mono L4.out.size))
  have K5_0 := Lib.hid (K4_0.out.below hb K4_0.out.lt)
  have K5_1 := Lib.hid (K4_1.out.below hb K4_1.out.lt)
  clear hb K4_0 K4_1
  have m0_0 : w5.cell? ⟨B1, 0, none⟩ = some _ := K5_0.out.cell 0
  have m0_1 : w5.cell? ⟨B1, 1, none⟩ = some _ := K5_0.out.cell 1
  have m0_2 : w5.cell? ⟨B1, 2, none⟩ = some _ := K5_0.out.cell 2
  have m0_3 : w5.cell? ⟨B1, 3, none⟩ = some _ := K5_0.out.cell 3
  have m0_4 : w5.cell? ⟨B1, 4, none⟩ = some _ := K5_0.out.cell 4
  have m0_5 : w5.cell? ⟨B1, 5, none⟩ = some _ := K5_0.out.cell 5
  have m0_6 : w5.cell? ⟨B1, 6, none⟩ = some _ := K5_0.out.cell 6
  have m0_7 : w5.cell? ⟨B1, 7, none⟩ = some _ := K5_0.out.cell 7
  have m0_8 : w5.cell? ⟨B1, 8, none⟩ = some _ := K5_0.out.cell 8
  have m0_9 : w5.cell? ⟨B1, 9, none⟩ = some _ := K5_0.out.cell 9
  have mlt0 : B1 < w5.heap.size := K5_0.out.lt
  have m1_0 : w5.cell? ⟨B4, 0, none⟩ = some _ := K5_1.out.cell 0
  have m1_1 : w5.cell? ⟨B4, 1, none⟩ = some _ := K5_1.out.cell 1
  have m1_2 : w5.cell? ⟨B4, 2, none⟩ = some _ := K5_1.out.cell 2
  have m1_3 : w5.cell? ⟨B4, 3, none⟩ = some _ := K5_1.out.cell 3
  have m1_4 : w5.cell? ⟨B4, 4, none⟩ = some _ := K5_1.out.cell 4
  have m1_5 : w5.cell? ⟨B4, 5, none⟩ = some _ := K5_1.out.cell 5
  have m1_6 : w5.cell? ⟨B4, 6, none⟩ = some _ := K5_1.out.cell 6
  have m1_7 : w5.cell? ⟨B4, 7, none⟩ = some _ := K5_1.out.cell 7
  have m1_8 : w5.cell? ⟨B4, 8, none⟩ = some _ := K5_1.out.cell 8
  have m1_9 : w5.cell? ⟨B4, 9, none⟩ = some _ := K5_1.out.cell 9
  have mlt1 : B4 < w5.heap.size := K5_1.out.lt
  go_wp2_with fail
  clear m0_0 m0_1 m0_2 m0_3 m0_4 m0_5 m0_6 m0_7 m0_8 m0_9 mlt0 m1_0 m1_1 m1_2 m1_3 m1_4 m1_5 m1_6 m1_7 m1_8 m1_9 mlt1
  go_ret
  exact ⟨rfl, L5.out⟩
set_option maxHeartbeats 8000000 in
theorem rmay_unfit (e : Ent) (l : Nat) (w : World) (hr : -9223372036854775808 ≤ e.rsw ∧ e.rsw ≤ 9223372036854775807) (hp : e.ppn < 18446744073709551616) (hl : l < 3) (hfit : fitE e = false) :
    Calls Try.prog 33 #[pv e, .int .i64 l] w fun r w' => r = .returned (.bool false) ∧ Below w.heap.size w w' := by
  have h1 := fun w => rput_any e w hr hp
  have h2 := fun w => rget_any (wordE e) w (by have := wordE_lt e; omega)
  have h3 := fun w => Calls.belowE (rlevel_yes l w hl)
  generalize decide (wordE e < 18014398509481984) = ok at h2
  have hne : entW (wordE e) = e → False := fun hh => by have := fit_iff.2 hh; rw [hfit] at this; cases this
  generalize entW (wordE e) = Z at h2 hne
  generalize wordE e = P at h1 h2
  obtain ⟨v, r, x1, x, u, g, a, d, rsw, ppn⟩ := e
  obtain ⟨zv, zr, zw, zx, zu, zg, za, zd, zs, zp⟩ := Z
  unfold pv at h1 h2 ⊢
  dsimp only at h1 h2 ⊢
  have hne' : zv = v → zr = r → zw = x1 → zx = x → zu = u → zg = g → za = a → zd = d → zs = rsw → (zp : Int) = (ppn : Int) → False := by
    intro a1 a2 a3 a4 a5 a6 a7 a8 a9 a10
    obtain rfl : zp = ppn := by omega
    exact hne (by rw [a1, a2, a3, a4, a5, a6, a7, a8, a9])
  have H1 := Lib.hid h1; have H2 := Lib.hid h2; have H3 := Lib.hid h3; have HNE := Lib.hid hne'
  clear h1 h2 h3 hr hp hne hne' hfit
  go_enter Try.func33, Try.ntmps33
  go_wp2_with fail
  have nb0 : Blk (w.alloc (.cells #[.bool v, .bool r, .bool x1, .bool x, .bool u, .bool g, .bool a, .bool d, .int .i64 rsw, .int .u64 (ppn : Int)] 39)) (w.heap.size) [.bool v, .bool r, .bool x1, .bool x, .bool u, .bool g, .bool a, .bool d, .int .i64 rsw, .int .u64 (ppn : Int)] 39 := Blk.new w [.bool v, .bool r, .bool x1, .bool x, .bool u, .bool g, .bool a, .bool d, .int .i64 rsw, .int .u64 (ppn : Int)] 39
  have nls : Below w.heap.size w w := (Below.refl w.heap.size w)
  have nl0 := nls.alloc nls.size (.cells #[.bool v, .bool r, .bool x1, .bool x, .bool u, .bool g, .bool a, .bool d, .int .i64 rsw, .int .u64 (ppn : Int)] 39)
  have nl : Below w.heap.size w (w.alloc (.cells #[.bool v, .bool r, .bool x1, .bool x, .bool u, .bool g, .bool a, .bool d, .int .i64 rsw, .int .u64 (ppn : Int)] 39)) := nl0; clear nls nl0
  obtain ⟨B1, hB0⟩ : ∃ B, B = w.heap.size := ⟨_, rfl⟩
  obtain ⟨W1, hW⟩ : ∃ W, W = (w.alloc (.cells #[.bool v, .bool r, .bool x1, .bool x, .bool u, .bool g, .bool a, .bool d, .int .i64 rsw, .int .u64 (ppn : Int)] 39)) := ⟨_, rfl⟩
  rw [← hW] at nl nb0
  rw [← hB0] at nb0
  rw [← hW]
  try rw [← hB0]
  have K1_0 := Lib.hid nb0
  have G1 : Hid (w.heap.size ≤ B1) := Lib.hid (by have := (Nat.le_refl w.heap.size); omega)
  have L1 := Lib.hid nl
  clear nl hW nb0 hB0
  have m0_0 : W1.cell? ⟨B1, 0, none⟩ = some _ := K1_0.out.cell 0
  have m0_1 : W1.cell? ⟨B1, 1, none⟩ = some _ := K1_0.out.cell 1
  have m0_2 : W1.cell? ⟨B1, 2, none⟩ = some _ := K1_0.out.cell 2
  have m0_3 : W1.cell? ⟨B1, 3, none⟩ = some _ := K1_0.out.cell 3
  have m0_4 : W1.cell? ⟨B1, 4, none⟩ = some _ := K1_0.out.cell 4
  have m0_5 : W1.cell? ⟨B1, 5, none⟩ = some _ := K1_0.out.cell 5
  have m0_6 : W1.cell? ⟨B1, 6, none⟩ = some _ := K1_0.out.cell 6
  have m0_7 : W1.cell? ⟨B1, 7, none⟩ = some _ := K1_0.out.cell 7
  have m0_8 : W1.cell? ⟨B1, 8, none⟩ = some _ := K1_0.out.cell 8
  have m0_9 : W1.cell? ⟨B1, 9, none⟩ = some _ := K1_0.out.cell 9
  have mlt0 : B1 < W1.heap.size := K1_0.out.lt
  go_wp2_with fail
  clear m0_0 m0_1 m0_2 m0_3 m0_4 m0_5 m0_6 m0_7 m0_8 m0_9 mlt0
  refine (H1.out _).mono ?_
  rintro e w2 ⟨rfl, hb⟩
  have L2 := Lib.hid (L1.out.trans (hb.mono L1.out.size))
  have K2_0 := Lib.hid (K1_0.out.below hb K1_0.out.lt)
  clear hb K1_0
  go_wp2_with fail
  refine (H2.out _).mono ?_
  rintro e w3 ⟨rfl, hb⟩
  have L3 := Lib.hid (L2.out.trans (hb.mono L2.out.size))
  have K3_0 := Lib.hid (K2_0.out.below hb K2_0.out.lt)
  clear hb K2_0
  have m0_0 : w3.cell? ⟨B1, 0, none⟩ = some _ := K3_0.out.cell 0
  have m0_1 : w3.cell? ⟨B1, 1, none⟩ = some _ := K3_0.out.cell 1
  have m0_2 : w3.cell? ⟨B1, 2, none⟩ = some _ := K3_0.out.cell 2
  have m0_3 : w3.cell? ⟨B1, 3, none⟩ = some _ := K3_0.out.cell 3
  have m0_4 : w3.cell? ⟨B1, 4, none⟩ = some _ := K3_0.out.cell 4
  have m0_5 : w3.cell? ⟨B1, 5, none⟩ = some _ := K3_0.out.cell 5
  have m0_6 : w3.cell? ⟨B1, 6, none⟩ = some _ := K3_0.out.cell 6
  have m0_7 : w3.cell? ⟨B1, 7, none⟩ = some _ := K3_0.out.cell 7
  have m0_8 : w3.cell? ⟨B1, 8, none⟩ = some _ := K3_0.out.cell 8
  have m0_9 : w3.cell? ⟨B1, 9, none⟩ = some _ := K3_0.out.cell 9
  have mlt0 : B1 < w3.heap.size := K3_0.out.lt
  go_wp2_with fail
  clear m0_0 m0_1 m0_2 m0_3 m0_4 m0_5 m0_6 m0_7 m0_8 m0_9 mlt0
  have nb0 : Blk (w3.alloc (.cells #[.bool zv, .bool zr, .bool zw, .bool zx, .bool zu, .bool zg, .bool za, .bool zd, .int .i64 zs, .int .u64 (zp : Int)] 39)) (w3.heap.size) [.bool zv, .bool zr, .bool zw, .bool zx, .bool zu, .bool zg, .bool za, .bool zd, .int .i64 zs, .int .u64 (zp : Int)] 39 := Blk.new w3 [.bool zv, .bool zr, .bool zw, .bool zx, .bool zu, .bool zg, .bool za, .bool zd, .int .i64 zs, .int .u64 (zp : Int)] 39
  have nls : Below w.heap.size w w3 := L3.out
  have nl0 := nls.alloc nls.size (.cells #[.bool zv, .bool zr, .bool zw, .bool zx, .bool zu, .bool zg, .bool za, .bool zd, .int .i64 zs, .int .u64 (zp : Int)] 39)
  have nl : Below w.heap.size w (w3.alloc (.cells #[.bool zv, .bool zr, .bool zw, .bool zx, .bool zu, .bool zg, .bool za, .bool zd, .int .i64 zs, .int .u64 (zp : Int)] 39)) := nl0; clear nls nl0
  have o0 : Blk (w3.alloc (.cells #[.bool zv, .bool zr, .bool zw, .bool zx, .bool zu, .bool zg, .bool za, .bool zd, .int .i64 zs, .int .u64 (zp : Int)] 39)) B1 [.bool v, .bool r, .bool x1, .bool x, .bool u, .bool g, .bool a, .bool d, .int .i64 rsw, .int .u64 (ppn : Int)] 39 := (K3_0.out.alloc (.cells #[.bool zv, .bool zr, .bool zw, .bool zx, .bool zu, .bool zg, .bool za, .bool zd, .int .i64 zs, .int .u64 (zp : Int)] 39))
  have d4_0 : B1 < w3.heap.size := K3_0.out.lt
  obtain ⟨B4, hB0⟩ : ∃ B, B = w3.heap.size := ⟨_, rfl⟩
  obtain ⟨W4, hW⟩ : ∃ W, W = (w3.alloc (.cells #[.bool zv, .bool zr, .bool zw, .bool zx, .bool zu, .bool zg, .bool za, .bool zd, .int .i64 zs, .int .u64 (zp : Int)] 39)) := ⟨_, rfl⟩
  rw [← hW] at nl nb0 o0
  rw [← hB0] at nb0
  rw [← hW]
  try rw [← hB0]
  have K4_0 := Lib.hid o0
  have K4_1 := Lib.hid nb0
  have G4 : Hid (w.heap.size ≤ B4) := Lib.hid (by have := L3.out.size; omega)
  have x4_0_0 : B1 ≠ B4 := by omega
  have X4_0_0 := Lib.hid x4_0_0; clear x4_0_0
  have L4 := Lib.hid nl
  clear nl hW nb0 hB0 o0 d4_0 K3_0
  have m0_0 : W4.cell? ⟨B1, 0, none⟩ = some _ := K4_0.out.cell 0
  have m0_1 : W4.cell? ⟨B1, 1, none⟩ = some _ := K4_0.out.cell 1
  have m0_2 : W4.cell? ⟨B1, 2, none⟩ = some _ := K4_0.out.cell 2
  have m0_3 : W4.cell? ⟨B1, 3, none⟩ = some _ := K4_0.out.cell 3
  have m0_4 : W4.cell? ⟨B1, 4, none⟩ = some _ := K4_0.out.cell 4
  have m0_5 : W4.cell? ⟨B1, 5, none⟩ = some _ := K4_0.out.cell 5
  have m0_6 : W4.cell? ⟨B1, 6, none⟩ = some _ := K4_0.out.cell 6
  have m0_7 : W4.cell? ⟨B1, 7, none⟩ = some _ := K4_0.out.cell 7
  have m0_8 : W4.cell? ⟨B1, 8, none⟩ = some _ := K4_0.out.cell 8
  have m0_9 : W4.cell? ⟨B1, 9, none⟩ = some _ := K4_0.out.cell 9
  have mlt0 : B1 < W4.heap.size := K4_0.out.lt
  have m1_0 : W4.cell? ⟨B4, 0, none⟩ = some _ := K4_1.out.cell 0
  have m1_1 : W4.cell? ⟨B4, 1, none⟩ = some _ := K4_1.out.cell 1
  have m1_2 : W4.cell? ⟨B4, 2, none⟩ = some _ := K4_1.out.cell 2
  have m1_3 : W4.cell? ⟨B4, 3, none⟩ = some _ := K4_1.out.cell 3
  have m1_4 : W4.cell? ⟨B4, 4, none⟩ = some _ := K4_1.out.cell 4
  have m1_5 : W4.cell? ⟨B4, 5, none⟩ = some _ := K4_1.out.cell 5
  have m1_6 : W4.cell? ⟨B4, 6, none⟩ = some _ := K4_1.out.cell 6
  have m1_7 : W4.cell? ⟨B4, 7, none⟩ = some _ := K4_1.out.cell 7
  have m1_8 : W4.cell? ⟨B4, 8, none⟩ = some _ := K4_1.out.cell 8
  have m1_9 : W4.cell? ⟨B4, 9, none⟩ = some _ := K4_1.out.cell 9
  have mlt1 : B4 < W4.heap.size := K4_1.out.lt
  go_wp2_with fail
  clear m0_0 m0_1 m0_2 m0_3 m0_4 m0_5 m0_6 m0_7 m0_8 m0_9 mlt0 m1_0 m1_1 m1_2 m1_3 m1_4 m1_5 m1_6 m1_7 m1_8 m1_9 mlt1
  refine (H3.out _).mono ?_
  rintro e w5 ⟨rfl, hb⟩
  have L5 := Lib.hid (L4.out.trans (hb.mono L4.out.size))
  have K5_0 := Lib.hid (K4_0.out.below hb K4_0.out.lt)
  have K5_1 := Lib.hid (K4_1.out.below hb K4_1.out.lt)
  clear hb K4_0 K4_1
  have m0_0 : w5.cell? ⟨B1, 0, none⟩ = some _ := K5_0.out.cell 0
  have m0_1 : w5.cell? ⟨B1, 1, none⟩ = some _ := K5_0.out.cell 1
  have m0_2 : w5.cell? ⟨B1, 2, none⟩ = some _ := K5_0.out.cell 2
  have m0_3 : w5.cell? ⟨B1, 3, none⟩ = some _ := K5_0.out.cell 3
  have m0_4 : w5.cell? ⟨B1, 4, none⟩ = some _ := K5_0.out.cell 4
  have m0_5 : w5.cell? ⟨B1, 5, none⟩ = some _ := K5_0.out.cell 5
  have m0_6 : w5.cell? ⟨B1, 6, none⟩ = some _ := K5_0.out.cell 6
  have m0_7 : w5.cell? ⟨B1, 7, none⟩ = some _ := K5_0.out.cell 7
  have m0_8 : w5.cell? ⟨B1, 8, none⟩ = some _ := K5_0.out.cell 8
  have m0_9 : w5.cell? ⟨B1, 9, none⟩ = some _ := K5_0.out.cell 9
  have mlt0 : B1 < w5.heap.size := K5_0.out.lt
  have m1_0 : w5.cell? ⟨B4, 0, none⟩ = some _ := K5_1.out.cell 0
  have m1_1 : w5.cell? ⟨B4, 1, none⟩ = some _ := K5_1.out.cell 1
  have m1_2 : w5.cell? ⟨B4, 2, none⟩ = some _ := K5_1.out.cell 2
  have m1_3 : w5.cell? ⟨B4, 3, none⟩ = some _ := K5_1.out.cell 3
  have m1_4 : w5.cell? ⟨B4, 4, none⟩ = some _ := K5_1.out.cell 4
  have m1_5 : w5.cell? ⟨B4, 5, none⟩ = some _ := K5_1.out.cell 5
  have m1_6 : w5.cell? ⟨B4, 6, none⟩ = some _ := K5_1.out.cell 6
  have m1_7 : w5.cell? ⟨B4, 7, none⟩ = some _ := K5_1.out.cell 7
  have m1_8 : w5.cell? ⟨B4, 8, none⟩ = some _ := K5_1.out.cell 8
  have m1_9 : w5.cell? ⟨B4, 9, none⟩ = some _ := K5_1.out.cell 9
  have mlt1 : B4 < w5.heap.size := K5_1.out.lt
  go_upto_region 3 with (fail)
  all_goals first
    | exact (HNE.out (by first | rfl | assumption) (by first | rfl | assumption) (by first | rfl | assumption) (by first | rfl | assumption) (by first | rfl | assumption) (by first | rfl | assumption) (by first | rfl | assumption) (by first | rfl | assumption) (by first | rfl | assumption) (by first | rfl | assumption)).elim
    | (go_wp2; go_ret; exact ⟨rfl, L5.out⟩)
set_option maxHeartbeats 8000000 in
theorem rmay_fit (e : Ent) (l : Nat) (w : World) (hr : -9223372036854775808 ≤ e.rsw ∧ e.rsw ≤ 9223372036854775807) (hp : e.ppn < 18446744073709551616) (hl : l < 3) (hfit : fitE e = true) :
    Calls Try.prog 33 #[pv e, .int .i64 l] w fun r w' => r = .returned (.bool (mayE e l)) ∧ Below w.heap.size w w' := by
  have h1 := fun w => rput_any e w hr hp
  have h2 := fun w => rget_any (wordE e) w (by have := wordE_lt e; omega)
  have h3 := fun w => Calls.belowE (rlevel_yes l w hl)
  generalize decide (wordE e < 18014398509481984) = ok at h2
  have hsp := fun w => rspan_yes l w hl
  rw [ent_word hfit] at h2
  have hfp := (of_decide_eq_true hfit).1
  have hm : mayE e l = (e.v && (e.r || !e.w) && (e.r || e.x) && decide (e.ppn % 2 ^ (9 * l) = 0)) := by
    unfold mayE
    rw [hfit, decide_eq_true (show (0 : Int) ≤ (l : Int) ∧ (l : Int) < 3 from by omega), Int.toNat_natCast]
    rfl
  have hw : IntKind.u64.wrap ((e.ppn : Int) * 4096) = ((e.ppn * 4096 : Nat) : Int) := by rw [wrap_u64B]; omega
  have hq : (((e.ppn * 4096 : Nat) : Int) % ((2 ^ (12 + 9 * l) : Nat) : Int) == 0) = decide (e.ppn % 2 ^ (9 * l) = 0) := by
    rw [← Int.natCast_emod]
    have h := mult_eq (p := e.ppn) hl
    by_cases hc : e.ppn % 2 ^ (9 * l) = 0
    · rw [decide_eq_true hc, h.2 hc]; rfl
    · rw [decide_eq_false hc, beq_eq_false_iff_ne]
      intro hz
      exact hc (h.1 (by omega))
  obtain ⟨M, hM⟩ : ∃ M, M = 2 ^ (12 + 9 * l) := ⟨_, rfl⟩
  have hpos : (M : Int) ≠ 0 := by have := Nat.two_pow_pos (12 + 9 * l); omega
  rw [← hM] at hq hsp
  obtain ⟨bb, hbb⟩ : ∃ b, b = decide (e.ppn % 2 ^ (9 * l) = 0) := ⟨_, rfl⟩
  rw [← hbb] at hq hm
  obtain ⟨mm, hmm⟩ : ∃ b, b = mayE e l := ⟨_, rfl⟩
  rw [← hmm] at hm ⊢
  obtain ⟨pq, hpq⟩ : ∃ q, q = e.ppn * 4096 := ⟨_, rfl⟩
  rw [← hpq] at hw hq
  generalize wordE e = P at h1 h2
  obtain ⟨v, r, x1, x, u, g, a, d, rsw, ppn⟩ := e
  unfold pv at h1 h2 ⊢
  dsimp only at h1 h2 hm hw ⊢
  have H1 := Lib.hid h1; have H2 := Lib.hid h2; have H3 := Lib.hid h3; have HM := Lib.hid hm; have HSP := Lib.hid hsp
  clear h1 h2 h3 hr hp hfit hfp hbb hmm hM hpq hm hsp
  go_enter Try.func33, Try.ntmps33
  go_wp2_with fail
  have nb0 : Blk (w.alloc (.cells #[.bool v, .bool r, .bool x1, .bool x, .bool u, .bool g, .bool a, .bool d, .int .i64 rsw, .int .u64 (ppn : Int)] 39)) (w.heap.size) [.bool v, .bool r, .bool x1, .bool x, .bool u, .bool g, .bool a, .bool d, .int .i64 rsw, .int .u64 (ppn : Int)] 39 := Blk.new w [.bool v, .bool r, .bool x1, .bool x, .bool u, .bool g, .bool a, .bool d, .int .i64 rsw, .int .u64 (ppn : Int)] 39
  have nls : Below w.heap.size w w := (Below.refl w.heap.size w)
  have nl0 := nls.alloc nls.size (.cells #[.bool v, .bool r, .bool x1, .bool x, .bool u, .bool g, .bool a, .bool d, .int .i64 rsw, .int .u64 (ppn : Int)] 39)
  have nl : Below w.heap.size w (w.alloc (.cells #[.bool v, .bool r, .bool x1, .bool x, .bool u, .bool g, .bool a, .bool d, .int .i64 rsw, .int .u64 (ppn : Int)] 39)) := nl0; clear nls nl0
  obtain ⟨B1, hB0⟩ : ∃ B, B = w.heap.size := ⟨_, rfl⟩
  obtain ⟨W1, hW⟩ : ∃ W, W = (w.alloc (.cells #[.bool v, .bool r, .bool x1, .bool x, .bool u, .bool g, .bool a, .bool d, .int .i64 rsw, .int .u64 (ppn : Int)] 39)) := ⟨_, rfl⟩
  rw [← hW] at nl nb0
  rw [← hB0] at nb0
  rw [← hW]
  try rw [← hB0]
  have K1_0 := Lib.hid nb0
  have G1 : Hid (w.heap.size ≤ B1) := Lib.hid (by have := (Nat.le_refl w.heap.size); omega)
  have L1 := Lib.hid nl
  clear nl hW nb0 hB0
  have m0_0 : W1.cell? ⟨B1, 0, none⟩ = some _ := K1_0.out.cell 0
  have m0_1 : W1.cell? ⟨B1, 1, none⟩ = some _ := K1_0.out.cell 1
  have m0_2 : W1.cell? ⟨B1, 2, none⟩ = some _ := K1_0.out.cell 2
  have m0_3 : W1.cell? ⟨B1, 3, none⟩ = some _ := K1_0.out.cell 3
  have m0_4 : W1.cell? ⟨B1, 4, none⟩ = some _ := K1_0.out.cell 4
  have m0_5 : W1.cell? ⟨B1, 5, none⟩ = some _ := K1_0.out.cell 5
  have m0_6 : W1.cell? ⟨B1, 6, none⟩ = some _ := K1_0.out.cell 6
  have m0_7 : W1.cell? ⟨B1, 7, none⟩ = some _ := K1_0.out.cell 7
  have m0_8 : W1.cell? ⟨B1, 8, none⟩ = some _ := K1_0.out.cell 8
  have m0_9 : W1.cell? ⟨B1, 9, none⟩ = some _ := K1_0.out.cell 9
  have mlt0 : B1 < W1.heap.size := K1_0.out.lt
  go_wp2_with fail
  clear m0_0 m0_1 m0_2 m0_3 m0_4 m0_5 m0_6 m0_7 m0_8 m0_9 mlt0
  refine (H1.out _).mono ?_
  rintro e w2 ⟨rfl, hb⟩
  have L2 := Lib.hid (L1.out.trans (hb.mono L1.out.size))
  have K2_0 := Lib.hid (K1_0.out.below hb K1_0.out.lt)
  clear hb K1_0
  go_wp2_with fail
  refine (H2.out _).mono ?_
  rintro e w3 ⟨rfl, hb⟩
  have L3 := Lib.hid (L2.out.trans (hb.mono L2.out.size))
  have K3_0 := Lib.hid (K2_0.out.below hb K2_0.out.lt)
  clear hb K2_0
  have m0_0 : w3.cell? ⟨B1, 0, none⟩ = some _ := K3_0.out.cell 0
  have m0_1 : w3.cell? ⟨B1, 1, none⟩ = some _ := K3_0.out.cell 1
  have m0_2 : w3.cell? ⟨B1, 2, none⟩ = some _ := K3_0.out.cell 2
  have m0_3 : w3.cell? ⟨B1, 3, none⟩ = some _ := K3_0.out.cell 3
  have m0_4 : w3.cell? ⟨B1, 4, none⟩ = some _ := K3_0.out.cell 4
  have m0_5 : w3.cell? ⟨B1, 5, none⟩ = some _ := K3_0.out.cell 5
  have m0_6 : w3.cell? ⟨B1, 6, none⟩ = some _ := K3_0.out.cell 6
  have m0_7 : w3.cell? ⟨B1, 7, none⟩ = some _ := K3_0.out.cell 7
  have m0_8 : w3.cell? ⟨B1, 8, none⟩ = some _ := K3_0.out.cell 8
  have m0_9 : w3.cell? ⟨B1, 9, none⟩ = some _ := K3_0.out.cell 9
  have mlt0 : B1 < w3.heap.size := K3_0.out.lt
  go_wp2_with fail
  clear m0_0 m0_1 m0_2 m0_3 m0_4 m0_5 m0_6 m0_7 m0_8 m0_9 mlt0
  have nb0 : Blk (w3.alloc (.cells #[.bool v, .bool r, .bool x1, .bool x, .bool u, .bool g, .bool a, .bool d, .int .i64 rsw, .int .u64 (ppn : Int)] 39)) (w3.heap.size) [.bool v, .bool r, .bool x1, .bool x, .bool u, .bool g, .bool a, .bool d, .int .i64 rsw, .int .u64 (ppn : Int)] 39 := Blk.new w3 [.bool v, .bool r, .bool x1, .bool x, .bool u, .bool g, .bool a, .bool d, .int .i64 rsw, .int .u64 (ppn : Int)] 39
  have nls : Below w.heap.size w w3 := L3.out
  have nl0 := nls.alloc nls.size (.cells #[.bool v, .bool r, .bool x1, .bool x, .bool u, .bool g, .bool a, .bool d, .int .i64 rsw, .int .u64 (ppn : Int)] 39)
  have nl : Below w.heap.size w (w3.alloc (.cells #[.bool v, .bool r, .bool x1, .bool x, .bool u, .bool g, .bool a, .bool d, .int .i64 rsw, .int .u64 (ppn : Int)] 39)) := nl0; clear nls nl0
  have o0 : Blk (w3.alloc (.cells #[.bool v, .bool r, .bool x1, .bool x, .bool u, .bool g, .bool a, .bool d, .int .i64 rsw, .int .u64 (ppn : Int)] 39)) B1 [.bool v, .bool r, .bool x1, .bool x, .bool u, .bool g, .bool a, .bool d, .int .i64 rsw, .int .u64 (ppn : Int)] 39 := (K3_0.out.alloc (.cells #[.bool v, .bool r, .bool x1, .bool x, .bool u, .bool g, .bool a, .bool d, .int .i64 rsw, .int .u64 (ppn : Int)] 39))
  have d4_0 : B1 < w3.heap.size := K3_0.out.lt
  obtain ⟨B4, hB0⟩ : ∃ B, B = w3.heap.size := ⟨_, rfl⟩
  obtain ⟨W4, hW⟩ : ∃ W, W = (w3.alloc (.cells #[.bool v, .bool r, .bool x1, .bool x, .bool u, .bool g, .bool a, .bool d, .int .i64 rsw, .int .u64 (ppn : Int)] 39)) := ⟨_, rfl⟩
  rw [← hW] at nl nb0 o0
  rw [← hB0] at nb0
  rw [← hW]
  try rw [← hB0]
  have K4_0 := Lib.hid o0
  have K4_1 := Lib.hid nb0
  have G4 : Hid (w.heap.size ≤ B4) := Lib.hid (by have := L3.out.size; omega)
  have x4_0_0 : B1 ≠ B4 := by omega
  have X4_0_0 := Lib.hid x4_0_0; clear x4_0_0
  have L4 := Lib.hid nl
  clear nl hW nb0 hB0 o0 d4_0 K3_0
  have m0_0 : W4.cell? ⟨B1, 0, none⟩ = some _ := K4_0.out.cell 0
  have m0_1 : W4.cell? ⟨B1, 1, none⟩ = some _ := K4_0.out.cell 1
  have m0_2 : W4.cell? ⟨B1, 2, none⟩ = some _ := K4_0.out.cell 2
  have m0_3 : W4.cell? ⟨B1, 3, none⟩ = some _ := K4_0.out.cell 3
  have m0_4 : W4.cell? ⟨B1, 4, none⟩ = some _ := K4_0.out.cell 4
  have m0_5 : W4.cell? ⟨B1, 5, none⟩ = some _ := K4_0.out.cell 5
  have m0_6 : W4.cell? ⟨B1, 6, none⟩ = some _ := K4_0.out.cell 6
  have m0_7 : W4.cell? ⟨B1, 7, none⟩ = some _ := K4_0.out.cell 7
  have m0_8 : W4.cell? ⟨B1, 8, none⟩ = some _ := K4_0.out.cell 8
  have m0_9 : W4.cell? ⟨B1, 9, none⟩ = some _ := K4_0.out.cell 9
  have mlt0 : B1 < W4.heap.size := K4_0.out.lt
  have m1_0 : W4.cell? ⟨B4, 0, none⟩ = some _ := K4_1.out.cell 0
  have m1_1 : W4.cell? ⟨B4, 1, none⟩ = some _ := K4_1.out.cell 1
  have m1_2 : W4.cell? ⟨B4, 2, none⟩ = some _ := K4_1.out.cell 2
  have m1_3 : W4.cell? ⟨B4, 3, none⟩ = some _ := K4_1.out.cell 3
  have m1_4 : W4.cell? ⟨B4, 4, none⟩ = some _ := K4_1.out.cell 4
  have m1_5 : W4.cell? ⟨B4, 5, none⟩ = some _ := K4_1.out.cell 5
  have m1_6 : W4.cell? ⟨B4, 6, none⟩ = some _ := K4_1.out.cell 6
  have m1_7 : W4.cell? ⟨B4, 7, none⟩ = some _ := K4_1.out.cell 7
  have m1_8 : W4.cell? ⟨B4, 8, none⟩ = some _ := K4_1.out.cell 8
  have m1_9 : W4.cell? ⟨B4, 9, none⟩ = some _ := K4_1.out.cell 9
  have mlt1 : B4 < W4.heap.size := K4_1.out.lt
  go_wp2_with fail
  clear m0_0 m0_1 m0_2 m0_3 m0_4 m0_5 m0_6 m0_7 m0_8 m0_9 mlt0 m1_0 m1_1 m1_2 m1_3 m1_4 m1_5 m1_6 m1_7 m1_8 m1_9 mlt1
  refine (H3.out _).mono ?_
  rintro e w5 ⟨rfl, hb⟩
  have L5 := Lib.hid (L4.out.trans (hb.mono L4.out.size))
  have K5_0 := Lib.hid (K4_0.out.below hb K4_0.out.lt)
  have K5_1 := Lib.hid (K4_1.out.below hb K4_1.out.lt)
  clear hb K4_0 K4_1
  have m0_0 : w5.cell? ⟨B1, 0, none⟩ = some _ := K5_0.out.cell 0
  have m0_1 : w5.cell? ⟨B1, 1, none⟩ = some _ := K5_0.out.cell 1
  have m0_2 : w5.cell? ⟨B1, 2, none⟩ = some _ := K5_0.out.cell 2
  have m0_3 : w5.cell? ⟨B1, 3, none⟩ = some _ := K5_0.out.cell 3
  have m0_4 : w5.cell? ⟨B1, 4, none⟩ = some _ := K5_0.out.cell 4
  have m0_5 : w5.cell? ⟨B1, 5, none⟩ = some _ := K5_0.out.cell 5
  have m0_6 : w5.cell? ⟨B1, 6, none⟩ = some _ := K5_0.out.cell 6
  have m0_7 : w5.cell? ⟨B1, 7, none⟩ = some _ := K5_0.out.cell 7
  have m0_8 : w5.cell? ⟨B1, 8, none⟩ = some _ := K5_0.out.cell 8
  have m0_9 : w5.cell? ⟨B1, 9, none⟩ = some _ := K5_0.out.cell 9
  have mlt0 : B1 < w5.heap.size := K5_0.out.lt
  have m1_0 : w5.cell? ⟨B4, 0, none⟩ = some _ := K5_1.out.cell 0
  have m1_1 : w5.cell? ⟨B4, 1, none⟩ = some _ := K5_1.out.cell 1
  have m1_2 : w5.cell? ⟨B4, 2, none⟩ = some _ := K5_1.out.cell 2
  have m1_3 : w5.cell? ⟨B4, 3, none⟩ = some _ := K5_1.out.cell 3
  have m1_4 : w5.cell? ⟨B4, 4, none⟩ = some _ := K5_1.out.cell 4
  have m1_5 : w5.cell? ⟨B4, 5, none⟩ = some _ := K5_1.out.cell 5
  have m1_6 : w5.cell? ⟨B4, 6, none⟩ = some _ := K5_1.out.cell 6
  have m1_7 : w5.cell? ⟨B4, 7, none⟩ = some _ := K5_1.out.cell 7
  have m1_8 : w5.cell? ⟨B4, 8, none⟩ = some _ := K5_1.out.cell 8
  have m1_9 : w5.cell? ⟨B4, 9, none⟩ = some _ := K5_1.out.cell 9
  have mlt1 : B4 < w5.heap.size := K5_1.out.lt
  go_upto_region 3 with (fail)
  all_goals try (go_wp2; go_ret; exact ⟨by rw [HM.out]; simp_all, L5.out⟩)
  all_goals (go_quiet ((go_at_call 58; exact quiet_same (HSP.out _))); go_wp2; go_ret; exact ⟨by rw [HM.out]; simp_all, below_drewNsB L5.out _⟩)
/-- at whatever level -/
theorem rmay_any (e : Ent) (l : Int) (w : World) (hr : -9223372036854775808 ≤ e.rsw ∧ e.rsw ≤ 9223372036854775807) (hp : e.ppn < 18446744073709551616) :
    Calls Try.prog 33 #[pv e, .int .i64 l] w fun r w' => r = .returned (.bool (mayE e l)) ∧ Below w.heap.size w w' := by
  by_cases hl : 0 ≤ l ∧ l < 3
  · obtain ⟨k, rfl⟩ : ∃ k : Nat, l = k := ⟨l.toNat, by omega⟩
    cases hf : fitE e with
    | true => exact rmay_fit e k w hr hp (by omega) hf
    | false =>
      have hz : mayE e k = false := by unfold mayE; rw [hf]; simp
      rw [hz]; exact rmay_unfit e k w hr hp (by omega) hf
  · have hz : mayE e l = false := by unfold mayE; rw [decide_eq_false hl]; rfl
    rw [hz]; exact rmay_no e l w hr hp hl
end Go.Proofs.Ytdakfgefnapglaa
