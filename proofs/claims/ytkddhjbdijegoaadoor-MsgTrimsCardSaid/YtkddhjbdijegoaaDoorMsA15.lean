/-
  What Right of package msg and Right of package runrigref15 answer: contracts over the translation. Each says its own conditions.
-/
import Derived.Test.YtkddhjbdijegoaaDoorPl15
import Derived.Test.YtkddhjbdijegoaaDoorPte08
import Derived.Deep.Cut
namespace Go.Proofs.YtkddhjbdijegoaaDoor
open Go.RowKit
set_option linter.unusedVariables false
set_option linter.unusedSimpArgs false
attribute [local go_sem] setCell_drewN alloc_drewN

theorem Rd.at_ {w : World} {A : Option Addr} {l : List Int} (h : Rd w A l) (i : Nat) (hi : i < l.length) : ∃ b off, A = some ⟨b, off, none⟩ ∧ w.cell? ⟨b, off + i, none⟩ = some (.int .u8 (l.getD i 0)) := by
  obtain ⟨b, off, rfl, hc⟩ := h.2.2 (by omega)
  exact ⟨b, off, rfl, hc i hi⟩
theorem kind_any (k : Int) (w : World) : Calls Tryd.prog 20 #[.int .i64 k] w fun e w' => e = .returned (.bool (knd k)) ∧ w = w' := by
  unfold knd
  by_cases h1 : 1 ≤ k
  · by_cases h2 : k ≤ 6
    · go_enter Tryd.func20, Tryd.ntmps20
      go_wp2
      go_ret
      exact ⟨ret_bool (by simp; omega), rfl⟩
    · go_enter Tryd.func20, Tryd.ntmps20
      go_wp2
      go_ret
      exact ⟨ret_bool (by simp; omega), rfl⟩
  · go_enter Tryd.func20, Tryd.ntmps20
    go_wp2
    go_ret
    exact ⟨ret_bool (by simp; omega), rfl⟩
set_option maxHeartbeats 4000000 in
theorem data_any (k p n h s : Int) (A : Option Addr) (dl cap : Nat) (d : List Int) (w : World) (hr : Rd w A d) (hl : d.length = dl) (hd : dl ≤ 9223372036854775807) : Calls Tryd.prog 21 #[.agg #[.int .i64 k, .int .i64 p, .int .i64 n, .int .i64 h, .int .u16 s, .slice A dl cap]] w fun e w' => e = .returned (.bool (dok k d)) ∧ Below w.heap.size w w' := by
  obtain ⟨Q, hQ⟩ : ∃ Q, Q = dok k d := ⟨_, rfl⟩
  rw [← hQ]
  unfold dok at hQ
  rw [hl] at hQ
  by_cases h0 : dl = 0
  · subst h0
    have HQ := Lib.hid hQ
    clear hQ hr hl
    go_enter Tryd.func21, Tryd.ntmps21
    by_cases h3 : k = 3
    · subst h3
      go_upto_region 1 with (fail)
      have nb0 : Blk (w.alloc (.cells #[.int .i64 3, .int .i64 p, .int .i64 n, .int .i64 h, .int .u16 s, .slice A 0 cap] 26)) (w.heap.size) [.int .i64 3, .int .i64 p, .int .i64 n, .int .i64 h, .int .u16 s, .slice A 0 cap] 26 := Blk.new w [.int .i64 3, .int .i64 p, .int .i64 n, .int .i64 h, .int .u16 s, .slice A 0 cap] 26
      have nls : Below w.heap.size w w := (Below.refl w.heap.size w)
      have nl0 := nls.alloc nls.size (.cells #[.int .i64 3, .int .i64 p, .int .i64 n, .int .i64 h, .int .u16 s, .slice A 0 cap] 26)
      have nl : Below w.heap.size w (w.alloc (.cells #[.int .i64 3, .int .i64 p, .int .i64 n, .int .i64 h, .int .u16 s, .slice A 0 cap] 26)) := nl0; clear nls nl0
      obtain ⟨B1, hB0⟩ : ∃ B, B = w.heap.size := ⟨_, rfl⟩
      obtain ⟨W1, hW⟩ : ∃ W, W = (w.alloc (.cells #[.int .i64 3, .int .i64 p, .int .i64 n, .int .i64 h, .int .u16 s, .slice A 0 cap] 26)) := ⟨_, rfl⟩
      rw [← hW] at nl nb0
      rw [← hB0] at nb0
      rw [← hW]
      try rw [← hB0]
      have K1_0 := Lib.hid nb0
      have G1 : Hid (w.heap.size ≤ B1) := Lib.hid (by have := (Nat.le_refl w.heap.size); omega)
      have L1 := Lib.hid nl
      clear nl hW nb0 hB0
      have m0_0 : W1.cell? ⟨B1, 0, none⟩ = some _ := K1_0.out.cell 0
      have m0_1 : W1.cell? ⟨B1, 1, none⟩ = some _ := K1_0.out.cell 1
      have m0_2 : W1.cell? ⟨B1, 2, none⟩ = some _ := K1_0.out.cell 2
      have m0_3 : W1.cell? ⟨B1, 3, none⟩ = some _ := K1_0.out.cell 3
      have m0_4 : W1.cell? ⟨B1, 4, none⟩ = some _ := K1_0.out.cell 4
      have m0_5 : W1.cell? ⟨B1, 5, none⟩ = some _ := K1_0.out.cell 5
      have mlt0 : B1 < W1.heap.size := K1_0.out.lt
      go_wp2
      clear m0_0 m0_1 m0_2 m0_3 m0_4 m0_5 mlt0
      go_ret
      exact ⟨ret_bool (by rw [HQ.out]; apply Bool.eq_iff_iff.2; simp only [Bool.or_eq_true, Bool.and_eq_true, decide_eq_true_eq, beq_iff_eq, bne_iff_ne, ne_eq, reduceCtorEq, true_iff, iff_true, false_iff, iff_false, true_or, or_true, and_true, true_and, false_or, or_false, false_and, and_false, not_true_eq_false, not_false_eq_true] <;> omega), L1.out⟩
    by_cases h4 : k = 4
    · subst h4
      go_upto_region 1 with (fail)
      have nb0 : Blk (w.alloc (.cells #[.int .i64 4, .int .i64 p, .int .i64 n, .int .i64 h, .int .u16 s, .slice A 0 cap] 26)) (w.heap.size) [.int .i64 4, .int .i64 p, .int .i64 n, .int .i64 h, .int .u16 s, .slice A 0 cap] 26 := Blk.new w [.int .i64 4, .int .i64 p, .int .i64 n, .int .i64 h, .int .u16 s, .slice A 0 cap] 26
      have nls : Below w.heap.size w w := (Below.refl w.heap.size w)
      have nl0 := nls.alloc nls.size (.cells #[.int .i64 4, .int .i64 p, .int .i64 n, .int .i64 h, .int .u16 s, .slice A 0 cap] 26)
      have nl : Below w.heap.size w (w.alloc (.cells #[.int .i64 4, .int .i64 p, .int .i64 n, .int .i64 h, .int .u16 s, .slice A 0 cap] 26)) := nl0; clear nls nl0
      obtain ⟨B1, hB0⟩ : ∃ B, B = w.heap.size := ⟨_, rfl⟩
      obtain ⟨W1, hW⟩ : ∃ W, W = (w.alloc (.cells #[.int .i64 4, .int .i64 p, .int .i64 n, .int .i64 h, .int .u16 s, .slice A 0 cap] 26)) := ⟨_, rfl⟩
      rw [← hW] at nl nb0
      rw [← hB0] at nb0
      rw [← hW]
      try rw [← hB0]
      have K1_0 := Lib.hid nb0
      have G1 : Hid (w.heap.size ≤ B1) := Lib.hid (by have := (Nat.le_refl w.heap.size); omega)
      have L1 := Lib.hid nl
      clear nl hW nb0 hB0
      have m0_0 : W1.cell? ⟨B1, 0, none⟩ = some _ := K1_0.out.cell 0
      have m0_1 : W1.cell? ⟨B1, 1, none⟩ = some _ := K1_0.out.cell 1
      have m0_2 : W1.cell? ⟨B1, 2, none⟩ = some _ := K1_0.out.cell 2
      have m0_3 : W1.cell? ⟨B1, 3, none⟩ = some _ := K1_0.out.cell 3
      have m0_4 : W1.cell? ⟨B1, 4, none⟩ = some _ := K1_0.out.cell 4
      have m0_5 : W1.cell? ⟨B1, 5, none⟩ = some _ := K1_0.out.cell 5
      have mlt0 : B1 < W1.heap.size := K1_0.out.lt
      go_wp2
      clear m0_0 m0_1 m0_2 m0_3 m0_4 m0_5 mlt0
      go_ret
      exact ⟨ret_bool (by rw [HQ.out]; apply Bool.eq_iff_iff.2; simp only [Bool.or_eq_true, Bool.and_eq_true, decide_eq_true_eq, beq_iff_eq, bne_iff_ne, ne_eq, reduceCtorEq, true_iff, iff_true, false_iff, iff_false, true_or, or_true, and_true, true_and, false_or, or_false, false_and, and_false, not_true_eq_false, not_false_eq_true] <;> omega), L1.out⟩
    go_upto_region 1 with (fail)
    have nb0 : Blk (w.alloc (.cells #[.int .i64 k, .int .i64 p, .int .i64 n, .int .i64 h, .int .u16 s, .slice A 0 cap] 26)) (w.heap.size) [.int .i64 k, .int .i64 p, .int .i64 n, .int .i64 h, .int .u16 s, .slice A 0 cap] 26 := Blk.new w [.int .i64 k, .int .i64 p, .int .i64 n, .int .i64 h, .int .u16 s, .slice A 0 cap] 26
    have nls : Below w.heap.size w w := (Below.refl w.heap.size w)
    have nl0 := nls.alloc nls.size (.cells #[.int .i64 k, .int .i64 p, .int .i64 n, .int .i64 h, .int .u16 s, .slice A 0 cap] 26)
    have nl : Below w.heap.size w (w.alloc (.cells #[.int .i64 k, .int .i64 p, .int .i64 n, .int .i64 h, .int .u16 s, .slice A 0 cap] 26)) := nl0; clear nls nl0
    obtain ⟨B1, hB0⟩ : ∃ B, B = w.heap.size := ⟨_, rfl⟩
    obtain ⟨W1, hW⟩ : ∃ W, W = (w.alloc (.cells #[.int .i64 k, .int .i64 p, .int .i64 n, .int .i64 h, .int .u16 s, .slice A 0 cap] 26)) := ⟨_, rfl⟩
    rw [← hW] at nl nb0
    rw [← hB0] at nb0
    rw [← hW]
    try rw [← hB0]
    have K1_0 := Lib.hid nb0
    have G1 : Hid (w.heap.size ≤ B1) := Lib.hid (by have := (Nat.le_refl w.heap.size); omega)
    have L1 := Lib.hid nl
    clear nl hW nb0 hB0
    have m0_0 : W1.cell? ⟨B1, 0, none⟩ = some _ := K1_0.out.cell 0
    have m0_1 : W1.cell? ⟨B1, 1, none⟩ = some _ := K1_0.out.cell 1
    have m0_2 : W1.cell? ⟨B1, 2, none⟩ = some _ := K1_0.out.cell 2
    have m0_3 : W1.cell? ⟨B1, 3, none⟩ = some _ := K1_0.out.cell 3
    have m0_4 : W1.cell? ⟨B1, 4, none⟩ = some _ := K1_0.out.cell 4
    have m0_5 : W1.cell? ⟨B1, 5, none⟩ = some _ := K1_0.out.cell 5
    have mlt0 : B1 < W1.heap.size := K1_0.out.lt
    go_wp2
    clear m0_0 m0_1 m0_2 m0_3 m0_4 m0_5 mlt0
    go_ret
    exact ⟨ret_bool (by rw [HQ.out]; apply Bool.eq_iff_iff.2; simp only [Bool.or_eq_true, Bool.and_eq_true, decide_eq_true_eq, beq_iff_eq, bne_iff_ne, ne_eq, reduceCtorEq, true_iff, iff_true, false_iff, iff_false, true_or, or_true, and_true, true_and, false_or, or_false, false_and, and_false, not_true_eq_false, not_false_eq_true] <;> omega), L1.out⟩
  by_cases h3 : k = 3 ∨ k = 4
  · by_cases h5 : dl ≤ 4096
    · obtain ⟨b, off, rfl, hc⟩ := hr.at_ (dl - 1) (by omega)
      obtain ⟨c, hC⟩ : ∃ c, c = d.getD (dl - 1) 0 := ⟨_, rfl⟩
      rw [← hC] at hc hQ
      clear hC hr hl
      by_cases h6 : c = 0
      · subst h6
        rcases h3 with rfl | rfl
        · have HQ := Lib.hid hQ
          clear hQ
          go_enter Tryd.func21, Tryd.ntmps21
          go_upto_region 1 with (fail)
          have nb0 : Blk (w.alloc (.cells #[.int .i64 3, .int .i64 p, .int .i64 n, .int .i64 h, .int .u16 s, .slice (some ⟨b, off, none⟩) dl cap] 26)) (w.heap.size) [.int .i64 3, .int .i64 p, .int .i64 n, .int .i64 h, .int .u16 s, .slice (some ⟨b, off, none⟩) dl cap] 26 := Blk.new w [.int .i64 3, .int .i64 p, .int .i64 n, .int .i64 h, .int .u16 s, .slice (some ⟨b, off, none⟩) dl cap] 26
          have nls : Below w.heap.size w w := (Below.refl w.heap.size w)
          have nl0 := nls.alloc nls.size (.cells #[.int .i64 3, .int .i64 p, .int .i64 n, .int .i64 h, .int .u16 s, .slice (some ⟨b, off, none⟩) dl cap] 26)
          have nl : Below w.heap.size w (w.alloc (.cells #[.int .i64 3, .int .i64 p, .int .i64 n, .int .i64 h, .int .u16 s, .slice (some ⟨b, off, none⟩) dl cap] 26)) := nl0; clear nls nl0
          obtain ⟨B1, hB0⟩ : ∃ B, B = w.heap.size := ⟨_, rfl⟩
          obtain ⟨W1, hW⟩ : ∃ W, W = (w.alloc (.cells #[.int .i64 3, .int .i64 p, .int .i64 n, .int .i64 h, .int .u16 s, .slice (some ⟨b, off, none⟩) dl cap] 26)) := ⟨_, rfl⟩
          rw [← hW] at nl nb0
          rw [← hB0] at nb0
          rw [← hW]
          try rw [← hB0]
          have K1_0 := Lib.hid nb0
          have G1 : Hid (w.heap.size ≤ B1) := Lib.hid (by have := (Nat.le_refl w.heap.size); omega)
          have L1 := Lib.hid nl
          clear nl hW nb0 hB0
          replace hc := ((L1.out.cell (p := ⟨b, off + (dl - 1), none⟩) (cell_lt hc))).trans hc
          have m0_0 : W1.cell? ⟨B1, 0, none⟩ = some _ := K1_0.out.cell 0
          have m0_1 : W1.cell? ⟨B1, 1, none⟩ = some _ := K1_0.out.cell 1
          have m0_2 : W1.cell? ⟨B1, 2, none⟩ = some _ := K1_0.out.cell 2
          have m0_3 : W1.cell? ⟨B1, 3, none⟩ = some _ := K1_0.out.cell 3
          have m0_4 : W1.cell? ⟨B1, 4, none⟩ = some _ := K1_0.out.cell 4
          have m0_5 : W1.cell? ⟨B1, 5, none⟩ = some _ := K1_0.out.cell 5
          have mlt0 : B1 < W1.heap.size := K1_0.out.lt
          go_wp2
          clear m0_0 m0_1 m0_2 m0_3 m0_4 m0_5 mlt0
          go_ret
          exact ⟨ret_bool (by rw [HQ.out]; apply Bool.eq_iff_iff.2; simp only [Bool.or_eq_true, Bool.and_eq_true, decide_eq_true_eq, beq_iff_eq, bne_iff_ne, ne_eq, reduceCtorEq, true_iff, iff_true, false_iff, iff_false, true_or, or_true, and_true, true_and, false_or, or_false, false_and, and_false, not_true_eq_false, not_false_eq_true] <;> omega), L1.out⟩
        · have HQ := Lib.hid hQ
          clear hQ
          go_enter Tryd.func21, Tryd.ntmps21
          go_upto_region 1 with (fail)
          have nb0 : Blk (w.alloc (.cells #[.int .i64 4, .int .i64 p, .int .i64 n, .int .i64 h, .int .u16 s, .slice (some ⟨b, off, none⟩) dl cap] 26)) (w.heap.size) [.int .i64 4, .int .i64 p, .int .i64 n, .int .i64 h, .int .u16 s, .slice (some ⟨b, off, none⟩) dl cap] 26 := Blk.new w [.int .i64 4, .int .i64 p, .int .i64 n, .int .i64 h, .int .u16 s, .slice (some ⟨b, off, none⟩) dl cap] 26
          have nls : Below w.heap.size w w := (Below.refl w.heap.size w)
          have nl0 := nls.alloc nls.size (.cells #[.int .i64 4, .int .i64 p, .int .i64 n, .int .i64 h, .int .u16 s, .slice (some ⟨b, off, none⟩) dl cap] 26)
          have nl : Below w.heap.size w (w.alloc (.cells #[.int .i64 4, .int .i64 p, .int .i64 n, .int .i64 h, .int .u16 s, .slice (some ⟨b, off, none⟩) dl cap] 26)) := nl0; clear nls nl0
          obtain ⟨B1, hB0⟩ : ∃ B, B = w.heap.size := ⟨_, rfl⟩
          obtain ⟨W1, hW⟩ : ∃ W, W = (w.alloc (.cells #[.int .i64 4, .int .i64 p, .int .i64 n, .int .i64 h, .int .u16 s, .slice (some ⟨b, off, none⟩) dl cap] 26)) := ⟨_, rfl⟩
          rw [← hW] at nl nb0
          rw [← hB0] at nb0
          rw [← hW]
          try rw [← hB0]
          have K1_0 := Lib.hid nb0
          have G1 : Hid (w.heap.size ≤ B1) := Lib.hid (by have := (Nat.le_refl w.heap.size); omega)
          have L1 := Lib.hid nl
          clear nl hW nb0 hB0
          replace hc := ((L1.out.cell (p := ⟨b, off + (dl - 1), none⟩) (cell_lt hc))).trans hc
          have m0_0 : W1.cell? ⟨B1, 0, none⟩ = some _ := K1_0.out.cell 0
          have m0_1 : W1.cell? ⟨B1, 1, none⟩ = some _ := K1_0.out.cell 1
          have m0_2 : W1.cell? ⟨B1, 2, none⟩ = some _ := K1_0.out.cell 2
          have m0_3 : W1.cell? ⟨B1, 3, none⟩ = some _ := K1_0.out.cell 3
          have m0_4 : W1.cell? ⟨B1, 4, none⟩ = some _ := K1_0.out.cell 4
          have m0_5 : W1.cell? ⟨B1, 5, none⟩ = some _ := K1_0.out.cell 5
          have mlt0 : B1 < W1.heap.size := K1_0.out.lt
          go_wp2
          clear m0_0 m0_1 m0_2 m0_3 m0_4 m0_5 mlt0
          go_ret
          exact ⟨ret_bool (by rw [HQ.out]; apply Bool.eq_iff_iff.2; simp only [Bool.or_eq_true, Bool.and_eq_true, decide_eq_true_eq, beq_iff_eq, bne_iff_ne, ne_eq, reduceCtorEq, true_iff, iff_true, false_iff, iff_false, true_or, or_true, and_true, true_and, false_or, or_false, false_and, and_false, not_true_eq_false, not_false_eq_true] <;> omega), L1.out⟩
      · rcases h3 with rfl | rfl
        · have HQ := Lib.hid hQ
          clear hQ
          go_enter Tryd.func21, Tryd.ntmps21
          go_upto_region 1 with (fail)
          have nb0 : Blk (w.alloc (.cells #[.int .i64 3, .int .i64 p, .int .i64 n, .int .i64 h, .int .u16 s, .slice (some ⟨b, off, none⟩) dl cap] 26)) (w.heap.size) [.int .i64 3, .int .i64 p, .int .i64 n, .int .i64 h, .int .u16 s, .slice (some ⟨b, off, none⟩) dl cap] 26 := Blk.new w [.int .i64 3, .int .i64 p, .int .i64 n, .int .i64 h, .int .u16 s, .slice (some ⟨b, off, none⟩) dl cap] 26
          have nls : Below w.heap.size w w := (Below.refl w.heap.size w)
          have nl0 := nls.alloc nls.size (.cells #[.int .i64 3, .int .i64 p, .int .i64 n, .int .i64 h, .int .u16 s, .slice (some ⟨b, off, none⟩) dl cap] 26)
          have nl : Below w.heap.size w (w.alloc (.cells #[.int .i64 3, .int .i64 p, .int .i64 n, .int .i64 h, .int .u16 s, .slice (some ⟨b, off, none⟩) dl cap] 26)) := nl0; clear nls nl0
          obtain ⟨B1, hB0⟩ : ∃ B, B = w.heap.size := ⟨_, rfl⟩
          obtain ⟨W1, hW⟩ : ∃ W, W = (w.alloc (.cells #[.int .i64 3, .int .i64 p, .int .i64 n, .int .i64 h, .int .u16 s, .slice (some ⟨b, off, none⟩) dl cap] 26)) := ⟨_, rfl⟩
          rw [← hW] at nl nb0
          rw [← hB0] at nb0
          rw [← hW]
          try rw [← hB0]
          have K1_0 := Lib.hid nb0
          have G1 : Hid (w.heap.size ≤ B1) := Lib.hid (by have := (Nat.le_refl w.heap.size); omega)
          have L1 := Lib.hid nl
          clear nl hW nb0 hB0
          replace hc := ((L1.out.cell (p := ⟨b, off + (dl - 1), none⟩) (cell_lt hc))).trans hc
          have m0_0 : W1.cell? ⟨B1, 0, none⟩ = some _ := K1_0.out.cell 0
          have m0_1 : W1.cell? ⟨B1, 1, none⟩ = some _ := K1_0.out.cell 1
          have m0_2 : W1.cell? ⟨B1, 2, none⟩ = some _ := K1_0.out.cell 2
          have m0_3 : W1.cell? ⟨B1, 3, none⟩ = some _ := K1_0.out.cell 3
          have m0_4 : W1.cell? ⟨B1, 4, none⟩ = some _ := K1_0.out.cell 4
          have m0_5 : W1.cell? ⟨B1, 5, none⟩ = some _ := K1_0.out.cell 5
          have mlt0 : B1 < W1.heap.size := K1_0.out.lt
          go_wp2
          clear m0_0 m0_1 m0_2 m0_3 m0_4 m0_5 mlt0
          go_ret
          exact ⟨ret_bool (by rw [HQ.out]; apply Bool.eq_iff_iff.2; simp only [Bool.or_eq_true, Bool.and_eq_true, decide_eq_true_eq, beq_iff_eq, bne_iff_ne, ne_eq, reduceCtorEq, true_iff, iff_true, false_iff, iff_false, true_or, or_true, and_true, true_and, false_or, or_false, false_and, and_false, not_true_eq_false, not_false_eq_true] <;> omega), L1.out⟩
        · have HQ := Lib.hid hQ
          clear hQ
          go_enter Tryd.func21, Tryd.ntmps21
          go_upto_region 1 with (fail)
          have nb0 : Blk (w.alloc (.cells #[.int .i64 4, .int .i64 p, .int .i64 n, .int .i64 h, .int .u16 s, .slice (some ⟨b, off, none⟩) dl cap] 26)) (w.heap.size) [.int .i64 4, .int .i64 p, .int .i64 n, .int .i64 h, .int .u16 s, .slice (some ⟨b, off, none⟩) dl cap] 26 := Blk.new w [.int .i64 4, .int .i64 p, .int .i64 n, .int .i64 h, .int .u16 s, .slice (some ⟨b, off, none⟩) dl cap] 26
          have nls : Below w.heap.size w w := (Below.refl w.heap.size w)
          have nl0 := nls.alloc nls.size (.cells #[.int .i64 4, .int .i64 p, .int .i64 n, .int .i64 h, .int .u16 s, .slice (some ⟨b, off, none⟩) dl cap] 26)
          have nl : Below w.heap.size w (w.alloc (.cells #[.int .i64 4, .int .i64 p, .int .i64 n, .int .i64 h, .int .u16 s, .slice (some ⟨b, off, none⟩) dl cap] 26)) := nl0; clear nls nl0
          obtain ⟨B1, hB0⟩ : ∃ B, B = w.heap.size := ⟨_, rfl⟩
          obtain ⟨W1, hW⟩ : ∃ W, W = (w.alloc (.cells #[.int .i64 4, .int .i64 p, .int .i64 n, .int .i64 h, .int .u16 s, .slice (some ⟨b, off, none⟩) dl cap] 26)) := ⟨_, rfl⟩
          rw [← hW] at nl nb0
          rw [← hB0] at nb0
          rw [← hW]
          try rw [← hB0]
          have K1_0 := Lib.hid nb0
          have G1 : Hid (w.heap.size ≤ B1) := Lib.hid (by have := (Nat.le_refl w.heap.size); omega)
          have L1 := Lib.hid nl
          clear nl hW nb0 hB0
          replace hc := ((L1.out.cell (p := ⟨b, off + (dl - 1), none⟩) (cell_lt hc))).trans hc
          have m0_0 : W1.cell? ⟨B1, 0, none⟩ = some _ := K1_0.out.cell 0
          have m0_1 : W1.cell? ⟨B1, 1, none⟩ = some _ := K1_0.out.cell 1
          have m0_2 : W1.cell? ⟨B1, 2, none⟩ = some _ := K1_0.out.cell 2
          have m0_3 : W1.cell? ⟨B1, 3, none⟩ = some _ := K1_0.out.cell 3
          have m0_4 : W1.cell? ⟨B1, 4, none⟩ = some _ := K1_0.out.cell 4
          have m0_5 : W1.cell? ⟨B1, 5, none⟩ = some _ := K1_0.out.cell 5
          have mlt0 : B1 < W1.heap.size := K1_0.out.lt
          go_wp2
          clear m0_0 m0_1 m0_2 m0_3 m0_4 m0_5 mlt0
          go_ret
          exact ⟨ret_bool (by rw [HQ.out]; apply Bool.eq_iff_iff.2; simp only [Bool.or_eq_true, Bool.and_eq_true, decide_eq_true_eq, beq_iff_eq, bne_iff_ne, ne_eq, reduceCtorEq, true_iff, iff_true, false_iff, iff_false, true_or, or_true, and_true, true_and, false_or, or_false, false_and, and_false, not_true_eq_false, not_false_eq_true] <;> omega), L1.out⟩
    · clear hr hl
      rcases h3 with rfl | rfl
      · have HQ := Lib.hid hQ
        clear hQ
        go_enter Tryd.func21, Tryd.ntmps21
        go_upto_region 1 with (fail)
        have nb0 : Blk (w.alloc (.cells #[.int .i64 3, .int .i64 p, .int .i64 n, .int .i64 h, .int .u16 s, .slice A dl cap] 26)) (w.heap.size) [.int .i64 3, .int .i64 p, .int .i64 n, .int .i64 h, .int .u16 s, .slice A dl cap] 26 := Blk.new w [.int .i64 3, .int .i64 p, .int .i64 n, .int .i64 h, .int .u16 s, .slice A dl cap] 26
        have nls : Below w.heap.size w w := (Below.refl w.heap.size w)
        have nl0 := nls.alloc nls.size (.cells #[.int .i64 3, .int .i64 p, .int .i64 n, .int .i64 h, .int .u16 s, .slice A dl cap] 26)
        have nl : Below w.heap.size w (w.alloc (.cells #[.int .i64 3, .int .i64 p, .int .i64 n, .int .i64 h, .int .u16 s, .slice A dl cap] 26)) := nl0; clear nls nl0
        obtain ⟨B1, hB0⟩ : ∃ B, B = w.heap.size := ⟨_, rfl⟩
        obtain ⟨W1, hW⟩ : ∃ W, W = (w.alloc (.cells #[.int .i64 3, .int .i64 p, .int .i64 n, .int .i64 h, .int .u16 s, .slice A dl cap] 26)) := ⟨_, rfl⟩
        rw [← hW] at nl nb0
        rw [← hB0] at nb0
        rw [← hW]
        try rw [← hB0]
        have K1_0 := Lib.hid nb0
        have G1 : Hid (w.heap.size ≤ B1) := Lib.hid (by have := (Nat.le_refl w.heap.size); omega)
        have L1 := Lib.hid nl
        clear nl hW nb0 hB0
        have m0_0 : W1.cell? ⟨B1, 0, none⟩ = some _ := K1_0.out.cell 0
        have m0_1 : W1.cell? ⟨B1, 1, none⟩ = some _ := K1_0.out.cell 1
        have m0_2 : W1.cell? ⟨B1, 2, none⟩ = some _ := K1_0.out.cell 2
        have m0_3 : W1.cell? ⟨B1, 3, none⟩ = some _ := K1_0.out.cell 3
        have m0_4 : W1.cell? ⟨B1, 4, none⟩ = some _ := K1_0.out.cell 4
        have m0_5 : W1.cell? ⟨B1, 5, none⟩ = some _ := K1_0.out.cell 5
        have mlt0 : B1 < W1.heap.size := K1_0.out.lt
        go_wp2
        clear m0_0 m0_1 m0_2 m0_3 m0_4 m0_5 mlt0
        go_ret
        exact ⟨ret_bool (by rw [HQ.out]; apply Bool.eq_iff_iff.2; simp only [Bool.or_eq_true, Bool.and_eq_true, decide_eq_true_eq, beq_iff_eq, bne_iff_ne, ne_eq, reduceCtorEq, true_iff, iff_true, false_iff, iff_false, true_or, or_true, and_true, true_and, false_or, or_false, false_and, and_false, not_true_eq_false, not_false_eq_true] <;> omega), L1.out⟩
      · have HQ := Lib.hid hQ
        clear hQ
        go_enter Tryd.func21, Tryd.ntmps21
        go_upto_region 1 with (fail)
        have nb0 : Blk (w.alloc (.cells #[.int .i64 4, .int .i64 p, .int .i64 n, .int .i64 h, .int .u16 s, .slice A dl cap] 26)) (w.heap.size) [.int .i64 4, .int .i64 p, .int .i64 n, .int .i64 h, .int .u16 s, .slice A dl cap] 26 := Blk.new w [.int .i64 4, .int .i64 p, .int .i64 n, .int .i64 h, .int .u16 s, .slice A dl cap] 26
        have nls : Below w.heap.size w w := (Below.refl w.heap.size w)
        have nl0 := nls.alloc nls.size (.cells #[.int .i64 4, .int .i64 p, .int .i64 n, .int .i64 h, .int .u16 s, .slice A dl cap] 26)
        have nl : Below w.heap.size w (w.alloc (.cells #[.int .i64 4, .int .i64 p, .int .i64 n, .int .i64 h, .int .u16 s, .slice A dl cap] 26)) := nl0; clear nls nl0
        obtain ⟨B1, hB0⟩ : ∃ B, B = w.heap.size := ⟨_, rfl⟩
        obtain ⟨W1, hW⟩ : ∃ W, W = (w.alloc (.cells #[.int .i64 4, .int .i64 p, .int .i64 n, .int .i64 h, .int .u16 s, .slice A dl cap] 26)) := ⟨_, rfl⟩
        rw [← hW] at nl nb0
        rw [← hB0] at nb0
        rw [← hW]
        try rw [← hB0]
        have K1_0 := Lib.hid nb0
        have G1 : Hid (w.heap.size ≤ B1) := Lib.hid (by have := (Nat.le_refl w.heap.size); omega)
        have L1 := Lib.hid nl
        clear nl hW nb0 hB0
        have m0_0 : W1.cell? ⟨B1, 0, none⟩ = some _ := K1_0.out.cell 0
        have m0_1 : W1.cell? ⟨B1, 1, none⟩ = some _ := K1_0.out.cell 1
        have m0_2 : W1.cell? ⟨B1, 2, none⟩ = some _ := K1_0.out.cell 2
        have m0_3 : W1.cell? ⟨B1, 3, none⟩ = some _ := K1_0.out.cell 3
        have m0_4 : W1.cell? ⟨B1, 4, none⟩ = some _ := K1_0.out.cell 4
        have m0_5 : W1.cell? ⟨B1, 5, none⟩ = some _ := K1_0.out.cell 5
        have mlt0 : B1 < W1.heap.size := K1_0.out.lt
        go_wp2
        clear m0_0 m0_1 m0_2 m0_3 m0_4 m0_5 mlt0
        go_ret
        exact ⟨ret_bool (by rw [HQ.out]; apply Bool.eq_iff_iff.2; simp only [Bool.or_eq_true, Bool.and_eq_true, decide_eq_true_eq, beq_iff_eq, bne_iff_ne, ne_eq, reduceCtorEq, true_iff, iff_true, false_iff, iff_false, true_or, or_true, and_true, true_and, false_or, or_false, false_and, and_false, not_true_eq_false, not_false_eq_true] <;> omega), L1.out⟩
  · have h33 : ¬ k = 3 := fun e => h3 (.inl e)
    have h44 : ¬ k = 4 := fun e => h3 (.inr e)
    clear h3 hr hl
    have HQ := Lib.hid hQ
    clear hQ
    go_enter Tryd.func21, Tryd.ntmps21
    go_upto_region 1 with (fail)
    have nb0 : Blk (w.alloc (.cells #[.int .i64 k, .int .i64 p, .int .i64 n, .int .i64 h, .int .u16 s, .slice A dl cap] 26)) (w.heap.size) [.int .i64 k, .int .i64 p, .int .i64 n, .int .i64 h, .int .u16 s, .slice A dl cap] 26 := Blk.new w [.int .i64 k, .int .i64 p, .int .i64 n, .int .i64 h, .int .u16 s, .slice A dl cap] 26
    have nls : Below w.heap.size w w := (Below.refl w.heap.size w)
    have nl0 := nls.alloc nls.size (.cells #[.int .i64 k, .int .i64 p, .int .i64 n, .int .i64 h, .int .u16 s, .slice A dl cap] 26)
    have nl : Below w.heap.size w (w.alloc (.cells #[.int .i64 k, .int .i64 p, .int .i64 n, .int .i64 h, .int .u16 s, .slice A dl cap] 26)) := nl0; clear nls nl0
    obtain ⟨B1, hB0⟩ : ∃ B, B = w.heap.size := ⟨_, rfl⟩
    obtain ⟨W1, hW⟩ : ∃ W, W = (w.alloc (.cells #[.int .i64 k, .int .i64 p, .int .i64 n, .int .i64 h, .int .u16 s, .slice A dl cap] 26)) := ⟨_, rfl⟩
    rw [← hW] at nl nb0
    rw [← hB0] at nb0
    rw [← hW]
    try rw [← hB0]
    have K1_0 := Lib.hid nb0
    have G1 : Hid (w.heap.size ≤ B1) := Lib.hid (by have := (Nat.le_refl w.heap.size); omega)
    have L1 := Lib.hid nl
    clear nl hW nb0 hB0
    have m0_0 : W1.cell? ⟨B1, 0, none⟩ = some _ := K1_0.out.cell 0
    have m0_1 : W1.cell? ⟨B1, 1, none⟩ = some _ := K1_0.out.cell 1
    have m0_2 : W1.cell? ⟨B1, 2, none⟩ = some _ := K1_0.out.cell 2
    have m0_3 : W1.cell? ⟨B1, 3, none⟩ = some _ := K1_0.out.cell 3
    have m0_4 : W1.cell? ⟨B1, 4, none⟩ = some _ := K1_0.out.cell 4
    have m0_5 : W1.cell? ⟨B1, 5, none⟩ = some _ := K1_0.out.cell 5
    have mlt0 : B1 < W1.heap.size := K1_0.out.lt
    go_wp2
    clear m0_0 m0_1 m0_2 m0_3 m0_4 m0_5 mlt0
    go_ret
    exact ⟨ret_bool (by rw [HQ.out]; apply Bool.eq_iff_iff.2; simp only [Bool.or_eq_true, Bool.and_eq_true, decide_eq_true_eq, beq_iff_eq, bne_iff_ne, ne_eq, reduceCtorEq, true_iff, iff_true, false_iff, iff_false, true_or, or_true, and_true, true_and, false_or, or_false, false_and, and_false, not_true_eq_false, not_false_eq_true] <;> omega), L1.out⟩
theorem kind_yes (k : Int) (w : World) (h : 1 ≤ k ∧ k ≤ 6) : Calls Tryd.prog 20 #[.int .i64 k] w fun e w' => e = .returned (.bool true) ∧ w = w' := by
  have := kind_any k w
  unfold knd at this
  rwa [decide_eq_true h] at this
theorem kind_no (k : Int) (w : World) (h : ¬ (1 ≤ k ∧ k ≤ 6)) : Calls Tryd.prog 20 #[.int .i64 k] w fun e w' => e = .returned (.bool false) ∧ w = w' := by
  have := kind_any k w
  unfold knd at this
  rwa [decide_eq_false h] at this
set_option maxHeartbeats 4000000 in
theorem right_any (k p n h s : Int) (A : Option Addr) (dl cap : Nat) (d : List Int) (w : World) (hr : Rd w A d) (hl : d.length = dl) (hd : dl ≤ 9223372036854775807) : Calls Tryd.prog 10 #[.agg #[.int .i64 k, .int .i64 p, .int .i64 n, .int .i64 h, .int .u16 s, .slice A dl cap]] w fun e w' => e = .returned (.bool (rgt (⟨k, p, n, h, s, d⟩ : Mg))) ∧ Below w.heap.size w w' := by
  have hda : ∀ w2, Below w.heap.size w w2 → Calls Tryd.prog 21 #[.agg #[.int .i64 k, .int .i64 p, .int .i64 n, .int .i64 h, .int .u16 s, .slice A dl cap]] w2 fun e w' => e = .returned (.bool (dok k d)) ∧ Below w2.heap.size w2 w' := fun w2 hb => data_any k p n h s A dl cap d w2 (hr.below hb) hl hd
  obtain ⟨Q, hQ⟩ : ∃ Q, Q = rgt (⟨k, p, n, h, s, d⟩ : Mg) := ⟨_, rfl⟩
  rw [← hQ]
  unfold rgt at hQ
  dsimp only at hQ
  obtain ⟨D, hD⟩ : ∃ D, D = dok k d := ⟨_, rfl⟩
  rw [← hD] at hQ hda
  have HQ := Lib.hid hQ
  have HD := Lib.hid hda
  clear hQ hD hr hl hda
  go_enter Tryd.func10, Tryd.ntmps10
  go_upto_region 1 with (fail)
  have nb0 : Blk (w.alloc (.cells #[.int .i64 k, .int .i64 p, .int .i64 n, .int .i64 h, .int .u16 s, .slice A dl cap] 26)) (w.heap.size) [.int .i64 k, .int .i64 p, .int .i64 n, .int .i64 h, .int .u16 s, .slice A dl cap] 26 := Blk.new w [.int .i64 k, .int .i64 p, .int .i64 n, .int .i64 h, .int .u16 s, .slice A dl cap] 26
  have nls : Below w.heap.size w w := (Below.refl w.heap.size w)
  have nl0 := nls.alloc nls.size (.cells #[.int .i64 k, .int .i64 p, .int .i64 n, .int .i64 h, .int .u16 s, .slice A dl cap] 26)
  have nl : Below w.heap.size w (w.alloc (.cells #[.int .i64 k, .int .i64 p, .int .i64 n, .int .i64 h, .int .u16 s, .slice A dl cap] 26)) := nl0; clear nls nl0
  obtain ⟨B1, hB0⟩ : ∃ B, B = w.heap.size := ⟨_, rfl⟩
  obtain ⟨W1, hW⟩ : ∃ W, W = (w.alloc (.cells #[.int .i64 k, .int .i64 p, .int .i64 n, .int .i64 h, .int .u16 s, .slice A dl cap] 26)) := ⟨_, rfl⟩
  rw [← hW] at nl nb0
  rw [← hB0] at nb0
  rw [← hW]
  try rw [← hB0]
  have K1_0 := Lib.hid nb0
  have G1 : Hid (w.heap.size ≤ B1) := Lib.hid (by have := (Nat.le_refl w.heap.size); omega)
  have L1 := Lib.hid nl
  clear nl hW nb0 hB0
  have m0_0 : W1.cell? ⟨B1, 0, none⟩ = some _ := K1_0.out.cell 0
  have m0_1 : W1.cell? ⟨B1, 1, none⟩ = some _ := K1_0.out.cell 1
  have m0_2 : W1.cell? ⟨B1, 2, none⟩ = some _ := K1_0.out.cell 2
  have m0_3 : W1.cell? ⟨B1, 3, none⟩ = some _ := K1_0.out.cell 3
  have m0_4 : W1.cell? ⟨B1, 4, none⟩ = some _ := K1_0.out.cell 4
  have m0_5 : W1.cell? ⟨B1, 5, none⟩ = some _ := K1_0.out.cell 5
  have mlt0 : B1 < W1.heap.size := K1_0.out.lt
  go_wp2_with fail
  clear m0_0 m0_1 m0_2 m0_3 m0_4 m0_5 mlt0
  by_cases hk : 1 ≤ k ∧ k ≤ 6
  · refine (kind_yes k _ hk).mono ?_
    rintro e wx ⟨rfl, rfl⟩
    by_cases h0 : 0 ≤ p
    · by_cases h1 : p < 65536
      · by_cases h2 : 0 ≤ n
        · by_cases h3 : n < 16
          · by_cases h4 : 0 ≤ h
            · by_cases h5 : h ≤ 255
              · by_cases hs : s = 0
                · have e1 : (s == 0) = true := by simpa using hs
                  have HE := Lib.hid hs
                  clear hs
                  have m0_0 : W1.cell? ⟨B1, 0, none⟩ = some _ := K1_0.out.cell 0
                  have m0_1 : W1.cell? ⟨B1, 1, none⟩ = some _ := K1_0.out.cell 1
                  have m0_2 : W1.cell? ⟨B1, 2, none⟩ = some _ := K1_0.out.cell 2
                  have m0_3 : W1.cell? ⟨B1, 3, none⟩ = some _ := K1_0.out.cell 3
                  have m0_4 : W1.cell? ⟨B1, 4, none⟩ = some _ := K1_0.out.cell 4
                  have m0_5 : W1.cell? ⟨B1, 5, none⟩ = some _ := K1_0.out.cell 5
                  have mlt0 : B1 < W1.heap.size := K1_0.out.lt
                  go_wp2_with fail
                  clear m0_0 m0_1 m0_2 m0_3 m0_4 m0_5 mlt0
                  refine (HD.out _ L1.out).mono ?_
                  rintro e w2 ⟨rfl, hb⟩
                  have L2 := Lib.hid (L1.out.trans (hb.mono L1.out.size))
                  have K2_0 := Lib.hid (K1_0.out.below hb K1_0.out.lt)
                  clear hb K1_0
                  go_wp2
                  go_ret
                  exact ⟨ret_bool (by rw [HQ.out, decide_eq_true (by have := HE.out; omega)]; rfl), L2.out⟩
                · have e1 : (s == 0) = false := by simpa using hs
                  by_cases h4 : k = 4
                  · have e2 : (k == 4) = true := by simpa using h4
                    have HE := Lib.hid h4
                    clear h4
                    have m0_0 : W1.cell? ⟨B1, 0, none⟩ = some _ := K1_0.out.cell 0
                    have m0_1 : W1.cell? ⟨B1, 1, none⟩ = some _ := K1_0.out.cell 1
                    have m0_2 : W1.cell? ⟨B1, 2, none⟩ = some _ := K1_0.out.cell 2
                    have m0_3 : W1.cell? ⟨B1, 3, none⟩ = some _ := K1_0.out.cell 3
                    have m0_4 : W1.cell? ⟨B1, 4, none⟩ = some _ := K1_0.out.cell 4
                    have m0_5 : W1.cell? ⟨B1, 5, none⟩ = some _ := K1_0.out.cell 5
                    have mlt0 : B1 < W1.heap.size := K1_0.out.lt
                    go_wp2_with fail
                    clear m0_0 m0_1 m0_2 m0_3 m0_4 m0_5 mlt0
                    refine (HD.out _ L1.out).mono ?_
                    rintro e w3 ⟨rfl, hb⟩
                    have L3 := Lib.hid (L1.out.trans (hb.mono L1.out.size))
                    have K3_0 := Lib.hid (K1_0.out.below hb K1_0.out.lt)
                    clear hb K1_0
                    go_wp2
                    go_ret
                    exact ⟨ret_bool (by rw [HQ.out, decide_eq_true (by have := HE.out; omega)]; rfl), L3.out⟩
                  · have e2 : (k == 4) = false := by simpa using h4
                    have m0_0 : W1.cell? ⟨B1, 0, none⟩ = some _ := K1_0.out.cell 0
                    have m0_1 : W1.cell? ⟨B1, 1, none⟩ = some _ := K1_0.out.cell 1
                    have m0_2 : W1.cell? ⟨B1, 2, none⟩ = some _ := K1_0.out.cell 2
                    have m0_3 : W1.cell? ⟨B1, 3, none⟩ = some _ := K1_0.out.cell 3
                    have m0_4 : W1.cell? ⟨B1, 4, none⟩ = some _ := K1_0.out.cell 4
                    have m0_5 : W1.cell? ⟨B1, 5, none⟩ = some _ := K1_0.out.cell 5
                    have mlt0 : B1 < W1.heap.size := K1_0.out.lt
                    go_wp2
                    clear m0_0 m0_1 m0_2 m0_3 m0_4 m0_5 mlt0
                    go_ret
                    exact ⟨ret_bool (by rw [HQ.out, decide_eq_false (by omega)]; rfl), L1.out⟩
              · have hn5 : 255 < h := by omega
                have m0_0 : W1.cell? ⟨B1, 0, none⟩ = some _ := K1_0.out.cell 0
                have m0_1 : W1.cell? ⟨B1, 1, none⟩ = some _ := K1_0.out.cell 1
                have m0_2 : W1.cell? ⟨B1, 2, none⟩ = some _ := K1_0.out.cell 2
                have m0_3 : W1.cell? ⟨B1, 3, none⟩ = some _ := K1_0.out.cell 3
                have m0_4 : W1.cell? ⟨B1, 4, none⟩ = some _ := K1_0.out.cell 4
                have m0_5 : W1.cell? ⟨B1, 5, none⟩ = some _ := K1_0.out.cell 5
                have mlt0 : B1 < W1.heap.size := K1_0.out.lt
                go_wp2
                clear m0_0 m0_1 m0_2 m0_3 m0_4 m0_5 mlt0
                go_ret
                exact ⟨ret_bool (by rw [HQ.out, decide_eq_false (by omega)]; rfl), L1.out⟩
            · have hn4 : h < 0 := by omega
              have m0_0 : W1.cell? ⟨B1, 0, none⟩ = some _ := K1_0.out.cell 0
              have m0_1 : W1.cell? ⟨B1, 1, none⟩ = some _ := K1_0.out.cell 1
              have m0_2 : W1.cell? ⟨B1, 2, none⟩ = some _ := K1_0.out.cell 2
              have m0_3 : W1.cell? ⟨B1, 3, none⟩ = some _ := K1_0.out.cell 3
              have m0_4 : W1.cell? ⟨B1, 4, none⟩ = some _ := K1_0.out.cell 4
              have m0_5 : W1.cell? ⟨B1, 5, none⟩ = some _ := K1_0.out.cell 5
              have mlt0 : B1 < W1.heap.size := K1_0.out.lt
              go_wp2
              clear m0_0 m0_1 m0_2 m0_3 m0_4 m0_5 mlt0
              go_ret
              exact ⟨ret_bool (by rw [HQ.out, decide_eq_false (by omega)]; rfl), L1.out⟩
          · have hn3 : 16 ≤ n := by omega
            have m0_0 : W1.cell? ⟨B1, 0, none⟩ = some _ := K1_0.out.cell 0
            have m0_1 : W1.cell? ⟨B1, 1, none⟩ = some _ := K1_0.out.cell 1
            have m0_2 : W1.cell? ⟨B1, 2, none⟩ = some _ := K1_0.out.cell 2
            have m0_3 : W1.cell? ⟨B1, 3, none⟩ = some _ := K1_0.out.cell 3
            have m0_4 : W1.cell? ⟨B1, 4, none⟩ = some _ := K1_0.out.cell 4
            have m0_5 : W1.cell? ⟨B1, 5, none⟩ = some _ := K1_0.out.cell 5
            have mlt0 : B1 < W1.heap.size := K1_0.out.lt
            go_wp2
            clear m0_0 m0_1 m0_2 m0_3 m0_4 m0_5 mlt0
            go_ret
            exact ⟨ret_bool (by rw [HQ.out, decide_eq_false (by omega)]; rfl), L1.out⟩
        · have hn2 : n < 0 := by omega
          have m0_0 : W1.cell? ⟨B1, 0, none⟩ = some _ := K1_0.out.cell 0
          have m0_1 : W1.cell? ⟨B1, 1, none⟩ = some _ := K1_0.out.cell 1
          have m0_2 : W1.cell? ⟨B1, 2, none⟩ = some _ := K1_0.out.cell 2
          have m0_3 : W1.cell? ⟨B1, 3, none⟩ = some _ := K1_0.out.cell 3
          have m0_4 : W1.cell? ⟨B1, 4, none⟩ = some _ := K1_0.out.cell 4
          have m0_5 : W1.cell? ⟨B1, 5, none⟩ = some _ := K1_0.out.cell 5
          have mlt0 : B1 < W1.heap.size := K1_0.out.lt
          go_wp2
          clear m0_0 m0_1 m0_2 m0_3 m0_4 m0_5 mlt0
          go_ret
          exact ⟨ret_bool (by rw [HQ.out, decide_eq_false (by omega)]; rfl), L1.out⟩
      · have hn1 : 65536 ≤ p := by omega
        have m0_0 : W1.cell? ⟨B1, 0, none⟩ = some _ := K1_0.out.cell 0
        have m0_1 : W1.cell? ⟨B1, 1, none⟩ = some _ := K1_0.out.cell 1
        have m0_2 : W1.cell? ⟨B1, 2, none⟩ = some _ := K1_0.out.cell 2
        have m0_3 : W1.cell? ⟨B1, 3, none⟩ = some _ := K1_0.out.cell 3
        have m0_4 : W1.cell? ⟨B1, 4, none⟩ = some _ := K1_0.out.cell 4
        have m0_5 : W1.cell? ⟨B1, 5, none⟩ = some _ := K1_0.out.cell 5
        have mlt0 : B1 < W1.heap.size := K1_0.out.lt
        go_wp2
        clear m0_0 m0_1 m0_2 m0_3 m0_4 m0_5 mlt0
        go_ret
        exact ⟨ret_bool (by rw [HQ.out, decide_eq_false (by omega)]; rfl), L1.out⟩
    · have hn0 : p < 0 := by omega
      have m0_0 : W1.cell? ⟨B1, 0, none⟩ = some _ := K1_0.out.cell 0
      have m0_1 : W1.cell? ⟨B1, 1, none⟩ = some _ := K1_0.out.cell 1
      have m0_2 : W1.cell? ⟨B1, 2, none⟩ = some _ := K1_0.out.cell 2
      have m0_3 : W1.cell? ⟨B1, 3, none⟩ = some _ := K1_0.out.cell 3
      have m0_4 : W1.cell? ⟨B1, 4, none⟩ = some _ := K1_0.out.cell 4
      have m0_5 : W1.cell? ⟨B1, 5, none⟩ = some _ := K1_0.out.cell 5
      have mlt0 : B1 < W1.heap.size := K1_0.out.lt
      go_wp2
      clear m0_0 m0_1 m0_2 m0_3 m0_4 m0_5 mlt0
      go_ret
      exact ⟨ret_bool (by rw [HQ.out, decide_eq_false (by omega)]; rfl), L1.out⟩
  · refine (kind_no k _ hk).mono ?_
    rintro e wx ⟨rfl, rfl⟩
    have m0_0 : W1.cell? ⟨B1, 0, none⟩ = some _ := K1_0.out.cell 0
    have m0_1 : W1.cell? ⟨B1, 1, none⟩ = some _ := K1_0.out.cell 1
    have m0_2 : W1.cell? ⟨B1, 2, none⟩ = some _ := K1_0.out.cell 2
    have m0_3 : W1.cell? ⟨B1, 3, none⟩ = some _ := K1_0.out.cell 3
    have m0_4 : W1.cell? ⟨B1, 4, none⟩ = some _ := K1_0.out.cell 4
    have m0_5 : W1.cell? ⟨B1, 5, none⟩ = some _ := K1_0.out.cell 5
    have mlt0 : B1 < W1.heap.size := K1_0.out.lt
    go_wp2
    clear m0_0 m0_1 m0_2 m0_3 m0_4 m0_5 mlt0
    go_ret
    exact ⟨ret_bool (by rw [HQ.out, decide_eq_false (by omega)]; rfl), L1.out⟩
set_option maxHeartbeats 4000000 in
theorem rright_any (k p n h s : Int) (A : Option Addr) (dl cap : Nat) (d : List Int) (w : World) (hr : Rd w A d) (hl : d.length = dl) (hd : dl ≤ 9223372036854775807) : Calls Tryd.prog 9 #[.agg #[.int .i64 k, .int .i64 p, .int .i64 n, .int .i64 h, .int .u16 s, .slice A dl cap]] w fun e w' => e = .returned (.bool (rgt (⟨k, p, n, h, s, d⟩ : Mg))) ∧ Below w.heap.size w w' := by
  obtain ⟨Q, hQ⟩ : ∃ Q, Q = rgt (⟨k, p, n, h, s, d⟩ : Mg) := ⟨_, rfl⟩
  rw [← hQ]
  unfold rgt dok at hQ
  dsimp only at hQ
  rw [hl] at hQ
  have HQ := Lib.hid hQ
  clear hQ
  go_enter Tryd.func9, Tryd.ntmps9
  go_upto_region 1 with (fail)
  have nb0 : Blk (w.alloc (.cells #[.int .i64 k, .int .i64 p, .int .i64 n, .int .i64 h, .int .u16 s, .slice A dl cap] 26)) (w.heap.size) [.int .i64 k, .int .i64 p, .int .i64 n, .int .i64 h, .int .u16 s, .slice A dl cap] 26 := Blk.new w [.int .i64 k, .int .i64 p, .int .i64 n, .int .i64 h, .int .u16 s, .slice A dl cap] 26
  have nls : Below w.heap.size w w := (Below.refl w.heap.size w)
  have nl0 := nls.alloc nls.size (.cells #[.int .i64 k, .int .i64 p, .int .i64 n, .int .i64 h, .int .u16 s, .slice A dl cap] 26)
  have nl : Below w.heap.size w (w.alloc (.cells #[.int .i64 k, .int .i64 p, .int .i64 n, .int .i64 h, .int .u16 s, .slice A dl cap] 26)) := nl0; clear nls nl0
  obtain ⟨B1, hB0⟩ : ∃ B, B = w.heap.size := ⟨_, rfl⟩
  obtain ⟨W1, hW⟩ : ∃ W, W = (w.alloc (.cells #[.int .i64 k, .int .i64 p, .int .i64 n, .int .i64 h, .int .u16 s, .slice A dl cap] 26)) := ⟨_, rfl⟩
  rw [← hW] at nl nb0
  rw [← hB0] at nb0
  rw [← hW]
  try rw [← hB0]
  have K1_0 := Lib.hid nb0
  have G1 : Hid (w.heap.size ≤ B1) := Lib.hid (by have := (Nat.le_refl w.heap.size); omega)
  have L1 := Lib.hid nl
  clear nl hW nb0 hB0
  by_cases h0 : 1 ≤ k
  · by_cases h1 : k ≤ 6
    · by_cases h2 : 0 ≤ p
      · by_cases h3 : p < 65536
        · by_cases h4 : 0 ≤ n
          · by_cases h5 : n < 16
            · by_cases h6 : 0 ≤ h
              · by_cases h7 : h ≤ 255
                · by_cases hk4 : k = 4
                  · subst hk4
                    by_cases hz : dl = 0
                    · have hz1 : ((dl : Int) == 0) = true := by simpa using hz
                      have m0_0 : W1.cell? ⟨B1, 0, none⟩ = some _ := K1_0.out.cell 0
                      have m0_1 : W1.cell? ⟨B1, 1, none⟩ = some _ := K1_0.out.cell 1
                      have m0_2 : W1.cell? ⟨B1, 2, none⟩ = some _ := K1_0.out.cell 2
                      have m0_3 : W1.cell? ⟨B1, 3, none⟩ = some _ := K1_0.out.cell 3
                      have m0_4 : W1.cell? ⟨B1, 4, none⟩ = some _ := K1_0.out.cell 4
                      have m0_5 : W1.cell? ⟨B1, 5, none⟩ = some _ := K1_0.out.cell 5
                      have mlt0 : B1 < W1.heap.size := K1_0.out.lt
                      go_wp2
                      clear m0_0 m0_1 m0_2 m0_3 m0_4 m0_5 mlt0
                      go_ret
                      exact ⟨ret_bool (by rw [HQ.out, decide_eq_true (by first | omega | (simp only [or_true, true_or, and_true, true_and]; omega)), Bool.true_and]; apply Bool.eq_iff_iff.2; simp only [Bool.or_eq_true, Bool.and_eq_true, decide_eq_true_eq, beq_iff_eq, bne_iff_ne, ne_eq, reduceCtorEq, true_iff, iff_true, false_iff, iff_false, true_or, or_true, and_true, true_and, false_or, or_false, false_and, and_false, not_true_eq_false, not_false_eq_true] <;> omega), L1.out⟩
                    · have hz1 : ((dl : Int) == 0) = false := by simpa using hz
                      by_cases h5 : dl ≤ 4096
                      · obtain ⟨b, off, rfl, hc⟩ := (hr.below L1.out).at_ (dl - 1) (by omega)
                        obtain ⟨c, hC⟩ : ∃ c, c = d.getD (dl - 1) 0 := ⟨_, rfl⟩
                        rw [← hC] at hc HQ
                        clear hC
                        have m0_0 : W1.cell? ⟨B1, 0, none⟩ = some _ := K1_0.out.cell 0
                        have m0_1 : W1.cell? ⟨B1, 1, none⟩ = some _ := K1_0.out.cell 1
                        have m0_2 : W1.cell? ⟨B1, 2, none⟩ = some _ := K1_0.out.cell 2
                        have m0_3 : W1.cell? ⟨B1, 3, none⟩ = some _ := K1_0.out.cell 3
                        have m0_4 : W1.cell? ⟨B1, 4, none⟩ = some _ := K1_0.out.cell 4
                        have m0_5 : W1.cell? ⟨B1, 5, none⟩ = some _ := K1_0.out.cell 5
                        have mlt0 : B1 < W1.heap.size := K1_0.out.lt
                        go_wp2
                        clear m0_0 m0_1 m0_2 m0_3 m0_4 m0_5 mlt0
                        go_ret
                        exact ⟨ret_bool (by rw [HQ.out, decide_eq_true (by first | omega | (simp only [or_true, true_or, and_true, true_and]; omega)), Bool.true_and]; apply Bool.eq_iff_iff.2; simp only [Bool.or_eq_true, Bool.and_eq_true, decide_eq_true_eq, beq_iff_eq, bne_iff_ne, ne_eq, reduceCtorEq, true_iff, iff_true, false_iff, iff_false, true_or, or_true, and_true, true_and, false_or, or_false, false_and, and_false, not_true_eq_false, not_false_eq_true] <;> omega), L1.out⟩
                      · have h6 : 4096 < dl := by omega
                        have m0_0 : W1.cell? ⟨B1, 0, none⟩ = some _ := K1_0.out.cell 0
                        have m0_1 : W1.cell? ⟨B1, 1, none⟩ = some _ := K1_0.out.cell 1
                        have m0_2 : W1.cell? ⟨B1, 2, none⟩ = some _ := K1_0.out.cell 2
                        have m0_3 : W1.cell? ⟨B1, 3, none⟩ = some _ := K1_0.out.cell 3
                        have m0_4 : W1.cell? ⟨B1, 4, none⟩ = some _ := K1_0.out.cell 4
                        have m0_5 : W1.cell? ⟨B1, 5, none⟩ = some _ := K1_0.out.cell 5
                        have mlt0 : B1 < W1.heap.size := K1_0.out.lt
                        go_wp2
                        clear m0_0 m0_1 m0_2 m0_3 m0_4 m0_5 mlt0
                        go_ret
                        exact ⟨ret_bool (by rw [HQ.out, decide_eq_true (by first | omega | (simp only [or_true, true_or, and_true, true_and]; omega)), Bool.true_and]; apply Bool.eq_iff_iff.2; simp only [Bool.or_eq_true, Bool.and_eq_true, decide_eq_true_eq, beq_iff_eq, bne_iff_ne, ne_eq, reduceCtorEq, true_iff, iff_true, false_iff, iff_false, true_or, or_true, and_true, true_and, false_or, or_false, false_and, and_false, not_true_eq_false, not_false_eq_true] <;> omega), L1.out⟩
                  · have k4n : (k != 4) = true := by simpa using hk4
                    by_cases hs : s = 0
                    · have e1 : (s != 0) = false := by simpa using hs
                      have HE := Lib.hid hs
                      clear hs
                      by_cases hk3 : k = 3
                      · subst hk3
                        by_cases hz : dl = 0
                        · have hz1 : ((dl : Int) == 0) = true := by simpa using hz
                          have m0_0 : W1.cell? ⟨B1, 0, none⟩ = some _ := K1_0.out.cell 0
                          have m0_1 : W1.cell? ⟨B1, 1, none⟩ = some _ := K1_0.out.cell 1
                          have m0_2 : W1.cell? ⟨B1, 2, none⟩ = some _ := K1_0.out.cell 2
                          have m0_3 : W1.cell? ⟨B1, 3, none⟩ = some _ := K1_0.out.cell 3
                          have m0_4 : W1.cell? ⟨B1, 4, none⟩ = some _ := K1_0.out.cell 4
                          have m0_5 : W1.cell? ⟨B1, 5, none⟩ = some _ := K1_0.out.cell 5
                          have mlt0 : B1 < W1.heap.size := K1_0.out.lt
                          go_wp2
                          clear m0_0 m0_1 m0_2 m0_3 m0_4 m0_5 mlt0
                          go_ret
                          exact ⟨ret_bool (by rw [HQ.out, decide_eq_true (by have := HE.out; first | omega | (simp only [or_true, true_or, and_true, true_and]; omega)), Bool.true_and]; apply Bool.eq_iff_iff.2; simp only [Bool.or_eq_true, Bool.and_eq_true, decide_eq_true_eq, beq_iff_eq, bne_iff_ne, ne_eq, reduceCtorEq, true_iff, iff_true, false_iff, iff_false, true_or, or_true, and_true, true_and, false_or, or_false, false_and, and_false, not_true_eq_false, not_false_eq_true] <;> omega), L1.out⟩
                        · have hz1 : ((dl : Int) == 0) = false := by simpa using hz
                          by_cases h5 : dl ≤ 4096
                          · obtain ⟨b, off, rfl, hc⟩ := (hr.below L1.out).at_ (dl - 1) (by omega)
                            obtain ⟨c, hC⟩ : ∃ c, c = d.getD (dl - 1) 0 := ⟨_, rfl⟩
                            rw [← hC] at hc HQ
                            clear hC
                            have m0_0 : W1.cell? ⟨B1, 0, none⟩ = some _ := K1_0.out.cell 0
                            have m0_1 : W1.cell? ⟨B1, 1, none⟩ = some _ := K1_0.out.cell 1
                            have m0_2 : W1.cell? ⟨B1, 2, none⟩ = some _ := K1_0.out.cell 2
                            have m0_3 : W1.cell? ⟨B1, 3, none⟩ = some _ := K1_0.out.cell 3
                            have m0_4 : W1.cell? ⟨B1, 4, none⟩ = some _ := K1_0.out.cell 4
                            have m0_5 : W1.cell? ⟨B1, 5, none⟩ = some _ := K1_0.out.cell 5
                            have mlt0 : B1 < W1.heap.size := K1_0.out.lt
                            go_wp2
                            clear m0_0 m0_1 m0_2 m0_3 m0_4 m0_5 mlt0
                            go_ret
                            exact ⟨ret_bool (by rw [HQ.out, decide_eq_true (by have := HE.out; first | omega | (simp only [or_true, true_or, and_true, true_and]; omega)), Bool.true_and]; apply Bool.eq_iff_iff.2; simp only [Bool.or_eq_true, Bool.and_eq_true, decide_eq_true_eq, beq_iff_eq, bne_iff_ne, ne_eq, reduceCtorEq, true_iff, iff_true, false_iff, iff_false, true_or, or_true, and_true, true_and, false_or, or_false, false_and, and_false, not_true_eq_false, not_false_eq_true] <;> omega), L1.out⟩
                          · have h6 : 4096 < dl := by omega
                            have m0_0 : W1.cell? ⟨B1, 0, none⟩ = some _ := K1_0.out.cell 0
                            have m0_1 : W1.cell? ⟨B1, 1, none⟩ = some _ := K1_0.out.cell 1
                            have m0_2 : W1.cell? ⟨B1, 2, none⟩ = some _ := K1_0.out.cell 2
                            have m0_3 : W1.cell? ⟨B1, 3, none⟩ = some _ := K1_0.out.cell 3
                            have m0_4 : W1.cell? ⟨B1, 4, none⟩ = some _ := K1_0.out.cell 4
                            have m0_5 : W1.cell? ⟨B1, 5, none⟩ = some _ := K1_0.out.cell 5
                            have mlt0 : B1 < W1.heap.size := K1_0.out.lt
                            go_wp2
                            clear m0_0 m0_1 m0_2 m0_3 m0_4 m0_5 mlt0
                            go_ret
                            exact ⟨ret_bool (by rw [HQ.out, decide_eq_true (by have := HE.out; first | omega | (simp only [or_true, true_or, and_true, true_and]; omega)), Bool.true_and]; apply Bool.eq_iff_iff.2; simp only [Bool.or_eq_true, Bool.and_eq_true, decide_eq_true_eq, beq_iff_eq, bne_iff_ne, ne_eq, reduceCtorEq, true_iff, iff_true, false_iff, iff_false, true_or, or_true, and_true, true_and, false_or, or_false, false_and, and_false, not_true_eq_false, not_false_eq_true] <;> omega), L1.out⟩
                      · have k3n : (k != 3) = true := by simpa using hk3
                        have m0_0 : W1.cell? ⟨B1, 0, none⟩ = some _ := K1_0.out.cell 0
                        have m0_1 : W1.cell? ⟨B1, 1, none⟩ = some _ := K1_0.out.cell 1
                        have m0_2 : W1.cell? ⟨B1, 2, none⟩ = some _ := K1_0.out.cell 2
                        have m0_3 : W1.cell? ⟨B1, 3, none⟩ = some _ := K1_0.out.cell 3
                        have m0_4 : W1.cell? ⟨B1, 4, none⟩ = some _ := K1_0.out.cell 4
                        have m0_5 : W1.cell? ⟨B1, 5, none⟩ = some _ := K1_0.out.cell 5
                        have mlt0 : B1 < W1.heap.size := K1_0.out.lt
                        go_wp2
                        clear m0_0 m0_1 m0_2 m0_3 m0_4 m0_5 mlt0
                        go_ret
                        exact ⟨ret_bool (by rw [HQ.out, decide_eq_true (by have := HE.out; first | omega | (simp only [or_true, true_or, and_true, true_and]; omega)), Bool.true_and]; apply Bool.eq_iff_iff.2; simp only [Bool.or_eq_true, Bool.and_eq_true, decide_eq_true_eq, beq_iff_eq, bne_iff_ne, ne_eq, reduceCtorEq, true_iff, iff_true, false_iff, iff_false, true_or, or_true, and_true, true_and, false_or, or_false, false_and, and_false, not_true_eq_false, not_false_eq_true] <;> omega), L1.out⟩
                    · have e1 : (s != 0) = true := by simpa using hs
                      have m0_0 : W1.cell? ⟨B1, 0, none⟩ = some _ := K1_0.out.cell 0
                      have m0_1 : W1.cell? ⟨B1, 1, none⟩ = some _ := K1_0.out.cell 1
                      have m0_2 : W1.cell? ⟨B1, 2, none⟩ = some _ := K1_0.out.cell 2
                      have m0_3 : W1.cell? ⟨B1, 3, none⟩ = some _ := K1_0.out.cell 3
                      have m0_4 : W1.cell? ⟨B1, 4, none⟩ = some _ := K1_0.out.cell 4
                      have m0_5 : W1.cell? ⟨B1, 5, none⟩ = some _ := K1_0.out.cell 5
                      have mlt0 : B1 < W1.heap.size := K1_0.out.lt
                      go_wp2
                      clear m0_0 m0_1 m0_2 m0_3 m0_4 m0_5 mlt0
                      go_ret
                      exact ⟨ret_bool (by rw [HQ.out, decide_eq_false (by omega)]; rfl), L1.out⟩
                · have hn7 : 255 < h := by omega
                  have m0_0 : W1.cell? ⟨B1, 0, none⟩ = some _ := K1_0.out.cell 0
                  have m0_1 : W1.cell? ⟨B1, 1, none⟩ = some _ := K1_0.out.cell 1
                  have m0_2 : W1.cell? ⟨B1, 2, none⟩ = some _ := K1_0.out.cell 2
                  have m0_3 : W1.cell? ⟨B1, 3, none⟩ = some _ := K1_0.out.cell 3
                  have m0_4 : W1.cell? ⟨B1, 4, none⟩ = some _ := K1_0.out.cell 4
                  have m0_5 : W1.cell? ⟨B1, 5, none⟩ = some _ := K1_0.out.cell 5
                  have mlt0 : B1 < W1.heap.size := K1_0.out.lt
                  go_wp2
                  clear m0_0 m0_1 m0_2 m0_3 m0_4 m0_5 mlt0
                  go_ret
                  exact ⟨ret_bool (by rw [HQ.out, decide_eq_false (by omega)]; rfl), L1.out⟩
              · have hn6 : h < 0 := by omega
                have m0_0 : W1.cell? ⟨B1, 0, none⟩ = some _ := K1_0.out.cell 0
                have m0_1 : W1.cell? ⟨B1, 1, none⟩ = some _ := K1_0.out.cell 1
                have m0_2 : W1.cell? ⟨B1, 2, none⟩ = some _ := K1_0.out.cell 2
                have m0_3 : W1.cell? ⟨B1, 3, none⟩ = some _ := K1_0.out.cell 3
                have m0_4 : W1.cell? ⟨B1, 4, none⟩ = some _ := K1_0.out.cell 4
                have m0_5 : W1.cell? ⟨B1, 5, none⟩ = some _ := K1_0.out.cell 5
                have mlt0 : B1 < W1.heap.size := K1_0.out.lt
                go_wp2
                clear m0_0 m0_1 m0_2 m0_3 m0_4 m0_5 mlt0
                go_ret
                exact ⟨ret_bool (by rw [HQ.out, decide_eq_false (by omega)]; rfl), L1.out⟩
            · have hn5 : 15 < n := by omega
              have m0_0 : W1.cell? ⟨B1, 0, none⟩ = some _ := K1_0.out.cell 0
              have m0_1 : W1.cell? ⟨B1, 1, none⟩ = some _ := K1_0.out.cell 1
              have m0_2 : W1.cell? ⟨B1, 2, none⟩ = some _ := K1_0.out.cell 2
              have m0_3 : W1.cell? ⟨B1, 3, none⟩ = some _ := K1_0.out.cell 3
              have m0_4 : W1.cell? ⟨B1, 4, none⟩ = some _ := K1_0.out.cell 4
              have m0_5 : W1.cell? ⟨B1, 5, none⟩ = some _ := K1_0.out.cell 5
              have mlt0 : B1 < W1.heap.size := K1_0.out.lt
              go_wp2
              clear m0_0 m0_1 m0_2 m0_3 m0_4 m0_5 mlt0
              go_ret
              exact ⟨ret_bool (by rw [HQ.out, decide_eq_false (by omega)]; rfl), L1.out⟩
          · have hn4 : n < 0 := by omega
            have m0_0 : W1.cell? ⟨B1, 0, none⟩ = some _ := K1_0.out.cell 0
            have m0_1 : W1.cell? ⟨B1, 1, none⟩ = some _ := K1_0.out.cell 1
            have m0_2 : W1.cell? ⟨B1, 2, none⟩ = some _ := K1_0.out.cell 2
            have m0_3 : W1.cell? ⟨B1, 3, none⟩ = some _ := K1_0.out.cell 3
            have m0_4 : W1.cell? ⟨B1, 4, none⟩ = some _ := K1_0.out.cell 4
            have m0_5 : W1.cell? ⟨B1, 5, none⟩ = some _ := K1_0.out.cell 5
            have mlt0 : B1 < W1.heap.size := K1_0.out.lt
            go_wp2
            clear m0_0 m0_1 m0_2 m0_3 m0_4 m0_5 mlt0
            go_ret
            exact ⟨ret_bool (by rw [HQ.out, decide_eq_false (by omega)]; rfl), L1.out⟩
        · have hn3 : 65535 < p := by omega
          have m0_0 : W1.cell? ⟨B1, 0, none⟩ = some _ := K1_0.out.cell 0
          have m0_1 : W1.cell? ⟨B1, 1, none⟩ = some _ := K1_0.out.cell 1
          have m0_2 : W1.cell? ⟨B1, 2, none⟩ = some _ := K1_0.out.cell 2
          have m0_3 : W1.cell? ⟨B1, 3, none⟩ = some _ := K1_0.out.cell 3
          have m0_4 : W1.cell? ⟨B1, 4, none⟩ = some _ := K1_0.out.cell 4
          have m0_5 : W1.cell? ⟨B1, 5, none⟩ = some _ := K1_0.out.cell 5
          have mlt0 : B1 < W1.heap.size := K1_0.out.lt
          go_wp2
          clear m0_0 m0_1 m0_2 m0_3 m0_4 m0_5 mlt0
          go_ret
          exact ⟨ret_bool (by rw [HQ.out, decide_eq_false (by omega)]; rfl), L1.out⟩
      · have hn2 : p < 0 := by omega
        have m0_0 : W1.cell? ⟨B1, 0, none⟩ = some _ := K1_0.out.cell 0
        have m0_1 : W1.cell? ⟨B1, 1, none⟩ = some _ := K1_0.out.cell 1
        have m0_2 : W1.cell? ⟨B1, 2, none⟩ = some _ := K1_0.out.cell 2
        have m0_3 : W1.cell? ⟨B1, 3, none⟩ = some _ := K1_0.out.cell 3
        have m0_4 : W1.cell? ⟨B1, 4, none⟩ = some _ := K1_0.out.cell 4
        have m0_5 : W1.cell? ⟨B1, 5, none⟩ = some _ := K1_0.out.cell 5
        have mlt0 : B1 < W1.heap.size := K1_0.out.lt
        go_wp2
        clear m0_0 m0_1 m0_2 m0_3 m0_4 m0_5 mlt0
        go_ret
        exact ⟨ret_bool (by rw [HQ.out, decide_eq_false (by omega)]; rfl), L1.out⟩
    · have hn1 : 6 < k := by omega
      have m0_0 : W1.cell? ⟨B1, 0, none⟩ = some _ := K1_0.out.cell 0
      have m0_1 : W1.cell? ⟨B1, 1, none⟩ = some _ := K1_0.out.cell 1
      have m0_2 : W1.cell? ⟨B1, 2, none⟩ = some _ := K1_0.out.cell 2
      have m0_3 : W1.cell? ⟨B1, 3, none⟩ = some _ := K1_0.out.cell 3
      have m0_4 : W1.cell? ⟨B1, 4, none⟩ = some _ := K1_0.out.cell 4
      have m0_5 : W1.cell? ⟨B1, 5, none⟩ = some _ := K1_0.out.cell 5
      have mlt0 : B1 < W1.heap.size := K1_0.out.lt
      go_wp2
      clear m0_0 m0_1 m0_2 m0_3 m0_4 m0_5 mlt0
      go_ret
      exact ⟨ret_bool (by rw [HQ.out, decide_eq_false (by omega)]; rfl), L1.out⟩
  · have hn0 : k < 1 := by omega
    have m0_0 : W1.cell? ⟨B1, 0, none⟩ = some _ := K1_0.out.cell 0
    have m0_1 : W1.cell? ⟨B1, 1, none⟩ = some _ := K1_0.out.cell 1
    have m0_2 : W1.cell? ⟨B1, 2, none⟩ = some _ := K1_0.out.cell 2
    have m0_3 : W1.cell? ⟨B1, 3, none⟩ = some _ := K1_0.out.cell 3
    have m0_4 : W1.cell? ⟨B1, 4, none⟩ = some _ := K1_0.out.cell 4
    have m0_5 : W1.cell? ⟨B1, 5, none⟩ = some _ := K1_0.out.cell 5
    have mlt0 : B1 < W1.heap.size := K1_0.out.lt
    go_wp2
    clear m0_0 m0_1 m0_2 m0_3 m0_4 m0_5 mlt0
    go_ret
    exact ⟨ret_bool (by rw [HQ.out, decide_eq_false (by omega)]; rfl), L1.out⟩
end Go.Proofs.YtkddhjbdijegoaaDoor
