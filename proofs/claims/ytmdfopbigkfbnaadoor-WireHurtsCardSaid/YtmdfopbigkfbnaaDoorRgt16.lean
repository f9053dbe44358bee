/-
  What Right of package wire and of package runrigref16 answers: contracts over the translation. Each says its own conditions.
-/
import Derived.Test.YtmdfopbigkfbnaaDoorDat16
namespace Go.Proofs.YtmdfopbigkfbnaaDoor
open Go.RowKit
set_option linter.unusedVariables false
set_option linter.unusedSimpArgs false
attribute [local go_sem] setCell_drewN alloc_drewN

theorem nd_yes (n : Int) (w : World) (h : 0 ≤ n ∧ n < 16) : Calls Tryd.prog 19 #[.int .i64 n] w fun e w' => e = .returned (.bool true) ∧ w = w' := by
  go_enter Tryd.func19, Tryd.ntmps19
  go_wp2
  go_ret
  exact ⟨rfl, rfl⟩
theorem nd_no (n : Int) (w : World) (h : ¬ (0 ≤ n ∧ n < 16)) : Calls Tryd.prog 19 #[.int .i64 n] w fun e w' => e = .returned (.bool false) ∧ w = w' := by
  by_cases h0 : 0 ≤ n
  · have h1 : 16 ≤ n := by omega
    clear h
    go_enter Tryd.func19, Tryd.ntmps19
    go_wp2
    go_ret
    exact ⟨ret_bool (by simp; omega), rfl⟩
  · have h1 : n < 0 := by omega
    clear h
    go_enter Tryd.func19, Tryd.ntmps19
    go_wp2
    go_ret
    exact ⟨rfl, rfl⟩
set_option maxHeartbeats 4000000 in
theorem right_any (f t s a : Int) (bb : Bool) (A : Option Addr) (dl cap : Nat) (w : World) (h0 : 0 ≤ s) (hd : dl ≤ 9223372036854775807) : Calls Tryd.prog 9 #[.agg #[.int .i64 f, .int .i64 t, .bool bb, .int .u64 s, .int .u64 a, .slice A dl cap]] w fun e w' => e = .returned (.bool (nok f t && bok bb s dl)) ∧ Below w.heap.size w w' := by
  obtain ⟨Q, hQ⟩ : ∃ Q, Q = (nok f t && bok bb s dl) := ⟨_, rfl⟩
  rw [← hQ]
  unfold nok bok at hQ
  have HQ := Lib.hid hQ
  clear hQ
  go_enter Tryd.func9, Tryd.ntmps9
  go_upto_region 1 with (fail)
  have nb0 : Blk (w.alloc (.cells #[.int .i64 f, .int .i64 t, .bool bb, .int .u64 s, .int .u64 a, .slice A dl cap] 25)) (w.heap.size) [.int .i64 f, .int .i64 t, .bool bb, .int .u64 s, .int .u64 a, .slice A dl cap] 25 := Blk.new w [.int .i64 f, .int .i64 t, .bool bb, .int .u64 s, .int .u64 a, .slice A dl cap] 25
  have nls : Below w.heap.size w w := (Below.refl w.heap.size w)
  have nl0 := nls.alloc nls.size (.cells #[.int .i64 f, .int .i64 t, .bool bb, .int .u64 s, .int .u64 a, .slice A dl cap] 25)
  have nl : Below w.heap.size w (w.alloc (.cells #[.int .i64 f, .int .i64 t, .bool bb, .int .u64 s, .int .u64 a, .slice A dl cap] 25)) := nl0; clear nls nl0
  obtain ⟨B1, hB0⟩ : ∃ B, B = w.heap.size := ⟨_, rfl⟩
  obtain ⟨W1, hW⟩ : ∃ W, W = (w.alloc (.cells #[.int .i64 f, .int .i64 t, .bool bb, .int .u64 s, .int .u64 a, .slice A dl cap] 25)) := ⟨_, rfl⟩
  rw [← hW] at nl nb0
  rw [← hB0] at nb0
  rw [← hW]
  try rw [← hB0]
  have K1_0 := Lib.hid nb0
  have G1 : Hid (w.heap.size ≤ B1) := Lib.hid (by have := (Nat.le_refl w.heap.size); omega)
  have L1 := Lib.hid nl
  clear nl hW nb0 hB0
  have m0_0 : W1.cell? ⟨B1, 0, none⟩ = some _ := K1_0.out.cell 0
  have m0_1 : W1.cell? ⟨B1, 1, none⟩ = some _ := K1_0.out.cell 1
  have m0_2 : W1.cell? ⟨B1, 2, none⟩ = some _ := K1_0.out.cell 2
  have m0_3 : W1.cell? ⟨B1, 3, none⟩ = some _ := K1_0.out.cell 3
  have m0_4 : W1.cell? ⟨B1, 4, none⟩ = some _ := K1_0.out.cell 4
  have m0_5 : W1.cell? ⟨B1, 5, none⟩ = some _ := K1_0.out.cell 5
  have mlt0 : B1 < W1.heap.size := K1_0.out.lt
  go_wp2_with fail
  clear m0_0 m0_1 m0_2 m0_3 m0_4 m0_5 mlt0
  by_cases hf : 0 ≤ f ∧ f < 16
  · refine (nd_yes f _ hf).mono ?_
    rintro e wx ⟨rfl, rfl⟩
    have m0_0 : W1.cell? ⟨B1, 0, none⟩ = some _ := K1_0.out.cell 0
    have m0_1 : W1.cell? ⟨B1, 1, none⟩ = some _ := K1_0.out.cell 1
    have m0_2 : W1.cell? ⟨B1, 2, none⟩ = some _ := K1_0.out.cell 2
    have m0_3 : W1.cell? ⟨B1, 3, none⟩ = some _ := K1_0.out.cell 3
    have m0_4 : W1.cell? ⟨B1, 4, none⟩ = some _ := K1_0.out.cell 4
    have m0_5 : W1.cell? ⟨B1, 5, none⟩ = some _ := K1_0.out.cell 5
    have mlt0 : B1 < W1.heap.size := K1_0.out.lt
    go_wp2_with fail
    clear m0_0 m0_1 m0_2 m0_3 m0_4 m0_5 mlt0
    by_cases ht : 0 ≤ t ∧ t < 16
    · refine (nd_yes t _ ht).mono ?_
      rintro e wx ⟨rfl, rfl⟩
      by_cases e : f = t
      · have e1 : (f == t) = true := by simpa using e
        have hq : Q = false := by rw [HQ.out]; rw [decide_eq_false (by omega)]; rfl
        have HQ2 := Lib.hid hq; clear hq
        have m0_0 : W1.cell? ⟨B1, 0, none⟩ = some _ := K1_0.out.cell 0
        have m0_1 : W1.cell? ⟨B1, 1, none⟩ = some _ := K1_0.out.cell 1
        have m0_2 : W1.cell? ⟨B1, 2, none⟩ = some _ := K1_0.out.cell 2
        have m0_3 : W1.cell? ⟨B1, 3, none⟩ = some _ := K1_0.out.cell 3
        have m0_4 : W1.cell? ⟨B1, 4, none⟩ = some _ := K1_0.out.cell 4
        have m0_5 : W1.cell? ⟨B1, 5, none⟩ = some _ := K1_0.out.cell 5
        have mlt0 : B1 < W1.heap.size := K1_0.out.lt
        go_wp2
        clear m0_0 m0_1 m0_2 m0_3 m0_4 m0_5 mlt0
        go_ret
        exact ⟨ret_bool (by rw [HQ2.out] <;> simp <;> omega), L1.out⟩
      · have e1 : (f == t) = false := by simpa using e
        cases bb
        · by_cases hs : s = 0
          · subst hs
            by_cases hl : dl = 0
            · subst hl
              have hq : Q = true := by rw [HQ.out]; rw [decide_eq_true (by omega), Bool.true_and]; simp
              have HQ2 := Lib.hid hq; clear hq
              have m0_0 : W1.cell? ⟨B1, 0, none⟩ = some _ := K1_0.out.cell 0
              have m0_1 : W1.cell? ⟨B1, 1, none⟩ = some _ := K1_0.out.cell 1
              have m0_2 : W1.cell? ⟨B1, 2, none⟩ = some _ := K1_0.out.cell 2
              have m0_3 : W1.cell? ⟨B1, 3, none⟩ = some _ := K1_0.out.cell 3
              have m0_4 : W1.cell? ⟨B1, 4, none⟩ = some _ := K1_0.out.cell 4
              have m0_5 : W1.cell? ⟨B1, 5, none⟩ = some _ := K1_0.out.cell 5
              have mlt0 : B1 < W1.heap.size := K1_0.out.lt
              go_wp2
              clear m0_0 m0_1 m0_2 m0_3 m0_4 m0_5 mlt0
              go_ret
              exact ⟨ret_bool (by rw [HQ2.out] <;> simp <;> omega), L1.out⟩
            · have l1 : ((dl : Int) == 0) = false := by simpa using hl
              have hq : Q = false := by rw [HQ.out]; rw [decide_eq_true (by omega), Bool.true_and]; simp; exact hl
              have HQ2 := Lib.hid hq; clear hq
              have m0_0 : W1.cell? ⟨B1, 0, none⟩ = some _ := K1_0.out.cell 0
              have m0_1 : W1.cell? ⟨B1, 1, none⟩ = some _ := K1_0.out.cell 1
              have m0_2 : W1.cell? ⟨B1, 2, none⟩ = some _ := K1_0.out.cell 2
              have m0_3 : W1.cell? ⟨B1, 3, none⟩ = some _ := K1_0.out.cell 3
              have m0_4 : W1.cell? ⟨B1, 4, none⟩ = some _ := K1_0.out.cell 4
              have m0_5 : W1.cell? ⟨B1, 5, none⟩ = some _ := K1_0.out.cell 5
              have mlt0 : B1 < W1.heap.size := K1_0.out.lt
              go_wp2
              clear m0_0 m0_1 m0_2 m0_3 m0_4 m0_5 mlt0
              go_ret
              exact ⟨ret_bool (by rw [HQ2.out] <;> simp <;> omega), L1.out⟩
          · have s1 : (s == 0) = false := by simpa using hs
            have s2 : (s != 0) = true := by simpa using hs
            have s3 : 0 < s := by omega
            clear s3
            have hq : Q = false := by rw [HQ.out]; rw [decide_eq_true (by omega), Bool.true_and]; simp [hs]
            have HQ2 := Lib.hid hq; clear hq
            have m0_0 : W1.cell? ⟨B1, 0, none⟩ = some _ := K1_0.out.cell 0
            have m0_1 : W1.cell? ⟨B1, 1, none⟩ = some _ := K1_0.out.cell 1
            have m0_2 : W1.cell? ⟨B1, 2, none⟩ = some _ := K1_0.out.cell 2
            have m0_3 : W1.cell? ⟨B1, 3, none⟩ = some _ := K1_0.out.cell 3
            have m0_4 : W1.cell? ⟨B1, 4, none⟩ = some _ := K1_0.out.cell 4
            have m0_5 : W1.cell? ⟨B1, 5, none⟩ = some _ := K1_0.out.cell 5
            have mlt0 : B1 < W1.heap.size := K1_0.out.lt
            go_wp2
            clear m0_0 m0_1 m0_2 m0_3 m0_4 m0_5 mlt0
            go_ret
            exact ⟨ret_bool (by rw [HQ2.out] <;> simp <;> omega), L1.out⟩
        · by_cases hs : s = 0
          · subst hs
            have hq : Q = false := by rw [HQ.out]; rw [decide_eq_true (by omega), Bool.true_and]; simp
            have HQ2 := Lib.hid hq; clear hq
            have m0_0 : W1.cell? ⟨B1, 0, none⟩ = some _ := K1_0.out.cell 0
            have m0_1 : W1.cell? ⟨B1, 1, none⟩ = some _ := K1_0.out.cell 1
            have m0_2 : W1.cell? ⟨B1, 2, none⟩ = some _ := K1_0.out.cell 2
            have m0_3 : W1.cell? ⟨B1, 3, none⟩ = some _ := K1_0.out.cell 3
            have m0_4 : W1.cell? ⟨B1, 4, none⟩ = some _ := K1_0.out.cell 4
            have m0_5 : W1.cell? ⟨B1, 5, none⟩ = some _ := K1_0.out.cell 5
            have mlt0 : B1 < W1.heap.size := K1_0.out.lt
            go_wp2
            clear m0_0 m0_1 m0_2 m0_3 m0_4 m0_5 mlt0
            go_ret
            exact ⟨ret_bool (by rw [HQ2.out] <;> simp <;> omega), L1.out⟩
          · have s1 : (s == 0) = false := by simpa using hs
            have s2 : (s != 0) = true := by simpa using hs
            have s3 : 0 < s := by omega
            by_cases hl : dl ≤ 4120
            · have l1 : (dl : Int) ≤ 4120 := by omega
              have hq : Q = true := by rw [HQ.out]; rw [decide_eq_true (by omega), Bool.true_and]; simp [hs]; omega
              have HQ2 := Lib.hid hq; clear hq
              have m0_0 : W1.cell? ⟨B1, 0, none⟩ = some _ := K1_0.out.cell 0
              have m0_1 : W1.cell? ⟨B1, 1, none⟩ = some _ := K1_0.out.cell 1
              have m0_2 : W1.cell? ⟨B1, 2, none⟩ = some _ := K1_0.out.cell 2
              have m0_3 : W1.cell? ⟨B1, 3, none⟩ = some _ := K1_0.out.cell 3
              have m0_4 : W1.cell? ⟨B1, 4, none⟩ = some _ := K1_0.out.cell 4
              have m0_5 : W1.cell? ⟨B1, 5, none⟩ = some _ := K1_0.out.cell 5
              have mlt0 : B1 < W1.heap.size := K1_0.out.lt
              go_wp2
              clear m0_0 m0_1 m0_2 m0_3 m0_4 m0_5 mlt0
              go_ret
              exact ⟨ret_bool (by rw [HQ2.out] <;> simp <;> omega), L1.out⟩
            · have l1 : (4120 : Int) < dl := by omega
              have hq : Q = false := by rw [HQ.out]; rw [decide_eq_true (by omega), Bool.true_and]; simp [hs]; omega
              have HQ2 := Lib.hid hq; clear hq
              have m0_0 : W1.cell? ⟨B1, 0, none⟩ = some _ := K1_0.out.cell 0
              have m0_1 : W1.cell? ⟨B1, 1, none⟩ = some _ := K1_0.out.cell 1
              have m0_2 : W1.cell? ⟨B1, 2, none⟩ = some _ := K1_0.out.cell 2
              have m0_3 : W1.cell? ⟨B1, 3, none⟩ = some _ := K1_0.out.cell 3
              have m0_4 : W1.cell? ⟨B1, 4, none⟩ = some _ := K1_0.out.cell 4
              have m0_5 : W1.cell? ⟨B1, 5, none⟩ = some _ := K1_0.out.cell 5
              have mlt0 : B1 < W1.heap.size := K1_0.out.lt
              go_wp2
              clear m0_0 m0_1 m0_2 m0_3 m0_4 m0_5 mlt0
              go_ret
              exact ⟨ret_bool (by rw [HQ2.out] <;> simp <;> omega), L1.out⟩
    · refine (nd_no t _ ht).mono ?_
      rintro e wx ⟨rfl, rfl⟩
      have hq : Q = false := by rw [HQ.out]; rw [decide_eq_false (by omega)]; rfl
      have HQ2 := Lib.hid hq; clear hq
      have m0_0 : W1.cell? ⟨B1, 0, none⟩ = some _ := K1_0.out.cell 0
      have m0_1 : W1.cell? ⟨B1, 1, none⟩ = some _ := K1_0.out.cell 1
      have m0_2 : W1.cell? ⟨B1, 2, none⟩ = some _ := K1_0.out.cell 2
      have m0_3 : W1.cell? ⟨B1, 3, none⟩ = some _ := K1_0.out.cell 3
      have m0_4 : W1.cell? ⟨B1, 4, none⟩ = some _ := K1_0.out.cell 4
      have m0_5 : W1.cell? ⟨B1, 5, none⟩ = some _ := K1_0.out.cell 5
      have mlt0 : B1 < W1.heap.size := K1_0.out.lt
      go_wp2
      clear m0_0 m0_1 m0_2 m0_3 m0_4 m0_5 mlt0
      go_ret
      exact ⟨ret_bool (by rw [HQ2.out] <;> simp <;> omega), L1.out⟩
  · refine (nd_no f _ hf).mono ?_
    rintro e wx ⟨rfl, rfl⟩
    have hq : Q = false := by rw [HQ.out]; rw [decide_eq_false (by omega)]; rfl
    have HQ2 := Lib.hid hq; clear hq
    have m0_0 : W1.cell? ⟨B1, 0, none⟩ = some _ := K1_0.out.cell 0
    have m0_1 : W1.cell? ⟨B1, 1, none⟩ = some _ := K1_0.out.cell 1
    have m0_2 : W1.cell? ⟨B1, 2, none⟩ = some _ := K1_0.out.cell 2
    have m0_3 : W1.cell? ⟨B1, 3, none⟩ = some _ := K1_0.out.cell 3
    have m0_4 : W1.cell? ⟨B1, 4, none⟩ = some _ := K1_0.out.cell 4
    have m0_5 : W1.cell? ⟨B1, 5, none⟩ = some _ := K1_0.out.cell 5
    have mlt0 : B1 < W1.heap.size := K1_0.out.lt
    go_wp2
    clear m0_0 m0_1 m0_2 m0_3 m0_4 m0_5 mlt0
    go_ret
    exact ⟨ret_bool (by rw [HQ2.out] <;> simp <;> omega), L1.out⟩
set_option maxHeartbeats 4000000 in
theorem rright_any (f t s a : Int) (bb : Bool) (A : Option Addr) (dl cap : Nat) (w : World) (h0 : 0 ≤ s) (hd : dl ≤ 9223372036854775807) : Calls Tryd.prog 8 #[.agg #[.int .i64 f, .int .i64 t, .bool bb, .int .u64 s, .int .u64 a, .slice A dl cap]] w fun e w' => e = .returned (.bool (nok f t && bok bb s dl)) ∧ Below w.heap.size w w' := by
  obtain ⟨Q, hQ⟩ : ∃ Q, Q = (nok f t && bok bb s dl) := ⟨_, rfl⟩
  rw [← hQ]
  unfold nok bok at hQ
  have HQ := Lib.hid hQ
  clear hQ
  go_enter Tryd.func8, Tryd.ntmps8
  go_upto_region 1 with (fail)
  have nb0 : Blk (w.alloc (.cells #[.int .i64 f, .int .i64 t, .bool bb, .int .u64 s, .int .u64 a, .slice A dl cap] 25)) (w.heap.size) [.int .i64 f, .int .i64 t, .bool bb, .int .u64 s, .int .u64 a, .slice A dl cap] 25 := Blk.new w [.int .i64 f, .int .i64 t, .bool bb, .int .u64 s, .int .u64 a, .slice A dl cap] 25
  have nls : Below w.heap.size w w := (Below.refl w.heap.size w)
  have nl0 := nls.alloc nls.size (.cells #[.int .i64 f, .int .i64 t, .bool bb, .int .u64 s, .int .u64 a, .slice A dl cap] 25)
  have nl : Below w.heap.size w (w.alloc (.cells #[.int .i64 f, .int .i64 t, .bool bb, .int .u64 s, .int .u64 a, .slice A dl cap] 25)) := nl0; clear nls nl0
  obtain ⟨B1, hB0⟩ : ∃ B, B = w.heap.size := ⟨_, rfl⟩
  obtain ⟨W1, hW⟩ : ∃ W, W = (w.alloc (.cells #[.int .i64 f, .int .i64 t, .bool bb, .int .u64 s, .int .u64 a, .slice A dl cap] 25)) := ⟨_, rfl⟩
  rw [← hW] at nl nb0
  rw [← hB0] at nb0
  rw [← hW]
  try rw [← hB0]
  have K1_0 := Lib.hid nb0
  have G1 : Hid (w.heap.size ≤ B1) := Lib.hid (by have := (Nat.le_refl w.heap.size); omega)
  have L1 := Lib.hid nl
  clear nl hW nb0 hB0
  by_cases c0x : 0 ≤ f
  · by_cases c1x : f < 16
    · by_cases c2x : 0 ≤ t
      · by_cases c3x : t < 16
        · by_cases e : f = t
          · have e1 : (f == t) = true := by simpa using e
            have hq : Q = false := by rw [HQ.out]; rw [decide_eq_false (by omega)]; rfl
            have HQ2 := Lib.hid hq; clear hq
            have m0_0 : W1.cell? ⟨B1, 0, none⟩ = some _ := K1_0.out.cell 0
            have m0_1 : W1.cell? ⟨B1, 1, none⟩ = some _ := K1_0.out.cell 1
            have m0_2 : W1.cell? ⟨B1, 2, none⟩ = some _ := K1_0.out.cell 2
            have m0_3 : W1.cell? ⟨B1, 3, none⟩ = some _ := K1_0.out.cell 3
            have m0_4 : W1.cell? ⟨B1, 4, none⟩ = some _ := K1_0.out.cell 4
            have m0_5 : W1.cell? ⟨B1, 5, none⟩ = some _ := K1_0.out.cell 5
            have mlt0 : B1 < W1.heap.size := K1_0.out.lt
            go_wp2
            clear m0_0 m0_1 m0_2 m0_3 m0_4 m0_5 mlt0
            go_ret
            exact ⟨ret_bool (by rw [HQ2.out] <;> simp <;> omega), L1.out⟩
          · have e1 : (f == t) = false := by simpa using e
            cases bb
            · by_cases hs : s = 0
              · subst hs
                by_cases hl : dl = 0
                · subst hl
                  have hq : Q = true := by rw [HQ.out]; rw [decide_eq_true (by omega), Bool.true_and]; simp
                  have HQ2 := Lib.hid hq; clear hq
                  have m0_0 : W1.cell? ⟨B1, 0, none⟩ = some _ := K1_0.out.cell 0
                  have m0_1 : W1.cell? ⟨B1, 1, none⟩ = some _ := K1_0.out.cell 1
                  have m0_2 : W1.cell? ⟨B1, 2, none⟩ = some _ := K1_0.out.cell 2
                  have m0_3 : W1.cell? ⟨B1, 3, none⟩ = some _ := K1_0.out.cell 3
                  have m0_4 : W1.cell? ⟨B1, 4, none⟩ = some _ := K1_0.out.cell 4
                  have m0_5 : W1.cell? ⟨B1, 5, none⟩ = some _ := K1_0.out.cell 5
                  have mlt0 : B1 < W1.heap.size := K1_0.out.lt
                  go_wp2
                  clear m0_0 m0_1 m0_2 m0_3 m0_4 m0_5 mlt0
                  go_ret
                  exact ⟨ret_bool (by rw [HQ2.out] <;> simp <;> omega), L1.out⟩
                · have l1 : ((dl : Int) == 0) = false := by simpa using hl
                  have hq : Q = false := by rw [HQ.out]; rw [decide_eq_true (by omega), Bool.true_and]; simp; exact hl
                  have HQ2 := Lib.hid hq; clear hq
                  have m0_0 : W1.cell? ⟨B1, 0, none⟩ = some _ := K1_0.out.cell 0
                  have m0_1 : W1.cell? ⟨B1, 1, none⟩ = some _ := K1_0.out.cell 1
                  have m0_2 : W1.cell? ⟨B1, 2, none⟩ = some _ := K1_0.out.cell 2
                  have m0_3 : W1.cell? ⟨B1, 3, none⟩ = some _ := K1_0.out.cell 3
                  have m0_4 : W1.cell? ⟨B1, 4, none⟩ = some _ := K1_0.out.cell 4
                  have m0_5 : W1.cell? ⟨B1, 5, none⟩ = some _ := K1_0.out.cell 5
                  have mlt0 : B1 < W1.heap.size := K1_0.out.lt
                  go_wp2
                  clear m0_0 m0_1 m0_2 m0_3 m0_4 m0_5 mlt0
                  go_ret
                  exact ⟨ret_bool (by rw [HQ2.out] <;> simp <;> omega), L1.out⟩
              · have s1 : (s == 0) = false := by simpa using hs
                have s2 : (s != 0) = true := by simpa using hs
                have s3 : 0 < s := by omega
                have hq : Q = false := by rw [HQ.out]; rw [decide_eq_true (by omega), Bool.true_and]; simp [hs]
                have HQ2 := Lib.hid hq; clear hq
                have m0_0 : W1.cell? ⟨B1, 0, none⟩ = some _ := K1_0.out.cell 0
                have m0_1 : W1.cell? ⟨B1, 1, none⟩ = some _ := K1_0.out.cell 1
                have m0_2 : W1.cell? ⟨B1, 2, none⟩ = some _ := K1_0.out.cell 2
                have m0_3 : W1.cell? ⟨B1, 3, none⟩ = some _ := K1_0.out.cell 3
                have m0_4 : W1.cell? ⟨B1, 4, none⟩ = some _ := K1_0.out.cell 4
                have m0_5 : W1.cell? ⟨B1, 5, none⟩ = some _ := K1_0.out.cell 5
                have mlt0 : B1 < W1.heap.size := K1_0.out.lt
                go_wp2
                clear m0_0 m0_1 m0_2 m0_3 m0_4 m0_5 mlt0
                go_ret
                exact ⟨ret_bool (by rw [HQ2.out] <;> simp <;> omega), L1.out⟩
            · by_cases hs : s = 0
              · subst hs
                have hq : Q = false := by rw [HQ.out]; rw [decide_eq_true (by omega), Bool.true_and]; simp
                have HQ2 := Lib.hid hq; clear hq
                have m0_0 : W1.cell? ⟨B1, 0, none⟩ = some _ := K1_0.out.cell 0
                have m0_1 : W1.cell? ⟨B1, 1, none⟩ = some _ := K1_0.out.cell 1
                have m0_2 : W1.cell? ⟨B1, 2, none⟩ = some _ := K1_0.out.cell 2
                have m0_3 : W1.cell? ⟨B1, 3, none⟩ = some _ := K1_0.out.cell 3
                have m0_4 : W1.cell? ⟨B1, 4, none⟩ = some _ := K1_0.out.cell 4
                have m0_5 : W1.cell? ⟨B1, 5, none⟩ = some _ := K1_0.out.cell 5
                have mlt0 : B1 < W1.heap.size := K1_0.out.lt
                go_wp2
                clear m0_0 m0_1 m0_2 m0_3 m0_4 m0_5 mlt0
                go_ret
                exact ⟨ret_bool (by rw [HQ2.out] <;> simp <;> omega), L1.out⟩
              · have s1 : (s == 0) = false := by simpa using hs
                have s2 : (s != 0) = true := by simpa using hs
                have s3 : 0 < s := by omega
                by_cases hl : dl ≤ 4120
                · have l1 : (dl : Int) ≤ 4120 := by omega
                  have hq : Q = true := by rw [HQ.out]; rw [decide_eq_true (by omega), Bool.true_and]; simp [hs]; omega
                  have HQ2 := Lib.hid hq; clear hq
                  have m0_0 : W1.cell? ⟨B1, 0, none⟩ = some _ := K1_0.out.cell 0
                  have m0_1 : W1.cell? ⟨B1, 1, none⟩ = some _ := K1_0.out.cell 1
                  have m0_2 : W1.cell? ⟨B1, 2, none⟩ = some _ := K1_0.out.cell 2
                  have m0_3 : W1.cell? ⟨B1, 3, none⟩ = some _ := K1_0.out.cell 3
                  have m0_4 : W1.cell? ⟨B1, 4, none⟩ = some _ := K1_0.out.cell 4
                  have m0_5 : W1.cell? ⟨B1, 5, none⟩ = some _ := K1_0.out.cell 5
                  have mlt0 : B1 < W1.heap.size := K1_0.out.lt
                  go_wp2
                  clear m0_0 m0_1 m0_2 m0_3 m0_4 m0_5 mlt0
                  go_ret
                  exact ⟨ret_bool (by rw [HQ2.out] <;> simp <;> omega), L1.out⟩
                · have l1 : (4120 : Int) < dl := by omega
                  have hq : Q = false := by rw [HQ.out]; rw [decide_eq_true (by omega), Bool.true_and]; simp [hs]; omega
                  have HQ2 := Lib.hid hq; clear hq
                  have m0_0 : W1.cell? ⟨B1, 0, none⟩ = some _ := K1_0.out.cell 0
                  have m0_1 : W1.cell? ⟨B1, 1, none⟩ = some _ := K1_0.out.cell 1
                  have m0_2 : W1.cell? ⟨B1, 2, none⟩ = some _ := K1_0.out.cell 2
                  have m0_3 : W1.cell? ⟨B1, 3, none⟩ = some _ := K1_0.out.cell 3
                  have m0_4 : W1.cell? ⟨B1, 4, none⟩ = some _ := K1_0.out.cell 4
                  have m0_5 : W1.cell? ⟨B1, 5, none⟩ = some _ := K1_0.out.cell 5
                  have mlt0 : B1 < W1.heap.size := K1_0.out.lt
                  go_wp2
                  clear m0_0 m0_1 m0_2 m0_3 m0_4 m0_5 mlt0
                  go_ret
                  exact ⟨ret_bool (by rw [HQ2.out] <;> simp <;> omega), L1.out⟩
        · have n3x : 15 < t := by omega
          have hq : Q = false := by rw [HQ.out]; rw [decide_eq_false (by omega)]; rfl
          have HQ2 := Lib.hid hq; clear hq
          have m0_0 : W1.cell? ⟨B1, 0, none⟩ = some _ := K1_0.out.cell 0
          have m0_1 : W1.cell? ⟨B1, 1, none⟩ = some _ := K1_0.out.cell 1
          have m0_2 : W1.cell? ⟨B1, 2, none⟩ = some _ := K1_0.out.cell 2
          have m0_3 : W1.cell? ⟨B1, 3, none⟩ = some _ := K1_0.out.cell 3
          have m0_4 : W1.cell? ⟨B1, 4, none⟩ = some _ := K1_0.out.cell 4
          have m0_5 : W1.cell? ⟨B1, 5, none⟩ = some _ := K1_0.out.cell 5
          have mlt0 : B1 < W1.heap.size := K1_0.out.lt
          go_wp2
          clear m0_0 m0_1 m0_2 m0_3 m0_4 m0_5 mlt0
          go_ret
          exact ⟨ret_bool (by rw [HQ2.out] <;> simp <;> omega), L1.out⟩
      · have n2x : t < 0 := by omega
        have hq : Q = false := by rw [HQ.out]; rw [decide_eq_false (by omega)]; rfl
        have HQ2 := Lib.hid hq; clear hq
        have m0_0 : W1.cell? ⟨B1, 0, none⟩ = some _ := K1_0.out.cell 0
        have m0_1 : W1.cell? ⟨B1, 1, none⟩ = some _ := K1_0.out.cell 1
        have m0_2 : W1.cell? ⟨B1, 2, none⟩ = some _ := K1_0.out.cell 2
        have m0_3 : W1.cell? ⟨B1, 3, none⟩ = some _ := K1_0.out.cell 3
        have m0_4 : W1.cell? ⟨B1, 4, none⟩ = some _ := K1_0.out.cell 4
        have m0_5 : W1.cell? ⟨B1, 5, none⟩ = some _ := K1_0.out.cell 5
        have mlt0 : B1 < W1.heap.size := K1_0.out.lt
        go_wp2
        clear m0_0 m0_1 m0_2 m0_3 m0_4 m0_5 mlt0
        go_ret
        exact ⟨ret_bool (by rw [HQ2.out] <;> simp <;> omega), L1.out⟩
    · have n1x : 15 < f := by omega
      have hq : Q = false := by rw [HQ.out]; rw [decide_eq_false (by omega)]; rfl
      have HQ2 := Lib.hid hq; clear hq
      have m0_0 : W1.cell? ⟨B1, 0, none⟩ = some _ := K1_0.out.cell 0
      have m0_1 : W1.cell? ⟨B1, 1, none⟩ = some _ := K1_0.out.cell 1
      have m0_2 : W1.cell? ⟨B1, 2, none⟩ = some _ := K1_0.out.cell 2
      have m0_3 : W1.cell? ⟨B1, 3, none⟩ = some _ := K1_0.out.cell 3
      have m0_4 : W1.cell? ⟨B1, 4, none⟩ = some _ := K1_0.out.cell 4
      have m0_5 : W1.cell? ⟨B1, 5, none⟩ = some _ := K1_0.out.cell 5
      have mlt0 : B1 < W1.heap.size := K1_0.out.lt
      go_wp2
      clear m0_0 m0_1 m0_2 m0_3 m0_4 m0_5 mlt0
      go_ret
      exact ⟨ret_bool (by rw [HQ2.out] <;> simp <;> omega), L1.out⟩
  · have n0x : f < 0 := by omega
    have hq : Q = false := by rw [HQ.out]; rw [decide_eq_false (by omega)]; rfl
    have HQ2 := Lib.hid hq; clear hq
    have m0_0 : W1.cell? ⟨B1, 0, none⟩ = some _ := K1_0.out.cell 0
    have m0_1 : W1.cell? ⟨B1, 1, none⟩ = some _ := K1_0.out.cell 1
    have m0_2 : W1.cell? ⟨B1, 2, none⟩ = some _ := K1_0.out.cell 2
    have m0_3 : W1.cell? ⟨B1, 3, none⟩ = some _ := K1_0.out.cell 3
    have m0_4 : W1.cell? ⟨B1, 4, none⟩ = some _ := K1_0.out.cell 4
    have m0_5 : W1.cell? ⟨B1, 5, none⟩ = some _ := K1_0.out.cell 5
    have mlt0 : B1 < W1.heap.size := K1_0.out.lt
    go_wp2
    clear m0_0 m0_1 m0_2 m0_3 m0_4 m0_5 mlt0
    go_ret
    exact ⟨ret_bool (by rw [HQ2.out] <;> simp <;> omega), L1.out⟩
end Go.Proofs.YtmdfopbigkfbnaaDoor
