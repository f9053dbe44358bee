/-
  What Same of package msg and of package runrigref15 answer: contracts over the translation. Each says its own conditions.
-/
import Derived.Test.YtkddhjbdijegoaaDoorMsB15
namespace Go.Proofs.YtkddhjbdijegoaaDoor
open Go.RowKit
set_option linter.unusedVariables false
set_option linter.unusedSimpArgs false
attribute [local go_sem] setCell_drewN alloc_drewN

set_option maxHeartbeats 4000000 in
theorem same_any (k p n h s k2 p2 n2 h2 s2 : Int) (A A2 : Option Addr) (dl cap dl2 cap2 : Nat) (d d2 : List Int) (w : World) (hd : Dat w A dl cap d) (hd2 : Dat w A2 dl2 cap2 d2) : Calls Tryd.prog 14 #[.agg #[.int .i64 k, .int .i64 p, .int .i64 n, .int .i64 h, .int .u16 s, .slice A dl cap], .agg #[.int .i64 k2, .int .i64 p2, .int .i64 n2, .int .i64 h2, .int .u16 s2, .slice A2 dl2 cap2]] w fun e w' => e = .returned (.bool (sameM ⟨k, p, n, h, s, d⟩ ⟨k2, p2, n2, h2, s2, d2⟩)) ∧ Below w.heap.size w w' := by
  obtain ⟨Q, hQ⟩ : ∃ Q, Q = sameM ⟨k, p, n, h, s, d⟩ ⟨k2, p2, n2, h2, s2, d2⟩ := ⟨_, rfl⟩
  rw [← hQ]
  unfold sameM at hQ
  dsimp only at hQ
  have HQ := Lib.hid hQ; have HD := Lib.hid hd; have HD2 := Lib.hid hd2
  clear hQ hd hd2
  go_enter Tryd.func14, Tryd.ntmps14
  go_upto_region 1 with (fail)
  have nb0 : Blk (w.alloc (.cells #[.int .i64 k, .int .i64 p, .int .i64 n, .int .i64 h, .int .u16 s, .slice A dl cap] 26)) (w.heap.size) [.int .i64 k, .int .i64 p, .int .i64 n, .int .i64 h, .int .u16 s, .slice A dl cap] 26 := Blk.new w [.int .i64 k, .int .i64 p, .int .i64 n, .int .i64 h, .int .u16 s, .slice A dl cap] 26
  replace nb0 := nb0.alloc (.cells #[.int .i64 k2, .int .i64 p2, .int .i64 n2, .int .i64 h2, .int .u16 s2, .slice A2 dl2 cap2] 26)
  have nb1 : Blk ((w.alloc (.cells #[.int .i64 k, .int .i64 p, .int .i64 n, .int .i64 h, .int .u16 s, .slice A dl cap] 26)).alloc (.cells #[.int .i64 k2, .int .i64 p2, .int .i64 n2, .int .i64 h2, .int .u16 s2, .slice A2 dl2 cap2] 26)) (w.heap.size + 1) [.int .i64 k2, .int .i64 p2, .int .i64 n2, .int .i64 h2, .int .u16 s2, .slice A2 dl2 cap2] 26 := Blk.nextn (w.alloc (.cells #[.int .i64 k, .int .i64 p, .int .i64 n, .int .i64 h, .int .u16 s, .slice A dl cap] 26)) (w.heap.size + 1) [.int .i64 k2, .int .i64 p2, .int .i64 n2, .int .i64 h2, .int .u16 s2, .slice A2 dl2 cap2] 26 (by simp)
  have nls : Below w.heap.size w w := (Below.refl w.heap.size w)
  have nl0 := nls.alloc nls.size (.cells #[.int .i64 k, .int .i64 p, .int .i64 n, .int .i64 h, .int .u16 s, .slice A dl cap] 26)
  have nl1 := nl0.alloc nl0.size (.cells #[.int .i64 k2, .int .i64 p2, .int .i64 n2, .int .i64 h2, .int .u16 s2, .slice A2 dl2 cap2] 26)
  have nl : Below w.heap.size w ((w.alloc (.cells #[.int .i64 k, .int .i64 p, .int .i64 n, .int .i64 h, .int .u16 s, .slice A dl cap] 26)).alloc (.cells #[.int .i64 k2, .int .i64 p2, .int .i64 n2, .int .i64 h2, .int .u16 s2, .slice A2 dl2 cap2] 26)) := nl1; clear nls nl0 nl1
  obtain ⟨B1_1, hB1⟩ : ∃ B, B = w.heap.size + 1 := ⟨_, rfl⟩
  obtain ⟨B1_0, hB0⟩ : ∃ B, B = w.heap.size := ⟨_, rfl⟩
  obtain ⟨W1, hW⟩ : ∃ W, W = ((w.alloc (.cells #[.int .i64 k, .int .i64 p, .int .i64 n, .int .i64 h, .int .u16 s, .slice A dl cap] 26)).alloc (.cells #[.int .i64 k2, .int .i64 p2, .int .i64 n2, .int .i64 h2, .int .u16 s2, .slice A2 dl2 cap2] 26)) := ⟨_, rfl⟩
  rw [← hW] at nl nb0 nb1
  rw [← hB1] at nb1
  rw [← hB0] at nb0
  rw [← hW]
  try rw [← hB1]
  try rw [← hB0]
  have K1_0 := Lib.hid nb0
  have G1_0 : Hid (w.heap.size ≤ B1_0) := Lib.hid (by have := (Nat.le_refl w.heap.size); omega)
  have K1_1 := Lib.hid nb1
  have G1_1 : Hid (w.heap.size ≤ B1_1) := Lib.hid (by have := (Nat.le_refl w.heap.size); omega)
  have y1_0_1 : B1_0 ≠ B1_1 := by omega
  have Y1_0_1 := Lib.hid y1_0_1; clear y1_0_1
  have L1 := Lib.hid nl
  clear nl hW nb0 hB0 nb1 hB1
  by_cases g0 : k = k2
  · have e0 : (k == k2) = true := by simpa using g0
    have G0 := Lib.hid g0
    clear g0
    by_cases g1 : p = p2
    · have e1 : (p == p2) = true := by simpa using g1
      have G1 := Lib.hid g1
      clear g1
      by_cases g2 : n = n2
      · have e2 : (n == n2) = true := by simpa using g2
        have G2 := Lib.hid g2
        clear g2
        by_cases g3 : h = h2
        · have e3 : (h == h2) = true := by simpa using g3
          have G3 := Lib.hid g3
          clear g3
          by_cases g4 : s = s2
          · have e4 : (s == s2) = true := by simpa using g4
            have G4 := Lib.hid g4
            clear g4
            by_cases hdd : d = d2
            · subst hdd
              have m0_0 : W1.cell? ⟨B1_0, 0, none⟩ = some _ := K1_0.out.cell 0
              have m0_1 : W1.cell? ⟨B1_0, 1, none⟩ = some _ := K1_0.out.cell 1
              have m0_2 : W1.cell? ⟨B1_0, 2, none⟩ = some _ := K1_0.out.cell 2
              have m0_3 : W1.cell? ⟨B1_0, 3, none⟩ = some _ := K1_0.out.cell 3
              have m0_4 : W1.cell? ⟨B1_0, 4, none⟩ = some _ := K1_0.out.cell 4
              have m0_5 : W1.cell? ⟨B1_0, 5, none⟩ = some _ := K1_0.out.cell 5
              have mlt0 : B1_0 < W1.heap.size := K1_0.out.lt
              have m1_0 : W1.cell? ⟨B1_1, 0, none⟩ = some _ := K1_1.out.cell 0
              have m1_1 : W1.cell? ⟨B1_1, 1, none⟩ = some _ := K1_1.out.cell 1
              have m1_2 : W1.cell? ⟨B1_1, 2, none⟩ = some _ := K1_1.out.cell 2
              have m1_3 : W1.cell? ⟨B1_1, 3, none⟩ = some _ := K1_1.out.cell 3
              have m1_4 : W1.cell? ⟨B1_1, 4, none⟩ = some _ := K1_1.out.cell 4
              have m1_5 : W1.cell? ⟨B1_1, 5, none⟩ = some _ := K1_1.out.cell 5
              have mlt1 : B1_1 < W1.heap.size := K1_1.out.lt
              go_wp2_with fail
              clear m0_0 m0_1 m0_2 m0_3 m0_4 m0_5 mlt0 m1_0 m1_1 m1_2 m1_3 m1_4 m1_5 mlt1
              refine (equal_any _ _ _ _ _ _ _ _ _ (HD.out.below L1.out) (HD2.out.below L1.out)).mono ?_
              rintro e wx ⟨rfl, rfl⟩
              go_wp2
              go_ret
              exact ⟨ret_bool (by have := G0.out; have := G1.out; have := G2.out; have := G3.out; have := G4.out; rw [HQ.out, decide_eq_true (by simp <;> omega)]; try simp), L1.out⟩
            · have m0_0 : W1.cell? ⟨B1_0, 0, none⟩ = some _ := K1_0.out.cell 0
              have m0_1 : W1.cell? ⟨B1_0, 1, none⟩ = some _ := K1_0.out.cell 1
              have m0_2 : W1.cell? ⟨B1_0, 2, none⟩ = some _ := K1_0.out.cell 2
              have m0_3 : W1.cell? ⟨B1_0, 3, none⟩ = some _ := K1_0.out.cell 3
              have m0_4 : W1.cell? ⟨B1_0, 4, none⟩ = some _ := K1_0.out.cell 4
              have m0_5 : W1.cell? ⟨B1_0, 5, none⟩ = some _ := K1_0.out.cell 5
              have mlt0 : B1_0 < W1.heap.size := K1_0.out.lt
              have m1_0 : W1.cell? ⟨B1_1, 0, none⟩ = some _ := K1_1.out.cell 0
              have m1_1 : W1.cell? ⟨B1_1, 1, none⟩ = some _ := K1_1.out.cell 1
              have m1_2 : W1.cell? ⟨B1_1, 2, none⟩ = some _ := K1_1.out.cell 2
              have m1_3 : W1.cell? ⟨B1_1, 3, none⟩ = some _ := K1_1.out.cell 3
              have m1_4 : W1.cell? ⟨B1_1, 4, none⟩ = some _ := K1_1.out.cell 4
              have m1_5 : W1.cell? ⟨B1_1, 5, none⟩ = some _ := K1_1.out.cell 5
              have mlt1 : B1_1 < W1.heap.size := K1_1.out.lt
              go_wp2_with fail
              clear m0_0 m0_1 m0_2 m0_3 m0_4 m0_5 mlt0 m1_0 m1_1 m1_2 m1_3 m1_4 m1_5 mlt1
              refine (equal_any _ _ _ _ _ _ _ _ _ (HD.out.below L1.out) (HD2.out.below L1.out)).mono ?_
              rintro e wx ⟨rfl, rfl⟩
              go_wp2
              go_ret
              exact ⟨ret_bool (by rw [HQ.out, decide_eq_false (fun h => hdd h.2.2.2.2.2)] <;> first | exact decide_eq_false hdd | exact HS.out), L1.out⟩
          · have e4 : (s == s2) = false := by simpa using g4
            have m0_0 : W1.cell? ⟨B1_0, 0, none⟩ = some _ := K1_0.out.cell 0
            have m0_1 : W1.cell? ⟨B1_0, 1, none⟩ = some _ := K1_0.out.cell 1
            have m0_2 : W1.cell? ⟨B1_0, 2, none⟩ = some _ := K1_0.out.cell 2
            have m0_3 : W1.cell? ⟨B1_0, 3, none⟩ = some _ := K1_0.out.cell 3
            have m0_4 : W1.cell? ⟨B1_0, 4, none⟩ = some _ := K1_0.out.cell 4
            have m0_5 : W1.cell? ⟨B1_0, 5, none⟩ = some _ := K1_0.out.cell 5
            have mlt0 : B1_0 < W1.heap.size := K1_0.out.lt
            have m1_0 : W1.cell? ⟨B1_1, 0, none⟩ = some _ := K1_1.out.cell 0
            have m1_1 : W1.cell? ⟨B1_1, 1, none⟩ = some _ := K1_1.out.cell 1
            have m1_2 : W1.cell? ⟨B1_1, 2, none⟩ = some _ := K1_1.out.cell 2
            have m1_3 : W1.cell? ⟨B1_1, 3, none⟩ = some _ := K1_1.out.cell 3
            have m1_4 : W1.cell? ⟨B1_1, 4, none⟩ = some _ := K1_1.out.cell 4
            have m1_5 : W1.cell? ⟨B1_1, 5, none⟩ = some _ := K1_1.out.cell 5
            have mlt1 : B1_1 < W1.heap.size := K1_1.out.lt
            go_wp2
            clear m0_0 m0_1 m0_2 m0_3 m0_4 m0_5 mlt0 m1_0 m1_1 m1_2 m1_3 m1_4 m1_5 mlt1
            go_ret
            exact ⟨ret_bool (by rw [HQ.out, decide_eq_false (fun h => g4 h.2.2.2.2.1)]), L1.out⟩
        · have e3 : (h == h2) = false := by simpa using g3
          have m0_0 : W1.cell? ⟨B1_0, 0, none⟩ = some _ := K1_0.out.cell 0
          have m0_1 : W1.cell? ⟨B1_0, 1, none⟩ = some _ := K1_0.out.cell 1
          have m0_2 : W1.cell? ⟨B1_0, 2, none⟩ = some _ := K1_0.out.cell 2
          have m0_3 : W1.cell? ⟨B1_0, 3, none⟩ = some _ := K1_0.out.cell 3
          have m0_4 : W1.cell? ⟨B1_0, 4, none⟩ = some _ := K1_0.out.cell 4
          have m0_5 : W1.cell? ⟨B1_0, 5, none⟩ = some _ := K1_0.out.cell 5
          have mlt0 : B1_0 < W1.heap.size := K1_0.out.lt
          have m1_0 : W1.cell? ⟨B1_1, 0, none⟩ = some _ := K1_1.out.cell 0
          have m1_1 : W1.cell? ⟨B1_1, 1, none⟩ = some _ := K1_1.out.cell 1
          have m1_2 : W1.cell? ⟨B1_1, 2, none⟩ = some _ := K1_1.out.cell 2
          have m1_3 : W1.cell? ⟨B1_1, 3, none⟩ = some _ := K1_1.out.cell 3
          have m1_4 : W1.cell? ⟨B1_1, 4, none⟩ = some _ := K1_1.out.cell 4
          have m1_5 : W1.cell? ⟨B1_1, 5, none⟩ = some _ := K1_1.out.cell 5
          have mlt1 : B1_1 < W1.heap.size := K1_1.out.lt
          go_wp2
          clear m0_0 m0_1 m0_2 m0_3 m0_4 m0_5 mlt0 m1_0 m1_1 m1_2 m1_3 m1_4 m1_5 mlt1
          go_ret
          exact ⟨ret_bool (by rw [HQ.out, decide_eq_false (fun h => g3 h.2.2.2.1)]), L1.out⟩
      · have e2 : (n == n2) = false := by simpa using g2
        have m0_0 : W1.cell? ⟨B1_0, 0, none⟩ = some _ := K1_0.out.cell 0
        have m0_1 : W1.cell? ⟨B1_0, 1, none⟩ = some _ := K1_0.out.cell 1
        have m0_2 : W1.cell? ⟨B1_0, 2, none⟩ = some _ := K1_0.out.cell 2
        have m0_3 : W1.cell? ⟨B1_0, 3, none⟩ = some _ := K1_0.out.cell 3
        have m0_4 : W1.cell? ⟨B1_0, 4, none⟩ = some _ := K1_0.out.cell 4
        have m0_5 : W1.cell? ⟨B1_0, 5, none⟩ = some _ := K1_0.out.cell 5
        have mlt0 : B1_0 < W1.heap.size := K1_0.out.lt
        have m1_0 : W1.cell? ⟨B1_1, 0, none⟩ = some _ := K1_1.out.cell 0
        have m1_1 : W1.cell? ⟨B1_1, 1, none⟩ = some _ := K1_1.out.cell 1
        have m1_2 : W1.cell? ⟨B1_1, 2, none⟩ = some _ := K1_1.out.cell 2
        have m1_3 : W1.cell? ⟨B1_1, 3, none⟩ = some _ := K1_1.out.cell 3
        have m1_4 : W1.cell? ⟨B1_1, 4, none⟩ = some _ := K1_1.out.cell 4
        have m1_5 : W1.cell? ⟨B1_1, 5, none⟩ = some _ := K1_1.out.cell 5
        have mlt1 : B1_1 < W1.heap.size := K1_1.out.lt
        go_wp2
        clear m0_0 m0_1 m0_2 m0_3 m0_4 m0_5 mlt0 m1_0 m1_1 m1_2 m1_3 m1_4 m1_5 mlt1
        go_ret
        exact ⟨ret_bool (by rw [HQ.out, decide_eq_false (fun h => g2 h.2.2.1)]), L1.out⟩
    · have e1 : (p == p2) = false := by simpa using g1
      have m0_0 : W1.cell? ⟨B1_0, 0, none⟩ = some _ := K1_0.out.cell 0
      have m0_1 : W1.cell? ⟨B1_0, 1, none⟩ = some _ := K1_0.out.cell 1
      have m0_2 : W1.cell? ⟨B1_0, 2, none⟩ = some _ := K1_0.out.cell 2
      have m0_3 : W1.cell? ⟨B1_0, 3, none⟩ = some _ := K1_0.out.cell 3
      have m0_4 : W1.cell? ⟨B1_0, 4, none⟩ = some _ := K1_0.out.cell 4
      have m0_5 : W1.cell? ⟨B1_0, 5, none⟩ = some _ := K1_0.out.cell 5
      have mlt0 : B1_0 < W1.heap.size := K1_0.out.lt
      have m1_0 : W1.cell? ⟨B1_1, 0, none⟩ = some _ := K1_1.out.cell 0
      have m1_1 : W1.cell? ⟨B1_1, 1, none⟩ = some _ := K1_1.out.cell 1
      have m1_2 : W1.cell? ⟨B1_1, 2, none⟩ = some _ := K1_1.out.cell 2
      have m1_3 : W1.cell? ⟨B1_1, 3, none⟩ = some _ := K1_1.out.cell 3
      have m1_4 : W1.cell? ⟨B1_1, 4, none⟩ = some _ := K1_1.out.cell 4
      have m1_5 : W1.cell? ⟨B1_1, 5, none⟩ = some _ := K1_1.out.cell 5
      have mlt1 : B1_1 < W1.heap.size := K1_1.out.lt
      go_wp2
      clear m0_0 m0_1 m0_2 m0_3 m0_4 m0_5 mlt0 m1_0 m1_1 m1_2 m1_3 m1_4 m1_5 mlt1
      go_ret
      exact ⟨ret_bool (by rw [HQ.out, decide_eq_false (fun h => g1 h.2.1)]), L1.out⟩
  · have e0 : (k == k2) = false := by simpa using g0
    have m0_0 : W1.cell? ⟨B1_0, 0, none⟩ = some _ := K1_0.out.cell 0
    have m0_1 : W1.cell? ⟨B1_0, 1, none⟩ = some _ := K1_0.out.cell 1
    have m0_2 : W1.cell? ⟨B1_0, 2, none⟩ = some _ := K1_0.out.cell 2
    have m0_3 : W1.cell? ⟨B1_0, 3, none⟩ = some _ := K1_0.out.cell 3
    have m0_4 : W1.cell? ⟨B1_0, 4, none⟩ = some _ := K1_0.out.cell 4
    have m0_5 : W1.cell? ⟨B1_0, 5, none⟩ = some _ := K1_0.out.cell 5
    have mlt0 : B1_0 < W1.heap.size := K1_0.out.lt
    have m1_0 : W1.cell? ⟨B1_1, 0, none⟩ = some _ := K1_1.out.cell 0
    have m1_1 : W1.cell? ⟨B1_1, 1, none⟩ = some _ := K1_1.out.cell 1
    have m1_2 : W1.cell? ⟨B1_1, 2, none⟩ = some _ := K1_1.out.cell 2
    have m1_3 : W1.cell? ⟨B1_1, 3, none⟩ = some _ := K1_1.out.cell 3
    have m1_4 : W1.cell? ⟨B1_1, 4, none⟩ = some _ := K1_1.out.cell 4
    have m1_5 : W1.cell? ⟨B1_1, 5, none⟩ = some _ := K1_1.out.cell 5
    have mlt1 : B1_1 < W1.heap.size := K1_1.out.lt
    go_wp2
    clear m0_0 m0_1 m0_2 m0_3 m0_4 m0_5 mlt0 m1_0 m1_1 m1_2 m1_3 m1_4 m1_5 mlt1
    go_ret
    exact ⟨ret_bool (by rw [HQ.out, decide_eq_false (fun h => g0 h.1)]), L1.out⟩
set_option maxHeartbeats 4000000 in
theorem rsame_any (k p n h s k2 p2 n2 h2 s2 : Int) (A A2 : Option Addr) (dl cap dl2 cap2 : Nat) (d d2 : List Int) (w : World) (hd : Dat w A dl cap d) (hd2 : Dat w A2 dl2 cap2 d2) : Calls Tryd.prog 13 #[.agg #[.int .i64 k, .int .i64 p, .int .i64 n, .int .i64 h, .int .u16 s, .slice A dl cap], .agg #[.int .i64 k2, .int .i64 p2, .int .i64 n2, .int .i64 h2, .int .u16 s2, .slice A2 dl2 cap2]] w fun e w' => e = .returned (.bool (sameM ⟨k, p, n, h, s, d⟩ ⟨k2, p2, n2, h2, s2, d2⟩)) ∧ Below w.heap.size w w' := by
  obtain ⟨Q, hQ⟩ : ∃ Q, Q = sameM ⟨k, p, n, h, s, d⟩ ⟨k2, p2, n2, h2, s2, d2⟩ := ⟨_, rfl⟩
  rw [← hQ]
  unfold sameM at hQ
  dsimp only at hQ
  have HQ := Lib.hid hQ; have HD := Lib.hid hd; have HD2 := Lib.hid hd2
  clear hQ hd hd2
  go_enter Tryd.func13, Tryd.ntmps13
  go_upto_region 1 with (fail)
  have nb0 : Blk (w.alloc (.cells #[.int .i64 k, .int .i64 p, .int .i64 n, .int .i64 h, .int .u16 s, .slice A dl cap] 26)) (w.heap.size) [.int .i64 k, .int .i64 p, .int .i64 n, .int .i64 h, .int .u16 s, .slice A dl cap] 26 := Blk.new w [.int .i64 k, .int .i64 p, .int .i64 n, .int .i64 h, .int .u16 s, .slice A dl cap] 26
  replace nb0 := nb0.alloc (.cells #[.int .i64 k2, .int .i64 p2, .int .i64 n2, .int .i64 h2, .int .u16 s2, .slice A2 dl2 cap2] 26)
  have nb1 : Blk ((w.alloc (.cells #[.int .i64 k, .int .i64 p, .int .i64 n, .int .i64 h, .int .u16 s, .slice A dl cap] 26)).alloc (.cells #[.int .i64 k2, .int .i64 p2, .int .i64 n2, .int .i64 h2, .int .u16 s2, .slice A2 dl2 cap2] 26)) (w.heap.size + 1) [.int .i64 k2, .int .i64 p2, .int .i64 n2, .int .i64 h2, .int .u16 s2, .slice A2 dl2 cap2] 26 := Blk.nextn (w.alloc (.cells #[.int .i64 k, .int .i64 p, .int .i64 n, .int .i64 h, .int .u16 s, .slice A dl cap] 26)) (w.heap.size + 1) [.int .i64 k2, .int .i64 p2, .int .i64 n2, .int .i64 h2, .int .u16 s2, .slice A2 dl2 cap2] 26 (by simp)
  have nls : Below w.heap.size w w := (Below.refl w.heap.size w)
  have nl0 := nls.alloc nls.size (.cells #[.int .i64 k, .int .i64 p, .int .i64 n, .int .i64 h, .int .u16 s, .slice A dl cap] 26)
  have nl1 := nl0.alloc nl0.size (.cells #[.int .i64 k2, .int .i64 p2, .int .i64 n2, .int .i64 h2, .int .u16 s2, .slice A2 dl2 cap2] 26)
  have nl : Below w.heap.size w ((w.alloc (.cells #[.int .i64 k, .int .i64 p, .int .i64 n, .int .i64 h, .int .u16 s, .slice A dl cap] 26)).alloc (.cells #[.int .i64 k2, .int .i64 p2, .int .i64 n2, .int .i64 h2, .int .u16 s2, .slice A2 dl2 cap2] 26)) := nl1; clear nls nl0 nl1
  obtain ⟨B1_1, hB1⟩ : ∃ B, B = w.heap.size + 1 := ⟨_, rfl⟩
  obtain ⟨B1_0, hB0⟩ : ∃ B, B = w.heap.size := ⟨_, rfl⟩
  obtain ⟨W1, hW⟩ : ∃ W, W = ((w.alloc (.cells #[.int .i64 k, .int .i64 p, .int .i64 n, .int .i64 h, .int .u16 s, .slice A dl cap] 26)).alloc (.cells #[.int .i64 k2, .int .i64 p2, .int .i64 n2, .int .i64 h2, .int .u16 s2, .slice A2 dl2 cap2] 26)) := ⟨_, rfl⟩
  rw [← hW] at nl nb0 nb1
  rw [← hB1] at nb1
  rw [← hB0] at nb0
  rw [← hW]
  try rw [← hB1]
  try rw [← hB0]
  have K1_0 := Lib.hid nb0
  have G1_0 : Hid (w.heap.size ≤ B1_0) := Lib.hid (by have := (Nat.le_refl w.heap.size); omega)
  have K1_1 := Lib.hid nb1
  have G1_1 : Hid (w.heap.size ≤ B1_1) := Lib.hid (by have := (Nat.le_refl w.heap.size); omega)
  have y1_0_1 : B1_0 ≠ B1_1 := by omega
  have Y1_0_1 := Lib.hid y1_0_1; clear y1_0_1
  have L1 := Lib.hid nl
  clear nl hW nb0 hB0 nb1 hB1
  by_cases g0 : k = k2
  · have e0 : (k == k2) = true := by simpa using g0
    have G0 := Lib.hid g0
    clear g0
    by_cases g1 : p = p2
    · have e1 : (p == p2) = true := by simpa using g1
      have G1 := Lib.hid g1
      clear g1
      by_cases g2 : n = n2
      · have e2 : (n == n2) = true := by simpa using g2
        have G2 := Lib.hid g2
        clear g2
        by_cases g3 : h = h2
        · have e3 : (h == h2) = true := by simpa using g3
          have G3 := Lib.hid g3
          clear g3
          by_cases g4 : s = s2
          · have e4 : (s == s2) = true := by simpa using g4
            have G4 := Lib.hid g4
            clear g4
            by_cases hdd : d = d2
            · subst hdd
              have hc1 := (HD.out.below L1.out).rd.conv dl cap HD.out.len
              have hc2 := (HD2.out.below L1.out).rd.conv dl2 cap2 HD2.out.len
              have m0_0 : W1.cell? ⟨B1_0, 0, none⟩ = some _ := K1_0.out.cell 0
              have m0_1 : W1.cell? ⟨B1_0, 1, none⟩ = some _ := K1_0.out.cell 1
              have m0_2 : W1.cell? ⟨B1_0, 2, none⟩ = some _ := K1_0.out.cell 2
              have m0_3 : W1.cell? ⟨B1_0, 3, none⟩ = some _ := K1_0.out.cell 3
              have m0_4 : W1.cell? ⟨B1_0, 4, none⟩ = some _ := K1_0.out.cell 4
              have m0_5 : W1.cell? ⟨B1_0, 5, none⟩ = some _ := K1_0.out.cell 5
              have mlt0 : B1_0 < W1.heap.size := K1_0.out.lt
              have m1_0 : W1.cell? ⟨B1_1, 0, none⟩ = some _ := K1_1.out.cell 0
              have m1_1 : W1.cell? ⟨B1_1, 1, none⟩ = some _ := K1_1.out.cell 1
              have m1_2 : W1.cell? ⟨B1_1, 2, none⟩ = some _ := K1_1.out.cell 2
              have m1_3 : W1.cell? ⟨B1_1, 3, none⟩ = some _ := K1_1.out.cell 3
              have m1_4 : W1.cell? ⟨B1_1, 4, none⟩ = some _ := K1_1.out.cell 4
              have m1_5 : W1.cell? ⟨B1_1, 5, none⟩ = some _ := K1_1.out.cell 5
              have mlt1 : B1_1 < W1.heap.size := K1_1.out.lt
              go_wp2
              clear m0_0 m0_1 m0_2 m0_3 m0_4 m0_5 mlt0 m1_0 m1_1 m1_2 m1_3 m1_4 m1_5 mlt1
              go_ret
              exact ⟨ret_bool (by have := G0.out; have := G1.out; have := G2.out; have := G3.out; have := G4.out; rw [HQ.out, decide_eq_true (by simp <;> omega)]; try simp), L1.out⟩
            · have hs : ((strOfNums d).toList == (strOfNums d2).toList) = false := by
                rw [Lib.bytes_beq_false_iff]; exact fun e => hdd (str_inj HD.out.rd.1 HD2.out.rd.1 e)
              have HS := Lib.hid hs
              clear hs
              have hc1 := (HD.out.below L1.out).rd.conv dl cap HD.out.len
              have hc2 := (HD2.out.below L1.out).rd.conv dl2 cap2 HD2.out.len
              have m0_0 : W1.cell? ⟨B1_0, 0, none⟩ = some _ := K1_0.out.cell 0
              have m0_1 : W1.cell? ⟨B1_0, 1, none⟩ = some _ := K1_0.out.cell 1
              have m0_2 : W1.cell? ⟨B1_0, 2, none⟩ = some _ := K1_0.out.cell 2
              have m0_3 : W1.cell? ⟨B1_0, 3, none⟩ = some _ := K1_0.out.cell 3
              have m0_4 : W1.cell? ⟨B1_0, 4, none⟩ = some _ := K1_0.out.cell 4
              have m0_5 : W1.cell? ⟨B1_0, 5, none⟩ = some _ := K1_0.out.cell 5
              have mlt0 : B1_0 < W1.heap.size := K1_0.out.lt
              have m1_0 : W1.cell? ⟨B1_1, 0, none⟩ = some _ := K1_1.out.cell 0
              have m1_1 : W1.cell? ⟨B1_1, 1, none⟩ = some _ := K1_1.out.cell 1
              have m1_2 : W1.cell? ⟨B1_1, 2, none⟩ = some _ := K1_1.out.cell 2
              have m1_3 : W1.cell? ⟨B1_1, 3, none⟩ = some _ := K1_1.out.cell 3
              have m1_4 : W1.cell? ⟨B1_1, 4, none⟩ = some _ := K1_1.out.cell 4
              have m1_5 : W1.cell? ⟨B1_1, 5, none⟩ = some _ := K1_1.out.cell 5
              have mlt1 : B1_1 < W1.heap.size := K1_1.out.lt
              go_wp2
              clear m0_0 m0_1 m0_2 m0_3 m0_4 m0_5 mlt0 m1_0 m1_1 m1_2 m1_3 m1_4 m1_5 mlt1
              go_ret
              exact ⟨ret_bool (by rw [HQ.out, decide_eq_false (fun h => hdd h.2.2.2.2.2)] <;> first | exact decide_eq_false hdd | exact HS.out), L1.out⟩
          · have e4 : (s == s2) = false := by simpa using g4
            have m0_0 : W1.cell? ⟨B1_0, 0, none⟩ = some _ := K1_0.out.cell 0
            have m0_1 : W1.cell? ⟨B1_0, 1, none⟩ = some _ := K1_0.out.cell 1
            have m0_2 : W1.cell? ⟨B1_0, 2, none⟩ = some _ := K1_0.out.cell 2
            have m0_3 : W1.cell? ⟨B1_0, 3, none⟩ = some _ := K1_0.out.cell 3
            have m0_4 : W1.cell? ⟨B1_0, 4, none⟩ = some _ := K1_0.out.cell 4
            have m0_5 : W1.cell? ⟨B1_0, 5, none⟩ = some _ := K1_0.out.cell 5
            have mlt0 : B1_0 < W1.heap.size := K1_0.out.lt
            have m1_0 : W1.cell? ⟨B1_1, 0, none⟩ = some _ := K1_1.out.cell 0
            have m1_1 : W1.cell? ⟨B1_1, 1, none⟩ = some _ := K1_1.out.cell 1
            have m1_2 : W1.cell? ⟨B1_1, 2, none⟩ = some _ := K1_1.out.cell 2
            have m1_3 : W1.cell? ⟨B1_1, 3, none⟩ = some _ := K1_1.out.cell 3
            have m1_4 : W1.cell? ⟨B1_1, 4, none⟩ = some _ := K1_1.out.cell 4
            have m1_5 : W1.cell? ⟨B1_1, 5, none⟩ = some _ := K1_1.out.cell 5
            have mlt1 : B1_1 < W1.heap.size := K1_1.out.lt
            go_wp2
            clear m0_0 m0_1 m0_2 m0_3 m0_4 m0_5 mlt0 m1_0 m1_1 m1_2 m1_3 m1_4 m1_5 mlt1
            go_ret
            exact ⟨ret_bool (by rw [HQ.out, decide_eq_false (fun h => g4 h.2.2.2.2.1)]), L1.out⟩
        · have e3 : (h == h2) = false := by simpa using g3
          have m0_0 : W1.cell? ⟨B1_0, 0, none⟩ = some _ := K1_0.out.cell 0
          have m0_1 : W1.cell? ⟨B1_0, 1, none⟩ = some _ := K1_0.out.cell 1
          have m0_2 : W1.cell? ⟨B1_0, 2, none⟩ = some _ := K1_0.out.cell 2
          have m0_3 : W1.cell? ⟨B1_0, 3, none⟩ = some _ := K1_0.out.cell 3
          have m0_4 : W1.cell? ⟨B1_0, 4, none⟩ = some _ := K1_0.out.cell 4
          have m0_5 : W1.cell? ⟨B1_0, 5, none⟩ = some _ := K1_0.out.cell 5
          have mlt0 : B1_0 < W1.heap.size := K1_0.out.lt
          have m1_0 : W1.cell? ⟨B1_1, 0, none⟩ = some _ := K1_1.out.cell 0
          have m1_1 : W1.cell? ⟨B1_1, 1, none⟩ = some _ := K1_1.out.cell 1
          have m1_2 : W1.cell? ⟨B1_1, 2, none⟩ = some _ := K1_1.out.cell 2
          have m1_3 : W1.cell? ⟨B1_1, 3, none⟩ = some _ := K1_1.out.cell 3
          have m1_4 : W1.cell? ⟨B1_1, 4, none⟩ = some _ := K1_1.out.cell 4
          have m1_5 : W1.cell? ⟨B1_1, 5, none⟩ = some _ := K1_1.out.cell 5
          have mlt1 : B1_1 < W1.heap.size := K1_1.out.lt
          go_wp2
          clear m0_0 m0_1 m0_2 m0_3 m0_4 m0_5 mlt0 m1_0 m1_1 m1_2 m1_3 m1_4 m1_5 mlt1
          go_ret
          exact ⟨ret_bool (by rw [HQ.out, decide_eq_false (fun h => g3 h.2.2.2.1)]), L1.out⟩
      · have e2 : (n == n2) = false := by simpa using g2
        have m0_0 : W1.cell? ⟨B1_0, 0, none⟩ = some _ := K1_0.out.cell 0
        have m0_1 : W1.cell? ⟨B1_0, 1, none⟩ = some _ := K1_0.out.cell 1
        have m0_2 : W1.cell? ⟨B1_0, 2, none⟩ = some _ := K1_0.out.cell 2
        have m0_3 : W1.cell? ⟨B1_0, 3, none⟩ = some _ := K1_0.out.cell 3
        have m0_4 : W1.cell? ⟨B1_0, 4, none⟩ = some _ := K1_0.out.cell 4
        have m0_5 : W1.cell? ⟨B1_0, 5, none⟩ = some _ := K1_0.out.cell 5
        have mlt0 : B1_0 < W1.heap.size := K1_0.out.lt
        have m1_0 : W1.cell? ⟨B1_1, 0, none⟩ = some _ := K1_1.out.cell 0
        have m1_1 : W1.cell? ⟨B1_1, 1, none⟩ = some _ := K1_1.out.cell 1
        have m1_2 : W1.cell? ⟨B1_1, 2, none⟩ = some _ := K1_1.out.cell 2
        have m1_3 : W1.cell? ⟨B1_1, 3, none⟩ = some _ := K1_1.out.cell 3
        have m1_4 : W1.cell? ⟨B1_1, 4, none⟩ = some _ := K1_1.out.cell 4
        have m1_5 : W1.cell? ⟨B1_1, 5, none⟩ = some _ := K1_1.out.cell 5
        have mlt1 : B1_1 < W1.heap.size := K1_1.out.lt
        go_wp2
        clear m0_0 m0_1 m0_2 m0_3 m0_4 m0_5 mlt0 m1_0 m1_1 m1_2 m1_3 m1_4 m1_5 mlt1
        go_ret
        exact ⟨ret_bool (by rw [HQ.out, decide_eq_false (fun h => g2 h.2.2.1)]), L1.out⟩
    · have e1 : (p == p2) = false := by simpa using g1
      have m0_0 : W1.cell? ⟨B1_0, 0, none⟩ = some _ := K1_0.out.cell 0
      have m0_1 : W1.cell? ⟨B1_0, 1, none⟩ = some _ := K1_0.out.cell 1
      have m0_2 : W1.cell? ⟨B1_0, 2, none⟩ = some _ := K1_0.out.cell 2
      have m0_3 : W1.cell? ⟨B1_0, 3, none⟩ = some _ := K1_0.out.cell 3
      have m0_4 : W1.cell? ⟨B1_0, 4, none⟩ = some _ := K1_0.out.cell 4
      have m0_5 : W1.cell? ⟨B1_0, 5, none⟩ = some _ := K1_0.out.cell 5
      have mlt0 : B1_0 < W1.heap.size := K1_0.out.lt
      have m1_0 : W1.cell? ⟨B1_1, 0, none⟩ = some _ := K1_1.out.cell 0
      have m1_1 : W1.cell? ⟨B1_1, 1, none⟩ = some _ := K1_1.out.cell 1
      have m1_2 : W1.cell? ⟨B1_1, 2, none⟩ = some _ := K1_1.out.cell 2
      have m1_3 : W1.cell? ⟨B1_1, 3, none⟩ = some _ := K1_1.out.cell 3
      have m1_4 : W1.cell? ⟨B1_1, 4, none⟩ = some _ := K1_1.out.cell 4
      have m1_5 : W1.cell? ⟨B1_1, 5, none⟩ = some _ := K1_1.out.cell 5
      have mlt1 : B1_1 < W1.heap.size := K1_1.out.lt
      go_wp2
      clear m0_0 m0_1 m0_2 m0_3 m0_4 m0_5 mlt0 m1_0 m1_1 m1_2 m1_3 m1_4 m1_5 mlt1
      go_ret
      exact ⟨ret_bool (by rw [HQ.out, decide_eq_false (fun h => g1 h.2.1)]), L1.out⟩
  · have e0 : (k == k2) = false := by simpa using g0
    have m0_0 : W1.cell? ⟨B1_0, 0, none⟩ = some _ := K1_0.out.cell 0
    have m0_1 : W1.cell? ⟨B1_0, 1, none⟩ = some _ := K1_0.out.cell 1
    have m0_2 : W1.cell? ⟨B1_0, 2, none⟩ = some _ := K1_0.out.cell 2
    have m0_3 : W1.cell? ⟨B1_0, 3, none⟩ = some _ := K1_0.out.cell 3
    have m0_4 : W1.cell? ⟨B1_0, 4, none⟩ = some _ := K1_0.out.cell 4
    have m0_5 : W1.cell? ⟨B1_0, 5, none⟩ = some _ := K1_0.out.cell 5
    have mlt0 : B1_0 < W1.heap.size := K1_0.out.lt
    have m1_0 : W1.cell? ⟨B1_1, 0, none⟩ = some _ := K1_1.out.cell 0
    have m1_1 : W1.cell? ⟨B1_1, 1, none⟩ = some _ := K1_1.out.cell 1
    have m1_2 : W1.cell? ⟨B1_1, 2, none⟩ = some _ := K1_1.out.cell 2
    have m1_3 : W1.cell? ⟨B1_1, 3, none⟩ = some _ := K1_1.out.cell 3
    have m1_4 : W1.cell? ⟨B1_1, 4, none⟩ = some _ := K1_1.out.cell 4
    have m1_5 : W1.cell? ⟨B1_1, 5, none⟩ = some _ := K1_1.out.cell 5
    have mlt1 : B1_1 < W1.heap.size := K1_1.out.lt
    go_wp2
    clear m0_0 m0_1 m0_2 m0_3 m0_4 m0_5 mlt0 m1_0 m1_1 m1_2 m1_3 m1_4 m1_5 mlt1
    go_ret
    exact ⟨ret_bool (by rw [HQ.out, decide_eq_false (fun h => g0 h.1)]), L1.out⟩
end Go.Proofs.YtkddhjbdijegoaaDoor
