/-
  What Same of package wire and of package runrigref16 answers: contracts over the translation. Each says its own conditions.
-/
import Derived.Test.YtmdfopbigkfbnaaDoorDat16
namespace Go.Proofs.YtmdfopbigkfbnaaDoor
open Go.RowKit
set_option linter.unusedVariables false
set_option linter.unusedSimpArgs false
attribute [local go_sem] setCell_drewN alloc_drewN

set_option maxHeartbeats 4000000 in
theorem same_any (f t : Int) (bb : Bool) (s a f2 t2 : Int) (b2 : Bool) (s2 a2 : Int) (A A2 : Option Addr) (dl cap dl2 cap2 : Nat) (d d2 : List Int) (w : World) (hd : Dat w A dl cap d) (hd2 : Dat w A2 dl2 cap2 d2) : Calls Tryd.prog 13 #[.agg #[.int .i64 f, .int .i64 t, .bool bb, .int .u64 s, .int .u64 a, .slice A dl cap], .agg #[.int .i64 f2, .int .i64 t2, .bool b2, .int .u64 s2, .int .u64 a2, .slice A2 dl2 cap2]] w fun e w' => e = .returned (.bool (sameF ⟨f, t, bb, s, a, d⟩ ⟨f2, t2, b2, s2, a2, d2⟩)) ∧ Below w.heap.size w w' := by
  obtain ⟨Q, hQ⟩ : ∃ Q, Q = sameF ⟨f, t, bb, s, a, d⟩ ⟨f2, t2, b2, s2, a2, d2⟩ := ⟨_, rfl⟩
  rw [← hQ]
  unfold sameF at hQ
  dsimp only at hQ
  have HQ := Lib.hid hQ; have HD := Lib.hid hd; have HD2 := Lib.hid hd2
  clear hQ hd hd2
  go_enter Tryd.func13, Tryd.ntmps13
  go_upto_region 1 with (fail)
  have nb0 : Blk (w.alloc (.cells #[.int .i64 f, .int .i64 t, .bool bb, .int .u64 s, .int .u64 a, .slice A dl cap] 25)) (w.heap.size) [.int .i64 f, .int .i64 t, .bool bb, .int .u64 s, .int .u64 a, .slice A dl cap] 25 := Blk.new w [.int .i64 f, .int .i64 t, .bool bb, .int .u64 s, .int .u64 a, .slice A dl cap] 25
  replace nb0 := nb0.alloc (.cells #[.int .i64 f2, .int .i64 t2, .bool b2, .int .u64 s2, .int .u64 a2, .slice A2 dl2 cap2] 25)
  have nb1 : Blk ((w.alloc (.cells #[.int .i64 f, .int .i64 t, .bool bb, .int .u64 s, .int .u64 a, .slice A dl cap] 25)).alloc (.cells #[.int .i64 f2, .int .i64 t2, .bool b2, .int .u64 s2, .int .u64 a2, .slice A2 dl2 cap2] 25)) (w.heap.size + 1) [.int .i64 f2, .int .i64 t2, .bool b2, .int .u64 s2, .int .u64 a2, .slice A2 dl2 cap2] 25 := Blk.nextn (w.alloc (.cells #[.int .i64 f, .int .i64 t, .bool bb, .int .u64 s, .int .u64 a, .slice A dl cap] 25)) (w.heap.size + 1) [.int .i64 f2, .int .i64 t2, .bool b2, .int .u64 s2, .int .u64 a2, .slice A2 dl2 cap2] 25 (by simp)
  have nls : Below w.heap.size w w := (Below.refl w.heap.size w)
  have nl0 := nls.alloc nls.size (.cells #[.int .i64 f, .int .i64 t, .bool bb, .int .u64 s, .int .u64 a, .slice A dl cap] 25)
  have nl1 := nl0.alloc nl0.size (.cells #[.int .i64 f2, .int .i64 t2, .bool b2, .int .u64 s2, .int .u64 a2, .slice A2 dl2 cap2] 25)
  have nl : Below w.heap.size w ((w.alloc (.cells #[.int .i64 f, .int .i64 t, .bool bb, .int .u64 s, .int .u64 a, .slice A dl cap] 25)).alloc (.cells #[.int .i64 f2, .int .i64 t2, .bool b2, .int .u64 s2, .int .u64 a2, .slice A2 dl2 cap2] 25)) := nl1; clear nls nl0 nl1
  obtain ⟨B1_1, hB1⟩ : ∃ B, B = w.heap.size + 1 := ⟨_, rfl⟩
  obtain ⟨B1_0, hB0⟩ : ∃ B, B = w.heap.size := ⟨_, rfl⟩
  obtain ⟨W1, hW⟩ : ∃ W, W = ((w.alloc (.cells #[.int .i64 f, .int .i64 t, .bool bb, .int .u64 s, .int .u64 a, .slice A dl cap] 25)).alloc (.cells #[.int .i64 f2, .int .i64 t2, .bool b2, .int .u64 s2, .int .u64 a2, .slice A2 dl2 cap2] 25)) := ⟨_, rfl⟩
  rw [← hW] at nl nb0 nb1
  rw [← hB1] at nb1
  rw [← hB0] at nb0
  rw [← hW]
  try rw [← hB1]
  try rw [← hB0]
  have K1_0 := Lib.hid nb0
  have G1_0 : Hid (w.heap.size ≤ B1_0) := Lib.hid (by have := (Nat.le_refl w.heap.size); omega)
  have K1_1 := Lib.hid nb1
  have G1_1 : Hid (w.heap.size ≤ B1_1) := Lib.hid (by have := (Nat.le_refl w.heap.size); omega)
  have y1_0_1 : B1_0 ≠ B1_1 := by omega
  have Y1_0_1 := Lib.hid y1_0_1; clear y1_0_1
  have L1 := Lib.hid nl
  clear nl hW nb0 hB0 nb1 hB1
  by_cases g0 : f = f2
  · have e0 : (f == f2) = true := by simpa using g0
    have G0 := Lib.hid g0
    clear g0
    by_cases g1 : t = t2
    · have e1 : (t == t2) = true := by simpa using g1
      have G1 := Lib.hid g1
      clear g1
      by_cases g2 : bb = b2
      · have e2 : (bb == b2) = true := by simpa using g2
        have G2 := Lib.hid g2
        clear g2
        by_cases g3 : s = s2
        · have e3 : (s == s2) = true := by simpa using g3
          have G3 := Lib.hid g3
          clear g3
          by_cases g4 : a = a2
          · have e4 : (a == a2) = true := by simpa using g4
            have G4 := Lib.hid g4
            clear g4
            by_cases hdd : d = d2
            · subst hdd
              have m0_0 : W1.cell? ⟨B1_0, 0, none⟩ = some _ := K1_0.out.cell 0
              have m0_1 : W1.cell? ⟨B1_0, 1, none⟩ = some _ := K1_0.out.cell 1
              have m0_2 : W1.cell? ⟨B1_0, 2, none⟩ = some _ := K1_0.out.cell 2
              have m0_3 : W1.cell? ⟨B1_0, 3, none⟩ = some _ := K1_0.out.cell 3
              have m0_4 : W1.cell? ⟨B1_0, 4, none⟩ = some _ := K1_0.out.cell 4
              have m0_5 : W1.cell? ⟨B1_0, 5, none⟩ = some _ := K1_0.out.cell 5
              have mlt0 : B1_0 < W1.heap.size := K1_0.out.lt
              have m1_0 : W1.cell? ⟨B1_1, 0, none⟩ = some _ := K1_1.out.cell 0
              have m1_1 : W1.cell? ⟨B1_1, 1, none⟩ = some _ := K1_1.out.cell 1
              have m1_2 : W1.cell? ⟨B1_1, 2, none⟩ = some _ := K1_1.out.cell 2
              have m1_3 : W1.cell? ⟨B1_1, 3, none⟩ = some _ := K1_1.out.cell 3
              have m1_4 : W1.cell? ⟨B1_1, 4, none⟩ = some _ := K1_1.out.cell 4
              have m1_5 : W1.cell? ⟨B1_1, 5, none⟩ = some _ := K1_1.out.cell 5
              have mlt1 : B1_1 < W1.heap.size := K1_1.out.lt
              go_wp2_with fail
              clear m0_0 m0_1 m0_2 m0_3 m0_4 m0_5 mlt0 m1_0 m1_1 m1_2 m1_3 m1_4 m1_5 mlt1
              refine (equal_any _ _ _ _ _ _ _ _ _ (HD.out.below L1.out) (HD2.out.below L1.out)).mono ?_
              rintro e wx ⟨rfl, rfl⟩
              go_wp2
              go_ret
              exact ⟨ret_bool (by rw [HQ.out, decide_eq_true ⟨G0.out, G1.out, G2.out, G3.out, G4.out, (by first | rfl | trivial)⟩]; try simp), L1.out⟩
            · have m0_0 : W1.cell? ⟨B1_0, 0, none⟩ = some _ := K1_0.out.cell 0
              have m0_1 : W1.cell? ⟨B1_0, 1, none⟩ = some _ := K1_0.out.cell 1
              have m0_2 : W1.cell? ⟨B1_0, 2, none⟩ = some _ := K1_0.out.cell 2
              have m0_3 : W1.cell? ⟨B1_0, 3, none⟩ = some _ := K1_0.out.cell 3
              have m0_4 : W1.cell? ⟨B1_0, 4, none⟩ = some _ := K1_0.out.cell 4
              have m0_5 : W1.cell? ⟨B1_0, 5, none⟩ = some _ := K1_0.out.cell 5
              have mlt0 : B1_0 < W1.heap.size := K1_0.out.lt
              have m1_0 : W1.cell? ⟨B1_1, 0, none⟩ = some _ := K1_1.out.cell 0
              have m1_1 : W1.cell? ⟨B1_1, 1, none⟩ = some _ := K1_1.out.cell 1
              have m1_2 : W1.cell? ⟨B1_1, 2, none⟩ = some _ := K1_1.out.cell 2
              have m1_3 : W1.cell? ⟨B1_1, 3, none⟩ = some _ := K1_1.out.cell 3
              have m1_4 : W1.cell? ⟨B1_1, 4, none⟩ = some _ := K1_1.out.cell 4
              have m1_5 : W1.cell? ⟨B1_1, 5, none⟩ = some _ := K1_1.out.cell 5
              have mlt1 : B1_1 < W1.heap.size := K1_1.out.lt
              go_wp2_with fail
              clear m0_0 m0_1 m0_2 m0_3 m0_4 m0_5 mlt0 m1_0 m1_1 m1_2 m1_3 m1_4 m1_5 mlt1
              refine (equal_any _ _ _ _ _ _ _ _ _ (HD.out.below L1.out) (HD2.out.below L1.out)).mono ?_
              rintro e wx ⟨rfl, rfl⟩
              go_wp2
              go_ret
              exact ⟨ret_bool (by rw [HQ.out, decide_eq_false (fun h => hdd h.2.2.2.2.2)] <;> first | exact decide_eq_false hdd | exact HS.out), L1.out⟩
          · have e4 : (a == a2) = false := by simpa using g4
            have m0_0 : W1.cell? ⟨B1_0, 0, none⟩ = some _ := K1_0.out.cell 0
            have m0_1 : W1.cell? ⟨B1_0, 1, none⟩ = some _ := K1_0.out.cell 1
            have m0_2 : W1.cell? ⟨B1_0, 2, none⟩ = some _ := K1_0.out.cell 2
            have m0_3 : W1.cell? ⟨B1_0, 3, none⟩ = some _ := K1_0.out.cell 3
            have m0_4 : W1.cell? ⟨B1_0, 4, none⟩ = some _ := K1_0.out.cell 4
            have m0_5 : W1.cell? ⟨B1_0, 5, none⟩ = some _ := K1_0.out.cell 5
            have mlt0 : B1_0 < W1.heap.size := K1_0.out.lt
            have m1_0 : W1.cell? ⟨B1_1, 0, none⟩ = some _ := K1_1.out.cell 0
            have m1_1 : W1.cell? ⟨B1_1, 1, none⟩ = some _ := K1_1.out.cell 1
            have m1_2 : W1.cell? ⟨B1_1, 2, none⟩ = some _ := K1_1.out.cell 2
            have m1_3 : W1.cell? ⟨B1_1, 3, none⟩ = some _ := K1_1.out.cell 3
            have m1_4 : W1.cell? ⟨B1_1, 4, none⟩ = some _ := K1_1.out.cell 4
            have m1_5 : W1.cell? ⟨B1_1, 5, none⟩ = some _ := K1_1.out.cell 5
            have mlt1 : B1_1 < W1.heap.size := K1_1.out.lt
            go_wp2
            clear m0_0 m0_1 m0_2 m0_3 m0_4 m0_5 mlt0 m1_0 m1_1 m1_2 m1_3 m1_4 m1_5 mlt1
            go_ret
            exact ⟨ret_bool (by rw [HQ.out, decide_eq_false (fun h => g4 h.2.2.2.2.1)]), L1.out⟩
        · have e3 : (s == s2) = false := by simpa using g3
          have m0_0 : W1.cell? ⟨B1_0, 0, none⟩ = some _ := K1_0.out.cell 0
          have m0_1 : W1.cell? ⟨B1_0, 1, none⟩ = some _ := K1_0.out.cell 1
          have m0_2 : W1.cell? ⟨B1_0, 2, none⟩ = some _ := K1_0.out.cell 2
          have m0_3 : W1.cell? ⟨B1_0, 3, none⟩ = some _ := K1_0.out.cell 3
          have m0_4 : W1.cell? ⟨B1_0, 4, none⟩ = some _ := K1_0.out.cell 4
          have m0_5 : W1.cell? ⟨B1_0, 5, none⟩ = some _ := K1_0.out.cell 5
          have mlt0 : B1_0 < W1.heap.size := K1_0.out.lt
          have m1_0 : W1.cell? ⟨B1_1, 0, none⟩ = some _ := K1_1.out.cell 0
          have m1_1 : W1.cell? ⟨B1_1, 1, none⟩ = some _ := K1_1.out.cell 1
          have m1_2 : W1.cell? ⟨B1_1, 2, none⟩ = some _ := K1_1.out.cell 2
          have m1_3 : W1.cell? ⟨B1_1, 3, none⟩ = some _ := K1_1.out.cell 3
          have m1_4 : W1.cell? ⟨B1_1, 4, none⟩ = some _ := K1_1.out.cell 4
          have m1_5 : W1.cell? ⟨B1_1, 5, none⟩ = some _ := K1_1.out.cell 5
          have mlt1 : B1_1 < W1.heap.size := K1_1.out.lt
          go_wp2
          clear m0_0 m0_1 m0_2 m0_3 m0_4 m0_5 mlt0 m1_0 m1_1 m1_2 m1_3 m1_4 m1_5 mlt1
          go_ret
          exact ⟨ret_bool (by rw [HQ.out, decide_eq_false (fun h => g3 h.2.2.2.1)]), L1.out⟩
      · have e2 : (bb == b2) = false := by simpa using g2
        have m0_0 : W1.cell? ⟨B1_0, 0, none⟩ = some _ := K1_0.out.cell 0
        have m0_1 : W1.cell? ⟨B1_0, 1, none⟩ = some _ := K1_0.out.cell 1
        have m0_2 : W1.cell? ⟨B1_0, 2, none⟩ = some _ := K1_0.out.cell 2
        have m0_3 : W1.cell? ⟨B1_0, 3, none⟩ = some _ := K1_0.out.cell 3
        have m0_4 : W1.cell? ⟨B1_0, 4, none⟩ = some _ := K1_0.out.cell 4
        have m0_5 : W1.cell? ⟨B1_0, 5, none⟩ = some _ := K1_0.out.cell 5
        have mlt0 : B1_0 < W1.heap.size := K1_0.out.lt
        have m1_0 : W1.cell? ⟨B1_1, 0, none⟩ = some _ := K1_1.out.cell 0
        have m1_1 : W1.cell? ⟨B1_1, 1, none⟩ = some _ := K1_1.out.cell 1
        have m1_2 : W1.cell? ⟨B1_1, 2, none⟩ = some _ := K1_1.out.cell 2
        have m1_3 : W1.cell? ⟨B1_1, 3, none⟩ = some _ := K1_1.out.cell 3
        have m1_4 : W1.cell? ⟨B1_1, 4, none⟩ = some _ := K1_1.out.cell 4
        have m1_5 : W1.cell? ⟨B1_1, 5, none⟩ = some _ := K1_1.out.cell 5
        have mlt1 : B1_1 < W1.heap.size := K1_1.out.lt
        go_wp2
        clear m0_0 m0_1 m0_2 m0_3 m0_4 m0_5 mlt0 m1_0 m1_1 m1_2 m1_3 m1_4 m1_5 mlt1
        go_ret
        exact ⟨ret_bool (by rw [HQ.out, decide_eq_false (fun h => g2 h.2.2.1)]), L1.out⟩
    · have e1 : (t == t2) = false := by simpa using g1
      have m0_0 : W1.cell? ⟨B1_0, 0, none⟩ = some _ := K1_0.out.cell 0
      have m0_1 : W1.cell? ⟨B1_0, 1, none⟩ = some _ := K1_0.out.cell 1
      have m0_2 : W1.cell? ⟨B1_0, 2, none⟩ = some _ := K1_0.out.cell 2
      have m0_3 : W1.cell? ⟨B1_0, 3, none⟩ = some _ := K1_0.out.cell 3
      have m0_4 : W1.cell? ⟨B1_0, 4, none⟩ = some _ := K1_0.out.cell 4
      have m0_5 : W1.cell? ⟨B1_0, 5, none⟩ = some _ := K1_0.out.cell 5
      have mlt0 : B1_0 < W1.heap.size := K1_0.out.lt
      have m1_0 : W1.cell? ⟨B1_1, 0, none⟩ = some _ := K1_1.out.cell 0
      have m1_1 : W1.cell? ⟨B1_1, 1, none⟩ = some _ := K1_1.out.cell 1
      have m1_2 : W1.cell? ⟨B1_1, 2, none⟩ = some _ := K1_1.out.cell 2
      have m1_3 : W1.cell? ⟨B1_1, 3, none⟩ = some _ := K1_1.out.cell 3
      have m1_4 : W1.cell? ⟨B1_1, 4, none⟩ = some _ := K1_1.out.cell 4
      have m1_5 : W1.cell? ⟨B1_1, 5, none⟩ = some _ := K1_1.out.cell 5
      have mlt1 : B1_1 < W1.heap.size := K1_1.out.lt
      go_wp2
      clear m0_0 m0_1 m0_2 m0_3 m0_4 m0_5 mlt0 m1_0 m1_1 m1_2 m1_3 m1_4 m1_5 mlt1
      go_ret
      exact ⟨ret_bool (by rw [HQ.out, decide_eq_false (fun h => g1 h.2.1)]), L1.out⟩
  · have e0 : (f == f2) = false := by simpa using g0
    have m0_0 : W1.cell? ⟨B1_0, 0, none⟩ = some _ := K1_0.out.cell 0
    have m0_1 : W1.cell? ⟨B1_0, 1, none⟩ = some _ := K1_0.out.cell 1
    have m0_2 : W1.cell? ⟨B1_0, 2, none⟩ = some _ := K1_0.out.cell 2
    have m0_3 : W1.cell? ⟨B1_0, 3, none⟩ = some _ := K1_0.out.cell 3
    have m0_4 : W1.cell? ⟨B1_0, 4, none⟩ = some _ := K1_0.out.cell 4
    have m0_5 : W1.cell? ⟨B1_0, 5, none⟩ = some _ := K1_0.out.cell 5
    have mlt0 : B1_0 < W1.heap.size := K1_0.out.lt
    have m1_0 : W1.cell? ⟨B1_1, 0, none⟩ = some _ := K1_1.out.cell 0
    have m1_1 : W1.cell? ⟨B1_1, 1, none⟩ = some _ := K1_1.out.cell 1
    have m1_2 : W1.cell? ⟨B1_1, 2, none⟩ = some _ := K1_1.out.cell 2
    have m1_3 : W1.cell? ⟨B1_1, 3, none⟩ = some _ := K1_1.out.cell 3
    have m1_4 : W1.cell? ⟨B1_1, 4, none⟩ = some _ := K1_1.out.cell 4
    have m1_5 : W1.cell? ⟨B1_1, 5, none⟩ = some _ := K1_1.out.cell 5
    have mlt1 : B1_1 < W1.heap.size := K1_1.out.lt
    go_wp2
    clear m0_0 m0_1 m0_2 m0_3 m0_4 m0_5 mlt0 m1_0 m1_1 m1_2 m1_3 m1_4 m1_5 mlt1
    go_ret
    exact ⟨ret_bool (by rw [HQ.out, decide_eq_false (fun h => g0 h.1)]), L1.out⟩
set_option maxHeartbeats 4000000 in
theorem rsame_any (f t : Int) (bb : Bool) (s a f2 t2 : Int) (b2 : Bool) (s2 a2 : Int) (A A2 : Option Addr) (dl cap dl2 cap2 : Nat) (d d2 : List Int) (w : World) (hd : Dat w A dl cap d) (hd2 : Dat w A2 dl2 cap2 d2) : Calls Tryd.prog 12 #[.agg #[.int .i64 f, .int .i64 t, .bool bb, .int .u64 s, .int .u64 a, .slice A dl cap], .agg #[.int .i64 f2, .int .i64 t2, .bool b2, .int .u64 s2, .int .u64 a2, .slice A2 dl2 cap2]] w fun e w' => e = .returned (.bool (sameF ⟨f, t, bb, s, a, d⟩ ⟨f2, t2, b2, s2, a2, d2⟩)) ∧ Below w.heap.size w w' := by
  obtain ⟨Q, hQ⟩ : ∃ Q, Q = sameF ⟨f, t, bb, s, a, d⟩ ⟨f2, t2, b2, s2, a2, d2⟩ := ⟨_, rfl⟩
  rw [← hQ]
  unfold sameF at hQ
  dsimp only at hQ
  have HQ := Lib.hid hQ; have HD := Lib.hid hd; have HD2 := Lib.hid hd2
  clear hQ hd hd2
  go_enter Tryd.func12, Tryd.ntmps12
  go_upto_region 1 with (fail)
  have nb0 : Blk (w.alloc (.cells #[.int .i64 f, .int .i64 t, .bool bb, .int .u64 s, .int .u64 a, .slice A dl cap] 25)) (w.heap.size) [.int .i64 f, .int .i64 t, .bool bb, .int .u64 s, .int .u64 a, .slice A dl cap] 25 := Blk.new w [.int .i64 f, .int .i64 t, .bool bb, .int .u64 s, .int .u64 a, .slice A dl cap] 25
  replace nb0 := nb0.alloc (.cells #[.int .i64 f2, .int .i64 t2, .bool b2, .int .u64 s2, .int .u64 a2, .slice A2 dl2 cap2] 25)
  have nb1 : Blk ((w.alloc (.cells #[.int .i64 f, .int .i64 t, .bool bb, .int .u64 s, .int .u64 a, .slice A dl cap] 25)).alloc (.cells #[.int .i64 f2, .int .i64 t2, .bool b2, .int .u64 s2, .int .u64 a2, .slice A2 dl2 cap2] 25)) (w.heap.size + 1) [.int .i64 f2, .int .i64 t2, .bool b2, .int .u64 s2, .int .u64 a2, .slice A2 dl2 cap2] 25 := Blk.nextn (w.alloc (.cells #[.int .i64 f, .int .i64 t, .bool bb, .int .u64 s, .int .u64 a, .slice A dl cap] 25)) (w.heap.size + 1) [.int .i64 f2, .int .i64 t2, .bool b2, .int .u64 s2, .int .u64 a2, .slice A2 dl2 cap2] 25 (by simp)
  have nls : Below w.heap.size w w := (Below.refl w.heap.size w)
  have nl0 := nls.alloc nls.size (.cells #[.int .i64 f, .int .i64 t, .bool bb, .int .u64 s, .int .u64 a, .slice A dl cap] 25)
  have nl1 := nl0.alloc nl0.size (.cells #[.int .i64 f2, .int .i64 t2, .bool b2, .int .u64 s2, .int .u64 a2, .slice A2 dl2 cap2] 25)
  have nl : Below w.heap.size w ((w.alloc (.cells #[.int .i64 f, .int .i64 t, .bool bb, .int .u64 s, .int .u64 a, .slice A dl cap] 25)).alloc (.cells #[.int .i64 f2, .int .i64 t2, .bool b2, .int .u64 s2, .int .u64 a2, .slice A2 dl2 cap2] 25)) := nl1; clear nls nl0 nl1
  obtain ⟨B1_1, hB1⟩ : ∃ B, B = w.heap.size + 1 := ⟨_, rfl⟩
  obtain ⟨B1_0, hB0⟩ : ∃ B, B = w.heap.size := ⟨_, rfl⟩
  obtain ⟨W1, hW⟩ : ∃ W, W = ((w.alloc (.cells #[.int .i64 f, .int .i64 t, .bool bb, .int .u64 s, .int .u64 a, .slice A dl cap] 25)).alloc (.cells #[.int .i64 f2, .int .i64 t2, .bool b2, .int .u64 s2, .int .u64 a2, .slice A2 dl2 cap2] 25)) := ⟨_, rfl⟩
  rw [← hW] at nl nb0 nb1
  rw [← hB1] at nb1
  rw [← hB0] at nb0
  rw [← hW]
  try rw [← hB1]
  try rw [← hB0]
  have K1_0 := Lib.hid nb0
  have G1_0 : Hid (w.heap.size ≤ B1_0) := Lib.hid (by have := (Nat.le_refl w.heap.size); omega)
  have K1_1 := Lib.hid nb1
  have G1_1 : Hid (w.heap.size ≤ B1_1) := Lib.hid (by have := (Nat.le_refl w.heap.size); omega)
  have y1_0_1 : B1_0 ≠ B1_1 := by omega
  have Y1_0_1 := Lib.hid y1_0_1; clear y1_0_1
  have L1 := Lib.hid nl
  clear nl hW nb0 hB0 nb1 hB1
  by_cases g0 : f = f2
  · have e0 : (f == f2) = true := by simpa using g0
    have G0 := Lib.hid g0
    clear g0
    by_cases g1 : t = t2
    · have e1 : (t == t2) = true := by simpa using g1
      have G1 := Lib.hid g1
      clear g1
      by_cases g2 : bb = b2
      · have e2 : (bb == b2) = true := by simpa using g2
        have G2 := Lib.hid g2
        clear g2
        by_cases g3 : s = s2
        · have e3 : (s == s2) = true := by simpa using g3
          have G3 := Lib.hid g3
          clear g3
          by_cases g4 : a = a2
          · have e4 : (a == a2) = true := by simpa using g4
            have G4 := Lib.hid g4
            clear g4
            by_cases hdd : d = d2
            · subst hdd
              have hc1 := (HD.out.below L1.out).rd.conv dl cap HD.out.len
              have hc2 := (HD2.out.below L1.out).rd.conv dl2 cap2 HD2.out.len
              have m0_0 : W1.cell? ⟨B1_0, 0, none⟩ = some _ := K1_0.out.cell 0
              have m0_1 : W1.cell? ⟨B1_0, 1, none⟩ = some _ := K1_0.out.cell 1
              have m0_2 : W1.cell? ⟨B1_0, 2, none⟩ = some _ := K1_0.out.cell 2
              have m0_3 : W1.cell? ⟨B1_0, 3, none⟩ = some _ := K1_0.out.cell 3
              have m0_4 : W1.cell? ⟨B1_0, 4, none⟩ = some _ := K1_0.out.cell 4
              have m0_5 : W1.cell? ⟨B1_0, 5, none⟩ = some _ := K1_0.out.cell 5
              have mlt0 : B1_0 < W1.heap.size := K1_0.out.lt
              have m1_0 : W1.cell? ⟨B1_1, 0, none⟩ = some _ := K1_1.out.cell 0
              have m1_1 : W1.cell? ⟨B1_1, 1, none⟩ = some _ := K1_1.out.cell 1
              have m1_2 : W1.cell? ⟨B1_1, 2, none⟩ = some _ := K1_1.out.cell 2
              have m1_3 : W1.cell? ⟨B1_1, 3, none⟩ = some _ := K1_1.out.cell 3
              have m1_4 : W1.cell? ⟨B1_1, 4, none⟩ = some _ := K1_1.out.cell 4
              have m1_5 : W1.cell? ⟨B1_1, 5, none⟩ = some _ := K1_1.out.cell 5
              have mlt1 : B1_1 < W1.heap.size := K1_1.out.lt
              go_wp2
              clear m0_0 m0_1 m0_2 m0_3 m0_4 m0_5 mlt0 m1_0 m1_1 m1_2 m1_3 m1_4 m1_5 mlt1
              go_ret
              exact ⟨ret_bool (by rw [HQ.out, decide_eq_true ⟨G0.out, G1.out, G2.out, G3.out, G4.out, (by first | rfl | trivial)⟩]; try simp), L1.out⟩
            · have hs : ((strOfNums d).toList == (strOfNums d2).toList) = false := by
                rw [Lib.bytes_beq_false_iff]; exact fun e => hdd (str_inj HD.out.rd.1 HD2.out.rd.1 e)
              have HS := Lib.hid hs
              clear hs
              have hc1 := (HD.out.below L1.out).rd.conv dl cap HD.out.len
              have hc2 := (HD2.out.below L1.out).rd.conv dl2 cap2 HD2.out.len
              have m0_0 : W1.cell? ⟨B1_0, 0, none⟩ = some _ := K1_0.out.cell 0
              have m0_1 : W1.cell? ⟨B1_0, 1, none⟩ = some _ := K1_0.out.cell 1
              have m0_2 : W1.cell? ⟨B1_0, 2, none⟩ = some _ := K1_0.out.cell 2
              have m0_3 : W1.cell? ⟨B1_0, 3, none⟩ = some _ := K1_0.out.cell 3
              have m0_4 : W1.cell? ⟨B1_0, 4, none⟩ = some _ := K1_0.out.cell 4
              have m0_5 : W1.cell? ⟨B1_0, 5, none⟩ = some _ := K1_0.out.cell 5
              have mlt0 : B1_0 < W1.heap.size := K1_0.out.lt
              have m1_0 : W1.cell? ⟨B1_1, 0, none⟩ = some _ := K1_1.out.cell 0
              have m1_1 : W1.cell? ⟨B1_1, 1, none⟩ = some _ := K1_1.out.cell 1
              have m1_2 : W1.cell? ⟨B1_1, 2, none⟩ = some _ := K1_1.out.cell 2
              have m1_3 : W1.cell? ⟨B1_1, 3, none⟩ = some _ := K1_1.out.cell 3
              have m1_4 : W1.cell? ⟨B1_1, 4, none⟩ = some _ := K1_1.out.cell 4
              have m1_5 : W1.cell? ⟨B1_1, 5, none⟩ = some _ := K1_1.out.cell 5
              have mlt1 : B1_1 < W1.heap.size := K1_1.out.lt
              go_wp2
              clear m0_0 m0_1 m0_2 m0_3 m0_4 m0_5 mlt0 m1_0 m1_1 m1_2 m1_3 m1_4 m1_5 mlt1
              go_ret
              exact ⟨ret_bool (by rw [HQ.out, decide_eq_false (fun h => hdd h.2.2.2.2.2)] <;> first | exact decide_eq_false hdd | exact HS.out), L1.out⟩
          · have e4 : (a == a2) = false := by simpa using g4
            have m0_0 : W1.cell? ⟨B1_0, 0, none⟩ = some _ := K1_0.out.cell 0
            have m0_1 : W1.cell? ⟨B1_0, 1, none⟩ = some _ := K1_0.out.cell 1
            have m0_2 : W1.cell? ⟨B1_0, 2, none⟩ = some _ := K1_0.out.cell 2
            have m0_3 : W1.cell? ⟨B1_0, 3, none⟩ = some _ := K1_0.out.cell 3
            have m0_4 : W1.cell? ⟨B1_0, 4, none⟩ = some _ := K1_0.out.cell 4
            have m0_5 : W1.cell? ⟨B1_0, 5, none⟩ = some _ := K1_0.out.cell 5
            have mlt0 : B1_0 < W1.heap.size := K1_0.out.lt
            have m1_0 : W1.cell? ⟨B1_1, 0, none⟩ = some _ := K1_1.out.cell 0
            have m1_1 : W1.cell? ⟨B1_1, 1, none⟩ = some _ := K1_1.out.cell 1
            have m1_2 : W1.cell? ⟨B1_1, 2, none⟩ = some _ := K1_1.out.cell 2
            have m1_3 : W1.cell? ⟨B1_1, 3, none⟩ = some _ := K1_1.out.cell 3
            have m1_4 : W1.cell? ⟨B1_1, 4, none⟩ = some _ := K1_1.out.cell 4
            have m1_5 : W1.cell? ⟨B1_1, 5, none⟩ = some _ := K1_1.out.cell 5
            have mlt1 : B1_1 < W1.heap.size := K1_1.out.lt
            go_wp2
            clear m0_0 m0_1 m0_2 m0_3 m0_4 m0_5 mlt0 m1_0 m1_1 m1_2 m1_3 m1_4 m1_5 mlt1
            go_ret
            exact ⟨ret_bool (by rw [HQ.out, decide_eq_false (fun h => g4 h.2.2.2.2.1)]), L1.out⟩
        · have e3 : (s == s2) = false := by simpa using g3
          have m0_0 : W1.cell? ⟨B1_0, 0, none⟩ = some _ := K1_0.out.cell 0
          have m0_1 : W1.cell? ⟨B1_0, 1, none⟩ = some _ := K1_0.out.cell 1
          have m0_2 : W1.cell? ⟨B1_0, 2, none⟩ = some _ := K1_0.out.cell 2
          have m0_3 : W1.cell? ⟨B1_0, 3, none⟩ = some _ := K1_0.out.cell 3
          have m0_4 : W1.cell? ⟨B1_0, 4, none⟩ = some _ := K1_0.out.cell 4
          have m0_5 : W1.cell? ⟨B1_0, 5, none⟩ = some _ := K1_0.out.cell 5
          have mlt0 : B1_0 < W1.heap.size := K1_0.out.lt
          have m1_0 : W1.cell? ⟨B1_1, 0, none⟩ = some _ := K1_1.out.cell 0
          have m1_1 : W1.cell? ⟨B1_1, 1, none⟩ = some _ := K1_1.out.cell 1
          have m1_2 : W1.cell? ⟨B1_1, 2, none⟩ = some _ := K1_1.out.cell 2
          have m1_3 : W1.cell? ⟨B1_1, 3, none⟩ = some _ := K1_1.out.cell 3
          have m1_4 : W1.cell? ⟨B1_1, 4, none⟩ = some _ := K1_1.out.cell 4
          have m1_5 : W1.cell? ⟨B1_1, 5, none⟩ = some _ := K1_1.out.cell 5
          have mlt1 : B1_1 < W1.heap.size := K1_1.out.lt
          go_wp2
          clear m0_0 m0_1 m0_2 m0_3 m0_4 m0_5 mlt0 m1_0 m1_1 m1_2 m1_3 m1_4 m1_5 mlt1
          go_ret
          exact ⟨ret_bool (by rw [HQ.out, decide_eq_false (fun h => g3 h.2.2.2.1)]), L1.out⟩
      · have e2 : (bb == b2) = false := by simpa using g2
        have m0_0 : W1.cell? ⟨B1_0, 0, none⟩ = some _ := K1_0.out.cell 0
        have m0_1 : W1.cell? ⟨B1_0, 1, none⟩ = some _ := K1_0.out.cell 1
        have m0_2 : W1.cell? ⟨B1_0, 2, none⟩ = some _ := K1_0.out.cell 2
        have m0_3 : W1.cell? ⟨B1_0, 3, none⟩ = some _ := K1_0.out.cell 3
        have m0_4 : W1.cell? ⟨B1_0, 4, none⟩ = some _ := K1_0.out.cell 4
        have m0_5 : W1.cell? ⟨B1_0, 5, none⟩ = some _ := K1_0.out.cell 5
        have mlt0 : B1_0 < W1.heap.size := K1_0.out.lt
        have m1_0 : W1.cell? ⟨B1_1, 0, none⟩ = some _ := K1_1.out.cell 0
        have m1_1 : W1.cell? ⟨B1_1, 1, none⟩ = some _ := K1_1.out.cell 1
        have m1_2 : W1.cell? ⟨B1_1, 2, none⟩ = some _ := K1_1.out.cell 2
        have m1_3 : W1.cell? ⟨B1_1, 3, none⟩ = some _ := K1_1.out.cell 3
        have m1_4 : W1.cell? ⟨B1_1, 4, none⟩ = some _ := K1_1.out.cell 4
        have m1_5 : W1.cell? ⟨B1_1, 5, none⟩ = some _ := K1_1.out.cell 5
        have mlt1 : B1_1 < W1.heap.size := K1_1.out.lt
        go_wp2
        clear m0_0 m0_1 m0_2 m0_3 m0_4 m0_5 mlt0 m1_0 m1_1 m1_2 m1_3 m1_4 m1_5 mlt1
        go_ret
        exact ⟨ret_bool (by rw [HQ.out, decide_eq_false (fun h => g2 h.2.2.1)]), L1.out⟩
    · have e1 : (t == t2) = false := by simpa using g1
      have m0_0 : W1.cell? ⟨B1_0, 0, none⟩ = some _ := K1_0.out.cell 0
      have m0_1 : W1.cell? ⟨B1_0, 1, none⟩ = some _ := K1_0.out.cell 1
      have m0_2 : W1.cell? ⟨B1_0, 2, none⟩ = some _ := K1_0.out.cell 2
      have m0_3 : W1.cell? ⟨B1_0, 3, none⟩ = some _ := K1_0.out.cell 3
      have m0_4 : W1.cell? ⟨B1_0, 4, none⟩ = some _ := K1_0.out.cell 4
      have m0_5 : W1.cell? ⟨B1_0, 5, none⟩ = some _ := K1_0.out.cell 5
      have mlt0 : B1_0 < W1.heap.size := K1_0.out.lt
      have m1_0 : W1.cell? ⟨B1_1, 0, none⟩ = some _ := K1_1.out.cell 0
      have m1_1 : W1.cell? ⟨B1_1, 1, none⟩ = some _ := K1_1.out.cell 1
      have m1_2 : W1.cell? ⟨B1_1, 2, none⟩ = some _ := K1_1.out.cell 2
      have m1_3 : W1.cell? ⟨B1_1, 3, none⟩ = some _ := K1_1.out.cell 3
      have m1_4 : W1.cell? ⟨B1_1, 4, none⟩ = some _ := K1_1.out.cell 4
      have m1_5 : W1.cell? ⟨B1_1, 5, none⟩ = some _ := K1_1.out.cell 5
      have mlt1 : B1_1 < W1.heap.size := K1_1.out.lt
      go_wp2
      clear m0_0 m0_1 m0_2 m0_3 m0_4 m0_5 mlt0 m1_0 m1_1 m1_2 m1_3 m1_4 m1_5 mlt1
      go_ret
      exact ⟨ret_bool (by rw [HQ.out, decide_eq_false (fun h => g1 h.2.1)]), L1.out⟩
  · have e0 : (f == f2) = false := by simpa using g0
    have m0_0 : W1.cell? ⟨B1_0, 0, none⟩ = some _ := K1_0.out.cell 0
    have m0_1 : W1.cell? ⟨B1_0, 1, none⟩ = some _ := K1_0.out.cell 1
    have m0_2 : W1.cell? ⟨B1_0, 2, none⟩ = some _ := K1_0.out.cell 2
    have m0_3 : W1.cell? ⟨B1_0, 3, none⟩ = some _ := K1_0.out.cell 3
    have m0_4 : W1.cell? ⟨B1_0, 4, none⟩ = some _ := K1_0.out.cell 4
    have m0_5 : W1.cell? ⟨B1_0, 5, none⟩ = some _ := K1_0.out.cell 5
    have mlt0 : B1_0 < W1.heap.size := K1_0.out.lt
    have m1_0 : W1.cell? ⟨B1_1, 0, none⟩ = some _ := K1_1.out.cell 0
    have m1_1 : W1.cell? ⟨B1_1, 1, none⟩ = some _ := K1_1.out.cell 1
    have m1_2 : W1.cell? ⟨B1_1, 2, none⟩ = some _ := K1_1.out.cell 2
    have m1_3 : W1.cell? ⟨B1_1, 3, none⟩ = some _ := K1_1.out.cell 3
    have m1_4 : W1.cell? ⟨B1_1, 4, none⟩ = some _ := K1_1.out.cell 4
    have m1_5 : W1.cell? ⟨B1_1, 5, none⟩ = some _ := K1_1.out.cell 5
    have mlt1 : B1_1 < W1.heap.size := K1_1.out.lt
    go_wp2
    clear m0_0 m0_1 m0_2 m0_3 m0_4 m0_5 mlt0 m1_0 m1_1 m1_2 m1_3 m1_4 m1_5 mlt1
    go_ret
    exact ⟨ret_bool (by rw [HQ.out, decide_eq_false (fun h => g0 h.1)]), L1.out⟩
end Go.Proofs.YtmdfopbigkfbnaaDoor
