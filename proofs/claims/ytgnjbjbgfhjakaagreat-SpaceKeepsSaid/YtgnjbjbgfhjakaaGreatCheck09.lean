/-
  What perm.Check answers: its contract over the translation. No conditions.
-/
import Derived.Test.YtgnjbjbgfhjakaaGreatPerm09
namespace Go.Proofs.YtgnjbjbgfhjakaaGreat
open Go.RowKit
set_option linter.unusedVariables false
set_option linter.unusedSimpArgs false
attribute [local go_sem] setCell_drewN alloc_drewN

set_option maxHeartbeats 4000000 in
theorem check_any (e : Ent) (k : Int) (m : Md) (w : World) : Calls Tryz.prog 115 #[pv e, .int .i64 k, mv m] w fun r w' => r = .returned (.bool (chk e k m)) ∧ Below w.heap.size w w' := by
  have h1 := fun w => right_any e w
  have h2 := fun w => leaf_any e w
  have h3 := fun w => reach_any e m w
  unfold chk
  generalize (e.v && (e.r || !e.w)) = R at h1 ⊢
  generalize (e.r || e.x) = L at h2 ⊢
  generalize rch e m = Q at h3 ⊢
  obtain ⟨v, r, x1, x, u, g, a, d, rsw, ppn⟩ := e
  obtain ⟨us, sm, mx⟩ := m
  unfold pv mv at *
  dsimp only at *
  obtain ⟨A, hA⟩ : ∃ A, A = (R && L && a && (if k = 0 then x && (u == us) else if k = 1 then (r || mx && x) && Q else if k = 2 then x1 && d && Q else false)) := ⟨_, rfl⟩
  rw [← hA]
  have HA := Lib.hid hA; clear hA
  have H1 := Lib.hid h1; have H2 := Lib.hid h2; have H3 := Lib.hid h3; clear h1 h2 h3
  go_enter Tryz.func115, Tryz.ntmps115
  go_wp2_with fail
  have nb0 := Blk.new w [.bool v, .bool r, .bool x1, .bool x, .bool u, .bool g, .bool a, .bool d, .int .i64 rsw, .int .u64 (ppn : Int)] 39
  replace nb0 := nb0.alloc (.cells #[.bool us, .bool sm, .bool mx] 143)
  have nb1 : Blk ((w.alloc (.cells #[.bool v, .bool r, .bool x1, .bool x, .bool u, .bool g, .bool a, .bool d, .int .i64 rsw, .int .u64 (ppn : Int)] 39)).alloc (.cells #[.bool us, .bool sm, .bool mx] 143)) (w.heap.size + 1) [.bool us, .bool sm, .bool mx] 143 := Blk.nextn (w.alloc (.cells #[.bool v, .bool r, .bool x1, .bool x, .bool u, .bool g, .bool a, .bool d, .int .i64 rsw, .int .u64 (ppn : Int)] 39)) (w.heap.size + 1) [.bool us, .bool sm, .bool mx] 143 (by simp)
  have nl0 := (Below.refl w.heap.size w).alloc (Nat.le_refl w.heap.size) (.cells #[.bool v, .bool r, .bool x1, .bool x, .bool u, .bool g, .bool a, .bool d, .int .i64 rsw, .int .u64 (ppn : Int)] 39)
  have nl1 := nl0.alloc nl0.size (.cells #[.bool us, .bool sm, .bool mx] 143)
  have nl := nl1; clear nl0 nl1
  obtain ⟨B1_1, hB1⟩ : ∃ B, B = w.heap.size + 1 := ⟨_, rfl⟩
  obtain ⟨B1_0, hB0⟩ : ∃ B, B = w.heap.size := ⟨_, rfl⟩
  obtain ⟨W1, hW⟩ : ∃ W, W = ((w.alloc (.cells #[.bool v, .bool r, .bool x1, .bool x, .bool u, .bool g, .bool a, .bool d, .int .i64 rsw, .int .u64 (ppn : Int)] 39)).alloc (.cells #[.bool us, .bool sm, .bool mx] 143)) := ⟨_, rfl⟩
  rw [← hW] at nl nb0 nb1
  rw [← hB1] at nb1
  rw [← hB0] at nb0
  rw [← hW]
  try rw [← hB1]
  try rw [← hB0]
  have K1_0 := Lib.hid nb0
  have K1_1 := Lib.hid nb1
  have y1_0_1 : B1_0 ≠ B1_1 := by omega
  have Y1_0_1 := Lib.hid y1_0_1; clear y1_0_1
  have L1 := Lib.hid nl
  clear nl hW nb0 hB0 nb1 hB1
  refine (H1.out _).mono ?_
  rintro e w2 ⟨rfl, hb⟩
  have L2 := Lib.hid (L1.out.trans (hb.mono L1.out.size))
  have K2_0 := Lib.hid (K1_0.out.below hb K1_0.out.lt)
  have K2_1 := Lib.hid (K1_1.out.below hb K1_1.out.lt)
  clear hb K1_0 K1_1
  cases R
  · have m0_0 := K2_0.out.c0
    have m0_1 := K2_0.out.c1
    have m0_2 := K2_0.out.c2
    have m0_3 := K2_0.out.c3
    have m0_4 := K2_0.out.c4
    have m0_5 := K2_0.out.c5
    have m0_6 := K2_0.out.c6
    have m0_7 := K2_0.out.c7
    have m0_8 := K2_0.out.c8
    have m0_9 := K2_0.out.c9
    have mlt0 : B1_0 < w2.heap.size := K2_0.out.lt
    go_wp2
    clear m0_0 m0_1 m0_2 m0_3 m0_4 m0_5 m0_6 m0_7 m0_8 m0_9 mlt0
    go_ret
    exact ⟨ret_bool (by rw [HA.out]; simp), L2.out⟩
  · have m0_0 := K2_0.out.c0
    have m0_1 := K2_0.out.c1
    have m0_2 := K2_0.out.c2
    have m0_3 := K2_0.out.c3
    have m0_4 := K2_0.out.c4
    have m0_5 := K2_0.out.c5
    have m0_6 := K2_0.out.c6
    have m0_7 := K2_0.out.c7
    have m0_8 := K2_0.out.c8
    have m0_9 := K2_0.out.c9
    have mlt0 : B1_0 < w2.heap.size := K2_0.out.lt
    go_wp2_with fail
    clear m0_0 m0_1 m0_2 m0_3 m0_4 m0_5 m0_6 m0_7 m0_8 m0_9 mlt0
    refine (H2.out _).mono ?_
    rintro e w3 ⟨rfl, hb⟩
    have L3 := Lib.hid (L2.out.trans (hb.mono L2.out.size))
    have K3_0 := Lib.hid (K2_0.out.below hb K2_0.out.lt)
    have K3_1 := Lib.hid (K2_1.out.below hb K2_1.out.lt)
    clear hb K2_0 K2_1
    cases L
    · have m0_0 := K3_0.out.c0
      have m0_1 := K3_0.out.c1
      have m0_2 := K3_0.out.c2
      have m0_3 := K3_0.out.c3
      have m0_4 := K3_0.out.c4
      have m0_5 := K3_0.out.c5
      have m0_6 := K3_0.out.c6
      have m0_7 := K3_0.out.c7
      have m0_8 := K3_0.out.c8
      have m0_9 := K3_0.out.c9
      have mlt0 : B1_0 < w3.heap.size := K3_0.out.lt
      go_wp2
      clear m0_0 m0_1 m0_2 m0_3 m0_4 m0_5 m0_6 m0_7 m0_8 m0_9 mlt0
      go_ret
      exact ⟨ret_bool (by rw [HA.out]; simp), L3.out⟩
    · cases a
      · have m0_0 := K3_0.out.c0
        have m0_1 := K3_0.out.c1
        have m0_2 := K3_0.out.c2
        have m0_3 := K3_0.out.c3
        have m0_4 := K3_0.out.c4
        have m0_5 := K3_0.out.c5
        have m0_6 := K3_0.out.c6
        have m0_7 := K3_0.out.c7
        have m0_8 := K3_0.out.c8
        have m0_9 := K3_0.out.c9
        have mlt0 : B1_0 < w3.heap.size := K3_0.out.lt
        go_wp2
        clear m0_0 m0_1 m0_2 m0_3 m0_4 m0_5 m0_6 m0_7 m0_8 m0_9 mlt0
        go_ret
        exact ⟨ret_bool (by rw [HA.out]; simp), L3.out⟩
      · by_cases h0 : k = 0
        · subst h0
          cases x <;> cases us <;> cases u
          all_goals
            have m0_0 := K3_0.out.c0
            have m0_1 := K3_0.out.c1
            have m0_2 := K3_0.out.c2
            have m0_3 := K3_0.out.c3
            have m0_4 := K3_0.out.c4
            have m0_5 := K3_0.out.c5
            have m0_6 := K3_0.out.c6
            have m0_7 := K3_0.out.c7
            have m0_8 := K3_0.out.c8
            have m0_9 := K3_0.out.c9
            have mlt0 : B1_0 < w3.heap.size := K3_0.out.lt
            have m1_0 := K3_1.out.c0
            have m1_1 := K3_1.out.c1
            have m1_2 := K3_1.out.c2
            have mlt1 : B1_1 < w3.heap.size := K3_1.out.lt
            go_wp2
            clear m0_0 m0_1 m0_2 m0_3 m0_4 m0_5 m0_6 m0_7 m0_8 m0_9 mlt0 m1_0 m1_1 m1_2 mlt1
            go_ret
            exact ⟨ret_bool (by rw [HA.out]; simp), L3.out⟩
        by_cases h1 : k = 1
        · subst h1
          cases r <;> cases mx <;> cases x
          all_goals
            have m0_0 := K3_0.out.c0
            have m0_1 := K3_0.out.c1
            have m0_2 := K3_0.out.c2
            have m0_3 := K3_0.out.c3
            have m0_4 := K3_0.out.c4
            have m0_5 := K3_0.out.c5
            have m0_6 := K3_0.out.c6
            have m0_7 := K3_0.out.c7
            have m0_8 := K3_0.out.c8
            have m0_9 := K3_0.out.c9
            have mlt0 : B1_0 < w3.heap.size := K3_0.out.lt
            have m1_0 := K3_1.out.c0
            have m1_1 := K3_1.out.c1
            have m1_2 := K3_1.out.c2
            have mlt1 : B1_1 < w3.heap.size := K3_1.out.lt
            go_wp2_with fail
            clear m0_0 m0_1 m0_2 m0_3 m0_4 m0_5 m0_6 m0_7 m0_8 m0_9 mlt0 m1_0 m1_1 m1_2 mlt1
            first
            | (go_ret; exact ⟨ret_bool (by rw [HA.out]; simp), L3.out⟩)
            | (refine (H3.out _).mono ?_; rintro e w4 ⟨rfl, hb⟩; have L4 := Lib.hid (L3.out.trans (hb.mono L3.out.size)); have K4_0 := Lib.hid (K3_0.out.below hb K3_0.out.lt); have K4_1 := Lib.hid (K3_1.out.below hb K3_1.out.lt); clear hb K3_0 K3_1; go_wp2; go_ret; exact ⟨ret_bool (by rw [HA.out]; simp), L4.out⟩)
        by_cases h2 : k = 2
        · subst h2
          cases x1 <;> cases d
          all_goals
            have m0_0 := K3_0.out.c0
            have m0_1 := K3_0.out.c1
            have m0_2 := K3_0.out.c2
            have m0_3 := K3_0.out.c3
            have m0_4 := K3_0.out.c4
            have m0_5 := K3_0.out.c5
            have m0_6 := K3_0.out.c6
            have m0_7 := K3_0.out.c7
            have m0_8 := K3_0.out.c8
            have m0_9 := K3_0.out.c9
            have mlt0 : B1_0 < w3.heap.size := K3_0.out.lt
            have m1_0 := K3_1.out.c0
            have m1_1 := K3_1.out.c1
            have m1_2 := K3_1.out.c2
            have mlt1 : B1_1 < w3.heap.size := K3_1.out.lt
            go_wp2_with fail
            clear m0_0 m0_1 m0_2 m0_3 m0_4 m0_5 m0_6 m0_7 m0_8 m0_9 mlt0 m1_0 m1_1 m1_2 mlt1
            first
            | (go_ret; exact ⟨ret_bool (by rw [HA.out]; simp), L3.out⟩)
            | (refine (H3.out _).mono ?_; rintro e w4 ⟨rfl, hb⟩; have L4 := Lib.hid (L3.out.trans (hb.mono L3.out.size)); have K4_0 := Lib.hid (K3_0.out.below hb K3_0.out.lt); have K4_1 := Lib.hid (K3_1.out.below hb K3_1.out.lt); clear hb K3_0 K3_1; go_wp2; go_ret; exact ⟨ret_bool (by rw [HA.out]; simp), L4.out⟩)
        have m0_0 := K3_0.out.c0
        have m0_1 := K3_0.out.c1
        have m0_2 := K3_0.out.c2
        have m0_3 := K3_0.out.c3
        have m0_4 := K3_0.out.c4
        have m0_5 := K3_0.out.c5
        have m0_6 := K3_0.out.c6
        have m0_7 := K3_0.out.c7
        have m0_8 := K3_0.out.c8
        have m0_9 := K3_0.out.c9
        have mlt0 : B1_0 < w3.heap.size := K3_0.out.lt
        have m1_0 := K3_1.out.c0
        have m1_1 := K3_1.out.c1
        have m1_2 := K3_1.out.c2
        have mlt1 : B1_1 < w3.heap.size := K3_1.out.lt
        go_wp2
        clear m0_0 m0_1 m0_2 m0_3 m0_4 m0_5 m0_6 m0_7 m0_8 m0_9 mlt0 m1_0 m1_1 m1_2 mlt1
        go_ret
        exact ⟨ret_bool (by rw [HA.out, if_neg h0, if_neg h1, if_neg h2]; simp), L3.out⟩
end Go.Proofs.YtgnjbjbgfhjakaaGreat
