/-
  The statement MsgTexts: its walk over the translation. Condition: the tables.
-/
import Derived.Test.YtkddhjbdijegoaaDoorMsL15
namespace Go.Proofs.YtkddhjbdijegoaaDoor
open Go.RowKit
set_option linter.unusedVariables false
set_option linter.unusedSimpArgs false
attribute [local go_sem] setCell_drewN alloc_drewN

set_option maxHeartbeats 4000000 in
theorem texts_any (k p n h : Int) (s : Nat) (k2 p2 n2 h2 : Int) (s2 : Nat) (A A2 : Option Addr) (dl cap dl2 cap2 : Nat) (d d2 : List Int) (w : World) (ht : MgT ⟨k, p, n, h, s, d⟩) (hs : s < 65536) (hd : Dat w A dl cap d) (hd2 : Dat w A2 dl2 cap2 d2) (hL : Lz w) : Calls Tryd.prog 5 #[.agg #[.int .i64 k, .int .i64 p, .int .i64 n, .int .i64 h, .int .u16 (s : Int), .slice A dl cap], .agg #[.int .i64 k2, .int .i64 p2, .int .i64 n2, .int .i64 h2, .int .u16 (s2 : Int), .slice A2 dl2 cap2]] w fun e w' => e = .returned (.bool true) ∧ Below w.heap.size w w' := by
  have HL := Lib.hid hL; have HD := Lib.hid hd; have HD2 := Lib.hid hd2
  have hle := hd.le
  have hle2 := hd2.le
  have hln := hd.len
  have ht1 : ∀ w2, Below w.heap.size w w2 → Calls Tryd.prog 16 #[.agg #[.int .i64 k, .int .i64 p, .int .i64 n, .int .i64 h, .int .u16 (s : Int), .slice A dl cap]] w2 fun e w' => e = .returned (.string (bs (txtM ⟨k, p, n, h, s, d⟩))) ∧ Below w2.heap.size w2 w' := fun w2 hb => text_any15 k p n h s A dl cap d w2 hs ht hln hle (HL.out.below hb).p (HL.out.below hb).n (HL.out.below hb).t
  have ht2 : ∀ w2, Below w.heap.size w w2 → Calls Tryd.prog 17 #[.agg #[.int .i64 k, .int .i64 p, .int .i64 n, .int .i64 h, .int .u16 (s : Int), .slice A dl cap]] w2 fun e w' => e = .returned (.string (bs (txtM ⟨k, p, n, h, s, d⟩))) ∧ Below w2.heap.size w2 w' := fun w2 hb => rtext_any15 k p n h s A dl cap d w2 hs ht hln hle
  have hs1 : ∀ w2, Below w.heap.size w w2 → Calls Tryd.prog 14 #[.agg #[.int .i64 k, .int .i64 p, .int .i64 n, .int .i64 h, .int .u16 (s : Int), .slice A dl cap], .agg #[.int .i64 k2, .int .i64 p2, .int .i64 n2, .int .i64 h2, .int .u16 (s2 : Int), .slice A2 dl2 cap2]] w2 fun e w' => e = .returned (.bool (sameM ⟨k, p, n, h, s, d⟩ ⟨k2, p2, n2, h2, s2, d2⟩)) ∧ Below w2.heap.size w2 w' := fun w2 hb => same_any k p n h s k2 p2 n2 h2 s2 A A2 dl cap dl2 cap2 d d2 w2 (HD.out.below hb) (HD2.out.below hb)
  have hs2 : ∀ w2, Below w.heap.size w w2 → Calls Tryd.prog 13 #[.agg #[.int .i64 k, .int .i64 p, .int .i64 n, .int .i64 h, .int .u16 (s : Int), .slice A dl cap], .agg #[.int .i64 k2, .int .i64 p2, .int .i64 n2, .int .i64 h2, .int .u16 (s2 : Int), .slice A2 dl2 cap2]] w2 fun e w' => e = .returned (.bool (sameM ⟨k, p, n, h, s, d⟩ ⟨k2, p2, n2, h2, s2, d2⟩)) ∧ Below w2.heap.size w2 w' := fun w2 hb => rsame_any k p n h s k2 p2 n2 h2 s2 A A2 dl cap dl2 cap2 d d2 w2 (HD.out.below hb) (HD2.out.below hb)
  have hs3 : ∀ w2, Below w.heap.size w w2 → Calls Tryd.prog 14 #[.agg #[.int .i64 k, .int .i64 p, .int .i64 n, .int .i64 h, .int .u16 (s : Int), .slice A dl cap], .agg #[.int .i64 k, .int .i64 p, .int .i64 n, .int .i64 h, .int .u16 (s : Int), .slice A dl cap]] w2 fun e w' => e = .returned (.bool true) ∧ Below w2.heap.size w2 w' := fun w2 hb => by
    have := same_any k p n h s k p n h s A A dl cap dl cap d d w2 (HD.out.below hb) (HD.out.below hb)
    rwa [sameM_refl] at this
  generalize sameM ⟨k, p, n, h, s, d⟩ ⟨k2, p2, n2, h2, s2, d2⟩ = SA at hs1 hs2
  generalize bs (txtM ⟨k, p, n, h, s, d⟩) = TX at ht1 ht2
  have HT1 := Lib.hid ht1; have HT2 := Lib.hid ht2; have HS1 := Lib.hid hs1; have HS2 := Lib.hid hs2; have HS3 := Lib.hid hs3
  clear ht1 ht2 hs1 hs2 hs3 hL hd hd2 ht hs hln
  rcases Nat.lt_or_ge dl2 dl with hx | hx
  · have hxi : (dl2 : Int) < dl := by omega
    have hmx : max (dl : Int) (dl2 : Int) = (dl : Int) := by omega
    by_cases hb : 5000 < dl
    · have hbi : (5000 : Int) < dl := by omega
      go_enter Tryd.func5, Tryd.ntmps5
      go_upto_region 1 with (fail)
      have nb0 : Blk (w.alloc (.cells #[.int .i64 k, .int .i64 p, .int .i64 n, .int .i64 h, .int .u16 (s : Int), .slice A dl cap] 26)) (w.heap.size) [.int .i64 k, .int .i64 p, .int .i64 n, .int .i64 h, .int .u16 (s : Int), .slice A dl cap] 26 := Blk.new w [.int .i64 k, .int .i64 p, .int .i64 n, .int .i64 h, .int .u16 (s : Int), .slice A dl cap] 26
      replace nb0 := nb0.alloc (.cells #[.int .i64 k2, .int .i64 p2, .int .i64 n2, .int .i64 h2, .int .u16 (s2 : Int), .slice A2 dl2 cap2] 26)
      have nb1 : Blk ((w.alloc (.cells #[.int .i64 k, .int .i64 p, .int .i64 n, .int .i64 h, .int .u16 (s : Int), .slice A dl cap] 26)).alloc (.cells #[.int .i64 k2, .int .i64 p2, .int .i64 n2, .int .i64 h2, .int .u16 (s2 : Int), .slice A2 dl2 cap2] 26)) (w.heap.size + 1) [.int .i64 k2, .int .i64 p2, .int .i64 n2, .int .i64 h2, .int .u16 (s2 : Int), .slice A2 dl2 cap2] 26 := Blk.nextn (w.alloc (.cells #[.int .i64 k, .int .i64 p, .int .i64 n, .int .i64 h, .int .u16 (s : Int), .slice A dl cap] 26)) (w.heap.size + 1) [.int .i64 k2, .int .i64 p2, .int .i64 n2, .int .i64 h2, .int .u16 (s2 : Int), .slice A2 dl2 cap2] 26 (by simp)
      have nls : Below w.heap.size w w := (Below.refl w.heap.size w)
      have nl0 := nls.alloc nls.size (.cells #[.int .i64 k, .int .i64 p, .int .i64 n, .int .i64 h, .int .u16 (s : Int), .slice A dl cap] 26)
      have nl1 := nl0.alloc nl0.size (.cells #[.int .i64 k2, .int .i64 p2, .int .i64 n2, .int .i64 h2, .int .u16 (s2 : Int), .slice A2 dl2 cap2] 26)
      have nl : Below w.heap.size w ((w.alloc (.cells #[.int .i64 k, .int .i64 p, .int .i64 n, .int .i64 h, .int .u16 (s : Int), .slice A dl cap] 26)).alloc (.cells #[.int .i64 k2, .int .i64 p2, .int .i64 n2, .int .i64 h2, .int .u16 (s2 : Int), .slice A2 dl2 cap2] 26)) := nl1; clear nls nl0 nl1
      obtain ⟨B1_1, hB1⟩ : ∃ B, B = w.heap.size + 1 := ⟨_, rfl⟩
      obtain ⟨B1_0, hB0⟩ : ∃ B, B = w.heap.size := ⟨_, rfl⟩
      obtain ⟨W1, hW⟩ : ∃ W, W = ((w.alloc (.cells #[.int .i64 k, .int .i64 p, .int .i64 n, .int .i64 h, .int .u16 (s : Int), .slice A dl cap] 26)).alloc (.cells #[.int .i64 k2, .int .i64 p2, .int .i64 n2, .int .i64 h2, .int .u16 (s2 : Int), .slice A2 dl2 cap2] 26)) := ⟨_, rfl⟩
      rw [← hW] at nl nb0 nb1
      rw [← hB1] at nb1
      rw [← hB0] at nb0
      rw [← hW]
      try rw [← hB1]
      try rw [← hB0]
      have K1_0 := Lib.hid nb0
      have G1_0 : Hid (w.heap.size ≤ B1_0) := Lib.hid (by have := (Nat.le_refl w.heap.size); omega)
      have K1_1 := Lib.hid nb1
      have G1_1 : Hid (w.heap.size ≤ B1_1) := Lib.hid (by have := (Nat.le_refl w.heap.size); omega)
      have y1_0_1 : B1_0 ≠ B1_1 := by omega
      have Y1_0_1 := Lib.hid y1_0_1; clear y1_0_1
      have L1 := Lib.hid nl
      clear nl hW nb0 hB0 nb1 hB1
      go_wp2_with fail
      refine (first15_any _ (HL.out.below L1.out)).mono ?_
      rintro e w2 ⟨rfl, hb⟩
      have L2 := Lib.hid (L1.out.trans (hb.mono L1.out.size))
      have K2_0 := Lib.hid (K1_0.out.below hb K1_0.out.lt)
      have K2_1 := Lib.hid (K1_1.out.below hb K1_1.out.lt)
      clear hb K1_0 K1_1
      have m0_0 : w2.cell? ⟨B1_0, 0, none⟩ = some _ := K2_0.out.cell 0
      have m0_1 : w2.cell? ⟨B1_0, 1, none⟩ = some _ := K2_0.out.cell 1
      have m0_2 : w2.cell? ⟨B1_0, 2, none⟩ = some _ := K2_0.out.cell 2
      have m0_3 : w2.cell? ⟨B1_0, 3, none⟩ = some _ := K2_0.out.cell 3
      have m0_4 : w2.cell? ⟨B1_0, 4, none⟩ = some _ := K2_0.out.cell 4
      have m0_5 : w2.cell? ⟨B1_0, 5, none⟩ = some _ := K2_0.out.cell 5
      have mlt0 : B1_0 < w2.heap.size := K2_0.out.lt
      have m1_0 : w2.cell? ⟨B1_1, 0, none⟩ = some _ := K2_1.out.cell 0
      have m1_1 : w2.cell? ⟨B1_1, 1, none⟩ = some _ := K2_1.out.cell 1
      have m1_2 : w2.cell? ⟨B1_1, 2, none⟩ = some _ := K2_1.out.cell 2
      have m1_3 : w2.cell? ⟨B1_1, 3, none⟩ = some _ := K2_1.out.cell 3
      have m1_4 : w2.cell? ⟨B1_1, 4, none⟩ = some _ := K2_1.out.cell 4
      have m1_5 : w2.cell? ⟨B1_1, 5, none⟩ = some _ := K2_1.out.cell 5
      have mlt1 : B1_1 < w2.heap.size := K2_1.out.lt
      go_wp2
      clear m0_0 m0_1 m0_2 m0_3 m0_4 m0_5 mlt0 m1_0 m1_1 m1_2 m1_3 m1_4 m1_5 mlt1
      go_ret
      exact ⟨rfl, L2.out⟩
    · have hbi : ¬ (5000 : Int) < dl := by omega
      go_enter Tryd.func5, Tryd.ntmps5
      go_upto_region 1 with (fail)
      have nb0 : Blk (w.alloc (.cells #[.int .i64 k, .int .i64 p, .int .i64 n, .int .i64 h, .int .u16 (s : Int), .slice A dl cap] 26)) (w.heap.size) [.int .i64 k, .int .i64 p, .int .i64 n, .int .i64 h, .int .u16 (s : Int), .slice A dl cap] 26 := Blk.new w [.int .i64 k, .int .i64 p, .int .i64 n, .int .i64 h, .int .u16 (s : Int), .slice A dl cap] 26
      replace nb0 := nb0.alloc (.cells #[.int .i64 k2, .int .i64 p2, .int .i64 n2, .int .i64 h2, .int .u16 (s2 : Int), .slice A2 dl2 cap2] 26)
      have nb1 : Blk ((w.alloc (.cells #[.int .i64 k, .int .i64 p, .int .i64 n, .int .i64 h, .int .u16 (s : Int), .slice A dl cap] 26)).alloc (.cells #[.int .i64 k2, .int .i64 p2, .int .i64 n2, .int .i64 h2, .int .u16 (s2 : Int), .slice A2 dl2 cap2] 26)) (w.heap.size + 1) [.int .i64 k2, .int .i64 p2, .int .i64 n2, .int .i64 h2, .int .u16 (s2 : Int), .slice A2 dl2 cap2] 26 := Blk.nextn (w.alloc (.cells #[.int .i64 k, .int .i64 p, .int .i64 n, .int .i64 h, .int .u16 (s : Int), .slice A dl cap] 26)) (w.heap.size + 1) [.int .i64 k2, .int .i64 p2, .int .i64 n2, .int .i64 h2, .int .u16 (s2 : Int), .slice A2 dl2 cap2] 26 (by simp)
      have nls : Below w.heap.size w w := (Below.refl w.heap.size w)
      have nl0 := nls.alloc nls.size (.cells #[.int .i64 k, .int .i64 p, .int .i64 n, .int .i64 h, .int .u16 (s : Int), .slice A dl cap] 26)
      have nl1 := nl0.alloc nl0.size (.cells #[.int .i64 k2, .int .i64 p2, .int .i64 n2, .int .i64 h2, .int .u16 (s2 : Int), .slice A2 dl2 cap2] 26)
      have nl : Below w.heap.size w ((w.alloc (.cells #[.int .i64 k, .int .i64 p, .int .i64 n, .int .i64 h, .int .u16 (s : Int), .slice A dl cap] 26)).alloc (.cells #[.int .i64 k2, .int .i64 p2, .int .i64 n2, .int .i64 h2, .int .u16 (s2 : Int), .slice A2 dl2 cap2] 26)) := nl1; clear nls nl0 nl1
      obtain ⟨B3_1, hB1⟩ : ∃ B, B = w.heap.size + 1 := ⟨_, rfl⟩
      obtain ⟨B3_0, hB0⟩ : ∃ B, B = w.heap.size := ⟨_, rfl⟩
      obtain ⟨W3, hW⟩ : ∃ W, W = ((w.alloc (.cells #[.int .i64 k, .int .i64 p, .int .i64 n, .int .i64 h, .int .u16 (s : Int), .slice A dl cap] 26)).alloc (.cells #[.int .i64 k2, .int .i64 p2, .int .i64 n2, .int .i64 h2, .int .u16 (s2 : Int), .slice A2 dl2 cap2] 26)) := ⟨_, rfl⟩
      rw [← hW] at nl nb0 nb1
      rw [← hB1] at nb1
      rw [← hB0] at nb0
      rw [← hW]
      try rw [← hB1]
      try rw [← hB0]
      have K3_0 := Lib.hid nb0
      have G3_0 : Hid (w.heap.size ≤ B3_0) := Lib.hid (by have := (Nat.le_refl w.heap.size); omega)
      have K3_1 := Lib.hid nb1
      have G3_1 : Hid (w.heap.size ≤ B3_1) := Lib.hid (by have := (Nat.le_refl w.heap.size); omega)
      have y3_0_1 : B3_0 ≠ B3_1 := by omega
      have Y3_0_1 := Lib.hid y3_0_1; clear y3_0_1
      have L3 := Lib.hid nl
      clear nl hW nb0 hB0 nb1 hB1
      go_wp2_with fail
      refine (first15_any _ (HL.out.below L3.out)).mono ?_
      rintro e w4 ⟨rfl, hb⟩
      have L4 := Lib.hid (L3.out.trans (hb.mono L3.out.size))
      have K4_0 := Lib.hid (K3_0.out.below hb K3_0.out.lt)
      have K4_1 := Lib.hid (K3_1.out.below hb K3_1.out.lt)
      clear hb K3_0 K3_1
      have m0_0 : w4.cell? ⟨B3_0, 0, none⟩ = some _ := K4_0.out.cell 0
      have m0_1 : w4.cell? ⟨B3_0, 1, none⟩ = some _ := K4_0.out.cell 1
      have m0_2 : w4.cell? ⟨B3_0, 2, none⟩ = some _ := K4_0.out.cell 2
      have m0_3 : w4.cell? ⟨B3_0, 3, none⟩ = some _ := K4_0.out.cell 3
      have m0_4 : w4.cell? ⟨B3_0, 4, none⟩ = some _ := K4_0.out.cell 4
      have m0_5 : w4.cell? ⟨B3_0, 5, none⟩ = some _ := K4_0.out.cell 5
      have mlt0 : B3_0 < w4.heap.size := K4_0.out.lt
      have m1_0 : w4.cell? ⟨B3_1, 0, none⟩ = some _ := K4_1.out.cell 0
      have m1_1 : w4.cell? ⟨B3_1, 1, none⟩ = some _ := K4_1.out.cell 1
      have m1_2 : w4.cell? ⟨B3_1, 2, none⟩ = some _ := K4_1.out.cell 2
      have m1_3 : w4.cell? ⟨B3_1, 3, none⟩ = some _ := K4_1.out.cell 3
      have m1_4 : w4.cell? ⟨B3_1, 4, none⟩ = some _ := K4_1.out.cell 4
      have m1_5 : w4.cell? ⟨B3_1, 5, none⟩ = some _ := K4_1.out.cell 5
      have mlt1 : B3_1 < w4.heap.size := K4_1.out.lt
      go_upto_region 5 with (fail)
      clear m0_0 m0_1 m0_2 m0_3 m0_4 m0_5 mlt0 m1_0 m1_1 m1_2 m1_3 m1_4 m1_5 mlt1
      refine wp_region_held_drew (S := fun w' => Blk w' B3_0 [.int .i64 k, .int .i64 p, .int .i64 n, .int .i64 h, .int .u16 (s : Int), .slice A dl cap] 26 ∧ Blk w' B3_1 [.int .i64 k2, .int .i64 p2, .int .i64 n2, .int .i64 h2, .int .u16 (s2 : Int), .slice A2 dl2 cap2] 26) (by kernel_rfl) ⟨K4_0.out, K4_1.out⟩ (fun hHeld => ?_)
      simp only [List.size_toArray, List.length_cons, List.length_nil, Nat.reduceAdd]
      rw [show Array.replicate 20 false = [false, false, false, false, false, false, false, false, false, false, false, false, false, false, false, false, false, false, false, false].toArray from rfl]
      refine wpAnyH_take (i := 0) (v := _) rfl (by kernel_rfl) (by kernel_rfl) (by kernel_rfl) (fun _ _ _ h => h) (Or.inl ⟨by rfl, fun w hSw => yield_m15 _ _ _ rfl rfl hSw.1⟩) (by assumption) ?_
      try simp only [Act.put, List.setIfInBounds_toArray, List.set_cons_zero, List.set_cons_succ, List.getElem_toArray, List.getElem_cons_succ, List.getElem_cons_zero]
      refine wpAnyH_take (i := 2) (v := _) rfl (by kernel_rfl) (by kernel_rfl) (by kernel_rfl) (fun _ _ _ h => h) (Or.inl ⟨by rfl, fun w hSw => yield_m15 _ _ _ rfl rfl hSw.1⟩) (by assumption) ?_
      try simp only [Act.put, List.setIfInBounds_toArray, List.set_cons_zero, List.set_cons_succ, List.getElem_toArray, List.getElem_cons_succ, List.getElem_cons_zero]
      refine wpAnyH_ready (rs := [1]) (by kernel_rfl) (by simp) ?_
      refine AllReadyH.cons rfl (fun K hK => ?_) AllReadyH.nil
      go_simp
      refine (HT1.out _ (L4.out.drew)).mono ?_
      rintro e w5 ⟨rfl, hb⟩
      have L5 := Lib.hid ((L4.out.drew).trans (hb.mono L4.out.size))
      have K5_0 := Lib.hid ((Blk.drewN K4_0.out 1).below hb K4_0.out.lt)
      have K5_1 := Lib.hid ((Blk.drewN K4_1.out 1).below hb K4_1.out.lt)
      clear hb K4_0 K4_1
      refine hK.out _ _ ⟨K5_0.out, K5_1.out⟩ (fun hS1 => ?_)
      clear hK K
      refine wpAnyH_ready (rs := [3]) (by kernel_rfl) (by simp) ?_
      refine AllReadyH.cons rfl (fun K hK => ?_) AllReadyH.nil
      go_simp
      refine (HT2.out _ L5.out).mono ?_
      rintro e w6 ⟨rfl, hb⟩
      have L6 := Lib.hid (L5.out.trans (hb.mono L5.out.size))
      have K6_0 := Lib.hid (K5_0.out.below hb K5_0.out.lt)
      have K6_1 := Lib.hid (K5_1.out.below hb K5_1.out.lt)
      clear hb K5_0 K5_1
      refine hK.out _ _ ⟨K6_0.out, K6_1.out⟩ (fun hS3 => ?_)
      clear hK K
      refine wpAnyH_take (i := 4) (v := ?_) rfl (by kernel_rfl) (by kernel_rfl) (by kernel_rfl) (fun _ _ _ h => h) (Or.inl ⟨by rfl, ?yldq⟩) (by assumption) ?_
      case yldq => (intro w hSw; (try dsimp only at hSw); go_simp; try with_reducible rfl)
      try simp only [Act.put, List.setIfInBounds_toArray, List.set_cons_zero, List.set_cons_succ, List.getElem_toArray, List.getElem_cons_succ, List.getElem_cons_zero]
      refine wpAnyH_take (i := 5) (v := ?_) rfl (by kernel_rfl) (by kernel_rfl) (by kernel_rfl) (fun _ _ _ h => h) (Or.inl ⟨by rfl, ?yldq⟩) (by assumption) ?_
      case yldq => (intro w hSw; (try dsimp only at hSw); go_simp; try with_reducible rfl)
      try simp only [Act.put, List.setIfInBounds_toArray, List.set_cons_zero, List.set_cons_succ, List.getElem_toArray, List.getElem_cons_succ, List.getElem_cons_zero]
      refine wpAnyH_take (i := 6) (v := _) rfl (by kernel_rfl) (by kernel_rfl) (by kernel_rfl) (fun _ _ _ h => h) (Or.inl ⟨by rfl, fun w hSw => yield_m15 _ _ _ rfl rfl hSw.1⟩) (by assumption) ?_
      try simp only [Act.put, List.setIfInBounds_toArray, List.set_cons_zero, List.set_cons_succ, List.getElem_toArray, List.getElem_cons_succ, List.getElem_cons_zero]
      refine wpAnyH_take (i := 7) (v := _) rfl (by kernel_rfl) (by kernel_rfl) (by kernel_rfl) (fun _ _ _ h => h) (Or.inl ⟨by rfl, fun w hSw => yield_m15 _ _ _ rfl rfl hSw.2⟩) (by assumption) ?_
      try simp only [Act.put, List.setIfInBounds_toArray, List.set_cons_zero, List.set_cons_succ, List.getElem_toArray, List.getElem_cons_succ, List.getElem_cons_zero]
      refine wpAnyH_take (i := 9) (v := _) rfl (by kernel_rfl) (by kernel_rfl) (by kernel_rfl) (fun _ _ _ h => h) (Or.inl ⟨by rfl, fun w hSw => yield_m15 _ _ _ rfl rfl hSw.1⟩) (by assumption) ?_
      try simp only [Act.put, List.setIfInBounds_toArray, List.set_cons_zero, List.set_cons_succ, List.getElem_toArray, List.getElem_cons_succ, List.getElem_cons_zero]
      refine wpAnyH_take (i := 10) (v := _) rfl (by kernel_rfl) (by kernel_rfl) (by kernel_rfl) (fun _ _ _ h => h) (Or.inl ⟨by rfl, fun w hSw => yield_m15 _ _ _ rfl rfl hSw.2⟩) (by assumption) ?_
      try simp only [Act.put, List.setIfInBounds_toArray, List.set_cons_zero, List.set_cons_succ, List.getElem_toArray, List.getElem_cons_succ, List.getElem_cons_zero]
      refine wpAnyH_ready (rs := [8]) (by kernel_rfl) (by simp) ?_
      refine AllReadyH.cons rfl (fun K hK => ?_) AllReadyH.nil
      go_simp
      refine (HS1.out _ L6.out).mono ?_
      rintro e w7 ⟨rfl, hb⟩
      have L7 := Lib.hid (L6.out.trans (hb.mono L6.out.size))
      have K7_0 := Lib.hid (K6_0.out.below hb K6_0.out.lt)
      have K7_1 := Lib.hid (K6_1.out.below hb K6_1.out.lt)
      clear hb K6_0 K6_1
      refine hK.out _ _ ⟨K7_0.out, K7_1.out⟩ (fun hS8 => ?_)
      clear hK K
      refine wpAnyH_ready (rs := [11]) (by kernel_rfl) (by simp) ?_
      refine AllReadyH.cons rfl (fun K hK => ?_) AllReadyH.nil
      go_simp
      refine (HS2.out _ L7.out).mono ?_
      rintro e w8 ⟨rfl, hb⟩
      have L8 := Lib.hid (L7.out.trans (hb.mono L7.out.size))
      have K8_0 := Lib.hid (K7_0.out.below hb K7_0.out.lt)
      have K8_1 := Lib.hid (K7_1.out.below hb K7_1.out.lt)
      clear hb K7_0 K7_1
      refine hK.out _ _ ⟨K8_0.out, K8_1.out⟩ (fun hS11 => ?_)
      clear hK K
      refine wpAnyH_take (i := 12) (v := ?_) rfl (by kernel_rfl) (by kernel_rfl) (by kernel_rfl) (fun _ _ _ h => h) (Or.inl ⟨by rfl, ?yldq⟩) (by assumption) ?_
      case yldq => (intro w hSw; (try dsimp only at hSw); go_simp; try with_reducible rfl)
      try simp only [Act.put, List.setIfInBounds_toArray, List.set_cons_zero, List.set_cons_succ, List.getElem_toArray, List.getElem_cons_succ, List.getElem_cons_zero]
      refine wpAnyH_take (i := 13) (v := ?_) rfl (by kernel_rfl) (by kernel_rfl) (by kernel_rfl) (fun _ _ _ h => h) (Or.inl ⟨by rfl, ?yldq⟩) (by assumption) ?_
      case yldq => (intro w hSw; (try dsimp only at hSw); go_simp; try with_reducible rfl)
      try simp only [Act.put, List.setIfInBounds_toArray, List.set_cons_zero, List.set_cons_succ, List.getElem_toArray, List.getElem_cons_succ, List.getElem_cons_zero]
      refine wpAnyH_take (i := 14) (v := ?_) rfl (by kernel_rfl) (by kernel_rfl) (by kernel_rfl) (fun _ _ _ h => h) (Or.inl ⟨by rfl, ?yldq⟩) (by assumption) ?_
      case yldq => (intro w hSw; (try dsimp only at hSw); go_simp; try with_reducible rfl)
      try simp only [Act.put, List.setIfInBounds_toArray, List.set_cons_zero, List.set_cons_succ, List.getElem_toArray, List.getElem_cons_succ, List.getElem_cons_zero]
      refine wpAnyH_take (i := 15) (v := _) rfl (by kernel_rfl) (by kernel_rfl) (by kernel_rfl) (fun _ _ _ h => h) (Or.inl ⟨by rfl, fun w hSw => yield_m15 _ _ _ rfl rfl hSw.1⟩) (by assumption) ?_
      try simp only [Act.put, List.setIfInBounds_toArray, List.set_cons_zero, List.set_cons_succ, List.getElem_toArray, List.getElem_cons_succ, List.getElem_cons_zero]
      refine wpAnyH_take (i := 16) (v := _) rfl (by kernel_rfl) (by kernel_rfl) (by kernel_rfl) (fun _ _ _ h => h) (Or.inl ⟨by rfl, fun w hSw => yield_m15 _ _ _ rfl rfl hSw.1⟩) (by assumption) ?_
      try simp only [Act.put, List.setIfInBounds_toArray, List.set_cons_zero, List.set_cons_succ, List.getElem_toArray, List.getElem_cons_succ, List.getElem_cons_zero]
      refine wpAnyH_ready (rs := [17]) (by kernel_rfl) (by simp) ?_
      refine AllReadyH.cons rfl (fun K hK => ?_) AllReadyH.nil
      go_simp
      refine (HS3.out _ L8.out).mono ?_
      rintro e w9 ⟨rfl, hb⟩
      have L9 := Lib.hid (L8.out.trans (hb.mono L8.out.size))
      have K9_0 := Lib.hid (K8_0.out.below hb K8_0.out.lt)
      have K9_1 := Lib.hid (K8_1.out.below hb K8_1.out.lt)
      clear hb K8_0 K8_1
      refine hK.out _ _ ⟨K9_0.out, K9_1.out⟩ (fun hS17 => ?_)
      clear hK K
      refine wpAnyH_take (i := 18) (v := ?_) rfl (by kernel_rfl) (by kernel_rfl) (by kernel_rfl) (fun _ _ _ h => h) (Or.inl ⟨by rfl, ?yldq⟩) (by assumption) ?_
      case yldq => (intro w hSw; (try dsimp only at hSw); go_simp; try with_reducible rfl)
      try simp only [Act.put, List.setIfInBounds_toArray, List.set_cons_zero, List.set_cons_succ, List.getElem_toArray, List.getElem_cons_succ, List.getElem_cons_zero]
      refine wpAnyH_take (i := 19) (v := ?_) rfl (by kernel_rfl) (by kernel_rfl) (by kernel_rfl) (fun _ _ _ h => h) (Or.inl ⟨by rfl, ?yldq⟩) (by assumption) ?_
      case yldq => (intro w hSw; (try dsimp only at hSw); go_simp; try with_reducible rfl)
      try simp only [Act.put, List.setIfInBounds_toArray, List.set_cons_zero, List.set_cons_succ, List.getElem_toArray, List.getElem_cons_succ, List.getElem_cons_zero]
      refine wpAnyH_done (by kernel_rfl) ?_ _
      go_wp2
      go_ret
      exact ⟨rfl, L9.out⟩
  · have hxi : (dl : Int) ≤ dl2 := by omega
    have hmx : max (dl : Int) (dl2 : Int) = (dl2 : Int) := by omega
    by_cases hb : 5000 < dl2
    · have hbi : (5000 : Int) < dl2 := by omega
      go_enter Tryd.func5, Tryd.ntmps5
      go_upto_region 1 with (fail)
      have nb0 : Blk (w.alloc (.cells #[.int .i64 k, .int .i64 p, .int .i64 n, .int .i64 h, .int .u16 (s : Int), .slice A dl cap] 26)) (w.heap.size) [.int .i64 k, .int .i64 p, .int .i64 n, .int .i64 h, .int .u16 (s : Int), .slice A dl cap] 26 := Blk.new w [.int .i64 k, .int .i64 p, .int .i64 n, .int .i64 h, .int .u16 (s : Int), .slice A dl cap] 26
      replace nb0 := nb0.alloc (.cells #[.int .i64 k2, .int .i64 p2, .int .i64 n2, .int .i64 h2, .int .u16 (s2 : Int), .slice A2 dl2 cap2] 26)
      have nb1 : Blk ((w.alloc (.cells #[.int .i64 k, .int .i64 p, .int .i64 n, .int .i64 h, .int .u16 (s : Int), .slice A dl cap] 26)).alloc (.cells #[.int .i64 k2, .int .i64 p2, .int .i64 n2, .int .i64 h2, .int .u16 (s2 : Int), .slice A2 dl2 cap2] 26)) (w.heap.size + 1) [.int .i64 k2, .int .i64 p2, .int .i64 n2, .int .i64 h2, .int .u16 (s2 : Int), .slice A2 dl2 cap2] 26 := Blk.nextn (w.alloc (.cells #[.int .i64 k, .int .i64 p, .int .i64 n, .int .i64 h, .int .u16 (s : Int), .slice A dl cap] 26)) (w.heap.size + 1) [.int .i64 k2, .int .i64 p2, .int .i64 n2, .int .i64 h2, .int .u16 (s2 : Int), .slice A2 dl2 cap2] 26 (by simp)
      have nls : Below w.heap.size w w := (Below.refl w.heap.size w)
      have nl0 := nls.alloc nls.size (.cells #[.int .i64 k, .int .i64 p, .int .i64 n, .int .i64 h, .int .u16 (s : Int), .slice A dl cap] 26)
      have nl1 := nl0.alloc nl0.size (.cells #[.int .i64 k2, .int .i64 p2, .int .i64 n2, .int .i64 h2, .int .u16 (s2 : Int), .slice A2 dl2 cap2] 26)
      have nl : Below w.heap.size w ((w.alloc (.cells #[.int .i64 k, .int .i64 p, .int .i64 n, .int .i64 h, .int .u16 (s : Int), .slice A dl cap] 26)).alloc (.cells #[.int .i64 k2, .int .i64 p2, .int .i64 n2, .int .i64 h2, .int .u16 (s2 : Int), .slice A2 dl2 cap2] 26)) := nl1; clear nls nl0 nl1
      obtain ⟨B10_1, hB1⟩ : ∃ B, B = w.heap.size + 1 := ⟨_, rfl⟩
      obtain ⟨B10_0, hB0⟩ : ∃ B, B = w.heap.size := ⟨_, rfl⟩
      obtain ⟨W10, hW⟩ : ∃ W, W = ((w.alloc (.cells #[.int .i64 k, .int .i64 p, .int .i64 n, .int .i64 h, .int .u16 (s : Int), .slice A dl cap] 26)).alloc (.cells #[.int .i64 k2, .int .i64 p2, .int .i64 n2, .int .i64 h2, .int .u16 (s2 : Int), .slice A2 dl2 cap2] 26)) := ⟨_, rfl⟩
      rw [← hW] at nl nb0 nb1
      rw [← hB1] at nb1
      rw [← hB0] at nb0
      rw [← hW]
      try rw [← hB1]
      try rw [← hB0]
      have K10_0 := Lib.hid nb0
      have G10_0 : Hid (w.heap.size ≤ B10_0) := Lib.hid (by have := (Nat.le_refl w.heap.size); omega)
      have K10_1 := Lib.hid nb1
      have G10_1 : Hid (w.heap.size ≤ B10_1) := Lib.hid (by have := (Nat.le_refl w.heap.size); omega)
      have y10_0_1 : B10_0 ≠ B10_1 := by omega
      have Y10_0_1 := Lib.hid y10_0_1; clear y10_0_1
      have L10 := Lib.hid nl
      clear nl hW nb0 hB0 nb1 hB1
      go_wp2_with fail
      refine (first15_any _ (HL.out.below L10.out)).mono ?_
      rintro e w11 ⟨rfl, hb⟩
      have L11 := Lib.hid (L10.out.trans (hb.mono L10.out.size))
      have K11_0 := Lib.hid (K10_0.out.below hb K10_0.out.lt)
      have K11_1 := Lib.hid (K10_1.out.below hb K10_1.out.lt)
      clear hb K10_0 K10_1
      have m0_0 : w11.cell? ⟨B10_0, 0, none⟩ = some _ := K11_0.out.cell 0
      have m0_1 : w11.cell? ⟨B10_0, 1, none⟩ = some _ := K11_0.out.cell 1
      have m0_2 : w11.cell? ⟨B10_0, 2, none⟩ = some _ := K11_0.out.cell 2
      have m0_3 : w11.cell? ⟨B10_0, 3, none⟩ = some _ := K11_0.out.cell 3
      have m0_4 : w11.cell? ⟨B10_0, 4, none⟩ = some _ := K11_0.out.cell 4
      have m0_5 : w11.cell? ⟨B10_0, 5, none⟩ = some _ := K11_0.out.cell 5
      have mlt0 : B10_0 < w11.heap.size := K11_0.out.lt
      have m1_0 : w11.cell? ⟨B10_1, 0, none⟩ = some _ := K11_1.out.cell 0
      have m1_1 : w11.cell? ⟨B10_1, 1, none⟩ = some _ := K11_1.out.cell 1
      have m1_2 : w11.cell? ⟨B10_1, 2, none⟩ = some _ := K11_1.out.cell 2
      have m1_3 : w11.cell? ⟨B10_1, 3, none⟩ = some _ := K11_1.out.cell 3
      have m1_4 : w11.cell? ⟨B10_1, 4, none⟩ = some _ := K11_1.out.cell 4
      have m1_5 : w11.cell? ⟨B10_1, 5, none⟩ = some _ := K11_1.out.cell 5
      have mlt1 : B10_1 < w11.heap.size := K11_1.out.lt
      go_wp2
      clear m0_0 m0_1 m0_2 m0_3 m0_4 m0_5 mlt0 m1_0 m1_1 m1_2 m1_3 m1_4 m1_5 mlt1
      go_ret
      exact ⟨rfl, L11.out⟩
    · have hbi : ¬ (5000 : Int) < dl2 := by omega
      go_enter Tryd.func5, Tryd.ntmps5
      go_upto_region 1 with (fail)
      have nb0 : Blk (w.alloc (.cells #[.int .i64 k, .int .i64 p, .int .i64 n, .int .i64 h, .int .u16 (s : Int), .slice A dl cap] 26)) (w.heap.size) [.int .i64 k, .int .i64 p, .int .i64 n, .int .i64 h, .int .u16 (s : Int), .slice A dl cap] 26 := Blk.new w [.int .i64 k, .int .i64 p, .int .i64 n, .int .i64 h, .int .u16 (s : Int), .slice A dl cap] 26
      replace nb0 := nb0.alloc (.cells #[.int .i64 k2, .int .i64 p2, .int .i64 n2, .int .i64 h2, .int .u16 (s2 : Int), .slice A2 dl2 cap2] 26)
      have nb1 : Blk ((w.alloc (.cells #[.int .i64 k, .int .i64 p, .int .i64 n, .int .i64 h, .int .u16 (s : Int), .slice A dl cap] 26)).alloc (.cells #[.int .i64 k2, .int .i64 p2, .int .i64 n2, .int .i64 h2, .int .u16 (s2 : Int), .slice A2 dl2 cap2] 26)) (w.heap.size + 1) [.int .i64 k2, .int .i64 p2, .int .i64 n2, .int .i64 h2, .int .u16 (s2 : Int), .slice A2 dl2 cap2] 26 := Blk.nextn (w.alloc (.cells #[.int .i64 k, .int .i64 p, .int .i64 n, .int .i64 h, .int .u16 (s : Int), .slice A dl cap] 26)) (w.heap.size + 1) [.int .i64 k2, .int .i64 p2, .int .i64 n2, .int .i64 h2, .int .u16 (s2 : Int), .slice A2 dl2 cap2] 26 (by simp)
      have nls : Below w.heap.size w w := (Below.refl w.heap.size w)
      have nl0 := nls.alloc nls.size (.cells #[.int .i64 k, .int .i64 p, .int .i64 n, .int .i64 h, .int .u16 (s : Int), .slice A dl cap] 26)
      have nl1 := nl0.alloc nl0.size (.cells #[.int .i64 k2, .int .i64 p2, .int .i64 n2, .int .i64 h2, .int .u16 (s2 : Int), .slice A2 dl2 cap2] 26)
      have nl : Below w.heap.size w ((w.alloc (.cells #[.int .i64 k, .int .i64 p, .int .i64 n, .int .i64 h, .int .u16 (s : Int), .slice A dl cap] 26)).alloc (.cells #[.int .i64 k2, .int .i64 p2, .int .i64 n2, .int .i64 h2, .int .u16 (s2 : Int), .slice A2 dl2 cap2] 26)) := nl1; clear nls nl0 nl1
      obtain ⟨B12_1, hB1⟩ : ∃ B, B = w.heap.size + 1 := ⟨_, rfl⟩
      obtain ⟨B12_0, hB0⟩ : ∃ B, B = w.heap.size := ⟨_, rfl⟩
      obtain ⟨W12, hW⟩ : ∃ W, W = ((w.alloc (.cells #[.int .i64 k, .int .i64 p, .int .i64 n, .int .i64 h, .int .u16 (s : Int), .slice A dl cap] 26)).alloc (.cells #[.int .i64 k2, .int .i64 p2, .int .i64 n2, .int .i64 h2, .int .u16 (s2 : Int), .slice A2 dl2 cap2] 26)) := ⟨_, rfl⟩
      rw [← hW] at nl nb0 nb1
      rw [← hB1] at nb1
      rw [← hB0] at nb0
      rw [← hW]
      try rw [← hB1]
      try rw [← hB0]
      have K12_0 := Lib.hid nb0
      have G12_0 : Hid (w.heap.size ≤ B12_0) := Lib.hid (by have := (Nat.le_refl w.heap.size); omega)
      have K12_1 := Lib.hid nb1
      have G12_1 : Hid (w.heap.size ≤ B12_1) := Lib.hid (by have := (Nat.le_refl w.heap.size); omega)
      have y12_0_1 : B12_0 ≠ B12_1 := by omega
      have Y12_0_1 := Lib.hid y12_0_1; clear y12_0_1
      have L12 := Lib.hid nl
      clear nl hW nb0 hB0 nb1 hB1
      go_wp2_with fail
      refine (first15_any _ (HL.out.below L12.out)).mono ?_
      rintro e w13 ⟨rfl, hb⟩
      have L13 := Lib.hid (L12.out.trans (hb.mono L12.out.size))
      have K13_0 := Lib.hid (K12_0.out.below hb K12_0.out.lt)
      have K13_1 := Lib.hid (K12_1.out.below hb K12_1.out.lt)
      clear hb K12_0 K12_1
      have m0_0 : w13.cell? ⟨B12_0, 0, none⟩ = some _ := K13_0.out.cell 0
      have m0_1 : w13.cell? ⟨B12_0, 1, none⟩ = some _ := K13_0.out.cell 1
      have m0_2 : w13.cell? ⟨B12_0, 2, none⟩ = some _ := K13_0.out.cell 2
      have m0_3 : w13.cell? ⟨B12_0, 3, none⟩ = some _ := K13_0.out.cell 3
      have m0_4 : w13.cell? ⟨B12_0, 4, none⟩ = some _ := K13_0.out.cell 4
      have m0_5 : w13.cell? ⟨B12_0, 5, none⟩ = some _ := K13_0.out.cell 5
      have mlt0 : B12_0 < w13.heap.size := K13_0.out.lt
      have m1_0 : w13.cell? ⟨B12_1, 0, none⟩ = some _ := K13_1.out.cell 0
      have m1_1 : w13.cell? ⟨B12_1, 1, none⟩ = some _ := K13_1.out.cell 1
      have m1_2 : w13.cell? ⟨B12_1, 2, none⟩ = some _ := K13_1.out.cell 2
      have m1_3 : w13.cell? ⟨B12_1, 3, none⟩ = some _ := K13_1.out.cell 3
      have m1_4 : w13.cell? ⟨B12_1, 4, none⟩ = some _ := K13_1.out.cell 4
      have m1_5 : w13.cell? ⟨B12_1, 5, none⟩ = some _ := K13_1.out.cell 5
      have mlt1 : B12_1 < w13.heap.size := K13_1.out.lt
      go_upto_region 5 with (fail)
      clear m0_0 m0_1 m0_2 m0_3 m0_4 m0_5 mlt0 m1_0 m1_1 m1_2 m1_3 m1_4 m1_5 mlt1
      refine wp_region_held_drew (S := fun w' => Blk w' B12_0 [.int .i64 k, .int .i64 p, .int .i64 n, .int .i64 h, .int .u16 (s : Int), .slice A dl cap] 26 ∧ Blk w' B12_1 [.int .i64 k2, .int .i64 p2, .int .i64 n2, .int .i64 h2, .int .u16 (s2 : Int), .slice A2 dl2 cap2] 26) (by kernel_rfl) ⟨K13_0.out, K13_1.out⟩ (fun hHeld => ?_)
      simp only [List.size_toArray, List.length_cons, List.length_nil, Nat.reduceAdd]
      rw [show Array.replicate 20 false = [false, false, false, false, false, false, false, false, false, false, false, false, false, false, false, false, false, false, false, false].toArray from rfl]
      refine wpAnyH_take (i := 0) (v := _) rfl (by kernel_rfl) (by kernel_rfl) (by kernel_rfl) (fun _ _ _ h => h) (Or.inl ⟨by rfl, fun w hSw => yield_m15 _ _ _ rfl rfl hSw.1⟩) (by assumption) ?_
      try simp only [Act.put, List.setIfInBounds_toArray, List.set_cons_zero, List.set_cons_succ, List.getElem_toArray, List.getElem_cons_succ, List.getElem_cons_zero]
      refine wpAnyH_take (i := 2) (v := _) rfl (by kernel_rfl) (by kernel_rfl) (by kernel_rfl) (fun _ _ _ h => h) (Or.inl ⟨by rfl, fun w hSw => yield_m15 _ _ _ rfl rfl hSw.1⟩) (by assumption) ?_
      try simp only [Act.put, List.setIfInBounds_toArray, List.set_cons_zero, List.set_cons_succ, List.getElem_toArray, List.getElem_cons_succ, List.getElem_cons_zero]
      refine wpAnyH_ready (rs := [1]) (by kernel_rfl) (by simp) ?_
      refine AllReadyH.cons rfl (fun K hK => ?_) AllReadyH.nil
      go_simp
      refine (HT1.out _ (L13.out.drew)).mono ?_
      rintro e w14 ⟨rfl, hb⟩
      have L14 := Lib.hid ((L13.out.drew).trans (hb.mono L13.out.size))
      have K14_0 := Lib.hid ((Blk.drewN K13_0.out 1).below hb K13_0.out.lt)
      have K14_1 := Lib.hid ((Blk.drewN K13_1.out 1).below hb K13_1.out.lt)
      clear hb K13_0 K13_1
      refine hK.out _ _ ⟨K14_0.out, K14_1.out⟩ (fun hS1 => ?_)
      clear hK K
      refine wpAnyH_ready (rs := [3]) (by kernel_rfl) (by simp) ?_
      refine AllReadyH.cons rfl (fun K hK => ?_) AllReadyH.nil
      go_simp
      refine (HT2.out _ L14.out).mono ?_
      rintro e w15 ⟨rfl, hb⟩
      have L15 := Lib.hid (L14.out.trans (hb.mono L14.out.size))
      have K15_0 := Lib.hid (K14_0.out.below hb K14_0.out.lt)
      have K15_1 := Lib.hid (K14_1.out.below hb K14_1.out.lt)
      clear hb K14_0 K14_1
      refine hK.out _ _ ⟨K15_0.out, K15_1.out⟩ (fun hS3 => ?_)
      clear hK K
      refine wpAnyH_take (i := 4) (v := ?_) rfl (by kernel_rfl) (by kernel_rfl) (by kernel_rfl) (fun _ _ _ h => h) (Or.inl ⟨by rfl, ?yldq⟩) (by assumption) ?_
      case yldq => (intro w hSw; (try dsimp only at hSw); go_simp; try with_reducible rfl)
      try simp only [Act.put, List.setIfInBounds_toArray, List.set_cons_zero, List.set_cons_succ, List.getElem_toArray, List.getElem_cons_succ, List.getElem_cons_zero]
      refine wpAnyH_take (i := 5) (v := ?_) rfl (by kernel_rfl) (by kernel_rfl) (by kernel_rfl) (fun _ _ _ h => h) (Or.inl ⟨by rfl, ?yldq⟩) (by assumption) ?_
      case yldq => (intro w hSw; (try dsimp only at hSw); go_simp; try with_reducible rfl)
      try simp only [Act.put, List.setIfInBounds_toArray, List.set_cons_zero, List.set_cons_succ, List.getElem_toArray, List.getElem_cons_succ, List.getElem_cons_zero]
      refine wpAnyH_take (i := 6) (v := _) rfl (by kernel_rfl) (by kernel_rfl) (by kernel_rfl) (fun _ _ _ h => h) (Or.inl ⟨by rfl, fun w hSw => yield_m15 _ _ _ rfl rfl hSw.1⟩) (by assumption) ?_
      try simp only [Act.put, List.setIfInBounds_toArray, List.set_cons_zero, List.set_cons_succ, List.getElem_toArray, List.getElem_cons_succ, List.getElem_cons_zero]
      refine wpAnyH_take (i := 7) (v := _) rfl (by kernel_rfl) (by kernel_rfl) (by kernel_rfl) (fun _ _ _ h => h) (Or.inl ⟨by rfl, fun w hSw => yield_m15 _ _ _ rfl rfl hSw.2⟩) (by assumption) ?_
      try simp only [Act.put, List.setIfInBounds_toArray, List.set_cons_zero, List.set_cons_succ, List.getElem_toArray, List.getElem_cons_succ, List.getElem_cons_zero]
      refine wpAnyH_take (i := 9) (v := _) rfl (by kernel_rfl) (by kernel_rfl) (by kernel_rfl) (fun _ _ _ h => h) (Or.inl ⟨by rfl, fun w hSw => yield_m15 _ _ _ rfl rfl hSw.1⟩) (by assumption) ?_
      try simp only [Act.put, List.setIfInBounds_toArray, List.set_cons_zero, List.set_cons_succ, List.getElem_toArray, List.getElem_cons_succ, List.getElem_cons_zero]
      refine wpAnyH_take (i := 10) (v := _) rfl (by kernel_rfl) (by kernel_rfl) (by kernel_rfl) (fun _ _ _ h => h) (Or.inl ⟨by rfl, fun w hSw => yield_m15 _ _ _ rfl rfl hSw.2⟩) (by assumption) ?_
      try simp only [Act.put, List.setIfInBounds_toArray, List.set_cons_zero, List.set_cons_succ, List.getElem_toArray, List.getElem_cons_succ, List.getElem_cons_zero]
      refine wpAnyH_ready (rs := [8]) (by kernel_rfl) (by simp) ?_
      refine AllReadyH.cons rfl (fun K hK => ?_) AllReadyH.nil
      go_simp
      refine (HS1.out _ L15.out).mono ?_
      rintro e w16 ⟨rfl, hb⟩
      have L16 := Lib.hid (L15.out.trans (hb.mono L15.out.size))
      have K16_0 := Lib.hid (K15_0.out.below hb K15_0.out.lt)
      have K16_1 := Lib.hid (K15_1.out.below hb K15_1.out.lt)
      clear hb K15_0 K15_1
      refine hK.out _ _ ⟨K16_0.out, K16_1.out⟩ (fun hS8 => ?_)
      clear hK K
      refine wpAnyH_ready (rs := [11]) (by kernel_rfl) (by simp) ?_
      refine AllReadyH.cons rfl (fun K hK => ?_) AllReadyH.nil
      go_simp
      refine (HS2.out _ L16.out).mono ?_
      rintro e w17 ⟨rfl, hb⟩
      have L17 := Lib.hid (L16.out.trans (hb.mono L16.out.size))
      have K17_0 := Lib.hid (K16_0.out.below hb K16_0.out.lt)
      have K17_1 := Lib.hid (K16_1.out.below hb K16_1.out.lt)
      clear hb K16_0 K16_1
      refine hK.out _ _ ⟨K17_0.out, K17_1.out⟩ (fun hS11 => ?_)
      clear hK K
      refine wpAnyH_take (i := 12) (v := ?_) rfl (by kernel_rfl) (by kernel_rfl) (by kernel_rfl) (fun _ _ _ h => h) (Or.inl ⟨by rfl, ?yldq⟩) (by assumption) ?_
      case yldq => (intro w hSw; (try dsimp only at hSw); go_simp; try with_reducible rfl)
      try simp only [Act.put, List.setIfInBounds_toArray, List.set_cons_zero, List.set_cons_succ, List.getElem_toArray, List.getElem_cons_succ, List.getElem_cons_zero]
      refine wpAnyH_take (i := 13) (v := ?_) rfl (by kernel_rfl) (by kernel_rfl) (by kernel_rfl) (fun _ _ _ h => h) (Or.inl ⟨by rfl, ?yldq⟩) (by assumption) ?_
      case yldq => (intro w hSw; (try dsimp only at hSw); go_simp; try with_reducible rfl)
      try simp only [Act.put, List.setIfInBounds_toArray, List.set_cons_zero, List.set_cons_succ, List.getElem_toArray, List.getElem_cons_succ, List.getElem_cons_zero]
      refine wpAnyH_take (i := 14) (v := ?_) rfl (by kernel_rfl) (by kernel_rfl) (by kernel_rfl) (fun _ _ _ h => h) (Or.inl ⟨by rfl, ?yldq⟩) (by assumption) ?_
      case yldq => (intro w hSw; (try dsimp only at hSw); go_simp; try with_reducible rfl)
      try simp only [Act.put, List.setIfInBounds_toArray, List.set_cons_zero, List.set_cons_succ, List.getElem_toArray, List.getElem_cons_succ, List.getElem_cons_zero]
      refine wpAnyH_take (i := 15) (v := _) rfl (by kernel_rfl) (by kernel_rfl) (by kernel_rfl) (fun _ _ _ h => h) (Or.inl ⟨by rfl, fun w hSw => yield_m15 _ _ _ rfl rfl hSw.1⟩) (by assumption) ?_
      try simp only [Act.put, List.setIfInBounds_toArray, List.set_cons_zero, List.set_cons_succ, List.getElem_toArray, List.getElem_cons_succ, List.getElem_cons_zero]
      refine wpAnyH_take (i := 16) (v := _) rfl (by kernel_rfl) (by kernel_rfl) (by kernel_rfl) (fun _ _ _ h => h) (Or.inl ⟨by rfl, fun w hSw => yield_m15 _ _ _ rfl rfl hSw.1⟩) (by assumption) ?_
      try simp only [Act.put, List.setIfInBounds_toArray, List.set_cons_zero, List.set_cons_succ, List.getElem_toArray, List.getElem_cons_succ, List.getElem_cons_zero]
      refine wpAnyH_ready (rs := [17]) (by kernel_rfl) (by simp) ?_
      refine AllReadyH.cons rfl (fun K hK => ?_) AllReadyH.nil
      go_simp
      refine (HS3.out _ L17.out).mono ?_
      rintro e w18 ⟨rfl, hb⟩
      have L18 := Lib.hid (L17.out.trans (hb.mono L17.out.size))
      have K18_0 := Lib.hid (K17_0.out.below hb K17_0.out.lt)
      have K18_1 := Lib.hid (K17_1.out.below hb K17_1.out.lt)
      clear hb K17_0 K17_1
      refine hK.out _ _ ⟨K18_0.out, K18_1.out⟩ (fun hS17 => ?_)
      clear hK K
      refine wpAnyH_take (i := 18) (v := ?_) rfl (by kernel_rfl) (by kernel_rfl) (by kernel_rfl) (fun _ _ _ h => h) (Or.inl ⟨by rfl, ?yldq⟩) (by assumption) ?_
      case yldq => (intro w hSw; (try dsimp only at hSw); go_simp; try with_reducible rfl)
      try simp only [Act.put, List.setIfInBounds_toArray, List.set_cons_zero, List.set_cons_succ, List.getElem_toArray, List.getElem_cons_succ, List.getElem_cons_zero]
      refine wpAnyH_take (i := 19) (v := ?_) rfl (by kernel_rfl) (by kernel_rfl) (by kernel_rfl) (fun _ _ _ h => h) (Or.inl ⟨by rfl, ?yldq⟩) (by assumption) ?_
      case yldq => (intro w hSw; (try dsimp only at hSw); go_simp; try with_reducible rfl)
      try simp only [Act.put, List.setIfInBounds_toArray, List.set_cons_zero, List.set_cons_succ, List.getElem_toArray, List.getElem_cons_succ, List.getElem_cons_zero]
      refine wpAnyH_done (by kernel_rfl) ?_ _
      go_wp2
      go_ret
      exact ⟨rfl, L18.out⟩
theorem texts_walk (m m2 : Mg) (A A2 : Option Addr) (dl cap dl2 cap2 : Nat) (w : World) (ht : MgT m) (ht2 : MgT m2) (hd : Dat w A dl cap m.d) (hd2 : Dat w A2 dl2 cap2 m2.d) (hL : Lz w) : Calls Tryd.prog 5 #[.agg #[.int .i64 m.k, .int .i64 m.p, .int .i64 m.n, .int .i64 m.h, .int .u16 m.s, .slice A dl cap], .agg #[.int .i64 m2.k, .int .i64 m2.p, .int .i64 m2.n, .int .i64 m2.h, .int .u16 m2.s, .slice A2 dl2 cap2]] w fun e w' => e = .returned (.bool true) ∧ Below w.heap.size w w' := by
  obtain ⟨k, p, n, h, s, d⟩ := m
  obtain ⟨k2, p2, n2, h2, s2, d2⟩ := m2
  have hs := ht.s
  have hs2 := ht2.s
  dsimp only at hd hd2 hs hs2 ⊢
  obtain ⟨s, rfl⟩ : ∃ x : Nat, s = x := ⟨s.toNat, by omega⟩
  obtain ⟨s2, rfl⟩ : ∃ x : Nat, s2 = x := ⟨s2.toNat, by omega⟩
  exact texts_any k p n h s k2 p2 n2 h2 s2 A A2 dl cap dl2 cap2 d d2 w ht (by omega) hd hd2 hL
end Go.Proofs.YtkddhjbdijegoaaDoor
