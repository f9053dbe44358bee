/-
  Layer 8's law on words of entries: its walk. No conditions but that the arguments are of their types.
-/
import Derived.Test.YtjghhgkgjeedeaaLaw08
namespace Go.Proofs.Ytjghhgkgjeedeaa
open Go.RowKit
set_option linter.unusedVariables false
set_option linter.unusedSimpArgs false
attribute [local go_sem] setCell_drewN alloc_drewN

set_option maxHeartbeats 4000000 in
theorem words_walk (E : Ent) (x : Nat) (w : World) (hx : x < 18446744073709551616) (hr : -9223372036854775808 ≤ E.rsw ∧ E.rsw ≤ 9223372036854775807) (hp : E.ppn < 18446744073709551616) : Calls Try.prog 3 #[pv E, .int .u64 x] w fun e w' => e = .returned (.bool true) ∧ Below w.heap.size w w' := by
  have q1 := wordE_lt E
  have h1 := fun w => put_any E w hr hp
  have h2 := fun w => rput_any E w hr hp
  have h3 := fun w => get_any x w hx
  have h4 := fun w => rget_any x w hx
  have h5 := fun w => get_any (wordE E) w (by omega)
  have h6 := fun w => rget_any (wordE E) w (by omega)
  rw [decide_eq_true q1] at h5 h6
  have q2 : (entW x).rsw = ((x / 256 % 4 : Nat) : Int) := rfl
  have q3 : (entW x).ppn = x / 1024 % 17592186044416 := rfl
  have h7 := fun w => put_any (entW x) w (by omega) (by omega)
  rw [word_ent] at h7
  have q4 : ((((x % 18014398509481984 : Nat) : Int) == (x : Int)) == decide (x < 18014398509481984)) = true := by
    rw [beq_iff_eq, Bool.eq_iff_iff, beq_iff_eq, decide_eq_true_eq]; omega
  generalize decide (x < 18014398509481984) = ok at h3 h4 q4
  generalize x % 18014398509481984 = Q at h7 q4
  obtain ⟨qo, hqo⟩ : ∃ b, ((Q : Int) == (x : Int)) = b := ⟨_, rfl⟩
  rw [hqo] at q4
  generalize entW x = X at h3 h4 h7
  generalize entW (wordE E) = Z at h5 h6
  generalize wordE E = P at h1 h2 h5 h6
  obtain ⟨v1, r1, x1, e1, u1, g1, a1, d1, s1, p1⟩ := E
  obtain ⟨v2, r2, x2, e2, u2, g2, a2, d2, s2, p2⟩ := X
  obtain ⟨v3, r3, x3, e3, u3, g3, a3, d3, s3, p3⟩ := Z
  unfold pv at h1 h2 h3 h4 h5 h6 h7 ⊢
  dsimp only at h1 h2 h3 h4 h5 h6 h7 ⊢
  have H1 := Lib.hid h1; have H2 := Lib.hid h2; have H3 := Lib.hid h3; have H4 := Lib.hid h4; have H5 := Lib.hid h5; have H6 := Lib.hid h6; have H7 := Lib.hid h7
  clear h1 h2 h3 h4 h5 h6 h7 hr hp q1 q2 q3 hx
  go_enter Try.func3, Try.ntmps3
  go_wp2_with fail
  have nb := Blk.new w [.bool v1, .bool r1, .bool x1, .bool e1, .bool u1, .bool g1, .bool a1, .bool d1, .int .i64 s1, .int .u64 (p1 : Int)] 24
  have nl : Below w.heap.size w (w.alloc (.cells #[.bool v1, .bool r1, .bool x1, .bool e1, .bool u1, .bool g1, .bool a1, .bool d1, .int .i64 s1, .int .u64 (p1 : Int)] 24)) := (Below.refl _ _).alloc (Nat.le_refl _) _
  obtain ⟨B1, hB⟩ : ∃ B, B = w.heap.size := ⟨_, rfl⟩
  obtain ⟨W1, hW⟩ : ∃ W, W = w.alloc (.cells #[.bool v1, .bool r1, .bool x1, .bool e1, .bool u1, .bool g1, .bool a1, .bool d1, .int .i64 s1, .int .u64 (p1 : Int)] 24) := ⟨_, rfl⟩
  rw [← hW] at nb nl
  rw [← hB] at nb
  rw [← hB]
  rw [← hW]
  have K1_0 := Lib.hid nb
  have L1 := Lib.hid nl
  clear nb nl hB hW
  refine (first_any _).mono ?_
  rintro e w2 ⟨rfl, hb⟩
  have L2 := Lib.hid (L1.out.trans (hb.mono L1.out.size))
  have K2_0 := Lib.hid (K1_0.out.below hb K1_0.out.lt)
  clear hb K1_0
  go_wp2_with fail
  refine (H3.out _).mono ?_
  rintro e w3 ⟨rfl, hb⟩
  have L3 := Lib.hid (L2.out.trans (hb.mono L2.out.size))
  have K3_0 := Lib.hid (K2_0.out.below hb K2_0.out.lt)
  clear hb K2_0
  go_wp2_with fail
  have nb := Blk.new w3 [.bool v2, .bool r2, .bool x2, .bool e2, .bool u2, .bool g2, .bool a2, .bool d2, .int .i64 s2, .int .u64 (p2 : Int)] 24
  have nl : Below w.heap.size w (w3.alloc (.cells #[.bool v2, .bool r2, .bool x2, .bool e2, .bool u2, .bool g2, .bool a2, .bool d2, .int .i64 s2, .int .u64 (p2 : Int)] 24)) := L3.out.alloc L3.out.size _
  have o0 := K3_0.out.alloc (.cells #[.bool v2, .bool r2, .bool x2, .bool e2, .bool u2, .bool g2, .bool a2, .bool d2, .int .i64 s2, .int .u64 (p2 : Int)] 24)
  obtain ⟨B4, hB⟩ : ∃ B, B = w3.heap.size := ⟨_, rfl⟩
  obtain ⟨W4, hW⟩ : ∃ W, W = w3.alloc (.cells #[.bool v2, .bool r2, .bool x2, .bool e2, .bool u2, .bool g2, .bool a2, .bool d2, .int .i64 s2, .int .u64 (p2 : Int)] 24) := ⟨_, rfl⟩
  rw [← hW] at nb nl
  rw [← hB] at nb
  rw [← hB]
  rw [← hW]
  rw [← hW] at o0
  have K4_0 := Lib.hid o0
  have K4_1 := Lib.hid nb
  have L4 := Lib.hid nl
  clear nb nl hB hW o0 K3_0
  refine (H4.out _).mono ?_
  rintro e w5 ⟨rfl, hb⟩
  have L5 := Lib.hid (L4.out.trans (hb.mono L4.out.size))
  have K5_0 := Lib.hid (K4_0.out.below hb K4_0.out.lt)
  have K5_1 := Lib.hid (K4_1.out.below hb K4_1.out.lt)
  clear hb K4_0 K4_1
  have m0 : w5.cell? ⟨B1, 0, none⟩ = some (.bool v1) := K5_0.out.cell 0
  have m1 : w5.cell? ⟨B1, 1, none⟩ = some (.bool r1) := K5_0.out.cell 1
  have m2 : w5.cell? ⟨B1, 2, none⟩ = some (.bool x1) := K5_0.out.cell 2
  have m3 : w5.cell? ⟨B1, 3, none⟩ = some (.bool e1) := K5_0.out.cell 3
  have m4 : w5.cell? ⟨B1, 4, none⟩ = some (.bool u1) := K5_0.out.cell 4
  have m5 : w5.cell? ⟨B1, 5, none⟩ = some (.bool g1) := K5_0.out.cell 5
  have m6 : w5.cell? ⟨B1, 6, none⟩ = some (.bool a1) := K5_0.out.cell 6
  have m7 : w5.cell? ⟨B1, 7, none⟩ = some (.bool d1) := K5_0.out.cell 7
  have m8 : w5.cell? ⟨B1, 8, none⟩ = some (.int .i64 s1) := K5_0.out.cell 8
  have m9 : w5.cell? ⟨B1, 9, none⟩ = some (.int .u64 (p1 : Int)) := K5_0.out.cell 9
  have mlt : B1 < w5.heap.size := K5_0.out.lt
  go_wp2_with fail
  clear mlt
  clear m0 m1 m2 m3 m4 m5 m6 m7 m8 m9
  have nb := Blk.new w5 [.bool v2, .bool r2, .bool x2, .bool e2, .bool u2, .bool g2, .bool a2, .bool d2, .int .i64 s2, .int .u64 (p2 : Int)] 24
  have nl : Below w.heap.size w (w5.alloc (.cells #[.bool v2, .bool r2, .bool x2, .bool e2, .bool u2, .bool g2, .bool a2, .bool d2, .int .i64 s2, .int .u64 (p2 : Int)] 24)) := L5.out.alloc L5.out.size _
  have o0 := K5_0.out.alloc (.cells #[.bool v2, .bool r2, .bool x2, .bool e2, .bool u2, .bool g2, .bool a2, .bool d2, .int .i64 s2, .int .u64 (p2 : Int)] 24)
  have o1 := K5_1.out.alloc (.cells #[.bool v2, .bool r2, .bool x2, .bool e2, .bool u2, .bool g2, .bool a2, .bool d2, .int .i64 s2, .int .u64 (p2 : Int)] 24)
  obtain ⟨B6, hB⟩ : ∃ B, B = w5.heap.size := ⟨_, rfl⟩
  obtain ⟨W6, hW⟩ : ∃ W, W = w5.alloc (.cells #[.bool v2, .bool r2, .bool x2, .bool e2, .bool u2, .bool g2, .bool a2, .bool d2, .int .i64 s2, .int .u64 (p2 : Int)] 24) := ⟨_, rfl⟩
  rw [← hW] at nb nl
  rw [← hB] at nb
  rw [← hB]
  rw [← hW]
  rw [← hW] at o0
  rw [← hW] at o1
  have K6_0 := Lib.hid o0
  have K6_1 := Lib.hid o1
  have K6_2 := Lib.hid nb
  have L6 := Lib.hid nl
  clear nb nl hB hW o0 o1 K5_0 K5_1
  refine (H1.out _).mono ?_
  rintro e w7 ⟨rfl, hb⟩
  have L7 := Lib.hid (L6.out.trans (hb.mono L6.out.size))
  have K7_0 := Lib.hid (K6_0.out.below hb K6_0.out.lt)
  have K7_1 := Lib.hid (K6_1.out.below hb K6_1.out.lt)
  have K7_2 := Lib.hid (K6_2.out.below hb K6_2.out.lt)
  clear hb K6_0 K6_1 K6_2
  go_wp2_with fail
  refine (H5.out _).mono ?_
  rintro e w8 ⟨rfl, hb⟩
  have L8 := Lib.hid (L7.out.trans (hb.mono L7.out.size))
  have K8_0 := Lib.hid (K7_0.out.below hb K7_0.out.lt)
  have K8_1 := Lib.hid (K7_1.out.below hb K7_1.out.lt)
  have K8_2 := Lib.hid (K7_2.out.below hb K7_2.out.lt)
  clear hb K7_0 K7_1 K7_2
  have m0 : w8.cell? ⟨B1, 0, none⟩ = some (.bool v1) := K8_0.out.cell 0
  have m1 : w8.cell? ⟨B1, 1, none⟩ = some (.bool r1) := K8_0.out.cell 1
  have m2 : w8.cell? ⟨B1, 2, none⟩ = some (.bool x1) := K8_0.out.cell 2
  have m3 : w8.cell? ⟨B1, 3, none⟩ = some (.bool e1) := K8_0.out.cell 3
  have m4 : w8.cell? ⟨B1, 4, none⟩ = some (.bool u1) := K8_0.out.cell 4
  have m5 : w8.cell? ⟨B1, 5, none⟩ = some (.bool g1) := K8_0.out.cell 5
  have m6 : w8.cell? ⟨B1, 6, none⟩ = some (.bool a1) := K8_0.out.cell 6
  have m7 : w8.cell? ⟨B1, 7, none⟩ = some (.bool d1) := K8_0.out.cell 7
  have m8 : w8.cell? ⟨B1, 8, none⟩ = some (.int .i64 s1) := K8_0.out.cell 8
  have m9 : w8.cell? ⟨B1, 9, none⟩ = some (.int .u64 (p1 : Int)) := K8_0.out.cell 9
  have mlt : B1 < w8.heap.size := K8_0.out.lt
  go_wp2_with fail
  clear mlt
  clear m0 m1 m2 m3 m4 m5 m6 m7 m8 m9
  have nb := Blk.new w8 [.bool v3, .bool r3, .bool x3, .bool e3, .bool u3, .bool g3, .bool a3, .bool d3, .int .i64 s3, .int .u64 (p3 : Int)] 24
  have nl : Below w.heap.size w (w8.alloc (.cells #[.bool v3, .bool r3, .bool x3, .bool e3, .bool u3, .bool g3, .bool a3, .bool d3, .int .i64 s3, .int .u64 (p3 : Int)] 24)) := L8.out.alloc L8.out.size _
  have o0 := K8_0.out.alloc (.cells #[.bool v3, .bool r3, .bool x3, .bool e3, .bool u3, .bool g3, .bool a3, .bool d3, .int .i64 s3, .int .u64 (p3 : Int)] 24)
  have o1 := K8_1.out.alloc (.cells #[.bool v3, .bool r3, .bool x3, .bool e3, .bool u3, .bool g3, .bool a3, .bool d3, .int .i64 s3, .int .u64 (p3 : Int)] 24)
  have o2 := K8_2.out.alloc (.cells #[.bool v3, .bool r3, .bool x3, .bool e3, .bool u3, .bool g3, .bool a3, .bool d3, .int .i64 s3, .int .u64 (p3 : Int)] 24)
  obtain ⟨B9, hB⟩ : ∃ B, B = w8.heap.size := ⟨_, rfl⟩
  obtain ⟨W9, hW⟩ : ∃ W, W = w8.alloc (.cells #[.bool v3, .bool r3, .bool x3, .bool e3, .bool u3, .bool g3, .bool a3, .bool d3, .int .i64 s3, .int .u64 (p3 : Int)] 24) := ⟨_, rfl⟩
  rw [← hW] at nb nl
  rw [← hB] at nb
  rw [← hB]
  rw [← hW]
  rw [← hW] at o0
  rw [← hW] at o1
  rw [← hW] at o2
  have K9_0 := Lib.hid o0
  have K9_1 := Lib.hid o1
  have K9_2 := Lib.hid o2
  have K9_3 := Lib.hid nb
  have L9 := Lib.hid nl
  clear nb nl hB hW o0 o1 o2 K8_0 K8_1 K8_2
  refine (H2.out _).mono ?_
  rintro e w10 ⟨rfl, hb⟩
  have L10 := Lib.hid (L9.out.trans (hb.mono L9.out.size))
  have K10_0 := Lib.hid (K9_0.out.below hb K9_0.out.lt)
  have K10_1 := Lib.hid (K9_1.out.below hb K9_1.out.lt)
  have K10_2 := Lib.hid (K9_2.out.below hb K9_2.out.lt)
  have K10_3 := Lib.hid (K9_3.out.below hb K9_3.out.lt)
  clear hb K9_0 K9_1 K9_2 K9_3
  go_wp2_with fail
  refine (H6.out _).mono ?_
  rintro e w11 ⟨rfl, hb⟩
  have L11 := Lib.hid (L10.out.trans (hb.mono L10.out.size))
  have K11_0 := Lib.hid (K10_0.out.below hb K10_0.out.lt)
  have K11_1 := Lib.hid (K10_1.out.below hb K10_1.out.lt)
  have K11_2 := Lib.hid (K10_2.out.below hb K10_2.out.lt)
  have K11_3 := Lib.hid (K10_3.out.below hb K10_3.out.lt)
  clear hb K10_0 K10_1 K10_2 K10_3
  go_wp2
  have nb := Blk.new w11 [.bool v3, .bool r3, .bool x3, .bool e3, .bool u3, .bool g3, .bool a3, .bool d3, .int .i64 s3, .int .u64 (p3 : Int)] 24
  have nl : Below w.heap.size w (w11.alloc (.cells #[.bool v3, .bool r3, .bool x3, .bool e3, .bool u3, .bool g3, .bool a3, .bool d3, .int .i64 s3, .int .u64 (p3 : Int)] 24)) := L11.out.alloc L11.out.size _
  have o0 := K11_0.out.alloc (.cells #[.bool v3, .bool r3, .bool x3, .bool e3, .bool u3, .bool g3, .bool a3, .bool d3, .int .i64 s3, .int .u64 (p3 : Int)] 24)
  have o1 := K11_1.out.alloc (.cells #[.bool v3, .bool r3, .bool x3, .bool e3, .bool u3, .bool g3, .bool a3, .bool d3, .int .i64 s3, .int .u64 (p3 : Int)] 24)
  have o2 := K11_2.out.alloc (.cells #[.bool v3, .bool r3, .bool x3, .bool e3, .bool u3, .bool g3, .bool a3, .bool d3, .int .i64 s3, .int .u64 (p3 : Int)] 24)
  have o3 := K11_3.out.alloc (.cells #[.bool v3, .bool r3, .bool x3, .bool e3, .bool u3, .bool g3, .bool a3, .bool d3, .int .i64 s3, .int .u64 (p3 : Int)] 24)
  obtain ⟨B12, hB⟩ : ∃ B, B = w11.heap.size := ⟨_, rfl⟩
  obtain ⟨W12, hW⟩ : ∃ W, W = w11.alloc (.cells #[.bool v3, .bool r3, .bool x3, .bool e3, .bool u3, .bool g3, .bool a3, .bool d3, .int .i64 s3, .int .u64 (p3 : Int)] 24) := ⟨_, rfl⟩
  rw [← hW] at nb nl
  rw [← hB] at nb
  rw [← hB]
  rw [← hW]
  rw [← hW] at o0
  rw [← hW] at o1
  rw [← hW] at o2
  rw [← hW] at o3
  have K12_0 := Lib.hid o0
  have K12_1 := Lib.hid o1
  have K12_2 := Lib.hid o2
  have K12_3 := Lib.hid o3
  have K12_4 := Lib.hid nb
  have L12 := Lib.hid nl
  clear nb nl hB hW o0 o1 o2 o3 K11_0 K11_1 K11_2 K11_3
  refine wp_region_held_drew (S := fun w' => Blk w' B1 [.bool v1, .bool r1, .bool x1, .bool e1, .bool u1, .bool g1, .bool a1, .bool d1, .int .i64 s1, .int .u64 (p1 : Int)] 24 ∧ Blk w' B4 [.bool v2, .bool r2, .bool x2, .bool e2, .bool u2, .bool g2, .bool a2, .bool d2, .int .i64 s2, .int .u64 (p2 : Int)] 24 ∧ Blk w' B6 [.bool v2, .bool r2, .bool x2, .bool e2, .bool u2, .bool g2, .bool a2, .bool d2, .int .i64 s2, .int .u64 (p2 : Int)] 24 ∧ Blk w' B9 [.bool v3, .bool r3, .bool x3, .bool e3, .bool u3, .bool g3, .bool a3, .bool d3, .int .i64 s3, .int .u64 (p3 : Int)] 24 ∧ Blk w' B12 [.bool v3, .bool r3, .bool x3, .bool e3, .bool u3, .bool g3, .bool a3, .bool d3, .int .i64 s3, .int .u64 (p3 : Int)] 24) (by kernel_rfl) ⟨K12_0.out, K12_1.out, K12_2.out, K12_3.out, K12_4.out⟩ (fun hHeld => ?_)
  simp only [List.size_toArray, List.length_cons, List.length_nil, Nat.reduceAdd]
  rw [show Array.replicate 32 false = [false, false, false, false, false, false, false, false, false, false, false, false, false, false, false, false, false, false, false, false, false, false, false, false, false, false, false, false, false, false, false, false].toArray from rfl]
  refine wpAnyH_take (i := 0) (v := _) rfl (by kernel_rfl) (by kernel_rfl) (by kernel_rfl) (fun _ _ _ h => h) (Or.inl ⟨by rfl, fun w hSw => load_yield _ _ _ rfl rfl hSw.1⟩) (by assumption) ?_
  try simp only [Act.put, List.setIfInBounds_toArray, List.set_cons_zero, List.set_cons_succ, List.getElem_toArray, List.getElem_cons_succ, List.getElem_cons_zero]
  refine wpAnyH_take (i := 2) (v := _) rfl (by kernel_rfl) (by kernel_rfl) (by kernel_rfl) (fun _ _ _ h => h) (Or.inl ⟨by rfl, fun w hSw => load_yield _ _ _ rfl rfl hSw.1⟩) (by assumption) ?_
  try simp only [Act.put, List.setIfInBounds_toArray, List.set_cons_zero, List.set_cons_succ, List.getElem_toArray, List.getElem_cons_succ, List.getElem_cons_zero]
  refine wpAnyH_ready (rs := [1]) (by kernel_rfl) (by simp) ?_
  refine AllReadyH.cons rfl (fun K hK => ?_) AllReadyH.nil
  go_simp
  refine (H1.out _).mono ?_
  rintro e w13 ⟨rfl, hb⟩
  have L13 := Lib.hid ((L12.out.drew).trans (hb.mono L12.out.size))
  have K13_0 := Lib.hid ((Blk.drewN K12_0.out 1).below hb K12_0.out.lt)
  have K13_1 := Lib.hid ((Blk.drewN K12_1.out 1).below hb K12_1.out.lt)
  have K13_2 := Lib.hid ((Blk.drewN K12_2.out 1).below hb K12_2.out.lt)
  have K13_3 := Lib.hid ((Blk.drewN K12_3.out 1).below hb K12_3.out.lt)
  have K13_4 := Lib.hid ((Blk.drewN K12_4.out 1).below hb K12_4.out.lt)
  clear hb K12_0 K12_1 K12_2 K12_3 K12_4
  refine hK.out _ _ ⟨K13_0.out, K13_1.out, K13_2.out, K13_3.out, K13_4.out⟩ (fun hS1 => ?_)
  clear hK K
  refine wpAnyH_ready (rs := [3]) (by kernel_rfl) (by simp) ?_
  refine AllReadyH.cons rfl (fun K hK => ?_) AllReadyH.nil
  go_simp
  refine (H2.out _).mono ?_
  rintro e w14 ⟨rfl, hb⟩
  have L14 := Lib.hid (L13.out.trans (hb.mono L13.out.size))
  have K14_0 := Lib.hid (K13_0.out.below hb K13_0.out.lt)
  have K14_1 := Lib.hid (K13_1.out.below hb K13_1.out.lt)
  have K14_2 := Lib.hid (K13_2.out.below hb K13_2.out.lt)
  have K14_3 := Lib.hid (K13_3.out.below hb K13_3.out.lt)
  have K14_4 := Lib.hid (K13_4.out.below hb K13_4.out.lt)
  clear hb K13_0 K13_1 K13_2 K13_3 K13_4
  refine hK.out _ _ ⟨K14_0.out, K14_1.out, K14_2.out, K14_3.out, K14_4.out⟩ (fun hS3 => ?_)
  clear hK K
  refine wpAnyH_take (i := 4) (v := ?_) rfl (by kernel_rfl) (by kernel_rfl) (by kernel_rfl) (fun _ _ _ h => h) (Or.inl ⟨by rfl, ?yldq⟩) (by assumption) ?_
  case yldq => (intro w hSw; (try dsimp only at hSw); go_simp; try with_reducible rfl)
  try simp only [Act.put, List.setIfInBounds_toArray, List.set_cons_zero, List.set_cons_succ, List.getElem_toArray, List.getElem_cons_succ, List.getElem_cons_zero]
  refine wpAnyH_take (i := 5) (v := ?_) rfl (by kernel_rfl) (by kernel_rfl) (by kernel_rfl) (fun _ _ _ h => h) (Or.inl ⟨by rfl, ?yldq⟩) (by assumption) ?_
  case yldq => (intro w hSw; (try dsimp only at hSw); go_simp; try with_reducible rfl)
  try simp only [Act.put, List.setIfInBounds_toArray, List.set_cons_zero, List.set_cons_succ, List.getElem_toArray, List.getElem_cons_succ, List.getElem_cons_zero]
  refine wpAnyH_take (i := 6) (v := _) rfl (by kernel_rfl) (by kernel_rfl) (by kernel_rfl) (fun _ _ _ h => h) (Or.inl ⟨by rfl, fun w hSw => load_yield _ _ _ rfl rfl hSw.2.1⟩) (by assumption) ?_
  try simp only [Act.put, List.setIfInBounds_toArray, List.set_cons_zero, List.set_cons_succ, List.getElem_toArray, List.getElem_cons_succ, List.getElem_cons_zero]
  refine wpAnyH_take (i := 7) (v := _) rfl (by kernel_rfl) (by kernel_rfl) (by kernel_rfl) (fun _ _ _ h => h) (Or.inl ⟨by rfl, fun w hSw => load_yield _ _ _ rfl rfl hSw.2.2.1⟩) (by assumption) ?_
  try simp only [Act.put, List.setIfInBounds_toArray, List.set_cons_zero, List.set_cons_succ, List.getElem_toArray, List.getElem_cons_succ, List.getElem_cons_zero]
  refine wpAnyH_take (i := 8) (v := ?_) rfl (by kernel_rfl) (by kernel_rfl) (by kernel_rfl) (fun _ _ _ h => h) (Or.inl ⟨by rfl, ?yldq⟩) (by assumption) ?_
  case yldq => (intro w hSw; (try dsimp only at hSw); go_simp; try with_reducible rfl)
  try simp only [Act.put, List.setIfInBounds_toArray, List.set_cons_zero, List.set_cons_succ, List.getElem_toArray, List.getElem_cons_succ, List.getElem_cons_zero]
  refine wpAnyH_take (i := 9) (v := ?_) rfl (by kernel_rfl) (by kernel_rfl) (by kernel_rfl) (fun _ _ _ h => h) (Or.inl ⟨by rfl, ?yldq⟩) (by assumption) ?_
  case yldq => (intro w hSw; (try dsimp only at hSw); go_simp; try with_reducible rfl)
  try simp only [Act.put, List.setIfInBounds_toArray, List.set_cons_zero, List.set_cons_succ, List.getElem_toArray, List.getElem_cons_succ, List.getElem_cons_zero]
  refine wpAnyH_take (i := 10) (v := ?_) rfl (by kernel_rfl) (by kernel_rfl) (by kernel_rfl) (fun _ _ _ h => h) (Or.inl ⟨by rfl, ?yldq⟩) (by assumption) ?_
  case yldq => (intro w hSw; (try dsimp only at hSw); go_simp; try with_reducible rfl)
  try simp only [Act.put, List.setIfInBounds_toArray, List.set_cons_zero, List.set_cons_succ, List.getElem_toArray, List.getElem_cons_succ, List.getElem_cons_zero]
  refine wpAnyH_take (i := 11) (v := ?_) rfl (by kernel_rfl) (by kernel_rfl) (by kernel_rfl) (fun _ _ _ h => h) (Or.inl ⟨by rfl, ?yldq⟩) (by assumption) ?_
  case yldq => (intro w hSw; (try dsimp only at hSw); go_simp; try with_reducible rfl)
  try simp only [Act.put, List.setIfInBounds_toArray, List.set_cons_zero, List.set_cons_succ, List.getElem_toArray, List.getElem_cons_succ, List.getElem_cons_zero]
  refine wpAnyH_take (i := 12) (v := ?_) rfl (by kernel_rfl) (by kernel_rfl) (by kernel_rfl) (fun _ _ _ h => h) (Or.inl ⟨by rfl, ?yldq⟩) (by assumption) ?_
  case yldq => (intro w hSw; (try dsimp only at hSw); go_simp; try with_reducible rfl)
  try simp only [Act.put, List.setIfInBounds_toArray, List.set_cons_zero, List.set_cons_succ, List.getElem_toArray, List.getElem_cons_succ, List.getElem_cons_zero]
  refine wpAnyH_take (i := 13) (v := ?_) rfl (by kernel_rfl) (by kernel_rfl) (by kernel_rfl) (fun _ _ _ h => h) (Or.inl ⟨by rfl, ?yldq⟩) (by assumption) ?_
  case yldq => (intro w hSw; (try dsimp only at hSw); go_simp; try with_reducible rfl)
  try simp only [Act.put, List.setIfInBounds_toArray, List.set_cons_zero, List.set_cons_succ, List.getElem_toArray, List.getElem_cons_succ, List.getElem_cons_zero]
  refine wpAnyH_take (i := 14) (v := ?_) rfl (by kernel_rfl) (by kernel_rfl) (by kernel_rfl) (fun _ _ _ h => h) (Or.inl ⟨by rfl, ?yldq⟩) (by assumption) ?_
  case yldq => (intro w hSw; (try dsimp only at hSw); go_simp; try with_reducible rfl)
  try simp only [Act.put, List.setIfInBounds_toArray, List.set_cons_zero, List.set_cons_succ, List.getElem_toArray, List.getElem_cons_succ, List.getElem_cons_zero]
  refine wpAnyH_take (i := 15) (v := ?_) rfl (by kernel_rfl) (by kernel_rfl) (by kernel_rfl) (fun _ _ _ h => h) (Or.inl ⟨by rfl, ?yldq⟩) (by assumption) ?_
  case yldq => (intro w hSw; (try dsimp only at hSw); go_simp; try with_reducible rfl)
  try simp only [Act.put, List.setIfInBounds_toArray, List.set_cons_zero, List.set_cons_succ, List.getElem_toArray, List.getElem_cons_succ, List.getElem_cons_zero]
  refine wpAnyH_take (i := 16) (v := ?_) rfl (by kernel_rfl) (by kernel_rfl) (by kernel_rfl) (fun _ _ _ h => h) (Or.inl ⟨by rfl, ?yldq⟩) (by assumption) ?_
  case yldq => (intro w hSw; (try dsimp only at hSw); go_simp; try with_reducible rfl)
  try simp only [Act.put, List.setIfInBounds_toArray, List.set_cons_zero, List.set_cons_succ, List.getElem_toArray, List.getElem_cons_succ, List.getElem_cons_zero]
  refine wpAnyH_take (i := 17) (v := ?_) rfl (by kernel_rfl) (by kernel_rfl) (by kernel_rfl) (fun _ _ _ h => h) (Or.inl ⟨by rfl, ?yldq⟩) (by assumption) ?_
  case yldq => (intro w hSw; (try dsimp only at hSw); go_simp; try with_reducible rfl)
  try simp only [Act.put, List.setIfInBounds_toArray, List.set_cons_zero, List.set_cons_succ, List.getElem_toArray, List.getElem_cons_succ, List.getElem_cons_zero]
  refine wpAnyH_take (i := 18) (v := ?_) rfl (by kernel_rfl) (by kernel_rfl) (by kernel_rfl) (fun _ _ _ h => h) (Or.inl ⟨by rfl, ?yldq⟩) (by assumption) ?_
  case yldq => (intro w hSw; (try dsimp only at hSw); go_simp; try with_reducible rfl)
  try simp only [Act.put, List.setIfInBounds_toArray, List.set_cons_zero, List.set_cons_succ, List.getElem_toArray, List.getElem_cons_succ, List.getElem_cons_zero]
  refine wpAnyH_take (i := 19) (v := _) rfl (by kernel_rfl) (by kernel_rfl) (by kernel_rfl) (fun _ _ _ h => h) (Or.inl ⟨by rfl, fun w hSw => load_yield _ _ _ rfl rfl hSw.2.2.2.1⟩) (by assumption) ?_
  try simp only [Act.put, List.setIfInBounds_toArray, List.set_cons_zero, List.set_cons_succ, List.getElem_toArray, List.getElem_cons_succ, List.getElem_cons_zero]
  refine wpAnyH_take (i := 20) (v := _) rfl (by kernel_rfl) (by kernel_rfl) (by kernel_rfl) (fun _ _ _ h => h) (Or.inl ⟨by rfl, fun w hSw => load_yield _ _ _ rfl rfl hSw.2.2.2.2⟩) (by assumption) ?_
  try simp only [Act.put, List.setIfInBounds_toArray, List.set_cons_zero, List.set_cons_succ, List.getElem_toArray, List.getElem_cons_succ, List.getElem_cons_zero]
  refine wpAnyH_take (i := 21) (v := ?_) rfl (by kernel_rfl) (by kernel_rfl) (by kernel_rfl) (fun _ _ _ h => h) (Or.inl ⟨by rfl, ?yldq⟩) (by assumption) ?_
  case yldq => (intro w hSw; (try dsimp only at hSw); go_simp; try with_reducible rfl)
  try simp only [Act.put, List.setIfInBounds_toArray, List.set_cons_zero, List.set_cons_succ, List.getElem_toArray, List.getElem_cons_succ, List.getElem_cons_zero]
  refine wpAnyH_take (i := 22) (v := ?_) rfl (by kernel_rfl) (by kernel_rfl) (by kernel_rfl) (fun _ _ _ h => h) (Or.inl ⟨by rfl, ?yldq⟩) (by assumption) ?_
  case yldq => (intro w hSw; (try dsimp only at hSw); go_simp; try with_reducible rfl)
  try simp only [Act.put, List.setIfInBounds_toArray, List.set_cons_zero, List.set_cons_succ, List.getElem_toArray, List.getElem_cons_succ, List.getElem_cons_zero]
  refine wpAnyH_take (i := 23) (v := ?_) rfl (by kernel_rfl) (by kernel_rfl) (by kernel_rfl) (fun _ _ _ h => h) (Or.inl ⟨by rfl, ?yldq⟩) (by assumption) ?_
  case yldq => (intro w hSw; (try dsimp only at hSw); go_simp; try with_reducible rfl)
  try simp only [Act.put, List.setIfInBounds_toArray, List.set_cons_zero, List.set_cons_succ, List.getElem_toArray, List.getElem_cons_succ, List.getElem_cons_zero]
  refine wpAnyH_take (i := 24) (v := _) rfl (by kernel_rfl) (by kernel_rfl) (by kernel_rfl) (fun _ _ _ h => h) (Or.inl ⟨by rfl, fun w hSw => load_yield _ _ _ rfl rfl hSw.2.1⟩) (by assumption) ?_
  try simp only [Act.put, List.setIfInBounds_toArray, List.set_cons_zero, List.set_cons_succ, List.getElem_toArray, List.getElem_cons_succ, List.getElem_cons_zero]
  refine wpAnyH_take (i := 26) (v := ?_) rfl (by kernel_rfl) (by kernel_rfl) (by kernel_rfl) (fun _ _ _ h => h) (Or.inl ⟨by rfl, ?yldq⟩) (by assumption) ?_
  case yldq => (intro w hSw; (try dsimp only at hSw); go_simp; try with_reducible rfl)
  try simp only [Act.put, List.setIfInBounds_toArray, List.set_cons_zero, List.set_cons_succ, List.getElem_toArray, List.getElem_cons_succ, List.getElem_cons_zero]
  refine wpAnyH_take (i := 28) (v := ?_) rfl (by kernel_rfl) (by kernel_rfl) (by kernel_rfl) (fun _ _ _ h => h) (Or.inl ⟨by rfl, ?yldq⟩) (by assumption) ?_
  case yldq => (intro w hSw; (try dsimp only at hSw); go_simp; try with_reducible rfl)
  try simp only [Act.put, List.setIfInBounds_toArray, List.set_cons_zero, List.set_cons_succ, List.getElem_toArray, List.getElem_cons_succ, List.getElem_cons_zero]
  refine wpAnyH_ready (rs := [25]) (by kernel_rfl) (by simp) ?_
  refine AllReadyH.cons rfl (fun K hK => ?_) AllReadyH.nil
  go_simp
  refine (H7.out _).mono ?_
  rintro e w15 ⟨rfl, hb⟩
  have L15 := Lib.hid (L14.out.trans (hb.mono L14.out.size))
  have K15_0 := Lib.hid (K14_0.out.below hb K14_0.out.lt)
  have K15_1 := Lib.hid (K14_1.out.below hb K14_1.out.lt)
  have K15_2 := Lib.hid (K14_2.out.below hb K14_2.out.lt)
  have K15_3 := Lib.hid (K14_3.out.below hb K14_3.out.lt)
  have K15_4 := Lib.hid (K14_4.out.below hb K14_4.out.lt)
  clear hb K14_0 K14_1 K14_2 K14_3 K14_4
  refine hK.out _ _ ⟨K15_0.out, K15_1.out, K15_2.out, K15_3.out, K15_4.out⟩ (fun hS25 => ?_)
  clear hK K
  refine wpAnyH_take (i := 27) (v := ?_) rfl (by kernel_rfl) (by kernel_rfl) (by kernel_rfl) (fun _ _ _ h => h) (Or.inl ⟨by rfl, ?yldq⟩) (by assumption) ?_
  case yldq => (intro w hSw; (try dsimp only at hSw); go_simp; try with_reducible rfl)
  try simp only [Act.put, List.setIfInBounds_toArray, List.set_cons_zero, List.set_cons_succ, List.getElem_toArray, List.getElem_cons_succ, List.getElem_cons_zero]
  refine wpAnyH_take (i := 29) (v := ?_) rfl (by kernel_rfl) (by kernel_rfl) (by kernel_rfl) (fun _ _ _ h => h) (Or.inl ⟨by rfl, ?yldq⟩) (by assumption) ?_
  case yldq => (intro w hSw; (try dsimp only at hSw); go_simp; try with_reducible rfl)
  try simp only [Act.put, List.setIfInBounds_toArray, List.set_cons_zero, List.set_cons_succ, List.getElem_toArray, List.getElem_cons_succ, List.getElem_cons_zero]
  refine wpAnyH_take (i := 30) (v := ?_) rfl (by kernel_rfl) (by kernel_rfl) (by kernel_rfl) (fun _ _ _ h => h) (Or.inl ⟨by rfl, ?yldq⟩) (by assumption) ?_
  case yldq => (intro w hSw; (try dsimp only at hSw); go_simp; try with_reducible rfl)
  try simp only [Act.put, List.setIfInBounds_toArray, List.set_cons_zero, List.set_cons_succ, List.getElem_toArray, List.getElem_cons_succ, List.getElem_cons_zero]
  refine wpAnyH_take (i := 31) (v := ?_) rfl (by kernel_rfl) (by kernel_rfl) (by kernel_rfl) (fun _ _ _ h => h) (Or.inl ⟨by rfl, ?yldq⟩) (by assumption) ?_
  case yldq => (intro w hSw; (try dsimp only at hSw); go_simp; try with_reducible rfl)
  try simp only [Act.put, List.setIfInBounds_toArray, List.set_cons_zero, List.set_cons_succ, List.getElem_toArray, List.getElem_cons_succ, List.getElem_cons_zero]
  refine wpAnyH_done (by kernel_rfl) ?_ _
  go_wp2
  go_ret
  exact ⟨rfl, L15.out⟩
end Go.Proofs.Ytjghhgkgjeedeaa
