/-
  What Find and Map of package table answer: contracts over the translation. Each says its own conditions.
-/
import Derived.Test.YtdakfgefnapglaaTblD13
import Derived.Test.YtdakfgefnapglaaFindP10
namespace Go.Proofs.Ytdakfgefnapglaa
open Go.RowKit
set_option linter.unusedVariables false
set_option linter.unusedSimpArgs false
attribute [local go_sem] setCell_drewN alloc_drewN

theorem find13_nil (va : Nat) (w : World) : Calls Try.prog 11 #[.pointer none, .int .u64 (va : Int)] w fun r w' => r = .returned (.tuple #[lfv zl, .int .i64 1]) ∧ Chg no w w' := by
  unfold lfv zl
  dsimp only
  go_enter Try.func11, Try.ntmps11
  go_wp2_with fail
  have nb0 : Blk (w.alloc (.cells #[.bool false, .bool false, .bool false, .bool false, .bool false, .bool false, .bool false, .bool false, .int .i64 0, .int .u64 0, .int .i64 0, .int .u64 0] 43)) (w.heap.size) [.bool false, .bool false, .bool false, .bool false, .bool false, .bool false, .bool false, .bool false, .int .i64 0, .int .u64 0, .int .i64 0, .int .u64 0] 43 := Blk.new w [.bool false, .bool false, .bool false, .bool false, .bool false, .bool false, .bool false, .bool false, .int .i64 0, .int .u64 0, .int .i64 0, .int .u64 0] 43
  have nls : Below w.heap.size w w := (Below.refl w.heap.size w)
  have nl0 := nls.alloc nls.size (.cells #[.bool false, .bool false, .bool false, .bool false, .bool false, .bool false, .bool false, .bool false, .int .i64 0, .int .u64 0, .int .i64 0, .int .u64 0] 43)
  have nl : Below w.heap.size w (w.alloc (.cells #[.bool false, .bool false, .bool false, .bool false, .bool false, .bool false, .bool false, .bool false, .int .i64 0, .int .u64 0, .int .i64 0, .int .u64 0] 43)) := nl0; clear nls nl0
  obtain ⟨B1, hB0⟩ : ∃ B, B = w.heap.size := ⟨_, rfl⟩
  obtain ⟨W1, hW⟩ : ∃ W, W = (w.alloc (.cells #[.bool false, .bool false, .bool false, .bool false, .bool false, .bool false, .bool false, .bool false, .int .i64 0, .int .u64 0, .int .i64 0, .int .u64 0] 43)) := ⟨_, rfl⟩
  rw [← hW] at nl nb0
  rw [← hB0] at nb0
  rw [← hW]
  try rw [← hB0]
  have K1_0 := Lib.hid nb0
  have G1 : Hid (w.heap.size ≤ B1) := Lib.hid (by have := (Nat.le_refl w.heap.size); omega)
  have L1 := Lib.hid nl
  clear nl hW nb0 hB0
  have m0_0 : W1.cell? ⟨B1, 0, none⟩ = some _ := K1_0.out.cell 0
  have m0_1 : W1.cell? ⟨B1, 1, none⟩ = some _ := K1_0.out.cell 1
  have m0_2 : W1.cell? ⟨B1, 2, none⟩ = some _ := K1_0.out.cell 2
  have m0_3 : W1.cell? ⟨B1, 3, none⟩ = some _ := K1_0.out.cell 3
  have m0_4 : W1.cell? ⟨B1, 4, none⟩ = some _ := K1_0.out.cell 4
  have m0_5 : W1.cell? ⟨B1, 5, none⟩ = some _ := K1_0.out.cell 5
  have m0_6 : W1.cell? ⟨B1, 6, none⟩ = some _ := K1_0.out.cell 6
  have m0_7 : W1.cell? ⟨B1, 7, none⟩ = some _ := K1_0.out.cell 7
  have m0_8 : W1.cell? ⟨B1, 8, none⟩ = some _ := K1_0.out.cell 8
  have m0_9 : W1.cell? ⟨B1, 9, none⟩ = some _ := K1_0.out.cell 9
  have m0_10 : W1.cell? ⟨B1, 10, none⟩ = some _ := K1_0.out.cell 10
  have m0_11 : W1.cell? ⟨B1, 11, none⟩ = some _ := K1_0.out.cell 11
  have mlt0 : B1 < W1.heap.size := K1_0.out.lt
  have mf : ∀ o, W1.frozen? ⟨B1, o, none⟩ = false := fun o => K1_0.out.free o
  go_wp2
  clear mf
  clear m0_0 m0_1 m0_2 m0_3 m0_4 m0_5 m0_6 m0_7 m0_8 m0_9 m0_10 m0_11 mlt0
  have rr0 : W1.cell? ⟨B1, 0, none⟩ = some _ := K1_0.out.cell 0
  have rr1 : W1.cell? ⟨B1, 1, none⟩ = some _ := K1_0.out.cell 1
  have rr2 : W1.cell? ⟨B1, 2, none⟩ = some _ := K1_0.out.cell 2
  have rr3 : W1.cell? ⟨B1, 3, none⟩ = some _ := K1_0.out.cell 3
  have rr4 : W1.cell? ⟨B1, 4, none⟩ = some _ := K1_0.out.cell 4
  have rr5 : W1.cell? ⟨B1, 5, none⟩ = some _ := K1_0.out.cell 5
  have rr6 : W1.cell? ⟨B1, 6, none⟩ = some _ := K1_0.out.cell 6
  have rr7 : W1.cell? ⟨B1, 7, none⟩ = some _ := K1_0.out.cell 7
  have rr8 : W1.cell? ⟨B1, 8, none⟩ = some _ := K1_0.out.cell 8
  have rr9 : W1.cell? ⟨B1, 9, none⟩ = some _ := K1_0.out.cell 9
  have rr10 : W1.cell? ⟨B1, 10, none⟩ = some _ := K1_0.out.cell 10
  have rr11 : W1.cell? ⟨B1, 11, none⟩ = some _ := K1_0.out.cell 11
  refine bodyPost_ret (v := .tuple #[.agg #[.bool false, .bool false, .bool false, .bool false, .bool false, .bool false, .bool false, .bool false, .int .i64 0, .int .u64 0, .int .i64 0, .int .u64 0], .int .i64 1]) (by simp [results, Try.results11, go_sem, rr0, rr1, rr2, rr3, rr4, rr5, rr6, rr7, rr8, rr9, rr10, rr11]) rfl ⟨rfl, Chg.of_below L1.out⟩
set_option maxHeartbeats 4000000 in
theorem find13_any {first n fs : Nat} {w : World} {tp mp sp : Nat} {Fm Gs : Nat → Prop} {S : Tt} {c : Nat} {C : Nat → List Int} {U : Nat} (va : Nat) (h : TW first n fs (first : Int) w tp mp sp Fm Gs C c U) (hva : va < 18446744073709551616) :
    Calls Try.prog 11 #[.pointer (some ⟨tp, 0, none⟩), .int .u64 (va : Int)] w fun r w' => r = .returned (.tuple #[lfv (findW fs (Mw C) ⟨true, 0, first⟩ va).1, .int .i64 ((findW fs (Mw C) ⟨true, 0, first⟩ va).2 : Nat)]) ∧ Below w.heap.size w w' := by
  have hf : first < 1048577 := by have := h.small; omega
  have h1 := fun w' (hb : Below w.heap.size w w') => wfind_any mp fs c va ⟨true, 0, first⟩ C Fm w' (h.below hb).mem hva (by dsimp only; omega)
  have hwr : IntKind.u64.wrap (first : Int) = (first : Int) := by rw [wrap_u64B]; omega
  have hB := h.blk
  generalize findW fs (Mw C) ⟨true, 0, first⟩ va = Z at *
  obtain ⟨⟨⟨v, r, x1, x, u, g, a, d, rsw, pn⟩, lv, pl⟩, er⟩ := Z
  unfold lfv sv at *
  dsimp only at *
  have H1 := Lib.hid h1; have HB := Lib.hid hB; clear h1 hB h hva hf
  go_enter Try.func11, Try.ntmps11
  go_wp2_with fail
  have nb0 : Blk (w.alloc (.cells #[.bool false, .bool false, .bool false, .bool false, .bool false, .bool false, .bool false, .bool false, .int .i64 0, .int .u64 0, .int .i64 0, .int .u64 0] 43)) (w.heap.size) [.bool false, .bool false, .bool false, .bool false, .bool false, .bool false, .bool false, .bool false, .int .i64 0, .int .u64 0, .int .i64 0, .int .u64 0] 43 := Blk.new w [.bool false, .bool false, .bool false, .bool false, .bool false, .bool false, .bool false, .bool false, .int .i64 0, .int .u64 0, .int .i64 0, .int .u64 0] 43
  have nls : Below w.heap.size w w := (Below.refl w.heap.size w)
  have nl0 := nls.alloc nls.size (.cells #[.bool false, .bool false, .bool false, .bool false, .bool false, .bool false, .bool false, .bool false, .int .i64 0, .int .u64 0, .int .i64 0, .int .u64 0] 43)
  have nl : Below w.heap.size w (w.alloc (.cells #[.bool false, .bool false, .bool false, .bool false, .bool false, .bool false, .bool false, .bool false, .int .i64 0, .int .u64 0, .int .i64 0, .int .u64 0] 43)) := nl0; clear nls nl0
  have o0 : Blk (w.alloc (.cells #[.bool false, .bool false, .bool false, .bool false, .bool false, .bool false, .bool false, .bool false, .int .i64 0, .int .u64 0, .int .i64 0, .int .u64 0] 43)) tp [.pointer (some ⟨mp, 0, none⟩), .pointer (some ⟨sp, 0, none⟩), .int .i64 (first : Int), .int .i64 (U : Int)] 75 := (HB.out.alloc (.cells #[.bool false, .bool false, .bool false, .bool false, .bool false, .bool false, .bool false, .bool false, .int .i64 0, .int .u64 0, .int .i64 0, .int .u64 0] 43))
  have d1_0 : tp < w.heap.size := HB.out.lt
  obtain ⟨B1, hB0⟩ : ∃ B, B = w.heap.size := ⟨_, rfl⟩
  obtain ⟨W1, hW⟩ : ∃ W, W = (w.alloc (.cells #[.bool false, .bool false, .bool false, .bool false, .bool false, .bool false, .bool false, .bool false, .int .i64 0, .int .u64 0, .int .i64 0, .int .u64 0] 43)) := ⟨_, rfl⟩
  rw [← hW] at nl nb0 o0
  rw [← hB0] at nb0
  rw [← hW]
  try rw [← hB0]
  have K1_0 := Lib.hid o0
  have K1_1 := Lib.hid nb0
  have G1 : Hid (w.heap.size ≤ B1) := Lib.hid (by have := (Nat.le_refl w.heap.size); omega)
  have x1_0_0 : tp ≠ B1 := by omega
  have X1_0_0 := Lib.hid x1_0_0; clear x1_0_0
  have L1 := Lib.hid nl
  clear nl hW nb0 hB0 o0 d1_0 HB
  go_wp2_with fail
  refine wp_region_held_drew (S := fun w' => Blk w' tp [.pointer (some ⟨mp, 0, none⟩), .pointer (some ⟨sp, 0, none⟩), .int .i64 (first : Int), .int .i64 (U : Int)] 75) (by kernel_rfl) K1_0.out (fun hHeld => ?_)
  simp only [List.size_toArray, List.length_cons, List.length_nil, Nat.reduceAdd]
  rw [show Array.replicate 16 false = [false, false, false, false, false, false, false, false, false, false, false, false, false, false, false, false].toArray from rfl]
  refine wpAnyH_take (i := 0) (v := ?_) rfl (by kernel_rfl) (by kernel_rfl) (by kernel_rfl) (fun _ _ _ h => h) (Or.inl ⟨by rfl, ?yldq⟩) (by assumption) ?_
  case yldq => (intro w hSw; (try dsimp only at hSw); go_simp; try with_reducible rfl)
  try simp only [Act.put, List.setIfInBounds_toArray, List.set_cons_zero, List.set_cons_succ, List.getElem_toArray, List.getElem_cons_succ, List.getElem_cons_zero]
  refine wpAnyH_take (i := 1) (v := ?_) rfl (by kernel_rfl) (by kernel_rfl) (by kernel_rfl) (fun _ _ _ h => h) (Or.inl ⟨by rfl, ?yldq⟩) (by assumption) ?_
  case yldq => (intro w hSw; (try dsimp only at hSw); go_simp; try with_reducible rfl)
  try simp only [Act.put, List.setIfInBounds_toArray, List.set_cons_zero, List.set_cons_succ, List.getElem_toArray, List.getElem_cons_succ, List.getElem_cons_zero]
  refine wpAnyH_take (i := 2) (v := ?_) rfl (by kernel_rfl) (by kernel_rfl) (by kernel_rfl) (fun _ _ _ h => h) (Or.inl ⟨by rfl, ?yldq⟩) (by assumption) ?_
  case yldq => (intro w hSw; (try dsimp only at hSw); go_simp; try with_reducible rfl)
  try simp only [Act.put, List.setIfInBounds_toArray, List.set_cons_zero, List.set_cons_succ, List.getElem_toArray, List.getElem_cons_succ, List.getElem_cons_zero]
  refine wpAnyH_take (i := 3) (v := _) rfl (by kernel_rfl) (by kernel_rfl) (by kernel_rfl) (fun _ _ _ h => h) (Or.inl ⟨by rfl, fun w hSw => yield_tab0 _ _ _ rfl rfl hSw⟩) (by assumption) ?_
  try simp only [Act.put, List.setIfInBounds_toArray, List.set_cons_zero, List.set_cons_succ, List.getElem_toArray, List.getElem_cons_succ, List.getElem_cons_zero]
  refine wpAnyH_take (i := 4) (v := ?_) rfl (by kernel_rfl) (by kernel_rfl) (by kernel_rfl) (fun _ _ _ h => h) (Or.inl ⟨by rfl, ?yldq⟩) (by assumption) ?_
  case yldq => (intro w hSw; (try dsimp only at hSw); go_simp; try with_reducible rfl)
  try simp only [Act.put, List.setIfInBounds_toArray, List.set_cons_zero, List.set_cons_succ, List.getElem_toArray, List.getElem_cons_succ, List.getElem_cons_zero]
  refine wpAnyH_take (i := 5) (v := ?_) rfl (by kernel_rfl) (by kernel_rfl) (by kernel_rfl) (fun _ _ _ h => h) (Or.inl ⟨by rfl, ?yldq⟩) (by assumption) ?_
  case yldq => (intro w hSw; (try dsimp only at hSw); go_simp; try with_reducible rfl)
  try simp only [Act.put, List.setIfInBounds_toArray, List.set_cons_zero, List.set_cons_succ, List.getElem_toArray, List.getElem_cons_succ, List.getElem_cons_zero]
  refine wpAnyH_take (i := 6) (v := ?_) rfl (by kernel_rfl) (by kernel_rfl) (by kernel_rfl) (fun _ _ _ h => h) (Or.inl ⟨by rfl, ?yldq⟩) (by assumption) ?_
  case yldq => (intro w hSw; (try dsimp only at hSw); go_simp; try with_reducible rfl)
  try simp only [Act.put, List.setIfInBounds_toArray, List.set_cons_zero, List.set_cons_succ, List.getElem_toArray, List.getElem_cons_succ, List.getElem_cons_zero]
  refine wpAnyH_take (i := 7) (v := _) rfl (by kernel_rfl) (by kernel_rfl) (by kernel_rfl) (fun _ _ _ h => h) (Or.inl ⟨by rfl, fun w hSw => yield_tab2 _ _ _ rfl rfl hSw⟩) (by assumption) ?_
  try simp only [Act.put, List.setIfInBounds_toArray, List.set_cons_zero, List.set_cons_succ, List.getElem_toArray, List.getElem_cons_succ, List.getElem_cons_zero]
  refine wpAnyH_take (i := 8) (v := ?_) rfl (by kernel_rfl) (by kernel_rfl) (by kernel_rfl) (fun _ _ _ h => h) (Or.inl ⟨by rfl, ?yldq⟩) (by assumption) ?_
  case yldq => (intro w hSw; (try dsimp only at hSw); go_simp; try with_reducible rfl)
  try simp only [Act.put, List.setIfInBounds_toArray, List.set_cons_zero, List.set_cons_succ, List.getElem_toArray, List.getElem_cons_succ, List.getElem_cons_zero]
  refine wpAnyH_take (i := 9) (v := ?_) rfl (by kernel_rfl) (by kernel_rfl) (by kernel_rfl) (fun _ _ _ h => h) (Or.inl ⟨by rfl, ?yldq⟩) (by assumption) ?_
  case yldq => (intro w hSw; (try dsimp only at hSw); go_simp; try with_reducible rfl)
  try simp only [Act.put, List.setIfInBounds_toArray, List.set_cons_zero, List.set_cons_succ, List.getElem_toArray, List.getElem_cons_succ, List.getElem_cons_zero]
  refine wpAnyH_take (i := 10) (v := ?_) rfl (by kernel_rfl) (by kernel_rfl) (by kernel_rfl) (fun _ _ _ h => h) (Or.inl ⟨by rfl, ?yldq⟩) (by assumption) ?_
  case yldq => (intro w hSw; (try dsimp only at hSw); go_simp; try with_reducible rfl)
  try simp only [Act.put, List.setIfInBounds_toArray, List.set_cons_zero, List.set_cons_succ, List.getElem_toArray, List.getElem_cons_succ, List.getElem_cons_zero]
  refine wpAnyH_ready (rs := [11]) (by kernel_rfl) (by simp) ?_
  refine AllReadyH.cons rfl (fun K hK => ?_) AllReadyH.nil
  go_simp
  refine (H1.out _ (L1.out.drew)).mono ?_
  rintro e w2 ⟨rfl, hb⟩
  have L2 := Lib.hid ((L1.out.drew).trans (hb.mono L1.out.size))
  have K2_0 := Lib.hid ((Blk.drewN K1_0.out 1).below hb K1_0.out.lt)
  have K2_1 := Lib.hid ((Blk.drewN K1_1.out 1).below hb K1_1.out.lt)
  clear hb K1_0 K1_1
  refine hK.out _ _ K2_0.out (fun hS11 => ?_)
  clear hK K
  refine wpAnyH_take (i := 12) (v := ?_) rfl (by kernel_rfl) (by kernel_rfl) (by kernel_rfl) (fun _ _ _ h => h) (Or.inl ⟨by rfl, ?yldq⟩) (by assumption) ?_
  case yldq => (intro w hSw; (try dsimp only at hSw); go_simp; try with_reducible rfl)
  try simp only [Act.put, List.setIfInBounds_toArray, List.set_cons_zero, List.set_cons_succ, List.getElem_toArray, List.getElem_cons_succ, List.getElem_cons_zero]
  refine wpAnyH_take (i := 13) (v := ?_) rfl (by kernel_rfl) (by kernel_rfl) (by kernel_rfl) (fun _ _ _ h => h) (Or.inl ⟨by rfl, ?yldq⟩) (by assumption) ?_
  case yldq => (intro w hSw; (try dsimp only at hSw); go_simp; try with_reducible rfl)
  try simp only [Act.put, List.setIfInBounds_toArray, List.set_cons_zero, List.set_cons_succ, List.getElem_toArray, List.getElem_cons_succ, List.getElem_cons_zero]
  refine wpAnyH_ready (rs := [14]) (by kernel_rfl) (by simp) ?_
  refine AllReadyH.cons rfl (fun K hK => ?_) AllReadyH.nil
  have m1_0 : w2.cell? ⟨B1, 0, none⟩ = some _ := K2_1.out.cell 0
  have m1_1 : w2.cell? ⟨B1, 1, none⟩ = some _ := K2_1.out.cell 1
  have m1_2 : w2.cell? ⟨B1, 2, none⟩ = some _ := K2_1.out.cell 2
  have m1_3 : w2.cell? ⟨B1, 3, none⟩ = some _ := K2_1.out.cell 3
  have m1_4 : w2.cell? ⟨B1, 4, none⟩ = some _ := K2_1.out.cell 4
  have m1_5 : w2.cell? ⟨B1, 5, none⟩ = some _ := K2_1.out.cell 5
  have m1_6 : w2.cell? ⟨B1, 6, none⟩ = some _ := K2_1.out.cell 6
  have m1_7 : w2.cell? ⟨B1, 7, none⟩ = some _ := K2_1.out.cell 7
  have m1_8 : w2.cell? ⟨B1, 8, none⟩ = some _ := K2_1.out.cell 8
  have m1_9 : w2.cell? ⟨B1, 9, none⟩ = some _ := K2_1.out.cell 9
  have m1_10 : w2.cell? ⟨B1, 10, none⟩ = some _ := K2_1.out.cell 10
  have m1_11 : w2.cell? ⟨B1, 11, none⟩ = some _ := K2_1.out.cell 11
  have mlt1 : B1 < w2.heap.size := K2_1.out.lt
  have mf1 : ∀ o, w2.frozen? ⟨B1, o, none⟩ = false := fun o => K2_1.out.free o
  go_simp
  clear m1_0 m1_1 m1_2 m1_3 m1_4 m1_5 m1_6 m1_7 m1_8 m1_9 m1_10 m1_11 mlt1 mf1
  obtain ⟨W3, hW⟩ : ∃ W9, W9 = ((((((((((((w2.setCell ⟨B1, 0, none⟩ (.bool v)).setCell ⟨B1, 1, none⟩ (.bool r)).setCell ⟨B1, 2, none⟩ (.bool x1)).setCell ⟨B1, 3, none⟩ (.bool x)).setCell ⟨B1, 4, none⟩ (.bool u)).setCell ⟨B1, 5, none⟩ (.bool g)).setCell ⟨B1, 6, none⟩ (.bool a)).setCell ⟨B1, 7, none⟩ (.bool d)).setCell ⟨B1, 8, none⟩ (.int .i64 rsw)).setCell ⟨B1, 9, none⟩ (.int .u64 (pn : Int))).setCell ⟨B1, 10, none⟩ (.int .i64 (lv : Int))).setCell ⟨B1, 11, none⟩ (.int .u64 (pl : Int))) := ⟨_, rfl⟩
  rw [← hW]
  have K3_0 := Lib.hid (show Blk W3 tp [.pointer (some ⟨mp, 0, none⟩), .pointer (some ⟨sp, 0, none⟩), .int .i64 (first : Int), .int .i64 (U : Int)] 75 from hW ▸ ((((((((((((K2_0.out.other ⟨B1, 0, none⟩ (.bool v) X1_0_0.out).other ⟨B1, 1, none⟩ (.bool r) X1_0_0.out).other ⟨B1, 2, none⟩ (.bool x1) X1_0_0.out).other ⟨B1, 3, none⟩ (.bool x) X1_0_0.out).other ⟨B1, 4, none⟩ (.bool u) X1_0_0.out).other ⟨B1, 5, none⟩ (.bool g) X1_0_0.out).other ⟨B1, 6, none⟩ (.bool a) X1_0_0.out).other ⟨B1, 7, none⟩ (.bool d) X1_0_0.out).other ⟨B1, 8, none⟩ (.int .i64 rsw) X1_0_0.out).other ⟨B1, 9, none⟩ (.int .u64 (pn : Int)) X1_0_0.out).other ⟨B1, 10, none⟩ (.int .i64 (lv : Int)) X1_0_0.out).other ⟨B1, 11, none⟩ (.int .u64 (pl : Int)) X1_0_0.out))
  have K3_1 := Lib.hid (show Blk W3 B1 [.bool v, .bool r, .bool x1, .bool x, .bool u, .bool g, .bool a, .bool d, .int .i64 rsw, .int .u64 (pn : Int), .int .i64 (lv : Int), .int .u64 (pl : Int)] 43 from hW ▸ ((((((((((((K2_1.out.set 0 (.bool v)).set 1 (.bool r)).set 2 (.bool x1)).set 3 (.bool x)).set 4 (.bool u)).set 5 (.bool g)).set 6 (.bool a)).set 7 (.bool d)).set 8 (.int .i64 rsw)).set 9 (.int .u64 (pn : Int))).set 10 (.int .i64 (lv : Int))).set 11 (.int .u64 (pl : Int))))
  have L3 := Lib.hid (show Below w.heap.size w W3 from hW ▸ (Below.setCell (Below.setCell (Below.setCell (Below.setCell (Below.setCell (Below.setCell (Below.setCell (Below.setCell (Below.setCell (Below.setCell (Below.setCell (Below.setCell L2.out G1.out _) G1.out _) G1.out _) G1.out _) G1.out _) G1.out _) G1.out _) G1.out _) G1.out _) G1.out _) G1.out _) G1.out _))
  clear hW K2_0 K2_1
  refine hK.out _ _ K3_0.out (fun hS14 => ?_)
  clear hK K
  refine wpAnyH_take (i := 15) (v := ?_) rfl (by kernel_rfl) (by kernel_rfl) (by kernel_rfl) (fun _ _ _ h => h) (Or.inl ⟨by rfl, ?yldq⟩) (by assumption) ?_
  case yldq => (intro w hSw; (try dsimp only at hSw); go_simp; try with_reducible rfl)
  try simp only [Act.put, List.setIfInBounds_toArray, List.set_cons_zero, List.set_cons_succ, List.getElem_toArray, List.getElem_cons_succ, List.getElem_cons_zero]
  refine wpAnyH_done (by kernel_rfl) ?_ _
  go_wp2
  have rr0 : W3.cell? ⟨B1, 0, none⟩ = some _ := K3_1.out.cell 0
  have rr1 : W3.cell? ⟨B1, 1, none⟩ = some _ := K3_1.out.cell 1
  have rr2 : W3.cell? ⟨B1, 2, none⟩ = some _ := K3_1.out.cell 2
  have rr3 : W3.cell? ⟨B1, 3, none⟩ = some _ := K3_1.out.cell 3
  have rr4 : W3.cell? ⟨B1, 4, none⟩ = some _ := K3_1.out.cell 4
  have rr5 : W3.cell? ⟨B1, 5, none⟩ = some _ := K3_1.out.cell 5
  have rr6 : W3.cell? ⟨B1, 6, none⟩ = some _ := K3_1.out.cell 6
  have rr7 : W3.cell? ⟨B1, 7, none⟩ = some _ := K3_1.out.cell 7
  have rr8 : W3.cell? ⟨B1, 8, none⟩ = some _ := K3_1.out.cell 8
  have rr9 : W3.cell? ⟨B1, 9, none⟩ = some _ := K3_1.out.cell 9
  have rr10 : W3.cell? ⟨B1, 10, none⟩ = some _ := K3_1.out.cell 10
  have rr11 : W3.cell? ⟨B1, 11, none⟩ = some _ := K3_1.out.cell 11
  refine bodyPost_ret (v := .tuple #[.agg #[.bool v, .bool r, .bool x1, .bool x, .bool u, .bool g, .bool a, .bool d, .int .i64 rsw, .int .u64 (pn : Int), .int .i64 (lv : Int), .int .u64 (pl : Int)], .int .i64 (er : Nat)]) (by simp [results, Try.results11, go_sem, rr0, rr1, rr2, rr3, rr4, rr5, rr6, rr7, rr8, rr9, rr10, rr11]) rfl ⟨rfl, L3.out⟩
theorem map13_nil (va : Nat) (l : Int) (e : Ent) (w : World) : Calls Try.prog 12 #[.pointer none, .int .u64 (va : Int), .int .i64 l, pv e] w fun r w' => r = .returned (.int .i64 1) ∧ Below w.heap.size w w' := by
  obtain ⟨v, r, x1, x, u, g, a, d, rsw, ppn⟩ := e
  unfold pv
  dsimp only
  go_enter Try.func12, Try.ntmps12
  go_wp2
  go_ret
  refine ⟨rfl, ?_⟩
  repeat (first | (with_reducible refine Below.setCell ?_ ?ybel _; case ybel => (first | omega | (simp <;> omega))) | (with_reducible refine Below.alloc ?_ ?ybel _; case ybel => (first | omega | (simp <;> omega))) | (with_reducible refine below_drewNsB ?_ _) | (with_reducible refine below_drewNs ?_ _) | (with_reducible refine Below.drew ?_) | (with_reducible exact Below.refl _ _))
set_option maxHeartbeats 8000000 in
theorem map13_any {first n fs : Nat} {w : World} {tp mp sp : Nat} {Fm Gs : Nat → Prop} {S : Tt} {c : Nat} (va : Nat) (l : Int) (e : Ent) (h : TS first n fs w tp mp sp Fm Gs S c) (hva : va < 18446744073709551616) (hl : -9223372036854775808 ≤ l ∧ l ≤ 9223372036854775807) (hr : -9223372036854775808 ≤ e.rsw ∧ e.rsw ≤ 9223372036854775807) (hp : e.ppn < 18446744073709551616) (hn : c < 970) :
    Calls Try.prog 12 #[.pointer (some ⟨tp, 0, none⟩), .int .u64 (va : Int), .int .i64 l, pv e] w fun r w' => r = .returned (.int .i64 (mapT first n fs va l e S).2) ∧ ∃ Fm' Gs', TS first n fs w' tp mp sp Fm' Gs' (mapT first n fs va l e S).1 (c + 5) ∧ Nx w w' tp mp Fm Gs Fm' Gs' := by
  have h1 := fun w => Calls.belowE (can_any va w hva)
  have h2 := fun w => page13_any e l w hr hp
  have h3 := fun w' (lv : Nat) (hb : Below w.heap.size w w') (hc : canN va = true) (hlv : lv < 3) => room13_any va lv (h.below hb) hc hva hlv (by omega)
  have h4 := fun (w' : World) (lv f : Nat) (Fm' Gs' : Nat → Prop) (S' : Tt) (hT : TS first n fs w' tp mp sp Fm' Gs' S' (c + 4)) (hc : canN va = true) (hlv : lv < 3) (hm : mayE e lv = true) (hf : frmT first S'.T va lv = some f) (hk : kid first S'.T va lv = none) (hpg : pg S'.L va lv = none) =>
    show Calls Try.prog 26 #[.pointer (some ⟨tp, 0, none⟩), .int .u64 ((f * 4096 + 8 * fld va (12 + 9 * lv) 9 : Nat) : Int), pv e] w' fun r w'' => r = .returned (.int .i64 0) ∧ ∃ F', TS first n fs w'' tp mp sp F' Gs' ⟨S'.L ++ [⟨bas va lv, lv, e⟩], S'.T, S'.used⟩ (c + 5) ∧ Nx w' w'' tp mp Fm' Gs' F' Gs' from by
      obtain ⟨C, hW, hR⟩ := hT
      have hfl := frm_lt hR hf
      have hp9 := place_frame f (fld9 va lv)
      refine (lay13_any tp mp sp fs (c + 4) (f * 4096 + 8 * fld va (12 + 9 * lv) 9) first S'.used e C Fm' w' hW.blk hW.mem (place_8 _ _) (by rw [hp9]; exact hfl.2.2.1) (by omega) hW.mt hr hp).mono ?_
      rintro r w'' ⟨rfl, F', hM, hx, hc'⟩
      have hw := hW.wrote hM hx hc'
      exact ⟨rfl, F', ⟨_, hw.1, addPage13 hR (fun g => (hW.mem.byt g).2) hc hva hlv hf hm hk hpg⟩, hw.2⟩
  have hme : ∀ lv : Nat, l = lv → mayE e l = true → mayE e (lv : Int) = true := fun lv h1 h2 => h1 ▸ h2
  obtain ⟨Z, hZ⟩ : ∃ Z, Z = mapT first n fs va l e S := ⟨_, rfl⟩
  rw [← hZ]
  unfold mapT at hZ
  have e1 : canN va = false ∨ mayE e l = false → Z = (S, 2) := fun h => by rw [hZ, if_neg (by rcases h with h | h <;> simp [h])]
  have hml : mayE e l = true → 0 ≤ l ∧ l < 3 := fun h => by
    rcases Decidable.em (0 ≤ l ∧ l < 3) with h2 | h2
    · exact h2
    · rw [mayE_no e l h2] at h; cases h
  have e2 : canN va = true → mayE e l = true → Z = desc first n fs va l.toNat e (2 - l.toNat) S := fun h h' => by rw [hZ, if_pos (by simp [h, h'])]
  clear hZ
  obtain ⟨CV, hCV⟩ : ∃ CV, CV = canN va := ⟨_, rfl⟩
  obtain ⟨MV, hMV⟩ : ∃ MV, MV = mayE e l := ⟨_, rfl⟩
  rw [← hCV] at h1 e1 e2
  rw [← hMV] at h2 e1 e2 hml
  have HCV := Lib.hid hCV; have HMV := Lib.hid hMV; have HT := Lib.hid h
  have H1 := Lib.hid h1; have H2 := Lib.hid h2; have H3 := Lib.hid h3; have H4 := Lib.hid h4; have E1 := Lib.hid e1; have E2 := Lib.hid e2; have HML := Lib.hid hml; have HME := Lib.hid hme
  clear h1 h2 h3 h4 e1 e2 hml hme hCV hMV h hva hl
  obtain ⟨P, hP⟩ : ∃ P, P = pv e := ⟨_, rfl⟩
  obtain ⟨EE, hEE⟩ : ∃ EE, EE = e := ⟨_, rfl⟩
  have HEE := Lib.hid hEE
  clear hEE hr hp
  rw [← hP] at H2 H4
  obtain ⟨v, r, x1, x, u, g, a, d, rsw, ppn⟩ := e
  unfold pv at hP ⊢
  dsimp only at hP ⊢
  subst hP
  go_enter Try.func12, Try.ntmps12
  go_wp2_with fail
  have nb0 : Blk (w.alloc (.cells #[.bool v, .bool r, .bool x1, .bool x, .bool u, .bool g, .bool a, .bool d, .int .i64 rsw, .int .u64 (ppn : Int)] 39)) (w.heap.size) [.bool v, .bool r, .bool x1, .bool x, .bool u, .bool g, .bool a, .bool d, .int .i64 rsw, .int .u64 (ppn : Int)] 39 := Blk.new w [.bool v, .bool r, .bool x1, .bool x, .bool u, .bool g, .bool a, .bool d, .int .i64 rsw, .int .u64 (ppn : Int)] 39
  have nls : Below w.heap.size w w := (Below.refl w.heap.size w)
  have nl0 := nls.alloc nls.size (.cells #[.bool v, .bool r, .bool x1, .bool x, .bool u, .bool g, .bool a, .bool d, .int .i64 rsw, .int .u64 (ppn : Int)] 39)
  have nl : Below w.heap.size w (w.alloc (.cells #[.bool v, .bool r, .bool x1, .bool x, .bool u, .bool g, .bool a, .bool d, .int .i64 rsw, .int .u64 (ppn : Int)] 39)) := nl0; clear nls nl0
  obtain ⟨B1, hB0⟩ : ∃ B, B = w.heap.size := ⟨_, rfl⟩
  obtain ⟨W1, hW⟩ : ∃ W, W = (w.alloc (.cells #[.bool v, .bool r, .bool x1, .bool x, .bool u, .bool g, .bool a, .bool d, .int .i64 rsw, .int .u64 (ppn : Int)] 39)) := ⟨_, rfl⟩
  rw [← hW] at nl nb0
  rw [← hB0] at nb0
  rw [← hW]
  try rw [← hB0]
  have K1_0 := Lib.hid nb0
  have G1 : Hid (w.heap.size ≤ B1) := Lib.hid (by have := (Nat.le_refl w.heap.size); omega)
  have L1 := Lib.hid nl
  clear nl hW nb0 hB0
  go_wp2_with fail
  refine (H1.out _).mono ?_
  rintro e w2 ⟨rfl, hb⟩
  have L2 := Lib.hid (L1.out.trans (hb.mono L1.out.size))
  have K2_0 := Lib.hid (K1_0.out.below hb K1_0.out.lt)
  clear hb K1_0
  cases CV
  · obtain rfl := E1.out (.inl rfl)
    go_wp2
    go_ret
    exact ⟨rfl, Fm, Gs, (HT.out.below L2.out).mono (by omega), Nx.below L2.out⟩
  · have m0_0 : w2.cell? ⟨B1, 0, none⟩ = some _ := K2_0.out.cell 0
    have m0_1 : w2.cell? ⟨B1, 1, none⟩ = some _ := K2_0.out.cell 1
    have m0_2 : w2.cell? ⟨B1, 2, none⟩ = some _ := K2_0.out.cell 2
    have m0_3 : w2.cell? ⟨B1, 3, none⟩ = some _ := K2_0.out.cell 3
    have m0_4 : w2.cell? ⟨B1, 4, none⟩ = some _ := K2_0.out.cell 4
    have m0_5 : w2.cell? ⟨B1, 5, none⟩ = some _ := K2_0.out.cell 5
    have m0_6 : w2.cell? ⟨B1, 6, none⟩ = some _ := K2_0.out.cell 6
    have m0_7 : w2.cell? ⟨B1, 7, none⟩ = some _ := K2_0.out.cell 7
    have m0_8 : w2.cell? ⟨B1, 8, none⟩ = some _ := K2_0.out.cell 8
    have m0_9 : w2.cell? ⟨B1, 9, none⟩ = some _ := K2_0.out.cell 9
    have mlt0 : B1 < w2.heap.size := K2_0.out.lt
    go_wp2_with fail
    clear m0_0 m0_1 m0_2 m0_3 m0_4 m0_5 m0_6 m0_7 m0_8 m0_9 mlt0
    refine (H2.out _).mono ?_
    rintro e w3 ⟨rfl, hb⟩
    have L3 := Lib.hid (L2.out.trans (hb.mono L2.out.size))
    have K3_0 := Lib.hid (K2_0.out.below hb K2_0.out.lt)
    clear hb K2_0
    cases MV
    · obtain rfl := E1.out (.inr rfl)
      go_wp2
      go_ret
      exact ⟨rfl, Fm, Gs, (HT.out.below L3.out).mono (by omega), Nx.below L3.out⟩
    · obtain ⟨l0, l3⟩ := HML.out (by trivial)
      obtain ⟨lv, rfl⟩ : ∃ k : Nat, l = k := ⟨l.toNat, by omega⟩
      have hz := E2.out (by trivial) (by trivial)
      rw [Int.toNat_natCast, desc_room] at hz
      have hlv : lv < 3 := by omega
      have hrm := H3.out _ lv L3.out HCV.out.symm hlv
      have hm := HME.out lv rfl HMV.out.symm
      generalize roomP first n fs va lv (2 - lv) S = R at *
      obtain ⟨S1, er⟩ := R
      dsimp only at hrm hz
      have HZ := Lib.hid hz; have HR := Lib.hid hrm; have HM := Lib.hid hm
      clear hz hrm hm l0 l3
      go_wp2_with fail
      refine HR.out.mono ?_
      rintro e w9 ⟨A, rfl, Fm1, Gs1, hT1, hN1, hpl⟩
      have hbx := K3_0.out.chg hN1.2 (fun hq => by
        obtain ⟨C0, hW0, _⟩ := HT.out
        have := hW0.lt _ hq
        have := G1.out
        omega)
      have HT1 := Lib.hid hT1; have HN1 := Lib.hid ((Nx.below (A := Fm) (B := Gs) (tp := tp) (mp := mp) L3.out).trans hN1); have HPL := Lib.hid hpl; have HBX := Lib.hid hbx
      clear hT1 hN1 hpl hbx
      by_cases her : er = 0
      · subst her
        obtain ⟨f, hf, hA, hk, hpg⟩ := HPL.out rfl
        have hlay := H4.out w9 lv f Fm1 Gs1 S1 HT1.out HCV.out.symm hlv (by first | exact HM.out | (rw [HEE.out]; exact HM.out)) hf hk hpg
        rw [← hA] at hlay
        have HLAY := Lib.hid hlay; clear hlay hf hA hk hpg
        have hz := HZ.out
        rw [if_pos rfl] at hz
        have HZ2 := Lib.hid hz; clear hz
        have m0_0 : w9.cell? ⟨B1, 0, none⟩ = some _ := HBX.out.cell 0
        have m0_1 : w9.cell? ⟨B1, 1, none⟩ = some _ := HBX.out.cell 1
        have m0_2 : w9.cell? ⟨B1, 2, none⟩ = some _ := HBX.out.cell 2
        have m0_3 : w9.cell? ⟨B1, 3, none⟩ = some _ := HBX.out.cell 3
        have m0_4 : w9.cell? ⟨B1, 4, none⟩ = some _ := HBX.out.cell 4
        have m0_5 : w9.cell? ⟨B1, 5, none⟩ = some _ := HBX.out.cell 5
        have m0_6 : w9.cell? ⟨B1, 6, none⟩ = some _ := HBX.out.cell 6
        have m0_7 : w9.cell? ⟨B1, 7, none⟩ = some _ := HBX.out.cell 7
        have m0_8 : w9.cell? ⟨B1, 8, none⟩ = some _ := HBX.out.cell 8
        have m0_9 : w9.cell? ⟨B1, 9, none⟩ = some _ := HBX.out.cell 9
        have mlt0 : B1 < w9.heap.size := HBX.out.lt
        go_wp2_with fail
        clear m0_0 m0_1 m0_2 m0_3 m0_4 m0_5 m0_6 m0_7 m0_8 m0_9 mlt0
        refine HLAY.out.mono ?_
        rintro e w10 ⟨rfl, F', hT2, hN2⟩
        have HT2 := Lib.hid hT2; have HN2 := Lib.hid (HN1.out.trans hN2); clear hT2 hN2
        go_wp2
        go_ret
        rw [HZ2.out]
        exact ⟨rfl, F', Gs1, HT2.out, HN2.out⟩
      · have her2 : (er != 0) = true := by simp [her]
        have hz := HZ.out
        rw [if_neg her] at hz
        have HZ2 := Lib.hid hz; clear hz
        go_wp2
        go_ret
        rw [HZ2.out]
        exact ⟨rfl, Fm1, Gs1, HT1.out.mono (by omega), HN1.out⟩
end Go.Proofs.Ytdakfgefnapglaa
