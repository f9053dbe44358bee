/-
  What Plain and Put of package runrigref16 answer of a right frame: contracts over the translation. Each says its own conditions.
-/
import Derived.Test.YtmdfopbigkfbnaaDoorPut16
import Derived.Test.YtmdfopbigkfbnaaDoorRfc16
import Derived.Test.YtmdfopbigkfbnaaDoorRb01
namespace Go.Proofs.YtmdfopbigkfbnaaDoor
open Go.RowKit
set_option linter.unusedVariables false
set_option linter.unusedSimpArgs false
attribute [local go_sem] setCell_drewN alloc_drewN

theorem u8_wrap (x : Nat) (h : x < 256) : IntKind.u8.wrap (x : Int) = x := by simp [IntKind.wrap, IntKind.signed, IntKind.bits]; omega
set_option maxHeartbeats 8000000 in
theorem rplain_yes (f t : Nat) (bb : Bool) (s a : Nat) (A : Option Addr) (dl cap : Nat) (d : List Int) (w : World) (hd : Dat w A dl cap d) (hr : rgt ⟨f, t, bb, s, a, d⟩ = true) (hs : s < 18446744073709551616) (ha : a < 18446744073709551616) : Calls Tryd.prog 23 #[.agg #[.int .i64 (f : Int), .int .i64 (t : Int), .bool bb, .int .u64 (s : Int), .int .u64 (a : Int), .slice A dl cap]] w fun e w' => e = .returned (.string (strOfNums (plF ⟨f, t, bb, s, a, d⟩))) ∧ Below w.heap.size w w' := by
  obtain ⟨bf, bt, bl⟩ := rgt_parts hr
  dsimp only at bf bt bl
  rw [hd.len] at bl
  obtain ⟨PL, hPL⟩ : ∃ PL, PL = strOfNums (plF ⟨f, t, bb, s, a, d⟩) := ⟨_, rfl⟩
  rw [← hPL]
  unfold plF hdF at hPL
  dsimp only at hPL
  rw [hd.len, byt2, strOfNums_app, strOfNums_app, strOfNums_app, strOfNums_app] at hPL
  have e0 : (dl : Int) / 256 % 256 = dl / 256 := by omega
  rw [e0] at hPL
  have HD := Lib.hid hd
  have hz5 : (strOfNums d).size = dl := by rw [strOfNums_size]; exact HD.out.len
  have hq5 : ∀ w', Below w.heap.size w w' → (convert 23 9 (.slice A dl cap)).run Tryd.prog w' = .ok (.string (strOfNums d)) w' := fun w' hb => (HD.out.below hb).rd.conv dl cap HD.out.len
  generalize strOfNums d = S5 at hz5 hq5 hPL
  obtain ⟨S2, hS2⟩ : ∃ S2, S2 = strOfNums (byt (s : Int) 8) := ⟨_, rfl⟩
  obtain ⟨S3, hS3⟩ : ∃ S3, S3 = strOfNums (byt (a : Int) 8) := ⟨_, rfl⟩
  have hz2 : S2.size = 8 := by rw [hS2, strOfNums_size, byt_len]
  have hz3 : S3.size = 8 := by rw [hS3, strOfNums_size, byt_len]
  rw [← hS2, ← hS3] at hPL
  have uf : IntKind.u8.wrap (f : Int) = f := u8_wrap f (by omega)
  have ut : IntKind.u8.wrap (t : Int) = t := u8_wrap t (by omega)
  have um1 : (dl : Int).tmod 256 = dl % 256 := by rw [Int.tmod_eq_emod_of_nonneg (by omega)]
  have ud1 : IntKind.i64.wrap ((dl : Int) / 256) = (dl : Int) / 256 := by simp [IntKind.wrap, IntKind.signed, IntKind.bits]; omega
  have um : IntKind.u8.wrap ((dl : Int) % 256) = (dl : Int) % 256 := by simp [IntKind.wrap, IntKind.signed, IntKind.bits]
  have ud : IntKind.u8.wrap ((dl : Int) / 256) = (dl : Int) / 256 := by rw [show (dl : Int) / 256 = ((dl / 256 : Nat) : Int) by omega]; exact u8_wrap _ (by omega)
  have hz9 : ¬ 9223372036854775807 < 23 + dl := by omega
  have HS2 := Lib.hid hS2; have HS3 := Lib.hid hS3; have HQ5 := Lib.hid hq5; have HPL := Lib.hid hPL
  clear hd hr hS2 hS3 hq5 hPL e0
  cases bb
  · obtain ⟨S1, hS1⟩ : ∃ S1, S1 = strOfNums [82, 82, 0, (f : Int), (t : Int)] := ⟨_, rfl⟩
    obtain ⟨S4, hS4⟩ : ∃ S4, S4 = strOfNums [(dl : Int) % 256, (dl : Int) / 256] := ⟨_, rfl⟩
    have hz1 : S1.size = 5 := by rw [hS1, strOfNums_size]; rfl
    have hz4 : S4.size = 2 := by rw [hS4, strOfNums_size]; rfl
    have hpl : PL = S1 ++ S2 ++ S3 ++ S4 ++ S5 := by rw [HPL.out, hS1, hS4]; rfl
    have hb1 : Byt [82, 82, 0, (f : Int), (t : Int)] := by intro x hx; simp at hx; omega
    have hb4 : Byt [(dl : Int) % 256, (dl : Int) / 256] := by intro x hx; simp at hx; omega
    have HB1 := Lib.hid hb1; have HB4 := Lib.hid hb4; have HS1 := Lib.hid hS1; have HS4 := Lib.hid hS4; have HPP := Lib.hid hpl
    clear hb1 hb4 hS1 hS4 hpl HPL bf bt
    go_enter Tryd.func23, Tryd.ntmps23
    go_upto_region 1 with (fail)
    have nb0 : Blk (w.alloc (.cells #[.int .i64 (f : Int), .int .i64 (t : Int), .bool false, .int .u64 (s : Int), .int .u64 (a : Int), .slice A dl cap] 25)) (w.heap.size) [.int .i64 (f : Int), .int .i64 (t : Int), .bool false, .int .u64 (s : Int), .int .u64 (a : Int), .slice A dl cap] 25 := Blk.new w [.int .i64 (f : Int), .int .i64 (t : Int), .bool false, .int .u64 (s : Int), .int .u64 (a : Int), .slice A dl cap] 25
    have nls : Below w.heap.size w w := (Below.refl w.heap.size w)
    have nl0 := nls.alloc nls.size (.cells #[.int .i64 (f : Int), .int .i64 (t : Int), .bool false, .int .u64 (s : Int), .int .u64 (a : Int), .slice A dl cap] 25)
    have nl : Below w.heap.size w (w.alloc (.cells #[.int .i64 (f : Int), .int .i64 (t : Int), .bool false, .int .u64 (s : Int), .int .u64 (a : Int), .slice A dl cap] 25)) := nl0; clear nls nl0
    obtain ⟨B1, hB0⟩ : ∃ B, B = w.heap.size := ⟨_, rfl⟩
    obtain ⟨W1, hW⟩ : ∃ W, W = (w.alloc (.cells #[.int .i64 (f : Int), .int .i64 (t : Int), .bool false, .int .u64 (s : Int), .int .u64 (a : Int), .slice A dl cap] 25)) := ⟨_, rfl⟩
    rw [← hW] at nl nb0
    rw [← hB0] at nb0
    rw [← hW]
    try rw [← hB0]
    have K1_0 := Lib.hid nb0
    have G1 : Hid (w.heap.size ≤ B1) := Lib.hid (by have := (Nat.le_refl w.heap.size); omega)
    have L1 := Lib.hid nl
    clear nl hW nb0 hB0
    have m0_0 : W1.cell? ⟨B1, 0, none⟩ = some _ := K1_0.out.cell 0
    have m0_1 : W1.cell? ⟨B1, 1, none⟩ = some _ := K1_0.out.cell 1
    have m0_2 : W1.cell? ⟨B1, 2, none⟩ = some _ := K1_0.out.cell 2
    have m0_3 : W1.cell? ⟨B1, 3, none⟩ = some _ := K1_0.out.cell 3
    have m0_4 : W1.cell? ⟨B1, 4, none⟩ = some _ := K1_0.out.cell 4
    have m0_5 : W1.cell? ⟨B1, 5, none⟩ = some _ := K1_0.out.cell 5
    have mlt0 : B1 < W1.heap.size := K1_0.out.lt
    go_upto_region 5 with (fail)
    clear m0_0 m0_1 m0_2 m0_3 m0_4 m0_5 mlt0
    refine wp_region_held_drew (S := fun w' => Below W1.drew.heap.size W1.drew w') (by kernel_rfl) (Below.refl _ _) (fun hHeld => ?_)
    clear hHeld
    obtain ⟨D2, hD⟩ : ∃ x, x = W1.drew := ⟨_, rfl⟩
    rw [← hD]
    have K2_0 := Lib.hid (show Blk D2 B1 [.int .i64 (f : Int), .int .i64 (t : Int), .bool false, .int .u64 (s : Int), .int .u64 (a : Int), .slice A dl cap] 25 from hD ▸ Blk.drewN K1_0.out 1)
    have L2 := Lib.hid (show Below w.heap.size w D2 from hD ▸ L1.out.drew)
    clear hD K1_0
    have hH2 : Below D2.heap.size D2 D2 := Below.refl _ _
    simp only [List.size_toArray, List.length_cons, List.length_nil, Nat.reduceAdd]
    rw [show Array.replicate 33 false = [false, false, false, false, false, false, false, false, false, false, false, false, false, false, false, false, false, false, false, false, false, false, false, false, false, false, false, false, false, false, false, false, false].toArray from rfl]
    refine wpAnyH_take (i := 0) (v := ?_) rfl (by kernel_rfl) (by kernel_rfl) (by kernel_rfl) (fun _ _ _ h => h) (Or.inl ⟨by rfl, ?yldq⟩) (by assumption) ?_
    case yldq => (intro w hSw; (try dsimp only at hSw); go_simp; try with_reducible rfl)
    try simp only [Act.put, List.setIfInBounds_toArray, List.set_cons_zero, List.set_cons_succ, List.getElem_toArray, List.getElem_cons_succ, List.getElem_cons_zero]
    refine wpAnyH_take (i := 1) (v := ?_) rfl (by kernel_rfl) (by kernel_rfl) (by kernel_rfl) (fun _ _ _ h => h) (Or.inl ⟨by rfl, ?yldq⟩) (by assumption) ?_
    case yldq => (intro w hSw; (try dsimp only at hSw); go_simp; try with_reducible rfl)
    try simp only [Act.put, List.setIfInBounds_toArray, List.set_cons_zero, List.set_cons_succ, List.getElem_toArray, List.getElem_cons_succ, List.getElem_cons_zero]
    refine wpAnyH_take (i := 2) (v := _) rfl (by kernel_rfl) (by kernel_rfl) (by kernel_rfl) (fun _ _ _ h => h) (Or.inl ⟨by rfl, fun w hSw => yield_i16 _ _ _ rfl rfl (show w.cell? ⟨B1, 0, none⟩ = some (.int .i64 (f : Int)) from (K2_0.out.below hSw K2_0.out.lt).cell 0)⟩) (by assumption) ?_
    try simp only [Act.put, List.setIfInBounds_toArray, List.set_cons_zero, List.set_cons_succ, List.getElem_toArray, List.getElem_cons_succ, List.getElem_cons_zero]
    refine wpAnyH_take (i := 3) (v := ?_) rfl (by kernel_rfl) (by kernel_rfl) (by kernel_rfl) (fun _ _ _ h => h) (Or.inl ⟨by rfl, ?yldq⟩) (by assumption) ?_
    case yldq => (intro w hSw; (try dsimp only at hSw); go_simp; try with_reducible rfl)
    try simp only [Act.put, List.setIfInBounds_toArray, List.set_cons_zero, List.set_cons_succ, List.getElem_toArray, List.getElem_cons_succ, List.getElem_cons_zero]
    refine wpAnyH_take (i := 4) (v := ?_) rfl (by kernel_rfl) (by kernel_rfl) (by kernel_rfl) (fun _ _ _ h => h) (Or.inl ⟨by rfl, ?yldq⟩) (by assumption) ?_
    case yldq => (intro w hSw; (try dsimp only at hSw); go_simp; try with_reducible rfl)
    try simp only [Act.put, List.setIfInBounds_toArray, List.set_cons_zero, List.set_cons_succ, List.getElem_toArray, List.getElem_cons_succ, List.getElem_cons_zero]
    refine wpAnyH_take (i := 5) (v := _) rfl (by kernel_rfl) (by kernel_rfl) (by kernel_rfl) (fun _ _ _ h => h) (Or.inl ⟨by rfl, fun w hSw => yield_i16 _ _ _ rfl rfl (show w.cell? ⟨B1, 1, none⟩ = some (.int .i64 (t : Int)) from (K2_0.out.below hSw K2_0.out.lt).cell 1)⟩) (by assumption) ?_
    try simp only [Act.put, List.setIfInBounds_toArray, List.set_cons_zero, List.set_cons_succ, List.getElem_toArray, List.getElem_cons_succ, List.getElem_cons_zero]
    refine wpAnyH_take (i := 6) (v := ?_) rfl (by kernel_rfl) (by kernel_rfl) (by kernel_rfl) (fun _ _ _ h => h) (Or.inl ⟨by rfl, ?yldq⟩) (by assumption) ?_
    case yldq => (intro w hSw; (try dsimp only at hSw); go_simp; try with_reducible rfl)
    try simp only [Act.put, List.setIfInBounds_toArray, List.set_cons_zero, List.set_cons_succ, List.getElem_toArray, List.getElem_cons_succ, List.getElem_cons_zero]
    refine wpAnyH_take (i := 9) (v := ?_) rfl (by kernel_rfl) (by kernel_rfl) (by kernel_rfl) (fun _ _ _ h => h) (Or.inl ⟨by rfl, ?yldq⟩) (by assumption) ?_
    case yldq => (intro w hSw; (try dsimp only at hSw); go_simp; try with_reducible rfl)
    try simp only [Act.put, List.setIfInBounds_toArray, List.set_cons_zero, List.set_cons_succ, List.getElem_toArray, List.getElem_cons_succ, List.getElem_cons_zero]
    refine wpAnyH_take (i := 10) (v := _) rfl (by kernel_rfl) (by kernel_rfl) (by kernel_rfl) (fun _ _ _ h => h) (Or.inl ⟨by rfl, fun w hSw => yield_u16 _ _ _ rfl rfl (show w.cell? ⟨B1, 3, none⟩ = some (.int .u64 (s : Int)) from (K2_0.out.below hSw K2_0.out.lt).cell 3)⟩) (by assumption) ?_
    try simp only [Act.put, List.setIfInBounds_toArray, List.set_cons_zero, List.set_cons_succ, List.getElem_toArray, List.getElem_cons_succ, List.getElem_cons_zero]
    refine wpAnyH_take (i := 14) (v := ?_) rfl (by kernel_rfl) (by kernel_rfl) (by kernel_rfl) (fun _ _ _ h => h) (Or.inl ⟨by rfl, ?yldq⟩) (by assumption) ?_
    case yldq => (intro w hSw; (try dsimp only at hSw); go_simp; try with_reducible rfl)
    try simp only [Act.put, List.setIfInBounds_toArray, List.set_cons_zero, List.set_cons_succ, List.getElem_toArray, List.getElem_cons_succ, List.getElem_cons_zero]
    refine wpAnyH_take (i := 15) (v := _) rfl (by kernel_rfl) (by kernel_rfl) (by kernel_rfl) (fun _ _ _ h => h) (Or.inl ⟨by rfl, fun w hSw => yield_u16 _ _ _ rfl rfl (show w.cell? ⟨B1, 4, none⟩ = some (.int .u64 (a : Int)) from (K2_0.out.below hSw K2_0.out.lt).cell 4)⟩) (by assumption) ?_
    try simp only [Act.put, List.setIfInBounds_toArray, List.set_cons_zero, List.set_cons_succ, List.getElem_toArray, List.getElem_cons_succ, List.getElem_cons_zero]
    refine wpAnyH_take (i := 19) (v := ?_) rfl (by kernel_rfl) (by kernel_rfl) (by kernel_rfl) (fun _ _ _ h => h) (Or.inl ⟨by rfl, ?yldq⟩) (by assumption) ?_
    case yldq => (intro w hSw; (try dsimp only at hSw); go_simp; try with_reducible rfl)
    try simp only [Act.put, List.setIfInBounds_toArray, List.set_cons_zero, List.set_cons_succ, List.getElem_toArray, List.getElem_cons_succ, List.getElem_cons_zero]
    refine wpAnyH_take (i := 20) (v := ?_) rfl (by kernel_rfl) (by kernel_rfl) (by kernel_rfl) (fun _ _ _ h => h) (Or.inl ⟨by rfl, ?yldq⟩) (by assumption) ?_
    case yldq => (intro w hSw; (try dsimp only at hSw); go_simp; try with_reducible rfl)
    try simp only [Act.put, List.setIfInBounds_toArray, List.set_cons_zero, List.set_cons_succ, List.getElem_toArray, List.getElem_cons_succ, List.getElem_cons_zero]
    refine wpAnyH_take (i := 21) (v := ?_) rfl (by kernel_rfl) (by kernel_rfl) (by kernel_rfl) (fun _ _ _ h => h) (Or.inl ⟨by rfl, ?yldq⟩) (by assumption) ?_
    case yldq => (intro w hSw; (try dsimp only at hSw); go_simp; try with_reducible rfl)
    try simp only [Act.put, List.setIfInBounds_toArray, List.set_cons_zero, List.set_cons_succ, List.getElem_toArray, List.getElem_cons_succ, List.getElem_cons_zero]
    refine wpAnyH_take (i := 22) (v := ?_) rfl (by kernel_rfl) (by kernel_rfl) (by kernel_rfl) (fun _ _ _ h => h) (Or.inl ⟨by rfl, ?yldq⟩) (by assumption) ?_
    case yldq => (intro w hSw; (try dsimp only at hSw); go_simp; try with_reducible rfl)
    try simp only [Act.put, List.setIfInBounds_toArray, List.set_cons_zero, List.set_cons_succ, List.getElem_toArray, List.getElem_cons_succ, List.getElem_cons_zero]
    refine wpAnyH_take (i := 23) (v := ?_) rfl (by kernel_rfl) (by kernel_rfl) (by kernel_rfl) (fun _ _ _ h => h) (Or.inl ⟨by rfl, ?yldq⟩) (by assumption) ?_
    case yldq => (intro w hSw; (try dsimp only at hSw); go_simp; try with_reducible rfl)
    try simp only [Act.put, List.setIfInBounds_toArray, List.set_cons_zero, List.set_cons_succ, List.getElem_toArray, List.getElem_cons_succ, List.getElem_cons_zero]
    refine wpAnyH_take (i := 24) (v := ?_) rfl (by kernel_rfl) (by kernel_rfl) (by kernel_rfl) (fun _ _ _ h => h) (Or.inl ⟨by rfl, ?yldq⟩) (by assumption) ?_
    case yldq => (intro w hSw; (try dsimp only at hSw); go_simp; try with_reducible rfl)
    try simp only [Act.put, List.setIfInBounds_toArray, List.set_cons_zero, List.set_cons_succ, List.getElem_toArray, List.getElem_cons_succ, List.getElem_cons_zero]
    try simp only [um1, ud1, um, ud, uf, ut]
    refine wpAnyH_take (i := 28) (v := ?_) rfl (by kernel_rfl) (by kernel_rfl) (by kernel_rfl) (fun _ _ _ h => h) (Or.inl ⟨by rfl, ?yldq⟩) (by assumption) ?_
    case yldq => (intro w hSw; (try dsimp only at hSw); go_simp; try with_reducible rfl)
    try simp only [Act.put, List.setIfInBounds_toArray, List.set_cons_zero, List.set_cons_succ, List.getElem_toArray, List.getElem_cons_succ, List.getElem_cons_zero]
    refine wpAnyH_take (i := 29) (v := _) rfl (by kernel_rfl) (by kernel_rfl) (by kernel_rfl) (fun _ _ _ h => h) (Or.inl ⟨by rfl, fun w hSw => yield_s16 _ _ _ rfl rfl (show w.cell? ⟨B1, 5, none⟩ = some (.slice A dl cap) from (K2_0.out.below hSw K2_0.out.lt).cell 5)⟩) (by assumption) ?_
    try simp only [Act.put, List.setIfInBounds_toArray, List.set_cons_zero, List.set_cons_succ, List.getElem_toArray, List.getElem_cons_succ, List.getElem_cons_zero]
    have hq5 : ∀ w', Below D2.heap.size D2 w' → (convert 23 9 (.slice A dl cap)).run Tryd.prog w' = .ok (.string S5) w' := fun w' hb => HQ5.out w' (L2.out.trans (hb.mono L2.out.size))
    refine wpAnyH_take (i := 30) (v := ?_) rfl (by kernel_rfl) (by kernel_rfl) (by kernel_rfl) (fun _ _ _ h => h) (Or.inl ⟨by rfl, ?yldq⟩) (by assumption) ?_
    case yldq => (intro w hSw; (try dsimp only at hSw); go_simp; try with_reducible rfl)
    try simp only [Act.put, List.setIfInBounds_toArray, List.set_cons_zero, List.set_cons_succ, List.getElem_toArray, List.getElem_cons_succ, List.getElem_cons_zero]
    clear hq5
    refine wpAnyH_ready (rs := [7, 11, 25]) (by kernel_rfl) (by simp) ?_
    refine AllReadyH.cons rfl (fun K hK => ?_) (AllReadyH.cons rfl (fun K hK => ?_) (AllReadyH.cons rfl (fun K hK => ?_) AllReadyH.nil))
    · go_simp
      have nb0 : Blk (D2.alloc (.cells #[.int .u8 82, .int .u8 82, .int .u8 0, .int .u8 ((f : Int)), .int .u8 ((t : Int))] 5)) (D2.heap.size) [.int .u8 82, .int .u8 82, .int .u8 0, .int .u8 ((f : Int)), .int .u8 ((t : Int))] 5 := Blk.new D2 [.int .u8 82, .int .u8 82, .int .u8 0, .int .u8 ((f : Int)), .int .u8 ((t : Int))] 5
      have nls : Below w.heap.size w D2 := L2.out
      have nl0 := nls.alloc nls.size (.cells #[.int .u8 82, .int .u8 82, .int .u8 0, .int .u8 ((f : Int)), .int .u8 ((t : Int))] 5)
      have nl : Below w.heap.size w (D2.alloc (.cells #[.int .u8 82, .int .u8 82, .int .u8 0, .int .u8 ((f : Int)), .int .u8 ((t : Int))] 5)) := nl0; clear nls nl0
      have o0 : Blk (D2.alloc (.cells #[.int .u8 82, .int .u8 82, .int .u8 0, .int .u8 ((f : Int)), .int .u8 ((t : Int))] 5)) B1 [.int .i64 (f : Int), .int .i64 (t : Int), .bool false, .int .u64 (s : Int), .int .u64 (a : Int), .slice A dl cap] 25 := (K2_0.out.alloc (.cells #[.int .u8 82, .int .u8 82, .int .u8 0, .int .u8 ((f : Int)), .int .u8 ((t : Int))] 5))
      have d3_0 : B1 < D2.heap.size := K2_0.out.lt
      obtain ⟨B3, hB0⟩ : ∃ B, B = D2.heap.size := ⟨_, rfl⟩
      obtain ⟨W3, hW⟩ : ∃ W, W = (D2.alloc (.cells #[.int .u8 82, .int .u8 82, .int .u8 0, .int .u8 ((f : Int)), .int .u8 ((t : Int))] 5)) := ⟨_, rfl⟩
      have hbx : Below D2.heap.size D2 W3 := hW ▸ (Below.refl D2.heap.size D2).alloc (Nat.le_refl _) _
      rw [← hW] at nl nb0 o0
      rw [← hB0] at nb0
      rw [← hW]
      try rw [← hB0]
      have K3_0 := Lib.hid o0
      have K3_1 := Lib.hid nb0
      have G3 : Hid (w.heap.size ≤ B3) := Lib.hid (by have := L2.out.size; omega)
      have x3_0_0 : B1 ≠ B3 := by omega
      have X3_0_0 := Lib.hid x3_0_0; clear x3_0_0
      have L3 := Lib.hid nl
      clear nl hW nb0 hB0 o0 d3_0 K2_0
      refine hK.out _ _ hbx (fun _ => ?_)
      clear hK K
      refine wpAnyH_more (S' := fun w' => Below W3.heap.size W3 w') (fun w' h => hbx.trans (h.mono hbx.size)) _ _ _ _ ?_
      have hH3 : Below W3.heap.size W3 W3 := Below.refl _ _
      clear hbx
      have hcv : ∀ w', Below W3.heap.size W3 w' → (convert 23 9 (.slice (some ⟨B3, 0, none⟩) 5 5)).run Tryd.prog w' = .ok (.string S1) w' := fun w' hb => by rw [HS1.out]; exact (rd_blk (cs := [82, 82, 0, (f : Int), (t : Int)]) (K3_1.out.below hb K3_1.out.lt) HB1.out (by simp)).conv 5 5 rfl
      refine wpAnyH_take (i := 8) (v := ?_) rfl (by kernel_rfl) (by kernel_rfl) (by kernel_rfl) (fun _ _ _ h => h) (Or.inl ⟨by rfl, ?yldq⟩) (by assumption) ?_
      case yldq => (intro w hSw; (try dsimp only at hSw); go_simp; try with_reducible rfl)
      try simp only [Act.put, List.setIfInBounds_toArray, List.set_cons_zero, List.set_cons_succ, List.getElem_toArray, List.getElem_cons_succ, List.getElem_cons_zero]
      clear hcv
      refine wpAnyH_ready (rs := [11, 25]) (by kernel_rfl) (by simp) ?_
      refine AllReadyH.cons rfl (fun K hK => ?_) (AllReadyH.cons rfl (fun K hK => ?_) AllReadyH.nil)
      · go_simp
        refine (rbytes_yes (s : Int) 8 _ (.inr (.inr (.inr rfl))) (by omega) (by omega)).mono ?_
        rintro e w4 ⟨y4, rfl, ho, hb⟩
        have L4 := Lib.hid (L3.out.trans (hb.mono L3.out.size))
        have K4_0 := Lib.hid (K3_0.out.below hb K3_0.out.lt)
        have hbx := hb
        clear hb K3_0
        obtain ⟨A4, cap4, rfl, hrd⟩ := ho.rd (byt_Byt 8 _) (by rw [byt_len]; omega)
        have HRD := Lib.hid hrd
        clear ho hrd
        rw [byt_len]
        refine hK.out _ _ hbx (fun _ => ?_)
        clear hK K
        refine wpAnyH_more (S' := fun w' => Below w4.heap.size w4 w') (fun w' h => hbx.trans (h.mono hbx.size)) _ _ _ _ ?_
        have hH4 : Below w4.heap.size w4 w4 := Below.refl _ _
        clear hbx
        have hcv : ∀ w', Below w4.heap.size w4 w' → (convert 23 9 (.slice A4 8 cap4)).run Tryd.prog w' = .ok (.string S2) w' := fun w' hb => by rw [HS2.out]; exact (HRD.out.below hb).conv 8 cap4 (byt_len _ _)
        refine wpAnyH_take (i := 12) (v := ?_) rfl (by kernel_rfl) (by kernel_rfl) (by kernel_rfl) (fun _ _ _ h => h) (Or.inl ⟨by rfl, ?yldq⟩) (by assumption) ?_
        case yldq => (intro w hSw; (try dsimp only at hSw); go_simp; try with_reducible rfl)
        try simp only [Act.put, List.setIfInBounds_toArray, List.set_cons_zero, List.set_cons_succ, List.getElem_toArray, List.getElem_cons_succ, List.getElem_cons_zero]
        clear hcv
        refine wpAnyH_take (i := 13) (v := ?_) rfl (by kernel_rfl) (by kernel_rfl) (by kernel_rfl) (fun _ _ _ h => h) (Or.inl ⟨by rfl, ?yldq⟩) (by assumption) ?_
        case yldq => (intro w hSw; (try dsimp only at hSw); go_simp; try with_reducible rfl)
        try simp only [Act.put, List.setIfInBounds_toArray, List.set_cons_zero, List.set_cons_succ, List.getElem_toArray, List.getElem_cons_succ, List.getElem_cons_zero]
        refine wpAnyH_ready (rs := [16, 25]) (by kernel_rfl) (by simp) ?_
        refine AllReadyH.cons rfl (fun K hK => ?_) (AllReadyH.cons rfl (fun K hK => ?_) AllReadyH.nil)
        · go_simp
          refine (rbytes_yes (a : Int) 8 _ (.inr (.inr (.inr rfl))) (by omega) (by omega)).mono ?_
          rintro e w5 ⟨y5, rfl, ho, hb⟩
          have L5 := Lib.hid (L4.out.trans (hb.mono L4.out.size))
          have K5_0 := Lib.hid (K4_0.out.below hb K4_0.out.lt)
          have hbx := hb
          clear hb K4_0
          obtain ⟨A5, cap5, rfl, hrd⟩ := ho.rd (byt_Byt 8 _) (by rw [byt_len]; omega)
          have HRD := Lib.hid hrd
          clear ho hrd
          rw [byt_len]
          refine hK.out _ _ hbx (fun _ => ?_)
          clear hK K
          refine wpAnyH_more (S' := fun w' => Below w5.heap.size w5 w') (fun w' h => hbx.trans (h.mono hbx.size)) _ _ _ _ ?_
          have hH5 : Below w5.heap.size w5 w5 := Below.refl _ _
          clear hbx
          have hcv : ∀ w', Below w5.heap.size w5 w' → (convert 23 9 (.slice A5 8 cap5)).run Tryd.prog w' = .ok (.string S3) w' := fun w' hb => by rw [HS3.out]; exact (HRD.out.below hb).conv 8 cap5 (byt_len _ _)
          refine wpAnyH_take (i := 17) (v := ?_) rfl (by kernel_rfl) (by kernel_rfl) (by kernel_rfl) (fun _ _ _ h => h) (Or.inl ⟨by rfl, ?yldq⟩) (by assumption) ?_
          case yldq => (intro w hSw; (try dsimp only at hSw); go_simp; try with_reducible rfl)
          try simp only [Act.put, List.setIfInBounds_toArray, List.set_cons_zero, List.set_cons_succ, List.getElem_toArray, List.getElem_cons_succ, List.getElem_cons_zero]
          clear hcv
          refine wpAnyH_take (i := 18) (v := ?_) rfl (by kernel_rfl) (by kernel_rfl) (by kernel_rfl) (fun _ _ _ h => h) (Or.inl ⟨by rfl, ?yldq⟩) (by assumption) ?_
          case yldq => (intro w hSw; (try dsimp only at hSw); go_simp; try with_reducible rfl)
          try simp only [Act.put, List.setIfInBounds_toArray, List.set_cons_zero, List.set_cons_succ, List.getElem_toArray, List.getElem_cons_succ, List.getElem_cons_zero]
          refine wpAnyH_ready (rs := [25]) (by kernel_rfl) (by simp) ?_
          refine AllReadyH.cons rfl (fun K hK => ?_) AllReadyH.nil
          go_simp
          have nb0 : Blk (w5.alloc (.cells #[.int .u8 ((dl : Int) % 256), .int .u8 ((dl : Int) / 256)] 5)) (w5.heap.size) [.int .u8 ((dl : Int) % 256), .int .u8 ((dl : Int) / 256)] 5 := Blk.new w5 [.int .u8 ((dl : Int) % 256), .int .u8 ((dl : Int) / 256)] 5
          have nls : Below w.heap.size w w5 := L5.out
          have nl0 := nls.alloc nls.size (.cells #[.int .u8 ((dl : Int) % 256), .int .u8 ((dl : Int) / 256)] 5)
          have nl : Below w.heap.size w (w5.alloc (.cells #[.int .u8 ((dl : Int) % 256), .int .u8 ((dl : Int) / 256)] 5)) := nl0; clear nls nl0
          have o0 : Blk (w5.alloc (.cells #[.int .u8 ((dl : Int) % 256), .int .u8 ((dl : Int) / 256)] 5)) B1 [.int .i64 (f : Int), .int .i64 (t : Int), .bool false, .int .u64 (s : Int), .int .u64 (a : Int), .slice A dl cap] 25 := (K5_0.out.alloc (.cells #[.int .u8 ((dl : Int) % 256), .int .u8 ((dl : Int) / 256)] 5))
          have d6_0 : B1 < w5.heap.size := K5_0.out.lt
          obtain ⟨B6, hB0⟩ : ∃ B, B = w5.heap.size := ⟨_, rfl⟩
          obtain ⟨W6, hW⟩ : ∃ W, W = (w5.alloc (.cells #[.int .u8 ((dl : Int) % 256), .int .u8 ((dl : Int) / 256)] 5)) := ⟨_, rfl⟩
          have hbx : Below w5.heap.size w5 W6 := hW ▸ (Below.refl w5.heap.size w5).alloc (Nat.le_refl _) _
          rw [← hW] at nl nb0 o0
          rw [← hB0] at nb0
          rw [← hW]
          try rw [← hB0]
          have K6_0 := Lib.hid o0
          have K6_1 := Lib.hid nb0
          have G6 : Hid (w.heap.size ≤ B6) := Lib.hid (by have := L5.out.size; omega)
          have x6_0_0 : B1 ≠ B6 := by omega
          have X6_0_0 := Lib.hid x6_0_0; clear x6_0_0
          have L6 := Lib.hid nl
          clear nl hW nb0 hB0 o0 d6_0 K5_0
          refine hK.out _ _ hbx (fun _ => ?_)
          clear hK K
          refine wpAnyH_more (S' := fun w' => Below W6.heap.size W6 w') (fun w' h => hbx.trans (h.mono hbx.size)) _ _ _ _ ?_
          have hH6 : Below W6.heap.size W6 W6 := Below.refl _ _
          clear hbx
          have hcv : ∀ w', Below W6.heap.size W6 w' → (convert 23 9 (.slice (some ⟨B6, 0, none⟩) 2 2)).run Tryd.prog w' = .ok (.string S4) w' := fun w' hb => by rw [HS4.out]; exact (rd_blk (cs := [(dl : Int) % 256, (dl : Int) / 256]) (K6_1.out.below hb K6_1.out.lt) HB4.out (by simp)).conv 2 2 rfl
          refine wpAnyH_take (i := 26) (v := ?_) rfl (by kernel_rfl) (by kernel_rfl) (by kernel_rfl) (fun _ _ _ h => h) (Or.inl ⟨by rfl, ?yldq⟩) (by assumption) ?_
          case yldq => (intro w hSw; (try dsimp only at hSw); go_simp; try with_reducible rfl)
          try simp only [Act.put, List.setIfInBounds_toArray, List.set_cons_zero, List.set_cons_succ, List.getElem_toArray, List.getElem_cons_succ, List.getElem_cons_zero]
          clear hcv
          refine wpAnyH_take (i := 27) (v := ?_) rfl (by kernel_rfl) (by kernel_rfl) (by kernel_rfl) (fun _ _ _ h => h) (Or.inl ⟨by rfl, ?yldq⟩) (by assumption) ?_
          case yldq => (intro w hSw; (try dsimp only at hSw); go_simp; try with_reducible rfl)
          try simp only [Act.put, List.setIfInBounds_toArray, List.set_cons_zero, List.set_cons_succ, List.getElem_toArray, List.getElem_cons_succ, List.getElem_cons_zero]
          refine wpAnyH_take (i := 31) (v := ?_) rfl (by kernel_rfl) (by kernel_rfl) (by kernel_rfl) (fun _ _ _ h => h) (Or.inl ⟨by rfl, ?yldq⟩) (by assumption) ?_
          case yldq => (intro w hSw; (try dsimp only at hSw); go_simp; try with_reducible rfl)
          try simp only [Act.put, List.setIfInBounds_toArray, List.set_cons_zero, List.set_cons_succ, List.getElem_toArray, List.getElem_cons_succ, List.getElem_cons_zero]
          refine wpAnyH_take (i := 32) (v := ?_) rfl (by kernel_rfl) (by kernel_rfl) (by kernel_rfl) (fun _ _ _ h => h) (Or.inl ⟨by rfl, ?yldq⟩) (by assumption) ?_
          case yldq => (intro w hSw; (try dsimp only at hSw); go_simp; try with_reducible rfl)
          try simp only [Act.put, List.setIfInBounds_toArray, List.set_cons_zero, List.set_cons_succ, List.getElem_toArray, List.getElem_cons_succ, List.getElem_cons_zero]
          refine wpAnyH_done (by kernel_rfl) ?_ _
          go_wp2
          go_ret
          exact ⟨by rw [HPP.out]; rfl, L6.out⟩
        · go_simp
          have nb0 : Blk (w4.alloc (.cells #[.int .u8 ((dl : Int) % 256), .int .u8 ((dl : Int) / 256)] 5)) (w4.heap.size) [.int .u8 ((dl : Int) % 256), .int .u8 ((dl : Int) / 256)] 5 := Blk.new w4 [.int .u8 ((dl : Int) % 256), .int .u8 ((dl : Int) / 256)] 5
          have nls : Below w.heap.size w w4 := L4.out
          have nl0 := nls.alloc nls.size (.cells #[.int .u8 ((dl : Int) % 256), .int .u8 ((dl : Int) / 256)] 5)
          have nl : Below w.heap.size w (w4.alloc (.cells #[.int .u8 ((dl : Int) % 256), .int .u8 ((dl : Int) / 256)] 5)) := nl0; clear nls nl0
          have o0 : Blk (w4.alloc (.cells #[.int .u8 ((dl : Int) % 256), .int .u8 ((dl : Int) / 256)] 5)) B1 [.int .i64 (f : Int), .int .i64 (t : Int), .bool false, .int .u64 (s : Int), .int .u64 (a : Int), .slice A dl cap] 25 := (K4_0.out.alloc (.cells #[.int .u8 ((dl : Int) % 256), .int .u8 ((dl : Int) / 256)] 5))
          have d7_0 : B1 < w4.heap.size := K4_0.out.lt
          obtain ⟨B7, hB0⟩ : ∃ B, B = w4.heap.size := ⟨_, rfl⟩
          obtain ⟨W7, hW⟩ : ∃ W, W = (w4.alloc (.cells #[.int .u8 ((dl : Int) % 256), .int .u8 ((dl : Int) / 256)] 5)) := ⟨_, rfl⟩
          have hbx : Below w4.heap.size w4 W7 := hW ▸ (Below.refl w4.heap.size w4).alloc (Nat.le_refl _) _
          rw [← hW] at nl nb0 o0
          rw [← hB0] at nb0
          rw [← hW]
          try rw [← hB0]
          have K7_0 := Lib.hid o0
          have K7_1 := Lib.hid nb0
          have G7 : Hid (w.heap.size ≤ B7) := Lib.hid (by have := L4.out.size; omega)
          have x7_0_0 : B1 ≠ B7 := by omega
          have X7_0_0 := Lib.hid x7_0_0; clear x7_0_0
          have L7 := Lib.hid nl
          clear nl hW nb0 hB0 o0 d7_0 K4_0
          refine hK.out _ _ hbx (fun _ => ?_)
          clear hK K
          refine wpAnyH_more (S' := fun w' => Below W7.heap.size W7 w') (fun w' h => hbx.trans (h.mono hbx.size)) _ _ _ _ ?_
          have hH7 : Below W7.heap.size W7 W7 := Below.refl _ _
          clear hbx
          have hcv : ∀ w', Below W7.heap.size W7 w' → (convert 23 9 (.slice (some ⟨B7, 0, none⟩) 2 2)).run Tryd.prog w' = .ok (.string S4) w' := fun w' hb => by rw [HS4.out]; exact (rd_blk (cs := [(dl : Int) % 256, (dl : Int) / 256]) (K7_1.out.below hb K7_1.out.lt) HB4.out (by simp)).conv 2 2 rfl
          refine wpAnyH_take (i := 26) (v := ?_) rfl (by kernel_rfl) (by kernel_rfl) (by kernel_rfl) (fun _ _ _ h => h) (Or.inl ⟨by rfl, ?yldq⟩) (by assumption) ?_
          case yldq => (intro w hSw; (try dsimp only at hSw); go_simp; try with_reducible rfl)
          try simp only [Act.put, List.setIfInBounds_toArray, List.set_cons_zero, List.set_cons_succ, List.getElem_toArray, List.getElem_cons_succ, List.getElem_cons_zero]
          clear hcv
          refine wpAnyH_ready (rs := [16]) (by kernel_rfl) (by simp) ?_
          refine AllReadyH.cons rfl (fun K hK => ?_) AllReadyH.nil
          go_simp
          refine (rbytes_yes (a : Int) 8 _ (.inr (.inr (.inr rfl))) (by omega) (by omega)).mono ?_
          rintro e w8 ⟨y8, rfl, ho, hb⟩
          have L8 := Lib.hid (L7.out.trans (hb.mono L7.out.size))
          have K8_0 := Lib.hid (K7_0.out.below hb K7_0.out.lt)
          have hbx := hb
          clear hb K7_0
          obtain ⟨A8, cap8, rfl, hrd⟩ := ho.rd (byt_Byt 8 _) (by rw [byt_len]; omega)
          have HRD := Lib.hid hrd
          clear ho hrd
          rw [byt_len]
          refine hK.out _ _ hbx (fun _ => ?_)
          clear hK K
          refine wpAnyH_more (S' := fun w' => Below w8.heap.size w8 w') (fun w' h => hbx.trans (h.mono hbx.size)) _ _ _ _ ?_
          have hH8 : Below w8.heap.size w8 w8 := Below.refl _ _
          clear hbx
          have hcv : ∀ w', Below w8.heap.size w8 w' → (convert 23 9 (.slice A8 8 cap8)).run Tryd.prog w' = .ok (.string S3) w' := fun w' hb => by rw [HS3.out]; exact (HRD.out.below hb).conv 8 cap8 (byt_len _ _)
          refine wpAnyH_take (i := 17) (v := ?_) rfl (by kernel_rfl) (by kernel_rfl) (by kernel_rfl) (fun _ _ _ h => h) (Or.inl ⟨by rfl, ?yldq⟩) (by assumption) ?_
          case yldq => (intro w hSw; (try dsimp only at hSw); go_simp; try with_reducible rfl)
          try simp only [Act.put, List.setIfInBounds_toArray, List.set_cons_zero, List.set_cons_succ, List.getElem_toArray, List.getElem_cons_succ, List.getElem_cons_zero]
          clear hcv
          refine wpAnyH_take (i := 18) (v := ?_) rfl (by kernel_rfl) (by kernel_rfl) (by kernel_rfl) (fun _ _ _ h => h) (Or.inl ⟨by rfl, ?yldq⟩) (by assumption) ?_
          case yldq => (intro w hSw; (try dsimp only at hSw); go_simp; try with_reducible rfl)
          try simp only [Act.put, List.setIfInBounds_toArray, List.set_cons_zero, List.set_cons_succ, List.getElem_toArray, List.getElem_cons_succ, List.getElem_cons_zero]
          refine wpAnyH_take (i := 27) (v := ?_) rfl (by kernel_rfl) (by kernel_rfl) (by kernel_rfl) (fun _ _ _ h => h) (Or.inl ⟨by rfl, ?yldq⟩) (by assumption) ?_
          case yldq => (intro w hSw; (try dsimp only at hSw); go_simp; try with_reducible rfl)
          try simp only [Act.put, List.setIfInBounds_toArray, List.set_cons_zero, List.set_cons_succ, List.getElem_toArray, List.getElem_cons_succ, List.getElem_cons_zero]
          refine wpAnyH_take (i := 31) (v := ?_) rfl (by kernel_rfl) (by kernel_rfl) (by kernel_rfl) (fun _ _ _ h => h) (Or.inl ⟨by rfl, ?yldq⟩) (by assumption) ?_
          case yldq => (intro w hSw; (try dsimp only at hSw); go_simp; try with_reducible rfl)
          try simp only [Act.put, List.setIfInBounds_toArray, List.set_cons_zero, List.set_cons_succ, List.getElem_toArray, List.getElem_cons_succ, List.getElem_cons_zero]
          refine wpAnyH_take (i := 32) (v := ?_) rfl (by kernel_rfl) (by kernel_rfl) (by kernel_rfl) (fun _ _ _ h => h) (Or.inl ⟨by rfl, ?yldq⟩) (by assumption) ?_
          case yldq => (intro w hSw; (try dsimp only at hSw); go_simp; try with_reducible rfl)
          try simp only [Act.put, List.setIfInBounds_toArray, List.set_cons_zero, List.set_cons_succ, List.getElem_toArray, List.getElem_cons_succ, List.getElem_cons_zero]
          refine wpAnyH_done (by kernel_rfl) ?_ _
          go_wp2
          go_ret
          exact ⟨by rw [HPP.out]; rfl, L8.out⟩
      · go_simp
        have nb0 : Blk (W3.alloc (.cells #[.int .u8 ((dl : Int) % 256), .int .u8 ((dl : Int) / 256)] 5)) (W3.heap.size) [.int .u8 ((dl : Int) % 256), .int .u8 ((dl : Int) / 256)] 5 := Blk.new W3 [.int .u8 ((dl : Int) % 256), .int .u8 ((dl : Int) / 256)] 5
        have nls : Below w.heap.size w W3 := L3.out
        have nl0 := nls.alloc nls.size (.cells #[.int .u8 ((dl : Int) % 256), .int .u8 ((dl : Int) / 256)] 5)
        have nl : Below w.heap.size w (W3.alloc (.cells #[.int .u8 ((dl : Int) % 256), .int .u8 ((dl : Int) / 256)] 5)) := nl0; clear nls nl0
        have o0 : Blk (W3.alloc (.cells #[.int .u8 ((dl : Int) % 256), .int .u8 ((dl : Int) / 256)] 5)) B1 [.int .i64 (f : Int), .int .i64 (t : Int), .bool false, .int .u64 (s : Int), .int .u64 (a : Int), .slice A dl cap] 25 := (K3_0.out.alloc (.cells #[.int .u8 ((dl : Int) % 256), .int .u8 ((dl : Int) / 256)] 5))
        have d9_0 : B1 < W3.heap.size := K3_0.out.lt
        obtain ⟨B9, hB0⟩ : ∃ B, B = W3.heap.size := ⟨_, rfl⟩
        obtain ⟨W9, hW⟩ : ∃ W, W = (W3.alloc (.cells #[.int .u8 ((dl : Int) % 256), .int .u8 ((dl : Int) / 256)] 5)) := ⟨_, rfl⟩
        have hbx : Below W3.heap.size W3 W9 := hW ▸ (Below.refl W3.heap.size W3).alloc (Nat.le_refl _) _
        rw [← hW] at nl nb0 o0
        rw [← hB0] at nb0
        rw [← hW]
        try rw [← hB0]
        have K9_0 := Lib.hid o0
        have K9_1 := Lib.hid nb0
        have G9 : Hid (w.heap.size ≤ B9) := Lib.hid (by have := L3.out.size; omega)
        have x9_0_0 : B1 ≠ B9 := by omega
        have X9_0_0 := Lib.hid x9_0_0; clear x9_0_0
        have L9 := Lib.hid nl
        clear nl hW nb0 hB0 o0 d9_0 K3_0
        refine hK.out _ _ hbx (fun _ => ?_)
        clear hK K
        refine wpAnyH_more (S' := fun w' => Below W9.heap.size W9 w') (fun w' h => hbx.trans (h.mono hbx.size)) _ _ _ _ ?_
        have hH9 : Below W9.heap.size W9 W9 := Below.refl _ _
        clear hbx
        have hcv : ∀ w', Below W9.heap.size W9 w' → (convert 23 9 (.slice (some ⟨B9, 0, none⟩) 2 2)).run Tryd.prog w' = .ok (.string S4) w' := fun w' hb => by rw [HS4.out]; exact (rd_blk (cs := [(dl : Int) % 256, (dl : Int) / 256]) (K9_1.out.below hb K9_1.out.lt) HB4.out (by simp)).conv 2 2 rfl
        refine wpAnyH_take (i := 26) (v := ?_) rfl (by kernel_rfl) (by kernel_rfl) (by kernel_rfl) (fun _ _ _ h => h) (Or.inl ⟨by rfl, ?yldq⟩) (by assumption) ?_
        case yldq => (intro w hSw; (try dsimp only at hSw); go_simp; try with_reducible rfl)
        try simp only [Act.put, List.setIfInBounds_toArray, List.set_cons_zero, List.set_cons_succ, List.getElem_toArray, List.getElem_cons_succ, List.getElem_cons_zero]
        clear hcv
        refine wpAnyH_ready (rs := [11]) (by kernel_rfl) (by simp) ?_
        refine AllReadyH.cons rfl (fun K hK => ?_) AllReadyH.nil
        go_simp
        refine (rbytes_yes (s : Int) 8 _ (.inr (.inr (.inr rfl))) (by omega) (by omega)).mono ?_
        rintro e w10 ⟨y10, rfl, ho, hb⟩
        have L10 := Lib.hid (L9.out.trans (hb.mono L9.out.size))
        have K10_0 := Lib.hid (K9_0.out.below hb K9_0.out.lt)
        have hbx := hb
        clear hb K9_0
        obtain ⟨A10, cap10, rfl, hrd⟩ := ho.rd (byt_Byt 8 _) (by rw [byt_len]; omega)
        have HRD := Lib.hid hrd
        clear ho hrd
        rw [byt_len]
        refine hK.out _ _ hbx (fun _ => ?_)
        clear hK K
        refine wpAnyH_more (S' := fun w' => Below w10.heap.size w10 w') (fun w' h => hbx.trans (h.mono hbx.size)) _ _ _ _ ?_
        have hH10 : Below w10.heap.size w10 w10 := Below.refl _ _
        clear hbx
        have hcv : ∀ w', Below w10.heap.size w10 w' → (convert 23 9 (.slice A10 8 cap10)).run Tryd.prog w' = .ok (.string S2) w' := fun w' hb => by rw [HS2.out]; exact (HRD.out.below hb).conv 8 cap10 (byt_len _ _)
        refine wpAnyH_take (i := 12) (v := ?_) rfl (by kernel_rfl) (by kernel_rfl) (by kernel_rfl) (fun _ _ _ h => h) (Or.inl ⟨by rfl, ?yldq⟩) (by assumption) ?_
        case yldq => (intro w hSw; (try dsimp only at hSw); go_simp; try with_reducible rfl)
        try simp only [Act.put, List.setIfInBounds_toArray, List.set_cons_zero, List.set_cons_succ, List.getElem_toArray, List.getElem_cons_succ, List.getElem_cons_zero]
        clear hcv
        refine wpAnyH_take (i := 13) (v := ?_) rfl (by kernel_rfl) (by kernel_rfl) (by kernel_rfl) (fun _ _ _ h => h) (Or.inl ⟨by rfl, ?yldq⟩) (by assumption) ?_
        case yldq => (intro w hSw; (try dsimp only at hSw); go_simp; try with_reducible rfl)
        try simp only [Act.put, List.setIfInBounds_toArray, List.set_cons_zero, List.set_cons_succ, List.getElem_toArray, List.getElem_cons_succ, List.getElem_cons_zero]
        refine wpAnyH_ready (rs := [16]) (by kernel_rfl) (by simp) ?_
        refine AllReadyH.cons rfl (fun K hK => ?_) AllReadyH.nil
        go_simp
        refine (rbytes_yes (a : Int) 8 _ (.inr (.inr (.inr rfl))) (by omega) (by omega)).mono ?_
        rintro e w11 ⟨y11, rfl, ho, hb⟩
        have L11 := Lib.hid (L10.out.trans (hb.mono L10.out.size))
        have K11_0 := Lib.hid (K10_0.out.below hb K10_0.out.lt)
        have hbx := hb
        clear hb K10_0
        obtain ⟨A11, cap11, rfl, hrd⟩ := ho.rd (byt_Byt 8 _) (by rw [byt_len]; omega)
        have HRD := Lib.hid hrd
        clear ho hrd
        rw [byt_len]
        refine hK.out _ _ hbx (fun _ => ?_)
        clear hK K
        refine wpAnyH_more (S' := fun w' => Below w11.heap.size w11 w') (fun w' h => hbx.trans (h.mono hbx.size)) _ _ _ _ ?_
        have hH11 : Below w11.heap.size w11 w11 := Below.refl _ _
        clear hbx
        have hcv : ∀ w', Below w11.heap.size w11 w' → (convert 23 9 (.slice A11 8 cap11)).run Tryd.prog w' = .ok (.string S3) w' := fun w' hb => by rw [HS3.out]; exact (HRD.out.below hb).conv 8 cap11 (byt_len _ _)
        refine wpAnyH_take (i := 17) (v := ?_) rfl (by kernel_rfl) (by kernel_rfl) (by kernel_rfl) (fun _ _ _ h => h) (Or.inl ⟨by rfl, ?yldq⟩) (by assumption) ?_
        case yldq => (intro w hSw; (try dsimp only at hSw); go_simp; try with_reducible rfl)
        try simp only [Act.put, List.setIfInBounds_toArray, List.set_cons_zero, List.set_cons_succ, List.getElem_toArray, List.getElem_cons_succ, List.getElem_cons_zero]
        clear hcv
        refine wpAnyH_take (i := 18) (v := ?_) rfl (by kernel_rfl) (by kernel_rfl) (by kernel_rfl) (fun _ _ _ h => h) (Or.inl ⟨by rfl, ?yldq⟩) (by assumption) ?_
        case yldq => (intro w hSw; (try dsimp only at hSw); go_simp; try with_reducible rfl)
        try simp only [Act.put, List.setIfInBounds_toArray, List.set_cons_zero, List.set_cons_succ, List.getElem_toArray, List.getElem_cons_succ, List.getElem_cons_zero]
        refine wpAnyH_take (i := 27) (v := ?_) rfl (by kernel_rfl) (by kernel_rfl) (by kernel_rfl) (fun _ _ _ h => h) (Or.inl ⟨by rfl, ?yldq⟩) (by assumption) ?_
        case yldq => (intro w hSw; (try dsimp only at hSw); go_simp; try with_reducible rfl)
        try simp only [Act.put, List.setIfInBounds_toArray, List.set_cons_zero, List.set_cons_succ, List.getElem_toArray, List.getElem_cons_succ, List.getElem_cons_zero]
        refine wpAnyH_take (i := 31) (v := ?_) rfl (by kernel_rfl) (by kernel_rfl) (by kernel_rfl) (fun _ _ _ h => h) (Or.inl ⟨by rfl, ?yldq⟩) (by assumption) ?_
        case yldq => (intro w hSw; (try dsimp only at hSw); go_simp; try with_reducible rfl)
        try simp only [Act.put, List.setIfInBounds_toArray, List.set_cons_zero, List.set_cons_succ, List.getElem_toArray, List.getElem_cons_succ, List.getElem_cons_zero]
        refine wpAnyH_take (i := 32) (v := ?_) rfl (by kernel_rfl) (by kernel_rfl) (by kernel_rfl) (fun _ _ _ h => h) (Or.inl ⟨by rfl, ?yldq⟩) (by assumption) ?_
        case yldq => (intro w hSw; (try dsimp only at hSw); go_simp; try with_reducible rfl)
        try simp only [Act.put, List.setIfInBounds_toArray, List.set_cons_zero, List.set_cons_succ, List.getElem_toArray, List.getElem_cons_succ, List.getElem_cons_zero]
        refine wpAnyH_done (by kernel_rfl) ?_ _
        go_wp2
        go_ret
        exact ⟨by rw [HPP.out]; rfl, L11.out⟩
    · go_simp
      refine (rbytes_yes (s : Int) 8 _ (.inr (.inr (.inr rfl))) (by omega) (by omega)).mono ?_
      rintro e w12 ⟨y12, rfl, ho, hb⟩
      have L12 := Lib.hid (L2.out.trans (hb.mono L2.out.size))
      have K12_0 := Lib.hid (K2_0.out.below hb K2_0.out.lt)
      have hbx := hb
      clear hb K2_0
      obtain ⟨A12, cap12, rfl, hrd⟩ := ho.rd (byt_Byt 8 _) (by rw [byt_len]; omega)
      have HRD := Lib.hid hrd
      clear ho hrd
      rw [byt_len]
      refine hK.out _ _ hbx (fun _ => ?_)
      clear hK K
      refine wpAnyH_more (S' := fun w' => Below w12.heap.size w12 w') (fun w' h => hbx.trans (h.mono hbx.size)) _ _ _ _ ?_
      have hH12 : Below w12.heap.size w12 w12 := Below.refl _ _
      clear hbx
      have hcv : ∀ w', Below w12.heap.size w12 w' → (convert 23 9 (.slice A12 8 cap12)).run Tryd.prog w' = .ok (.string S2) w' := fun w' hb => by rw [HS2.out]; exact (HRD.out.below hb).conv 8 cap12 (byt_len _ _)
      refine wpAnyH_take (i := 12) (v := ?_) rfl (by kernel_rfl) (by kernel_rfl) (by kernel_rfl) (fun _ _ _ h => h) (Or.inl ⟨by rfl, ?yldq⟩) (by assumption) ?_
      case yldq => (intro w hSw; (try dsimp only at hSw); go_simp; try with_reducible rfl)
      try simp only [Act.put, List.setIfInBounds_toArray, List.set_cons_zero, List.set_cons_succ, List.getElem_toArray, List.getElem_cons_succ, List.getElem_cons_zero]
      clear hcv
      refine wpAnyH_ready (rs := [7, 16, 25]) (by kernel_rfl) (by simp) ?_
      refine AllReadyH.cons rfl (fun K hK => ?_) (AllReadyH.cons rfl (fun K hK => ?_) (AllReadyH.cons rfl (fun K hK => ?_) AllReadyH.nil))
      · go_simp
        have nb0 : Blk (w12.alloc (.cells #[.int .u8 82, .int .u8 82, .int .u8 0, .int .u8 ((f : Int)), .int .u8 ((t : Int))] 5)) (w12.heap.size) [.int .u8 82, .int .u8 82, .int .u8 0, .int .u8 ((f : Int)), .int .u8 ((t : Int))] 5 := Blk.new w12 [.int .u8 82, .int .u8 82, .int .u8 0, .int .u8 ((f : Int)), .int .u8 ((t : Int))] 5
        have nls : Below w.heap.size w w12 := L12.out
        have nl0 := nls.alloc nls.size (.cells #[.int .u8 82, .int .u8 82, .int .u8 0, .int .u8 ((f : Int)), .int .u8 ((t : Int))] 5)
        have nl : Below w.heap.size w (w12.alloc (.cells #[.int .u8 82, .int .u8 82, .int .u8 0, .int .u8 ((f : Int)), .int .u8 ((t : Int))] 5)) := nl0; clear nls nl0
        have o0 : Blk (w12.alloc (.cells #[.int .u8 82, .int .u8 82, .int .u8 0, .int .u8 ((f : Int)), .int .u8 ((t : Int))] 5)) B1 [.int .i64 (f : Int), .int .i64 (t : Int), .bool false, .int .u64 (s : Int), .int .u64 (a : Int), .slice A dl cap] 25 := (K12_0.out.alloc (.cells #[.int .u8 82, .int .u8 82, .int .u8 0, .int .u8 ((f : Int)), .int .u8 ((t : Int))] 5))
        have d13_0 : B1 < w12.heap.size := K12_0.out.lt
        obtain ⟨B13, hB0⟩ : ∃ B, B = w12.heap.size := ⟨_, rfl⟩
        obtain ⟨W13, hW⟩ : ∃ W, W = (w12.alloc (.cells #[.int .u8 82, .int .u8 82, .int .u8 0, .int .u8 ((f : Int)), .int .u8 ((t : Int))] 5)) := ⟨_, rfl⟩
        have hbx : Below w12.heap.size w12 W13 := hW ▸ (Below.refl w12.heap.size w12).alloc (Nat.le_refl _) _
        rw [← hW] at nl nb0 o0
        rw [← hB0] at nb0
        rw [← hW]
        try rw [← hB0]
        have K13_0 := Lib.hid o0
        have K13_1 := Lib.hid nb0
        have G13 : Hid (w.heap.size ≤ B13) := Lib.hid (by have := L12.out.size; omega)
        have x13_0_0 : B1 ≠ B13 := by omega
        have X13_0_0 := Lib.hid x13_0_0; clear x13_0_0
        have L13 := Lib.hid nl
        clear nl hW nb0 hB0 o0 d13_0 K12_0
        refine hK.out _ _ hbx (fun _ => ?_)
        clear hK K
        refine wpAnyH_more (S' := fun w' => Below W13.heap.size W13 w') (fun w' h => hbx.trans (h.mono hbx.size)) _ _ _ _ ?_
        have hH13 : Below W13.heap.size W13 W13 := Below.refl _ _
        clear hbx
        have hcv : ∀ w', Below W13.heap.size W13 w' → (convert 23 9 (.slice (some ⟨B13, 0, none⟩) 5 5)).run Tryd.prog w' = .ok (.string S1) w' := fun w' hb => by rw [HS1.out]; exact (rd_blk (cs := [82, 82, 0, (f : Int), (t : Int)]) (K13_1.out.below hb K13_1.out.lt) HB1.out (by simp)).conv 5 5 rfl
        refine wpAnyH_take (i := 8) (v := ?_) rfl (by kernel_rfl) (by kernel_rfl) (by kernel_rfl) (fun _ _ _ h => h) (Or.inl ⟨by rfl, ?yldq⟩) (by assumption) ?_
        case yldq => (intro w hSw; (try dsimp only at hSw); go_simp; try with_reducible rfl)
        try simp only [Act.put, List.setIfInBounds_toArray, List.set_cons_zero, List.set_cons_succ, List.getElem_toArray, List.getElem_cons_succ, List.getElem_cons_zero]
        clear hcv
        refine wpAnyH_take (i := 13) (v := ?_) rfl (by kernel_rfl) (by kernel_rfl) (by kernel_rfl) (fun _ _ _ h => h) (Or.inl ⟨by rfl, ?yldq⟩) (by assumption) ?_
        case yldq => (intro w hSw; (try dsimp only at hSw); go_simp; try with_reducible rfl)
        try simp only [Act.put, List.setIfInBounds_toArray, List.set_cons_zero, List.set_cons_succ, List.getElem_toArray, List.getElem_cons_succ, List.getElem_cons_zero]
        refine wpAnyH_ready (rs := [16, 25]) (by kernel_rfl) (by simp) ?_
        refine AllReadyH.cons rfl (fun K hK => ?_) (AllReadyH.cons rfl (fun K hK => ?_) AllReadyH.nil)
        · go_simp
          refine (rbytes_yes (a : Int) 8 _ (.inr (.inr (.inr rfl))) (by omega) (by omega)).mono ?_
          rintro e w14 ⟨y14, rfl, ho, hb⟩
          have L14 := Lib.hid (L13.out.trans (hb.mono L13.out.size))
          have K14_0 := Lib.hid (K13_0.out.below hb K13_0.out.lt)
          have hbx := hb
          clear hb K13_0
          obtain ⟨A14, cap14, rfl, hrd⟩ := ho.rd (byt_Byt 8 _) (by rw [byt_len]; omega)
          have HRD := Lib.hid hrd
          clear ho hrd
          rw [byt_len]
          refine hK.out _ _ hbx (fun _ => ?_)
          clear hK K
          refine wpAnyH_more (S' := fun w' => Below w14.heap.size w14 w') (fun w' h => hbx.trans (h.mono hbx.size)) _ _ _ _ ?_
          have hH14 : Below w14.heap.size w14 w14 := Below.refl _ _
          clear hbx
          have hcv : ∀ w', Below w14.heap.size w14 w' → (convert 23 9 (.slice A14 8 cap14)).run Tryd.prog w' = .ok (.string S3) w' := fun w' hb => by rw [HS3.out]; exact (HRD.out.below hb).conv 8 cap14 (byt_len _ _)
          refine wpAnyH_take (i := 17) (v := ?_) rfl (by kernel_rfl) (by kernel_rfl) (by kernel_rfl) (fun _ _ _ h => h) (Or.inl ⟨by rfl, ?yldq⟩) (by assumption) ?_
          case yldq => (intro w hSw; (try dsimp only at hSw); go_simp; try with_reducible rfl)
          try simp only [Act.put, List.setIfInBounds_toArray, List.set_cons_zero, List.set_cons_succ, List.getElem_toArray, List.getElem_cons_succ, List.getElem_cons_zero]
          clear hcv
          refine wpAnyH_take (i := 18) (v := ?_) rfl (by kernel_rfl) (by kernel_rfl) (by kernel_rfl) (fun _ _ _ h => h) (Or.inl ⟨by rfl, ?yldq⟩) (by assumption) ?_
          case yldq => (intro w hSw; (try dsimp only at hSw); go_simp; try with_reducible rfl)
          try simp only [Act.put, List.setIfInBounds_toArray, List.set_cons_zero, List.set_cons_succ, List.getElem_toArray, List.getElem_cons_succ, List.getElem_cons_zero]
          refine wpAnyH_ready (rs := [25]) (by kernel_rfl) (by simp) ?_
          refine AllReadyH.cons rfl (fun K hK => ?_) AllReadyH.nil
          go_simp
          have nb0 : Blk (w14.alloc (.cells #[.int .u8 ((dl : Int) % 256), .int .u8 ((dl : Int) / 256)] 5)) (w14.heap.size) [.int .u8 ((dl : Int) % 256), .int .u8 ((dl : Int) / 256)] 5 := Blk.new w14 [.int .u8 ((dl : Int) % 256), .int .u8 ((dl : Int) / 256)] 5
          have nls : Below w.heap.size w w14 := L14.out
          have nl0 := nls.alloc nls.size (.cells #[.int .u8 ((dl : Int) % 256), .int .u8 ((dl : Int) / 256)] 5)
          have nl : Below w.heap.size w (w14.alloc (.cells #[.int .u8 ((dl : Int) % 256), .int .u8 ((dl : Int) / 256)] 5)) := nl0; clear nls nl0
          have o0 : Blk (w14.alloc (.cells #[.int .u8 ((dl : Int) % 256), .int .u8 ((dl : Int) / 256)] 5)) B1 [.int .i64 (f : Int), .int .i64 (t : Int), .bool false, .int .u64 (s : Int), .int .u64 (a : Int), .slice A dl cap] 25 := (K14_0.out.alloc (.cells #[.int .u8 ((dl : Int) % 256), .int .u8 ((dl : Int) / 256)] 5))
          have d15_0 : B1 < w14.heap.size := K14_0.out.lt
          obtain ⟨B15, hB0⟩ : ∃ B, B = w14.heap.size := ⟨_, rfl⟩
          obtain ⟨W15, hW⟩ : ∃ W, W = (w14.alloc (.cells #[.int .u8 ((dl : Int) % 256), .int .u8 ((dl : Int) / 256)] 5)) := ⟨_, rfl⟩
          have hbx : Below w14.heap.size w14 W15 := hW ▸ (Below.refl w14.heap.size w14).alloc (Nat.le_refl _) _
          rw [← hW] at nl nb0 o0
          rw [← hB0] at nb0
          rw [← hW]
          try rw [← hB0]
          have K15_0 := Lib.hid o0
          have K15_1 := Lib.hid nb0
          have G15 : Hid (w.heap.size ≤ B15) := Lib.hid (by have := L14.out.size; omega)
          have x15_0_0 : B1 ≠ B15 := by omega
          have X15_0_0 := Lib.hid x15_0_0; clear x15_0_0
          have L15 := Lib.hid nl
          clear nl hW nb0 hB0 o0 d15_0 K14_0
          refine hK.out _ _ hbx (fun _ => ?_)
          clear hK K
          refine wpAnyH_more (S' := fun w' => Below W15.heap.size W15 w') (fun w' h => hbx.trans (h.mono hbx.size)) _ _ _ _ ?_
          have hH15 : Below W15.heap.size W15 W15 := Below.refl _ _
          clear hbx
          have hcv : ∀ w', Below W15.heap.size W15 w' → (convert 23 9 (.slice (some ⟨B15, 0, none⟩) 2 2)).run Tryd.prog w' = .ok (.string S4) w' := fun w' hb => by rw [HS4.out]; exact (rd_blk (cs := [(dl : Int) % 256, (dl : Int) / 256]) (K15_1.out.below hb K15_1.out.lt) HB4.out (by simp)).conv 2 2 rfl
          refine wpAnyH_take (i := 26) (v := ?_) rfl (by kernel_rfl) (by kernel_rfl) (by kernel_rfl) (fun _ _ _ h => h) (Or.inl ⟨by rfl, ?yldq⟩) (by assumption) ?_
          case yldq => (intro w hSw; (try dsimp only at hSw); go_simp; try with_reducible rfl)
          try simp only [Act.put, List.setIfInBounds_toArray, List.set_cons_zero, List.set_cons_succ, List.getElem_toArray, List.getElem_cons_succ, List.getElem_cons_zero]
          clear hcv
          refine wpAnyH_take (i := 27) (v := ?_) rfl (by kernel_rfl) (by kernel_rfl) (by kernel_rfl) (fun _ _ _ h => h) (Or.inl ⟨by rfl, ?yldq⟩) (by assumption) ?_
          case yldq => (intro w hSw; (try dsimp only at hSw); go_simp; try with_reducible rfl)
          try simp only [Act.put, List.setIfInBounds_toArray, List.set_cons_zero, List.set_cons_succ, List.getElem_toArray, List.getElem_cons_succ, List.getElem_cons_zero]
          refine wpAnyH_take (i := 31) (v := ?_) rfl (by kernel_rfl) (by kernel_rfl) (by kernel_rfl) (fun _ _ _ h => h) (Or.inl ⟨by rfl, ?yldq⟩) (by assumption) ?_
          case yldq => (intro w hSw; (try dsimp only at hSw); go_simp; try with_reducible rfl)
          try simp only [Act.put, List.setIfInBounds_toArray, List.set_cons_zero, List.set_cons_succ, List.getElem_toArray, List.getElem_cons_succ, List.getElem_cons_zero]
          refine wpAnyH_take (i := 32) (v := ?_) rfl (by kernel_rfl) (by kernel_rfl) (by kernel_rfl) (fun _ _ _ h => h) (Or.inl ⟨by rfl, ?yldq⟩) (by assumption) ?_
          case yldq => (intro w hSw; (try dsimp only at hSw); go_simp; try with_reducible rfl)
          try simp only [Act.put, List.setIfInBounds_toArray, List.set_cons_zero, List.set_cons_succ, List.getElem_toArray, List.getElem_cons_succ, List.getElem_cons_zero]
          refine wpAnyH_done (by kernel_rfl) ?_ _
          go_wp2
          go_ret
          exact ⟨by rw [HPP.out]; rfl, L15.out⟩
        · go_simp
          have nb0 : Blk (W13.alloc (.cells #[.int .u8 ((dl : Int) % 256), .int .u8 ((dl : Int) / 256)] 5)) (W13.heap.size) [.int .u8 ((dl : Int) % 256), .int .u8 ((dl : Int) / 256)] 5 := Blk.new W13 [.int .u8 ((dl : Int) % 256), .int .u8 ((dl : Int) / 256)] 5
          have nls : Below w.heap.size w W13 := L13.out
          have nl0 := nls.alloc nls.size (.cells #[.int .u8 ((dl : Int) % 256), .int .u8 ((dl : Int) / 256)] 5)
          have nl : Below w.heap.size w (W13.alloc (.cells #[.int .u8 ((dl : Int) % 256), .int .u8 ((dl : Int) / 256)] 5)) := nl0; clear nls nl0
          have o0 : Blk (W13.alloc (.cells #[.int .u8 ((dl : Int) % 256), .int .u8 ((dl : Int) / 256)] 5)) B1 [.int .i64 (f : Int), .int .i64 (t : Int), .bool false, .int .u64 (s : Int), .int .u64 (a : Int), .slice A dl cap] 25 := (K13_0.out.alloc (.cells #[.int .u8 ((dl : Int) % 256), .int .u8 ((dl : Int) / 256)] 5))
          have d16_0 : B1 < W13.heap.size := K13_0.out.lt
          obtain ⟨B16, hB0⟩ : ∃ B, B = W13.heap.size := ⟨_, rfl⟩
          obtain ⟨W16, hW⟩ : ∃ W, W = (W13.alloc (.cells #[.int .u8 ((dl : Int) % 256), .int .u8 ((dl : Int) / 256)] 5)) := ⟨_, rfl⟩
          have hbx : Below W13.heap.size W13 W16 := hW ▸ (Below.refl W13.heap.size W13).alloc (Nat.le_refl _) _
          rw [← hW] at nl nb0 o0
          rw [← hB0] at nb0
          rw [← hW]
          try rw [← hB0]
          have K16_0 := Lib.hid o0
          have K16_1 := Lib.hid nb0
          have G16 : Hid (w.heap.size ≤ B16) := Lib.hid (by have := L13.out.size; omega)
          have x16_0_0 : B1 ≠ B16 := by omega
          have X16_0_0 := Lib.hid x16_0_0; clear x16_0_0
          have L16 := Lib.hid nl
          clear nl hW nb0 hB0 o0 d16_0 K13_0
          refine hK.out _ _ hbx (fun _ => ?_)
          clear hK K
          refine wpAnyH_more (S' := fun w' => Below W16.heap.size W16 w') (fun w' h => hbx.trans (h.mono hbx.size)) _ _ _ _ ?_
          have hH16 : Below W16.heap.size W16 W16 := Below.refl _ _
          clear hbx
          have hcv : ∀ w', Below W16.heap.size W16 w' → (convert 23 9 (.slice (some ⟨B16, 0, none⟩) 2 2)).run Tryd.prog w' = .ok (.string S4) w' := fun w' hb => by rw [HS4.out]; exact (rd_blk (cs := [(dl : Int) % 256, (dl : Int) / 256]) (K16_1.out.below hb K16_1.out.lt) HB4.out (by simp)).conv 2 2 rfl
          refine wpAnyH_take (i := 26) (v := ?_) rfl (by kernel_rfl) (by kernel_rfl) (by kernel_rfl) (fun _ _ _ h => h) (Or.inl ⟨by rfl, ?yldq⟩) (by assumption) ?_
          case yldq => (intro w hSw; (try dsimp only at hSw); go_simp; try with_reducible rfl)
          try simp only [Act.put, List.setIfInBounds_toArray, List.set_cons_zero, List.set_cons_succ, List.getElem_toArray, List.getElem_cons_succ, List.getElem_cons_zero]
          clear hcv
          refine wpAnyH_ready (rs := [16]) (by kernel_rfl) (by simp) ?_
          refine AllReadyH.cons rfl (fun K hK => ?_) AllReadyH.nil
          go_simp
          refine (rbytes_yes (a : Int) 8 _ (.inr (.inr (.inr rfl))) (by omega) (by omega)).mono ?_
          rintro e w17 ⟨y17, rfl, ho, hb⟩
          have L17 := Lib.hid (L16.out.trans (hb.mono L16.out.size))
          have K17_0 := Lib.hid (K16_0.out.below hb K16_0.out.lt)
          have hbx := hb
          clear hb K16_0
          obtain ⟨A17, cap17, rfl, hrd⟩ := ho.rd (byt_Byt 8 _) (by rw [byt_len]; omega)
          have HRD := Lib.hid hrd
          clear ho hrd
          rw [byt_len]
          refine hK.out _ _ hbx (fun _ => ?_)
          clear hK K
          refine wpAnyH_more (S' := fun w' => Below w17.heap.size w17 w') (fun w' h => hbx.trans (h.mono hbx.size)) _ _ _ _ ?_
          have hH17 : Below w17.heap.size w17 w17 := Below.refl _ _
          clear hbx
          have hcv : ∀ w', Below w17.heap.size w17 w' → (convert 23 9 (.slice A17 8 cap17)).run Tryd.prog w' = .ok (.string S3) w' := fun w' hb => by rw [HS3.out]; exact (HRD.out.below hb).conv 8 cap17 (byt_len _ _)
          refine wpAnyH_take (i := 17) (v := ?_) rfl (by kernel_rfl) (by kernel_rfl) (by kernel_rfl) (fun _ _ _ h => h) (Or.inl ⟨by rfl, ?yldq⟩) (by assumption) ?_
          case yldq => (intro w hSw; (try dsimp only at hSw); go_simp; try with_reducible rfl)
          try simp only [Act.put, List.setIfInBounds_toArray, List.set_cons_zero, List.set_cons_succ, List.getElem_toArray, List.getElem_cons_succ, List.getElem_cons_zero]
          clear hcv
          refine wpAnyH_take (i := 18) (v := ?_) rfl (by kernel_rfl) (by kernel_rfl) (by kernel_rfl) (fun _ _ _ h => h) (Or.inl ⟨by rfl, ?yldq⟩) (by assumption) ?_
          case yldq => (intro w hSw; (try dsimp only at hSw); go_simp; try with_reducible rfl)
          try simp only [Act.put, List.setIfInBounds_toArray, List.set_cons_zero, List.set_cons_succ, List.getElem_toArray, List.getElem_cons_succ, List.getElem_cons_zero]
          refine wpAnyH_take (i := 27) (v := ?_) rfl (by kernel_rfl) (by kernel_rfl) (by kernel_rfl) (fun _ _ _ h => h) (Or.inl ⟨by rfl, ?yldq⟩) (by assumption) ?_
          case yldq => (intro w hSw; (try dsimp only at hSw); go_simp; try with_reducible rfl)
          try simp only [Act.put, List.setIfInBounds_toArray, List.set_cons_zero, List.set_cons_succ, List.getElem_toArray, List.getElem_cons_succ, List.getElem_cons_zero]
          refine wpAnyH_take (i := 31) (v := ?_) rfl (by kernel_rfl) (by kernel_rfl) (by kernel_rfl) (fun _ _ _ h => h) (Or.inl ⟨by rfl, ?yldq⟩) (by assumption) ?_
          case yldq => (intro w hSw; (try dsimp only at hSw); go_simp; try with_reducible rfl)
          try simp only [Act.put, List.setIfInBounds_toArray, List.set_cons_zero, List.set_cons_succ, List.getElem_toArray, List.getElem_cons_succ, List.getElem_cons_zero]
          refine wpAnyH_take (i := 32) (v := ?_) rfl (by kernel_rfl) (by kernel_rfl) (by kernel_rfl) (fun _ _ _ h => h) (Or.inl ⟨by rfl, ?yldq⟩) (by assumption) ?_
          case yldq => (intro w hSw; (try dsimp only at hSw); go_simp; try with_reducible rfl)
          try simp only [Act.put, List.setIfInBounds_toArray, List.set_cons_zero, List.set_cons_succ, List.getElem_toArray, List.getElem_cons_succ, List.getElem_cons_zero]
          refine wpAnyH_done (by kernel_rfl) ?_ _
          go_wp2
          go_ret
          exact ⟨by rw [HPP.out]; rfl, L17.out⟩
      · go_simp
        refine (rbytes_yes (a : Int) 8 _ (.inr (.inr (.inr rfl))) (by omega) (by omega)).mono ?_
        rintro e w18 ⟨y18, rfl, ho, hb⟩
        have L18 := Lib.hid (L12.out.trans (hb.mono L12.out.size))
        have K18_0 := Lib.hid (K12_0.out.below hb K12_0.out.lt)
        have hbx := hb
        clear hb K12_0
        obtain ⟨A18, cap18, rfl, hrd⟩ := ho.rd (byt_Byt 8 _) (by rw [byt_len]; omega)
        have HRD := Lib.hid hrd
        clear ho hrd
        rw [byt_len]
        refine hK.out _ _ hbx (fun _ => ?_)
        clear hK K
        refine wpAnyH_more (S' := fun w' => Below w18.heap.size w18 w') (fun w' h => hbx.trans (h.mono hbx.size)) _ _ _ _ ?_
        have hH18 : Below w18.heap.size w18 w18 := Below.refl _ _
        clear hbx
        have hcv : ∀ w', Below w18.heap.size w18 w' → (convert 23 9 (.slice A18 8 cap18)).run Tryd.prog w' = .ok (.string S3) w' := fun w' hb => by rw [HS3.out]; exact (HRD.out.below hb).conv 8 cap18 (byt_len _ _)
        refine wpAnyH_take (i := 17) (v := ?_) rfl (by kernel_rfl) (by kernel_rfl) (by kernel_rfl) (fun _ _ _ h => h) (Or.inl ⟨by rfl, ?yldq⟩) (by assumption) ?_
        case yldq => (intro w hSw; (try dsimp only at hSw); go_simp; try with_reducible rfl)
        try simp only [Act.put, List.setIfInBounds_toArray, List.set_cons_zero, List.set_cons_succ, List.getElem_toArray, List.getElem_cons_succ, List.getElem_cons_zero]
        clear hcv
        refine wpAnyH_ready (rs := [7, 25]) (by kernel_rfl) (by simp) ?_
        refine AllReadyH.cons rfl (fun K hK => ?_) (AllReadyH.cons rfl (fun K hK => ?_) AllReadyH.nil)
        · go_simp
          have nb0 : Blk (w18.alloc (.cells #[.int .u8 82, .int .u8 82, .int .u8 0, .int .u8 ((f : Int)), .int .u8 ((t : Int))] 5)) (w18.heap.size) [.int .u8 82, .int .u8 82, .int .u8 0, .int .u8 ((f : Int)), .int .u8 ((t : Int))] 5 := Blk.new w18 [.int .u8 82, .int .u8 82, .int .u8 0, .int .u8 ((f : Int)), .int .u8 ((t : Int))] 5
          have nls : Below w.heap.size w w18 := L18.out
          have nl0 := nls.alloc nls.size (.cells #[.int .u8 82, .int .u8 82, .int .u8 0, .int .u8 ((f : Int)), .int .u8 ((t : Int))] 5)
          have nl : Below w.heap.size w (w18.alloc (.cells #[.int .u8 82, .int .u8 82, .int .u8 0, .int .u8 ((f : Int)), .int .u8 ((t : Int))] 5)) := nl0; clear nls nl0
          have o0 : Blk (w18.alloc (.cells #[.int .u8 82, .int .u8 82, .int .u8 0, .int .u8 ((f : Int)), .int .u8 ((t : Int))] 5)) B1 [.int .i64 (f : Int), .int .i64 (t : Int), .bool false, .int .u64 (s : Int), .int .u64 (a : Int), .slice A dl cap] 25 := (K18_0.out.alloc (.cells #[.int .u8 82, .int .u8 82, .int .u8 0, .int .u8 ((f : Int)), .int .u8 ((t : Int))] 5))
          have d19_0 : B1 < w18.heap.size := K18_0.out.lt
          obtain ⟨B19, hB0⟩ : ∃ B, B = w18.heap.size := ⟨_, rfl⟩
          obtain ⟨W19, hW⟩ : ∃ W, W = (w18.alloc (.cells #[.int .u8 82, .int .u8 82, .int .u8 0, .int .u8 ((f : Int)), .int .u8 ((t : Int))] 5)) := ⟨_, rfl⟩
          have hbx : Below w18.heap.size w18 W19 := hW ▸ (Below.refl w18.heap.size w18).alloc (Nat.le_refl _) _
          rw [← hW] at nl nb0 o0
          rw [← hB0] at nb0
          rw [← hW]
          try rw [← hB0]
          have K19_0 := Lib.hid o0
          have K19_1 := Lib.hid nb0
          have G19 : Hid (w.heap.size ≤ B19) := Lib.hid (by have := L18.out.size; omega)
          have x19_0_0 : B1 ≠ B19 := by omega
          have X19_0_0 := Lib.hid x19_0_0; clear x19_0_0
          have L19 := Lib.hid nl
          clear nl hW nb0 hB0 o0 d19_0 K18_0
          refine hK.out _ _ hbx (fun _ => ?_)
          clear hK K
          refine wpAnyH_more (S' := fun w' => Below W19.heap.size W19 w') (fun w' h => hbx.trans (h.mono hbx.size)) _ _ _ _ ?_
          have hH19 : Below W19.heap.size W19 W19 := Below.refl _ _
          clear hbx
          have hcv : ∀ w', Below W19.heap.size W19 w' → (convert 23 9 (.slice (some ⟨B19, 0, none⟩) 5 5)).run Tryd.prog w' = .ok (.string S1) w' := fun w' hb => by rw [HS1.out]; exact (rd_blk (cs := [82, 82, 0, (f : Int), (t : Int)]) (K19_1.out.below hb K19_1.out.lt) HB1.out (by simp)).conv 5 5 rfl
          refine wpAnyH_take (i := 8) (v := ?_) rfl (by kernel_rfl) (by kernel_rfl) (by kernel_rfl) (fun _ _ _ h => h) (Or.inl ⟨by rfl, ?yldq⟩) (by assumption) ?_
          case yldq => (intro w hSw; (try dsimp only at hSw); go_simp; try with_reducible rfl)
          try simp only [Act.put, List.setIfInBounds_toArray, List.set_cons_zero, List.set_cons_succ, List.getElem_toArray, List.getElem_cons_succ, List.getElem_cons_zero]
          clear hcv
          refine wpAnyH_take (i := 13) (v := ?_) rfl (by kernel_rfl) (by kernel_rfl) (by kernel_rfl) (fun _ _ _ h => h) (Or.inl ⟨by rfl, ?yldq⟩) (by assumption) ?_
          case yldq => (intro w hSw; (try dsimp only at hSw); go_simp; try with_reducible rfl)
          try simp only [Act.put, List.setIfInBounds_toArray, List.set_cons_zero, List.set_cons_succ, List.getElem_toArray, List.getElem_cons_succ, List.getElem_cons_zero]
          refine wpAnyH_take (i := 18) (v := ?_) rfl (by kernel_rfl) (by kernel_rfl) (by kernel_rfl) (fun _ _ _ h => h) (Or.inl ⟨by rfl, ?yldq⟩) (by assumption) ?_
          case yldq => (intro w hSw; (try dsimp only at hSw); go_simp; try with_reducible rfl)
          try simp only [Act.put, List.setIfInBounds_toArray, List.set_cons_zero, List.set_cons_succ, List.getElem_toArray, List.getElem_cons_succ, List.getElem_cons_zero]
          refine wpAnyH_ready (rs := [25]) (by kernel_rfl) (by simp) ?_
          refine AllReadyH.cons rfl (fun K hK => ?_) AllReadyH.nil
          go_simp
          have nb0 : Blk (W19.alloc (.cells #[.int .u8 ((dl : Int) % 256), .int .u8 ((dl : Int) / 256)] 5)) (W19.heap.size) [.int .u8 ((dl : Int) % 256), .int .u8 ((dl : Int) / 256)] 5 := Blk.new W19 [.int .u8 ((dl : Int) % 256), .int .u8 ((dl : Int) / 256)] 5
          have nls : Below w.heap.size w W19 := L19.out
          have nl0 := nls.alloc nls.size (.cells #[.int .u8 ((dl : Int) % 256), .int .u8 ((dl : Int) / 256)] 5)
          have nl : Below w.heap.size w (W19.alloc (.cells #[.int .u8 ((dl : Int) % 256), .int .u8 ((dl : Int) / 256)] 5)) := nl0; clear nls nl0
          have o0 : Blk (W19.alloc (.cells #[.int .u8 ((dl : Int) % 256), .int .u8 ((dl : Int) / 256)] 5)) B1 [.int .i64 (f : Int), .int .i64 (t : Int), .bool false, .int .u64 (s : Int), .int .u64 (a : Int), .slice A dl cap] 25 := (K19_0.out.alloc (.cells #[.int .u8 ((dl : Int) % 256), .int .u8 ((dl : Int) / 256)] 5))
          have d20_0 : B1 < W19.heap.size := K19_0.out.lt
          obtain ⟨B20, hB0⟩ : ∃ B, B = W19.heap.size := ⟨_, rfl⟩
          obtain ⟨W20, hW⟩ : ∃ W, W = (W19.alloc (.cells #[.int .u8 ((dl : Int) % 256), .int .u8 ((dl : Int) / 256)] 5)) := ⟨_, rfl⟩
          have hbx : Below W19.heap.size W19 W20 := hW ▸ (Below.refl W19.heap.size W19).alloc (Nat.le_refl _) _
          rw [← hW] at nl nb0 o0
          rw [← hB0] at nb0
          rw [← hW]
          try rw [← hB0]
          have K20_0 := Lib.hid o0
          have K20_1 := Lib.hid nb0
          have G20 : Hid (w.heap.size ≤ B20) := Lib.hid (by have := L19.out.size; omega)
          have x20_0_0 : B1 ≠ B20 := by omega
          have X20_0_0 := Lib.hid x20_0_0; clear x20_0_0
          have L20 := Lib.hid nl
          clear nl hW nb0 hB0 o0 d20_0 K19_0
          refine hK.out _ _ hbx (fun _ => ?_)
          clear hK K
          refine wpAnyH_more (S' := fun w' => Below W20.heap.size W20 w') (fun w' h => hbx.trans (h.mono hbx.size)) _ _ _ _ ?_
          have hH20 : Below W20.heap.size W20 W20 := Below.refl _ _
          clear hbx
          have hcv : ∀ w', Below W20.heap.size W20 w' → (convert 23 9 (.slice (some ⟨B20, 0, none⟩) 2 2)).run Tryd.prog w' = .ok (.string S4) w' := fun w' hb => by rw [HS4.out]; exact (rd_blk (cs := [(dl : Int) % 256, (dl : Int) / 256]) (K20_1.out.below hb K20_1.out.lt) HB4.out (by simp)).conv 2 2 rfl
          refine wpAnyH_take (i := 26) (v := ?_) rfl (by kernel_rfl) (by kernel_rfl) (by kernel_rfl) (fun _ _ _ h => h) (Or.inl ⟨by rfl, ?yldq⟩) (by assumption) ?_
          case yldq => (intro w hSw; (try dsimp only at hSw); go_simp; try with_reducible rfl)
          try simp only [Act.put, List.setIfInBounds_toArray, List.set_cons_zero, List.set_cons_succ, List.getElem_toArray, List.getElem_cons_succ, List.getElem_cons_zero]
          clear hcv
          refine wpAnyH_take (i := 27) (v := ?_) rfl (by kernel_rfl) (by kernel_rfl) (by kernel_rfl) (fun _ _ _ h => h) (Or.inl ⟨by rfl, ?yldq⟩) (by assumption) ?_
          case yldq => (intro w hSw; (try dsimp only at hSw); go_simp; try with_reducible rfl)
          try simp only [Act.put, List.setIfInBounds_toArray, List.set_cons_zero, List.set_cons_succ, List.getElem_toArray, List.getElem_cons_succ, List.getElem_cons_zero]
          refine wpAnyH_take (i := 31) (v := ?_) rfl (by kernel_rfl) (by kernel_rfl) (by kernel_rfl) (fun _ _ _ h => h) (Or.inl ⟨by rfl, ?yldq⟩) (by assumption) ?_
          case yldq => (intro w hSw; (try dsimp only at hSw); go_simp; try with_reducible rfl)
          try simp only [Act.put, List.setIfInBounds_toArray, List.set_cons_zero, List.set_cons_succ, List.getElem_toArray, List.getElem_cons_succ, List.getElem_cons_zero]
          refine wpAnyH_take (i := 32) (v := ?_) rfl (by kernel_rfl) (by kernel_rfl) (by kernel_rfl) (fun _ _ _ h => h) (Or.inl ⟨by rfl, ?yldq⟩) (by assumption) ?_
          case yldq => (intro w hSw; (try dsimp only at hSw); go_simp; try with_reducible rfl)
          try simp only [Act.put, List.setIfInBounds_toArray, List.set_cons_zero, List.set_cons_succ, List.getElem_toArray, List.getElem_cons_succ, List.getElem_cons_zero]
          refine wpAnyH_done (by kernel_rfl) ?_ _
          go_wp2
          go_ret
          exact ⟨by rw [HPP.out]; rfl, L20.out⟩
        · go_simp
          have nb0 : Blk (w18.alloc (.cells #[.int .u8 ((dl : Int) % 256), .int .u8 ((dl : Int) / 256)] 5)) (w18.heap.size) [.int .u8 ((dl : Int) % 256), .int .u8 ((dl : Int) / 256)] 5 := Blk.new w18 [.int .u8 ((dl : Int) % 256), .int .u8 ((dl : Int) / 256)] 5
          have nls : Below w.heap.size w w18 := L18.out
          have nl0 := nls.alloc nls.size (.cells #[.int .u8 ((dl : Int) % 256), .int .u8 ((dl : Int) / 256)] 5)
          have nl : Below w.heap.size w (w18.alloc (.cells #[.int .u8 ((dl : Int) % 256), .int .u8 ((dl : Int) / 256)] 5)) := nl0; clear nls nl0
          have o0 : Blk (w18.alloc (.cells #[.int .u8 ((dl : Int) % 256), .int .u8 ((dl : Int) / 256)] 5)) B1 [.int .i64 (f : Int), .int .i64 (t : Int), .bool false, .int .u64 (s : Int), .int .u64 (a : Int), .slice A dl cap] 25 := (K18_0.out.alloc (.cells #[.int .u8 ((dl : Int) % 256), .int .u8 ((dl : Int) / 256)] 5))
          have d21_0 : B1 < w18.heap.size := K18_0.out.lt
          obtain ⟨B21, hB0⟩ : ∃ B, B = w18.heap.size := ⟨_, rfl⟩
          obtain ⟨W21, hW⟩ : ∃ W, W = (w18.alloc (.cells #[.int .u8 ((dl : Int) % 256), .int .u8 ((dl : Int) / 256)] 5)) := ⟨_, rfl⟩
          have hbx : Below w18.heap.size w18 W21 := hW ▸ (Below.refl w18.heap.size w18).alloc (Nat.le_refl _) _
          rw [← hW] at nl nb0 o0
          rw [← hB0] at nb0
          rw [← hW]
          try rw [← hB0]
          have K21_0 := Lib.hid o0
          have K21_1 := Lib.hid nb0
          have G21 : Hid (w.heap.size ≤ B21) := Lib.hid (by have := L18.out.size; omega)
          have x21_0_0 : B1 ≠ B21 := by omega
          have X21_0_0 := Lib.hid x21_0_0; clear x21_0_0
          have L21 := Lib.hid nl
          clear nl hW nb0 hB0 o0 d21_0 K18_0
          refine hK.out _ _ hbx (fun _ => ?_)
          clear hK K
          refine wpAnyH_more (S' := fun w' => Below W21.heap.size W21 w') (fun w' h => hbx.trans (h.mono hbx.size)) _ _ _ _ ?_
          have hH21 : Below W21.heap.size W21 W21 := Below.refl _ _
          clear hbx
          have hcv : ∀ w', Below W21.heap.size W21 w' → (convert 23 9 (.slice (some ⟨B21, 0, none⟩) 2 2)).run Tryd.prog w' = .ok (.string S4) w' := fun w' hb => by rw [HS4.out]; exact (rd_blk (cs := [(dl : Int) % 256, (dl : Int) / 256]) (K21_1.out.below hb K21_1.out.lt) HB4.out (by simp)).conv 2 2 rfl
          refine wpAnyH_take (i := 26) (v := ?_) rfl (by kernel_rfl) (by kernel_rfl) (by kernel_rfl) (fun _ _ _ h => h) (Or.inl ⟨by rfl, ?yldq⟩) (by assumption) ?_
          case yldq => (intro w hSw; (try dsimp only at hSw); go_simp; try with_reducible rfl)
          try simp only [Act.put, List.setIfInBounds_toArray, List.set_cons_zero, List.set_cons_succ, List.getElem_toArray, List.getElem_cons_succ, List.getElem_cons_zero]
          clear hcv
          refine wpAnyH_ready (rs := [7]) (by kernel_rfl) (by simp) ?_
          refine AllReadyH.cons rfl (fun K hK => ?_) AllReadyH.nil
          go_simp
          have nb0 : Blk (W21.alloc (.cells #[.int .u8 82, .int .u8 82, .int .u8 0, .int .u8 ((f : Int)), .int .u8 ((t : Int))] 5)) (W21.heap.size) [.int .u8 82, .int .u8 82, .int .u8 0, .int .u8 ((f : Int)), .int .u8 ((t : Int))] 5 := Blk.new W21 [.int .u8 82, .int .u8 82, .int .u8 0, .int .u8 ((f : Int)), .int .u8 ((t : Int))] 5
          have nls : Below w.heap.size w W21 := L21.out
          have nl0 := nls.alloc nls.size (.cells #[.int .u8 82, .int .u8 82, .int .u8 0, .int .u8 ((f : Int)), .int .u8 ((t : Int))] 5)
          have nl : Below w.heap.size w (W21.alloc (.cells #[.int .u8 82, .int .u8 82, .int .u8 0, .int .u8 ((f : Int)), .int .u8 ((t : Int))] 5)) := nl0; clear nls nl0
          have o0 : Blk (W21.alloc (.cells #[.int .u8 82, .int .u8 82, .int .u8 0, .int .u8 ((f : Int)), .int .u8 ((t : Int))] 5)) B1 [.int .i64 (f : Int), .int .i64 (t : Int), .bool false, .int .u64 (s : Int), .int .u64 (a : Int), .slice A dl cap] 25 := (K21_0.out.alloc (.cells #[.int .u8 82, .int .u8 82, .int .u8 0, .int .u8 ((f : Int)), .int .u8 ((t : Int))] 5))
          have d22_0 : B1 < W21.heap.size := K21_0.out.lt
          obtain ⟨B22, hB0⟩ : ∃ B, B = W21.heap.size := ⟨_, rfl⟩
          obtain ⟨W22, hW⟩ : ∃ W, W = (W21.alloc (.cells #[.int .u8 82, .int .u8 82, .int .u8 0, .int .u8 ((f : Int)), .int .u8 ((t : Int))] 5)) := ⟨_, rfl⟩
          have hbx : Below W21.heap.size W21 W22 := hW ▸ (Below.refl W21.heap.size W21).alloc (Nat.le_refl _) _
          rw [← hW] at nl nb0 o0
          rw [← hB0] at nb0
          rw [← hW]
          try rw [← hB0]
          have K22_0 := Lib.hid o0
          have K22_1 := Lib.hid nb0
          have G22 : Hid (w.heap.size ≤ B22) := Lib.hid (by have := L21.out.size; omega)
          have x22_0_0 : B1 ≠ B22 := by omega
          have X22_0_0 := Lib.hid x22_0_0; clear x22_0_0
          have L22 := Lib.hid nl
          clear nl hW nb0 hB0 o0 d22_0 K21_0
          refine hK.out _ _ hbx (fun _ => ?_)
          clear hK K
          refine wpAnyH_more (S' := fun w' => Below W22.heap.size W22 w') (fun w' h => hbx.trans (h.mono hbx.size)) _ _ _ _ ?_
          have hH22 : Below W22.heap.size W22 W22 := Below.refl _ _
          clear hbx
          have hcv : ∀ w', Below W22.heap.size W22 w' → (convert 23 9 (.slice (some ⟨B22, 0, none⟩) 5 5)).run Tryd.prog w' = .ok (.string S1) w' := fun w' hb => by rw [HS1.out]; exact (rd_blk (cs := [82, 82, 0, (f : Int), (t : Int)]) (K22_1.out.below hb K22_1.out.lt) HB1.out (by simp)).conv 5 5 rfl
          refine wpAnyH_take (i := 8) (v := ?_) rfl (by kernel_rfl) (by kernel_rfl) (by kernel_rfl) (fun _ _ _ h => h) (Or.inl ⟨by rfl, ?yldq⟩) (by assumption) ?_
          case yldq => (intro w hSw; (try dsimp only at hSw); go_simp; try with_reducible rfl)
          try simp only [Act.put, List.setIfInBounds_toArray, List.set_cons_zero, List.set_cons_succ, List.getElem_toArray, List.getElem_cons_succ, List.getElem_cons_zero]
          clear hcv
          refine wpAnyH_take (i := 13) (v := ?_) rfl (by kernel_rfl) (by kernel_rfl) (by kernel_rfl) (fun _ _ _ h => h) (Or.inl ⟨by rfl, ?yldq⟩) (by assumption) ?_
          case yldq => (intro w hSw; (try dsimp only at hSw); go_simp; try with_reducible rfl)
          try simp only [Act.put, List.setIfInBounds_toArray, List.set_cons_zero, List.set_cons_succ, List.getElem_toArray, List.getElem_cons_succ, List.getElem_cons_zero]
          refine wpAnyH_take (i := 18) (v := ?_) rfl (by kernel_rfl) (by kernel_rfl) (by kernel_rfl) (fun _ _ _ h => h) (Or.inl ⟨by rfl, ?yldq⟩) (by assumption) ?_
          case yldq => (intro w hSw; (try dsimp only at hSw); go_simp; try with_reducible rfl)
          try simp only [Act.put, List.setIfInBounds_toArray, List.set_cons_zero, List.set_cons_succ, List.getElem_toArray, List.getElem_cons_succ, List.getElem_cons_zero]
          refine wpAnyH_take (i := 27) (v := ?_) rfl (by kernel_rfl) (by kernel_rfl) (by kernel_rfl) (fun _ _ _ h => h) (Or.inl ⟨by rfl, ?yldq⟩) (by assumption) ?_
          case yldq => (intro w hSw; (try dsimp only at hSw); go_simp; try with_reducible rfl)
          try simp only [Act.put, List.setIfInBounds_toArray, List.set_cons_zero, List.set_cons_succ, List.getElem_toArray, List.getElem_cons_succ, List.getElem_cons_zero]
          refine wpAnyH_take (i := 31) (v := ?_) rfl (by kernel_rfl) (by kernel_rfl) (by kernel_rfl) (fun _ _ _ h => h) (Or.inl ⟨by rfl, ?yldq⟩) (by assumption) ?_
          case yldq => (intro w hSw; (try dsimp only at hSw); go_simp; try with_reducible rfl)
          try simp only [Act.put, List.setIfInBounds_toArray, List.set_cons_zero, List.set_cons_succ, List.getElem_toArray, List.getElem_cons_succ, List.getElem_cons_zero]
          refine wpAnyH_take (i := 32) (v := ?_) rfl (by kernel_rfl) (by kernel_rfl) (by kernel_rfl) (fun _ _ _ h => h) (Or.inl ⟨by rfl, ?yldq⟩) (by assumption) ?_
          case yldq => (intro w hSw; (try dsimp only at hSw); go_simp; try with_reducible rfl)
          try simp only [Act.put, List.setIfInBounds_toArray, List.set_cons_zero, List.set_cons_succ, List.getElem_toArray, List.getElem_cons_succ, List.getElem_cons_zero]
          refine wpAnyH_done (by kernel_rfl) ?_ _
          go_wp2
          go_ret
          exact ⟨by rw [HPP.out]; rfl, L22.out⟩
      · go_simp
        have nb0 : Blk (w12.alloc (.cells #[.int .u8 ((dl : Int) % 256), .int .u8 ((dl : Int) / 256)] 5)) (w12.heap.size) [.int .u8 ((dl : Int) % 256), .int .u8 ((dl : Int) / 256)] 5 := Blk.new w12 [.int .u8 ((dl : Int) % 256), .int .u8 ((dl : Int) / 256)] 5
        have nls : Below w.heap.size w w12 := L12.out
        have nl0 := nls.alloc nls.size (.cells #[.int .u8 ((dl : Int) % 256), .int .u8 ((dl : Int) / 256)] 5)
        have nl : Below w.heap.size w (w12.alloc (.cells #[.int .u8 ((dl : Int) % 256), .int .u8 ((dl : Int) / 256)] 5)) := nl0; clear nls nl0
        have o0 : Blk (w12.alloc (.cells #[.int .u8 ((dl : Int) % 256), .int .u8 ((dl : Int) / 256)] 5)) B1 [.int .i64 (f : Int), .int .i64 (t : Int), .bool false, .int .u64 (s : Int), .int .u64 (a : Int), .slice A dl cap] 25 := (K12_0.out.alloc (.cells #[.int .u8 ((dl : Int) % 256), .int .u8 ((dl : Int) / 256)] 5))
        have d23_0 : B1 < w12.heap.size := K12_0.out.lt
        obtain ⟨B23, hB0⟩ : ∃ B, B = w12.heap.size := ⟨_, rfl⟩
        obtain ⟨W23, hW⟩ : ∃ W, W = (w12.alloc (.cells #[.int .u8 ((dl : Int) % 256), .int .u8 ((dl : Int) / 256)] 5)) := ⟨_, rfl⟩
        have hbx : Below w12.heap.size w12 W23 := hW ▸ (Below.refl w12.heap.size w12).alloc (Nat.le_refl _) _
        rw [← hW] at nl nb0 o0
        rw [← hB0] at nb0
        rw [← hW]
        try rw [← hB0]
        have K23_0 := Lib.hid o0
        have K23_1 := Lib.hid nb0
        have G23 : Hid (w.heap.size ≤ B23) := Lib.hid (by have := L12.out.size; omega)
        have x23_0_0 : B1 ≠ B23 := by omega
        have X23_0_0 := Lib.hid x23_0_0; clear x23_0_0
        have L23 := Lib.hid nl
        clear nl hW nb0 hB0 o0 d23_0 K12_0
        refine hK.out _ _ hbx (fun _ => ?_)
        clear hK K
        refine wpAnyH_more (S' := fun w' => Below W23.heap.size W23 w') (fun w' h => hbx.trans (h.mono hbx.size)) _ _ _ _ ?_
        have hH23 : Below W23.heap.size W23 W23 := Below.refl _ _
        clear hbx
        have hcv : ∀ w', Below W23.heap.size W23 w' → (convert 23 9 (.slice (some ⟨B23, 0, none⟩) 2 2)).run Tryd.prog w' = .ok (.string S4) w' := fun w' hb => by rw [HS4.out]; exact (rd_blk (cs := [(dl : Int) % 256, (dl : Int) / 256]) (K23_1.out.below hb K23_1.out.lt) HB4.out (by simp)).conv 2 2 rfl
        refine wpAnyH_take (i := 26) (v := ?_) rfl (by kernel_rfl) (by kernel_rfl) (by kernel_rfl) (fun _ _ _ h => h) (Or.inl ⟨by rfl, ?yldq⟩) (by assumption) ?_
        case yldq => (intro w hSw; (try dsimp only at hSw); go_simp; try with_reducible rfl)
        try simp only [Act.put, List.setIfInBounds_toArray, List.set_cons_zero, List.set_cons_succ, List.getElem_toArray, List.getElem_cons_succ, List.getElem_cons_zero]
        clear hcv
        refine wpAnyH_ready (rs := [7, 16]) (by kernel_rfl) (by simp) ?_
        refine AllReadyH.cons rfl (fun K hK => ?_) (AllReadyH.cons rfl (fun K hK => ?_) AllReadyH.nil)
        · go_simp
          have nb0 : Blk (W23.alloc (.cells #[.int .u8 82, .int .u8 82, .int .u8 0, .int .u8 ((f : Int)), .int .u8 ((t : Int))] 5)) (W23.heap.size) [.int .u8 82, .int .u8 82, .int .u8 0, .int .u8 ((f : Int)), .int .u8 ((t : Int))] 5 := Blk.new W23 [.int .u8 82, .int .u8 82, .int .u8 0, .int .u8 ((f : Int)), .int .u8 ((t : Int))] 5
          have nls : Below w.heap.size w W23 := L23.out
          have nl0 := nls.alloc nls.size (.cells #[.int .u8 82, .int .u8 82, .int .u8 0, .int .u8 ((f : Int)), .int .u8 ((t : Int))] 5)
          have nl : Below w.heap.size w (W23.alloc (.cells #[.int .u8 82, .int .u8 82, .int .u8 0, .int .u8 ((f : Int)), .int .u8 ((t : Int))] 5)) := nl0; clear nls nl0
          have o0 : Blk (W23.alloc (.cells #[.int .u8 82, .int .u8 82, .int .u8 0, .int .u8 ((f : Int)), .int .u8 ((t : Int))] 5)) B1 [.int .i64 (f : Int), .int .i64 (t : Int), .bool false, .int .u64 (s : Int), .int .u64 (a : Int), .slice A dl cap] 25 := (K23_0.out.alloc (.cells #[.int .u8 82, .int .u8 82, .int .u8 0, .int .u8 ((f : Int)), .int .u8 ((t : Int))] 5))
          have d24_0 : B1 < W23.heap.size := K23_0.out.lt
          obtain ⟨B24, hB0⟩ : ∃ B, B = W23.heap.size := ⟨_, rfl⟩
          obtain ⟨W24, hW⟩ : ∃ W, W = (W23.alloc (.cells #[.int .u8 82, .int .u8 82, .int .u8 0, .int .u8 ((f : Int)), .int .u8 ((t : Int))] 5)) := ⟨_, rfl⟩
          have hbx : Below W23.heap.size W23 W24 := hW ▸ (Below.refl W23.heap.size W23).alloc (Nat.le_refl _) _
          rw [← hW] at nl nb0 o0
          rw [← hB0] at nb0
          rw [← hW]
          try rw [← hB0]
          have K24_0 := Lib.hid o0
          have K24_1 := Lib.hid nb0
          have G24 : Hid (w.heap.size ≤ B24) := Lib.hid (by have := L23.out.size; omega)
          have x24_0_0 : B1 ≠ B24 := by omega
          have X24_0_0 := Lib.hid x24_0_0; clear x24_0_0
          have L24 := Lib.hid nl
          clear nl hW nb0 hB0 o0 d24_0 K23_0
          refine hK.out _ _ hbx (fun _ => ?_)
          clear hK K
          refine wpAnyH_more (S' := fun w' => Below W24.heap.size W24 w') (fun w' h => hbx.trans (h.mono hbx.size)) _ _ _ _ ?_
          have hH24 : Below W24.heap.size W24 W24 := Below.refl _ _
          clear hbx
          have hcv : ∀ w', Below W24.heap.size W24 w' → (convert 23 9 (.slice (some ⟨B24, 0, none⟩) 5 5)).run Tryd.prog w' = .ok (.string S1) w' := fun w' hb => by rw [HS1.out]; exact (rd_blk (cs := [82, 82, 0, (f : Int), (t : Int)]) (K24_1.out.below hb K24_1.out.lt) HB1.out (by simp)).conv 5 5 rfl
          refine wpAnyH_take (i := 8) (v := ?_) rfl (by kernel_rfl) (by kernel_rfl) (by kernel_rfl) (fun _ _ _ h => h) (Or.inl ⟨by rfl, ?yldq⟩) (by assumption) ?_
          case yldq => (intro w hSw; (try dsimp only at hSw); go_simp; try with_reducible rfl)
          try simp only [Act.put, List.setIfInBounds_toArray, List.set_cons_zero, List.set_cons_succ, List.getElem_toArray, List.getElem_cons_succ, List.getElem_cons_zero]
          clear hcv
          refine wpAnyH_take (i := 13) (v := ?_) rfl (by kernel_rfl) (by kernel_rfl) (by kernel_rfl) (fun _ _ _ h => h) (Or.inl ⟨by rfl, ?yldq⟩) (by assumption) ?_
          case yldq => (intro w hSw; (try dsimp only at hSw); go_simp; try with_reducible rfl)
          try simp only [Act.put, List.setIfInBounds_toArray, List.set_cons_zero, List.set_cons_succ, List.getElem_toArray, List.getElem_cons_succ, List.getElem_cons_zero]
          refine wpAnyH_ready (rs := [16]) (by kernel_rfl) (by simp) ?_
          refine AllReadyH.cons rfl (fun K hK => ?_) AllReadyH.nil
          go_simp
          refine (rbytes_yes (a : Int) 8 _ (.inr (.inr (.inr rfl))) (by omega) (by omega)).mono ?_
          rintro e w25 ⟨y25, rfl, ho, hb⟩
          have L25 := Lib.hid (L24.out.trans (hb.mono L24.out.size))
          have K25_0 := Lib.hid (K24_0.out.below hb K24_0.out.lt)
          have hbx := hb
          clear hb K24_0
          obtain ⟨A25, cap25, rfl, hrd⟩ := ho.rd (byt_Byt 8 _) (by rw [byt_len]; omega)
          have HRD := Lib.hid hrd
          clear ho hrd
          rw [byt_len]
          refine hK.out _ _ hbx (fun _ => ?_)
          clear hK K
          refine wpAnyH_more (S' := fun w' => Below w25.heap.size w25 w') (fun w' h => hbx.trans (h.mono hbx.size)) _ _ _ _ ?_
          have hH25 : Below w25.heap.size w25 w25 := Below.refl _ _
          clear hbx
          have hcv : ∀ w', Below w25.heap.size w25 w' → (convert 23 9 (.slice A25 8 cap25)).run Tryd.prog w' = .ok (.string S3) w' := fun w' hb => by rw [HS3.out]; exact (HRD.out.below hb).conv 8 cap25 (byt_len _ _)
          refine wpAnyH_take (i := 17) (v := ?_) rfl (by kernel_rfl) (by kernel_rfl) (by kernel_rfl) (fun _ _ _ h => h) (Or.inl ⟨by rfl, ?yldq⟩) (by assumption) ?_
          case yldq => (intro w hSw; (try dsimp only at hSw); go_simp; try with_reducible rfl)
          try simp only [Act.put, List.setIfInBounds_toArray, List.set_cons_zero, List.set_cons_succ, List.getElem_toArray, List.getElem_cons_succ, List.getElem_cons_zero]
          clear hcv
          refine wpAnyH_take (i := 18) (v := ?_) rfl (by kernel_rfl) (by kernel_rfl) (by kernel_rfl) (fun _ _ _ h => h) (Or.inl ⟨by rfl, ?yldq⟩) (by assumption) ?_
          case yldq => (intro w hSw; (try dsimp only at hSw); go_simp; try with_reducible rfl)
          try simp only [Act.put, List.setIfInBounds_toArray, List.set_cons_zero, List.set_cons_succ, List.getElem_toArray, List.getElem_cons_succ, List.getElem_cons_zero]
          refine wpAnyH_take (i := 27) (v := ?_) rfl (by kernel_rfl) (by kernel_rfl) (by kernel_rfl) (fun _ _ _ h => h) (Or.inl ⟨by rfl, ?yldq⟩) (by assumption) ?_
          case yldq => (intro w hSw; (try dsimp only at hSw); go_simp; try with_reducible rfl)
          try simp only [Act.put, List.setIfInBounds_toArray, List.set_cons_zero, List.set_cons_succ, List.getElem_toArray, List.getElem_cons_succ, List.getElem_cons_zero]
          refine wpAnyH_take (i := 31) (v := ?_) rfl (by kernel_rfl) (by kernel_rfl) (by kernel_rfl) (fun _ _ _ h => h) (Or.inl ⟨by rfl, ?yldq⟩) (by assumption) ?_
          case yldq => (intro w hSw; (try dsimp only at hSw); go_simp; try with_reducible rfl)
          try simp only [Act.put, List.setIfInBounds_toArray, List.set_cons_zero, List.set_cons_succ, List.getElem_toArray, List.getElem_cons_succ, List.getElem_cons_zero]
          refine wpAnyH_take (i := 32) (v := ?_) rfl (by kernel_rfl) (by kernel_rfl) (by kernel_rfl) (fun _ _ _ h => h) (Or.inl ⟨by rfl, ?yldq⟩) (by assumption) ?_
          case yldq => (intro w hSw; (try dsimp only at hSw); go_simp; try with_reducible rfl)
          try simp only [Act.put, List.setIfInBounds_toArray, List.set_cons_zero, List.set_cons_succ, List.getElem_toArray, List.getElem_cons_succ, List.getElem_cons_zero]
          refine wpAnyH_done (by kernel_rfl) ?_ _
          go_wp2
          go_ret
          exact ⟨by rw [HPP.out]; rfl, L25.out⟩
        · go_simp
          refine (rbytes_yes (a : Int) 8 _ (.inr (.inr (.inr rfl))) (by omega) (by omega)).mono ?_
          rintro e w26 ⟨y26, rfl, ho, hb⟩
          have L26 := Lib.hid (L23.out.trans (hb.mono L23.out.size))
          have K26_0 := Lib.hid (K23_0.out.below hb K23_0.out.lt)
          have hbx := hb
          clear hb K23_0
          obtain ⟨A26, cap26, rfl, hrd⟩ := ho.rd (byt_Byt 8 _) (by rw [byt_len]; omega)
          have HRD := Lib.hid hrd
          clear ho hrd
          rw [byt_len]
          refine hK.out _ _ hbx (fun _ => ?_)
          clear hK K
          refine wpAnyH_more (S' := fun w' => Below w26.heap.size w26 w') (fun w' h => hbx.trans (h.mono hbx.size)) _ _ _ _ ?_
          have hH26 : Below w26.heap.size w26 w26 := Below.refl _ _
          clear hbx
          have hcv : ∀ w', Below w26.heap.size w26 w' → (convert 23 9 (.slice A26 8 cap26)).run Tryd.prog w' = .ok (.string S3) w' := fun w' hb => by rw [HS3.out]; exact (HRD.out.below hb).conv 8 cap26 (byt_len _ _)
          refine wpAnyH_take (i := 17) (v := ?_) rfl (by kernel_rfl) (by kernel_rfl) (by kernel_rfl) (fun _ _ _ h => h) (Or.inl ⟨by rfl, ?yldq⟩) (by assumption) ?_
          case yldq => (intro w hSw; (try dsimp only at hSw); go_simp; try with_reducible rfl)
          try simp only [Act.put, List.setIfInBounds_toArray, List.set_cons_zero, List.set_cons_succ, List.getElem_toArray, List.getElem_cons_succ, List.getElem_cons_zero]
          clear hcv
          refine wpAnyH_ready (rs := [7]) (by kernel_rfl) (by simp) ?_
          refine AllReadyH.cons rfl (fun K hK => ?_) AllReadyH.nil
          go_simp
          have nb0 : Blk (w26.alloc (.cells #[.int .u8 82, .int .u8 82, .int .u8 0, .int .u8 ((f : Int)), .int .u8 ((t : Int))] 5)) (w26.heap.size) [.int .u8 82, .int .u8 82, .int .u8 0, .int .u8 ((f : Int)), .int .u8 ((t : Int))] 5 := Blk.new w26 [.int .u8 82, .int .u8 82, .int .u8 0, .int .u8 ((f : Int)), .int .u8 ((t : Int))] 5
          have nls : Below w.heap.size w w26 := L26.out
          have nl0 := nls.alloc nls.size (.cells #[.int .u8 82, .int .u8 82, .int .u8 0, .int .u8 ((f : Int)), .int .u8 ((t : Int))] 5)
          have nl : Below w.heap.size w (w26.alloc (.cells #[.int .u8 82, .int .u8 82, .int .u8 0, .int .u8 ((f : Int)), .int .u8 ((t : Int))] 5)) := nl0; clear nls nl0
          have o0 : Blk (w26.alloc (.cells #[.int .u8 82, .int .u8 82, .int .u8 0, .int .u8 ((f : Int)), .int .u8 ((t : Int))] 5)) B1 [.int .i64 (f : Int), .int .i64 (t : Int), .bool false, .int .u64 (s : Int), .int .u64 (a : Int), .slice A dl cap] 25 := (K26_0.out.alloc (.cells #[.int .u8 82, .int .u8 82, .int .u8 0, .int .u8 ((f : Int)), .int .u8 ((t : Int))] 5))
          have d27_0 : B1 < w26.heap.size := K26_0.out.lt
          obtain ⟨B27, hB0⟩ : ∃ B, B = w26.heap.size := ⟨_, rfl⟩
          obtain ⟨W27, hW⟩ : ∃ W, W = (w26.alloc (.cells #[.int .u8 82, .int .u8 82, .int .u8 0, .int .u8 ((f : Int)), .int .u8 ((t : Int))] 5)) := ⟨_, rfl⟩
          have hbx : Below w26.heap.size w26 W27 := hW ▸ (Below.refl w26.heap.size w26).alloc (Nat.le_refl _) _
          rw [← hW] at nl nb0 o0
          rw [← hB0] at nb0
          rw [← hW]
          try rw [← hB0]
          have K27_0 := Lib.hid o0
          have K27_1 := Lib.hid nb0
          have G27 : Hid (w.heap.size ≤ B27) := Lib.hid (by have := L26.out.size; omega)
          have x27_0_0 : B1 ≠ B27 := by omega
          have X27_0_0 := Lib.hid x27_0_0; clear x27_0_0
          have L27 := Lib.hid nl
          clear nl hW nb0 hB0 o0 d27_0 K26_0
          refine hK.out _ _ hbx (fun _ => ?_)
          clear hK K
          refine wpAnyH_more (S' := fun w' => Below W27.heap.size W27 w') (fun w' h => hbx.trans (h.mono hbx.size)) _ _ _ _ ?_
          have hH27 : Below W27.heap.size W27 W27 := Below.refl _ _
          clear hbx
          have hcv : ∀ w', Below W27.heap.size W27 w' → (convert 23 9 (.slice (some ⟨B27, 0, none⟩) 5 5)).run Tryd.prog w' = .ok (.string S1) w' := fun w' hb => by rw [HS1.out]; exact (rd_blk (cs := [82, 82, 0, (f : Int), (t : Int)]) (K27_1.out.below hb K27_1.out.lt) HB1.out (by simp)).conv 5 5 rfl
          refine wpAnyH_take (i := 8) (v := ?_) rfl (by kernel_rfl) (by kernel_rfl) (by kernel_rfl) (fun _ _ _ h => h) (Or.inl ⟨by rfl, ?yldq⟩) (by assumption) ?_
          case yldq => (intro w hSw; (try dsimp only at hSw); go_simp; try with_reducible rfl)
          try simp only [Act.put, List.setIfInBounds_toArray, List.set_cons_zero, List.set_cons_succ, List.getElem_toArray, List.getElem_cons_succ, List.getElem_cons_zero]
          clear hcv
          refine wpAnyH_take (i := 13) (v := ?_) rfl (by kernel_rfl) (by kernel_rfl) (by kernel_rfl) (fun _ _ _ h => h) (Or.inl ⟨by rfl, ?yldq⟩) (by assumption) ?_
          case yldq => (intro w hSw; (try dsimp only at hSw); go_simp; try with_reducible rfl)
          try simp only [Act.put, List.setIfInBounds_toArray, List.set_cons_zero, List.set_cons_succ, List.getElem_toArray, List.getElem_cons_succ, List.getElem_cons_zero]
          refine wpAnyH_take (i := 18) (v := ?_) rfl (by kernel_rfl) (by kernel_rfl) (by kernel_rfl) (fun _ _ _ h => h) (Or.inl ⟨by rfl, ?yldq⟩) (by assumption) ?_
          case yldq => (intro w hSw; (try dsimp only at hSw); go_simp; try with_reducible rfl)
          try simp only [Act.put, List.setIfInBounds_toArray, List.set_cons_zero, List.set_cons_succ, List.getElem_toArray, List.getElem_cons_succ, List.getElem_cons_zero]
          refine wpAnyH_take (i := 27) (v := ?_) rfl (by kernel_rfl) (by kernel_rfl) (by kernel_rfl) (fun _ _ _ h => h) (Or.inl ⟨by rfl, ?yldq⟩) (by assumption) ?_
          case yldq => (intro w hSw; (try dsimp only at hSw); go_simp; try with_reducible rfl)
          try simp only [Act.put, List.setIfInBounds_toArray, List.set_cons_zero, List.set_cons_succ, List.getElem_toArray, List.getElem_cons_succ, List.getElem_cons_zero]
          refine wpAnyH_take (i := 31) (v := ?_) rfl (by kernel_rfl) (by kernel_rfl) (by kernel_rfl) (fun _ _ _ h => h) (Or.inl ⟨by rfl, ?yldq⟩) (by assumption) ?_
          case yldq => (intro w hSw; (try dsimp only at hSw); go_simp; try with_reducible rfl)
          try simp only [Act.put, List.setIfInBounds_toArray, List.set_cons_zero, List.set_cons_succ, List.getElem_toArray, List.getElem_cons_succ, List.getElem_cons_zero]
          refine wpAnyH_take (i := 32) (v := ?_) rfl (by kernel_rfl) (by kernel_rfl) (by kernel_rfl) (fun _ _ _ h => h) (Or.inl ⟨by rfl, ?yldq⟩) (by assumption) ?_
          case yldq => (intro w hSw; (try dsimp only at hSw); go_simp; try with_reducible rfl)
          try simp only [Act.put, List.setIfInBounds_toArray, List.set_cons_zero, List.set_cons_succ, List.getElem_toArray, List.getElem_cons_succ, List.getElem_cons_zero]
          refine wpAnyH_done (by kernel_rfl) ?_ _
          go_wp2
          go_ret
          exact ⟨by rw [HPP.out]; rfl, L27.out⟩
    · go_simp
      have nb0 : Blk (D2.alloc (.cells #[.int .u8 ((dl : Int) % 256), .int .u8 ((dl : Int) / 256)] 5)) (D2.heap.size) [.int .u8 ((dl : Int) % 256), .int .u8 ((dl : Int) / 256)] 5 := Blk.new D2 [.int .u8 ((dl : Int) % 256), .int .u8 ((dl : Int) / 256)] 5
      have nls : Below w.heap.size w D2 := L2.out
      have nl0 := nls.alloc nls.size (.cells #[.int .u8 ((dl : Int) % 256), .int .u8 ((dl : Int) / 256)] 5)
      have nl : Below w.heap.size w (D2.alloc (.cells #[.int .u8 ((dl : Int) % 256), .int .u8 ((dl : Int) / 256)] 5)) := nl0; clear nls nl0
      have o0 : Blk (D2.alloc (.cells #[.int .u8 ((dl : Int) % 256), .int .u8 ((dl : Int) / 256)] 5)) B1 [.int .i64 (f : Int), .int .i64 (t : Int), .bool false, .int .u64 (s : Int), .int .u64 (a : Int), .slice A dl cap] 25 := (K2_0.out.alloc (.cells #[.int .u8 ((dl : Int) % 256), .int .u8 ((dl : Int) / 256)] 5))
      have d28_0 : B1 < D2.heap.size := K2_0.out.lt
      obtain ⟨B28, hB0⟩ : ∃ B, B = D2.heap.size := ⟨_, rfl⟩
      obtain ⟨W28, hW⟩ : ∃ W, W = (D2.alloc (.cells #[.int .u8 ((dl : Int) % 256), .int .u8 ((dl : Int) / 256)] 5)) := ⟨_, rfl⟩
      have hbx : Below D2.heap.size D2 W28 := hW ▸ (Below.refl D2.heap.size D2).alloc (Nat.le_refl _) _
      rw [← hW] at nl nb0 o0
      rw [← hB0] at nb0
      rw [← hW]
      try rw [← hB0]
      have K28_0 := Lib.hid o0
      have K28_1 := Lib.hid nb0
      have G28 : Hid (w.heap.size ≤ B28) := Lib.hid (by have := L2.out.size; omega)
      have x28_0_0 : B1 ≠ B28 := by omega
      have X28_0_0 := Lib.hid x28_0_0; clear x28_0_0
      have L28 := Lib.hid nl
      clear nl hW nb0 hB0 o0 d28_0 K2_0
      refine hK.out _ _ hbx (fun _ => ?_)
      clear hK K
      refine wpAnyH_more (S' := fun w' => Below W28.heap.size W28 w') (fun w' h => hbx.trans (h.mono hbx.size)) _ _ _ _ ?_
      have hH28 : Below W28.heap.size W28 W28 := Below.refl _ _
      clear hbx
      have hcv : ∀ w', Below W28.heap.size W28 w' → (convert 23 9 (.slice (some ⟨B28, 0, none⟩) 2 2)).run Tryd.prog w' = .ok (.string S4) w' := fun w' hb => by rw [HS4.out]; exact (rd_blk (cs := [(dl : Int) % 256, (dl : Int) / 256]) (K28_1.out.below hb K28_1.out.lt) HB4.out (by simp)).conv 2 2 rfl
      refine wpAnyH_take (i := 26) (v := ?_) rfl (by kernel_rfl) (by kernel_rfl) (by kernel_rfl) (fun _ _ _ h => h) (Or.inl ⟨by rfl, ?yldq⟩) (by assumption) ?_
      case yldq => (intro w hSw; (try dsimp only at hSw); go_simp; try with_reducible rfl)
      try simp only [Act.put, List.setIfInBounds_toArray, List.set_cons_zero, List.set_cons_succ, List.getElem_toArray, List.getElem_cons_succ, List.getElem_cons_zero]
      clear hcv
      refine wpAnyH_ready (rs := [7, 11]) (by kernel_rfl) (by simp) ?_
      refine AllReadyH.cons rfl (fun K hK => ?_) (AllReadyH.cons rfl (fun K hK => ?_) AllReadyH.nil)
      · go_simp
        have nb0 : Blk (W28.alloc (.cells #[.int .u8 82, .int .u8 82, .int .u8 0, .int .u8 ((f : Int)), .int .u8 ((t : Int))] 5)) (W28.heap.size) [.int .u8 82, .int .u8 82, .int .u8 0, .int .u8 ((f : Int)), .int .u8 ((t : Int))] 5 := Blk.new W28 [.int .u8 82, .int .u8 82, .int .u8 0, .int .u8 ((f : Int)), .int .u8 ((t : Int))] 5
        have nls : Below w.heap.size w W28 := L28.out
        have nl0 := nls.alloc nls.size (.cells #[.int .u8 82, .int .u8 82, .int .u8 0, .int .u8 ((f : Int)), .int .u8 ((t : Int))] 5)
        have nl : Below w.heap.size w (W28.alloc (.cells #[.int .u8 82, .int .u8 82, .int .u8 0, .int .u8 ((f : Int)), .int .u8 ((t : Int))] 5)) := nl0; clear nls nl0
        have o0 : Blk (W28.alloc (.cells #[.int .u8 82, .int .u8 82, .int .u8 0, .int .u8 ((f : Int)), .int .u8 ((t : Int))] 5)) B1 [.int .i64 (f : Int), .int .i64 (t : Int), .bool false, .int .u64 (s : Int), .int .u64 (a : Int), .slice A dl cap] 25 := (K28_0.out.alloc (.cells #[.int .u8 82, .int .u8 82, .int .u8 0, .int .u8 ((f : Int)), .int .u8 ((t : Int))] 5))
        have d29_0 : B1 < W28.heap.size := K28_0.out.lt
        obtain ⟨B29, hB0⟩ : ∃ B, B = W28.heap.size := ⟨_, rfl⟩
        obtain ⟨W29, hW⟩ : ∃ W, W = (W28.alloc (.cells #[.int .u8 82, .int .u8 82, .int .u8 0, .int .u8 ((f : Int)), .int .u8 ((t : Int))] 5)) := ⟨_, rfl⟩
        have hbx : Below W28.heap.size W28 W29 := hW ▸ (Below.refl W28.heap.size W28).alloc (Nat.le_refl _) _
        rw [← hW] at nl nb0 o0
        rw [← hB0] at nb0
        rw [← hW]
        try rw [← hB0]
        have K29_0 := Lib.hid o0
        have K29_1 := Lib.hid nb0
        have G29 : Hid (w.heap.size ≤ B29) := Lib.hid (by have := L28.out.size; omega)
        have x29_0_0 : B1 ≠ B29 := by omega
        have X29_0_0 := Lib.hid x29_0_0; clear x29_0_0
        have L29 := Lib.hid nl
        clear nl hW nb0 hB0 o0 d29_0 K28_0
        refine hK.out _ _ hbx (fun _ => ?_)
        clear hK K
        refine wpAnyH_more (S' := fun w' => Below W29.heap.size W29 w') (fun w' h => hbx.trans (h.mono hbx.size)) _ _ _ _ ?_
        have hH29 : Below W29.heap.size W29 W29 := Below.refl _ _
        clear hbx
        have hcv : ∀ w', Below W29.heap.size W29 w' → (convert 23 9 (.slice (some ⟨B29, 0, none⟩) 5 5)).run Tryd.prog w' = .ok (.string S1) w' := fun w' hb => by rw [HS1.out]; exact (rd_blk (cs := [82, 82, 0, (f : Int), (t : Int)]) (K29_1.out.below hb K29_1.out.lt) HB1.out (by simp)).conv 5 5 rfl
        refine wpAnyH_take (i := 8) (v := ?_) rfl (by kernel_rfl) (by kernel_rfl) (by kernel_rfl) (fun _ _ _ h => h) (Or.inl ⟨by rfl, ?yldq⟩) (by assumption) ?_
        case yldq => (intro w hSw; (try dsimp only at hSw); go_simp; try with_reducible rfl)
        try simp only [Act.put, List.setIfInBounds_toArray, List.set_cons_zero, List.set_cons_succ, List.getElem_toArray, List.getElem_cons_succ, List.getElem_cons_zero]
        clear hcv
        refine wpAnyH_ready (rs := [11]) (by kernel_rfl) (by simp) ?_
        refine AllReadyH.cons rfl (fun K hK => ?_) AllReadyH.nil
        go_simp
        refine (rbytes_yes (s : Int) 8 _ (.inr (.inr (.inr rfl))) (by omega) (by omega)).mono ?_
        rintro e w30 ⟨y30, rfl, ho, hb⟩
        have L30 := Lib.hid (L29.out.trans (hb.mono L29.out.size))
        have K30_0 := Lib.hid (K29_0.out.below hb K29_0.out.lt)
        have hbx := hb
        clear hb K29_0
        obtain ⟨A30, cap30, rfl, hrd⟩ := ho.rd (byt_Byt 8 _) (by rw [byt_len]; omega)
        have HRD := Lib.hid hrd
        clear ho hrd
        rw [byt_len]
        refine hK.out _ _ hbx (fun _ => ?_)
        clear hK K
        refine wpAnyH_more (S' := fun w' => Below w30.heap.size w30 w') (fun w' h => hbx.trans (h.mono hbx.size)) _ _ _ _ ?_
        have hH30 : Below w30.heap.size w30 w30 := Below.refl _ _
        clear hbx
        have hcv : ∀ w', Below w30.heap.size w30 w' → (convert 23 9 (.slice A30 8 cap30)).run Tryd.prog w' = .ok (.string S2) w' := fun w' hb => by rw [HS2.out]; exact (HRD.out.below hb).conv 8 cap30 (byt_len _ _)
        refine wpAnyH_take (i := 12) (v := ?_) rfl (by kernel_rfl) (by kernel_rfl) (by kernel_rfl) (fun _ _ _ h => h) (Or.inl ⟨by rfl, ?yldq⟩) (by assumption) ?_
        case yldq => (intro w hSw; (try dsimp only at hSw); go_simp; try with_reducible rfl)
        try simp only [Act.put, List.setIfInBounds_toArray, List.set_cons_zero, List.set_cons_succ, List.getElem_toArray, List.getElem_cons_succ, List.getElem_cons_zero]
        clear hcv
        refine wpAnyH_take (i := 13) (v := ?_) rfl (by kernel_rfl) (by kernel_rfl) (by kernel_rfl) (fun _ _ _ h => h) (Or.inl ⟨by rfl, ?yldq⟩) (by assumption) ?_
        case yldq => (intro w hSw; (try dsimp only at hSw); go_simp; try with_reducible rfl)
        try simp only [Act.put, List.setIfInBounds_toArray, List.set_cons_zero, List.set_cons_succ, List.getElem_toArray, List.getElem_cons_succ, List.getElem_cons_zero]
        refine wpAnyH_ready (rs := [16]) (by kernel_rfl) (by simp) ?_
        refine AllReadyH.cons rfl (fun K hK => ?_) AllReadyH.nil
        go_simp
        refine (rbytes_yes (a : Int) 8 _ (.inr (.inr (.inr rfl))) (by omega) (by omega)).mono ?_
        rintro e w31 ⟨y31, rfl, ho, hb⟩
        have L31 := Lib.hid (L30.out.trans (hb.mono L30.out.size))
        have K31_0 := Lib.hid (K30_0.out.below hb K30_0.out.lt)
        have hbx := hb
        clear hb K30_0
        obtain ⟨A31, cap31, rfl, hrd⟩ := ho.rd (byt_Byt 8 _) (by rw [byt_len]; omega)
        have HRD := Lib.hid hrd
        clear ho hrd
        rw [byt_len]
        refine hK.out _ _ hbx (fun _ => ?_)
        clear hK K
        refine wpAnyH_more (S' := fun w' => Below w31.heap.size w31 w') (fun w' h => hbx.trans (h.mono hbx.size)) _ _ _ _ ?_
        have hH31 : Below w31.heap.size w31 w31 := Below.refl _ _
        clear hbx
        have hcv : ∀ w', Below w31.heap.size w31 w' → (convert 23 9 (.slice A31 8 cap31)).run Tryd.prog w' = .ok (.string S3) w' := fun w' hb => by rw [HS3.out]; exact (HRD.out.below hb).conv 8 cap31 (byt_len _ _)
        refine wpAnyH_take (i := 17) (v := ?_) rfl (by kernel_rfl) (by kernel_rfl) (by kernel_rfl) (fun _ _ _ h => h) (Or.inl ⟨by rfl, ?yldq⟩) (by assumption) ?_
        case yldq => (intro w hSw; (try dsimp only at hSw); go_simp; try with_reducible rfl)
        try simp only [Act.put, List.setIfInBounds_toArray, List.set_cons_zero, List.set_cons_succ, List.getElem_toArray, List.getElem_cons_succ, List.getElem_cons_zero]
        clear hcv
        refine wpAnyH_take (i := 18) (v := ?_) rfl (by kernel_rfl) (by kernel_rfl) (by kernel_rfl) (fun _ _ _ h => h) (Or.inl ⟨by rfl, ?yldq⟩) (by assumption) ?_
        case yldq => (intro w hSw; (try dsimp only at hSw); go_simp; try with_reducible rfl)
        try simp only [Act.put, List.setIfInBounds_toArray, List.set_cons_zero, List.set_cons_succ, List.getElem_toArray, List.getElem_cons_succ, List.getElem_cons_zero]
        refine wpAnyH_take (i := 27) (v := ?_) rfl (by kernel_rfl) (by kernel_rfl) (by kernel_rfl) (fun _ _ _ h => h) (Or.inl ⟨by rfl, ?yldq⟩) (by assumption) ?_
        case yldq => (intro w hSw; (try dsimp only at hSw); go_simp; try with_reducible rfl)
        try simp only [Act.put, List.setIfInBounds_toArray, List.set_cons_zero, List.set_cons_succ, List.getElem_toArray, List.getElem_cons_succ, List.getElem_cons_zero]
        refine wpAnyH_take (i := 31) (v := ?_) rfl (by kernel_rfl) (by kernel_rfl) (by kernel_rfl) (fun _ _ _ h => h) (Or.inl ⟨by rfl, ?yldq⟩) (by assumption) ?_
        case yldq => (intro w hSw; (try dsimp only at hSw); go_simp; try with_reducible rfl)
        try simp only [Act.put, List.setIfInBounds_toArray, List.set_cons_zero, List.set_cons_succ, List.getElem_toArray, List.getElem_cons_succ, List.getElem_cons_zero]
        refine wpAnyH_take (i := 32) (v := ?_) rfl (by kernel_rfl) (by kernel_rfl) (by kernel_rfl) (fun _ _ _ h => h) (Or.inl ⟨by rfl, ?yldq⟩) (by assumption) ?_
        case yldq => (intro w hSw; (try dsimp only at hSw); go_simp; try with_reducible rfl)
        try simp only [Act.put, List.setIfInBounds_toArray, List.set_cons_zero, List.set_cons_succ, List.getElem_toArray, List.getElem_cons_succ, List.getElem_cons_zero]
        refine wpAnyH_done (by kernel_rfl) ?_ _
        go_wp2
        go_ret
        exact ⟨by rw [HPP.out]; rfl, L31.out⟩
      · go_simp
        refine (rbytes_yes (s : Int) 8 _ (.inr (.inr (.inr rfl))) (by omega) (by omega)).mono ?_
        rintro e w32 ⟨y32, rfl, ho, hb⟩
        have L32 := Lib.hid (L28.out.trans (hb.mono L28.out.size))
        have K32_0 := Lib.hid (K28_0.out.below hb K28_0.out.lt)
        have hbx := hb
        clear hb K28_0
        obtain ⟨A32, cap32, rfl, hrd⟩ := ho.rd (byt_Byt 8 _) (by rw [byt_len]; omega)
        have HRD := Lib.hid hrd
        clear ho hrd
        rw [byt_len]
        refine hK.out _ _ hbx (fun _ => ?_)
        clear hK K
        refine wpAnyH_more (S' := fun w' => Below w32.heap.size w32 w') (fun w' h => hbx.trans (h.mono hbx.size)) _ _ _ _ ?_
        have hH32 : Below w32.heap.size w32 w32 := Below.refl _ _
        clear hbx
        have hcv : ∀ w', Below w32.heap.size w32 w' → (convert 23 9 (.slice A32 8 cap32)).run Tryd.prog w' = .ok (.string S2) w' := fun w' hb => by rw [HS2.out]; exact (HRD.out.below hb).conv 8 cap32 (byt_len _ _)
        refine wpAnyH_take (i := 12) (v := ?_) rfl (by kernel_rfl) (by kernel_rfl) (by kernel_rfl) (fun _ _ _ h => h) (Or.inl ⟨by rfl, ?yldq⟩) (by assumption) ?_
        case yldq => (intro w hSw; (try dsimp only at hSw); go_simp; try with_reducible rfl)
        try simp only [Act.put, List.setIfInBounds_toArray, List.set_cons_zero, List.set_cons_succ, List.getElem_toArray, List.getElem_cons_succ, List.getElem_cons_zero]
        clear hcv
        refine wpAnyH_ready (rs := [7, 16]) (by kernel_rfl) (by simp) ?_
        refine AllReadyH.cons rfl (fun K hK => ?_) (AllReadyH.cons rfl (fun K hK => ?_) AllReadyH.nil)
        · go_simp
          have nb0 : Blk (w32.alloc (.cells #[.int .u8 82, .int .u8 82, .int .u8 0, .int .u8 ((f : Int)), .int .u8 ((t : Int))] 5)) (w32.heap.size) [.int .u8 82, .int .u8 82, .int .u8 0, .int .u8 ((f : Int)), .int .u8 ((t : Int))] 5 := Blk.new w32 [.int .u8 82, .int .u8 82, .int .u8 0, .int .u8 ((f : Int)), .int .u8 ((t : Int))] 5
          have nls : Below w.heap.size w w32 := L32.out
          have nl0 := nls.alloc nls.size (.cells #[.int .u8 82, .int .u8 82, .int .u8 0, .int .u8 ((f : Int)), .int .u8 ((t : Int))] 5)
          have nl : Below w.heap.size w (w32.alloc (.cells #[.int .u8 82, .int .u8 82, .int .u8 0, .int .u8 ((f : Int)), .int .u8 ((t : Int))] 5)) := nl0; clear nls nl0
          have o0 : Blk (w32.alloc (.cells #[.int .u8 82, .int .u8 82, .int .u8 0, .int .u8 ((f : Int)), .int .u8 ((t : Int))] 5)) B1 [.int .i64 (f : Int), .int .i64 (t : Int), .bool false, .int .u64 (s : Int), .int .u64 (a : Int), .slice A dl cap] 25 := (K32_0.out.alloc (.cells #[.int .u8 82, .int .u8 82, .int .u8 0, .int .u8 ((f : Int)), .int .u8 ((t : Int))] 5))
          have d33_0 : B1 < w32.heap.size := K32_0.out.lt
          obtain ⟨B33, hB0⟩ : ∃ B, B = w32.heap.size := ⟨_, rfl⟩
          obtain ⟨W33, hW⟩ : ∃ W, W = (w32.alloc (.cells #[.int .u8 82, .int .u8 82, .int .u8 0, .int .u8 ((f : Int)), .int .u8 ((t : Int))] 5)) := ⟨_, rfl⟩
          have hbx : Below w32.heap.size w32 W33 := hW ▸ (Below.refl w32.heap.size w32).alloc (Nat.le_refl _) _
          rw [← hW] at nl nb0 o0
          rw [← hB0] at nb0
          rw [← hW]
          try rw [← hB0]
          have K33_0 := Lib.hid o0
          have K33_1 := Lib.hid nb0
          have G33 : Hid (w.heap.size ≤ B33) := Lib.hid (by have := L32.out.size; omega)
          have x33_0_0 : B1 ≠ B33 := by omega
          have X33_0_0 := Lib.hid x33_0_0; clear x33_0_0
          have L33 := Lib.hid nl
          clear nl hW nb0 hB0 o0 d33_0 K32_0
          refine hK.out _ _ hbx (fun _ => ?_)
          clear hK K
          refine wpAnyH_more (S' := fun w' => Below W33.heap.size W33 w') (fun w' h => hbx.trans (h.mono hbx.size)) _ _ _ _ ?_
          have hH33 : Below W33.heap.size W33 W33 := Below.refl _ _
          clear hbx
          have hcv : ∀ w', Below W33.heap.size W33 w' → (convert 23 9 (.slice (some ⟨B33, 0, none⟩) 5 5)).run Tryd.prog w' = .ok (.string S1) w' := fun w' hb => by rw [HS1.out]; exact (rd_blk (cs := [82, 82, 0, (f : Int), (t : Int)]) (K33_1.out.below hb K33_1.out.lt) HB1.out (by simp)).conv 5 5 rfl
          refine wpAnyH_take (i := 8) (v := ?_) rfl (by kernel_rfl) (by kernel_rfl) (by kernel_rfl) (fun _ _ _ h => h) (Or.inl ⟨by rfl, ?yldq⟩) (by assumption) ?_
          case yldq => (intro w hSw; (try dsimp only at hSw); go_simp; try with_reducible rfl)
          try simp only [Act.put, List.setIfInBounds_toArray, List.set_cons_zero, List.set_cons_succ, List.getElem_toArray, List.getElem_cons_succ, List.getElem_cons_zero]
          clear hcv
          refine wpAnyH_take (i := 13) (v := ?_) rfl (by kernel_rfl) (by kernel_rfl) (by kernel_rfl) (fun _ _ _ h => h) (Or.inl ⟨by rfl, ?yldq⟩) (by assumption) ?_
          case yldq => (intro w hSw; (try dsimp only at hSw); go_simp; try with_reducible rfl)
          try simp only [Act.put, List.setIfInBounds_toArray, List.set_cons_zero, List.set_cons_succ, List.getElem_toArray, List.getElem_cons_succ, List.getElem_cons_zero]
          refine wpAnyH_ready (rs := [16]) (by kernel_rfl) (by simp) ?_
          refine AllReadyH.cons rfl (fun K hK => ?_) AllReadyH.nil
          go_simp
          refine (rbytes_yes (a : Int) 8 _ (.inr (.inr (.inr rfl))) (by omega) (by omega)).mono ?_
          rintro e w34 ⟨y34, rfl, ho, hb⟩
          have L34 := Lib.hid (L33.out.trans (hb.mono L33.out.size))
          have K34_0 := Lib.hid (K33_0.out.below hb K33_0.out.lt)
          have hbx := hb
          clear hb K33_0
          obtain ⟨A34, cap34, rfl, hrd⟩ := ho.rd (byt_Byt 8 _) (by rw [byt_len]; omega)
          have HRD := Lib.hid hrd
          clear ho hrd
          rw [byt_len]
          refine hK.out _ _ hbx (fun _ => ?_)
          clear hK K
          refine wpAnyH_more (S' := fun w' => Below w34.heap.size w34 w') (fun w' h => hbx.trans (h.mono hbx.size)) _ _ _ _ ?_
          have hH34 : Below w34.heap.size w34 w34 := Below.refl _ _
          clear hbx
          have hcv : ∀ w', Below w34.heap.size w34 w' → (convert 23 9 (.slice A34 8 cap34)).run Tryd.prog w' = .ok (.string S3) w' := fun w' hb => by rw [HS3.out]; exact (HRD.out.below hb).conv 8 cap34 (byt_len _ _)
          refine wpAnyH_take (i := 17) (v := ?_) rfl (by kernel_rfl) (by kernel_rfl) (by kernel_rfl) (fun _ _ _ h => h) (Or.inl ⟨by rfl, ?yldq⟩) (by assumption) ?_
          case yldq => (intro w hSw; (try dsimp only at hSw); go_simp; try with_reducible rfl)
          try simp only [Act.put, List.setIfInBounds_toArray, List.set_cons_zero, List.set_cons_succ, List.getElem_toArray, List.getElem_cons_succ, List.getElem_cons_zero]
          clear hcv
          refine wpAnyH_take (i := 18) (v := ?_) rfl (by kernel_rfl) (by kernel_rfl) (by kernel_rfl) (fun _ _ _ h => h) (Or.inl ⟨by rfl, ?yldq⟩) (by assumption) ?_
          case yldq => (intro w hSw; (try dsimp only at hSw); go_simp; try with_reducible rfl)
          try simp only [Act.put, List.setIfInBounds_toArray, List.set_cons_zero, List.set_cons_succ, List.getElem_toArray, List.getElem_cons_succ, List.getElem_cons_zero]
          refine wpAnyH_take (i := 27) (v := ?_) rfl (by kernel_rfl) (by kernel_rfl) (by kernel_rfl) (fun _ _ _ h => h) (Or.inl ⟨by rfl, ?yldq⟩) (by assumption) ?_
          case yldq => (intro w hSw; (try dsimp only at hSw); go_simp; try with_reducible rfl)
          try simp only [Act.put, List.setIfInBounds_toArray, List.set_cons_zero, List.set_cons_succ, List.getElem_toArray, List.getElem_cons_succ, List.getElem_cons_zero]
          refine wpAnyH_take (i := 31) (v := ?_) rfl (by kernel_rfl) (by kernel_rfl) (by kernel_rfl) (fun _ _ _ h => h) (Or.inl ⟨by rfl, ?yldq⟩) (by assumption) ?_
          case yldq => (intro w hSw; (try dsimp only at hSw); go_simp; try with_reducible rfl)
          try simp only [Act.put, List.setIfInBounds_toArray, List.set_cons_zero, List.set_cons_succ, List.getElem_toArray, List.getElem_cons_succ, List.getElem_cons_zero]
          refine wpAnyH_take (i := 32) (v := ?_) rfl (by kernel_rfl) (by kernel_rfl) (by kernel_rfl) (fun _ _ _ h => h) (Or.inl ⟨by rfl, ?yldq⟩) (by assumption) ?_
          case yldq => (intro w hSw; (try dsimp only at hSw); go_simp; try with_reducible rfl)
          try simp only [Act.put, List.setIfInBounds_toArray, List.set_cons_zero, List.set_cons_succ, List.getElem_toArray, List.getElem_cons_succ, List.getElem_cons_zero]
          refine wpAnyH_done (by kernel_rfl) ?_ _
          go_wp2
          go_ret
          exact ⟨by rw [HPP.out]; rfl, L34.out⟩
        · go_simp
          refine (rbytes_yes (a : Int) 8 _ (.inr (.inr (.inr rfl))) (by omega) (by omega)).mono ?_
          rintro e w35 ⟨y35, rfl, ho, hb⟩
          have L35 := Lib.hid (L32.out.trans (hb.mono L32.out.size))
          have K35_0 := Lib.hid (K32_0.out.below hb K32_0.out.lt)
          have hbx := hb
          clear hb K32_0
          obtain ⟨A35, cap35, rfl, hrd⟩ := ho.rd (byt_Byt 8 _) (by rw [byt_len]; omega)
          have HRD := Lib.hid hrd
          clear ho hrd
          rw [byt_len]
          refine hK.out _ _ hbx (fun _ => ?_)
          clear hK K
          refine wpAnyH_more (S' := fun w' => Below w35.heap.size w35 w') (fun w' h => hbx.trans (h.mono hbx.size)) _ _ _ _ ?_
          have hH35 : Below w35.heap.size w35 w35 := Below.refl _ _
          clear hbx
          have hcv : ∀ w', Below w35.heap.size w35 w' → (convert 23 9 (.slice A35 8 cap35)).run Tryd.prog w' = .ok (.string S3) w' := fun w' hb => by rw [HS3.out]; exact (HRD.out.below hb).conv 8 cap35 (byt_len _ _)
          refine wpAnyH_take (i := 17) (v := ?_) rfl (by kernel_rfl) (by kernel_rfl) (by kernel_rfl) (fun _ _ _ h => h) (Or.inl ⟨by rfl, ?yldq⟩) (by assumption) ?_
          case yldq => (intro w hSw; (try dsimp only at hSw); go_simp; try with_reducible rfl)
          try simp only [Act.put, List.setIfInBounds_toArray, List.set_cons_zero, List.set_cons_succ, List.getElem_toArray, List.getElem_cons_succ, List.getElem_cons_zero]
          clear hcv
          refine wpAnyH_ready (rs := [7]) (by kernel_rfl) (by simp) ?_
          refine AllReadyH.cons rfl (fun K hK => ?_) AllReadyH.nil
          go_simp
          have nb0 : Blk (w35.alloc (.cells #[.int .u8 82, .int .u8 82, .int .u8 0, .int .u8 ((f : Int)), .int .u8 ((t : Int))] 5)) (w35.heap.size) [.int .u8 82, .int .u8 82, .int .u8 0, .int .u8 ((f : Int)), .int .u8 ((t : Int))] 5 := Blk.new w35 [.int .u8 82, .int .u8 82, .int .u8 0, .int .u8 ((f : Int)), .int .u8 ((t : Int))] 5
          have nls : Below w.heap.size w w35 := L35.out
          have nl0 := nls.alloc nls.size (.cells #[.int .u8 82, .int .u8 82, .int .u8 0, .int .u8 ((f : Int)), .int .u8 ((t : Int))] 5)
          have nl : Below w.heap.size w (w35.alloc (.cells #[.int .u8 82, .int .u8 82, .int .u8 0, .int .u8 ((f : Int)), .int .u8 ((t : Int))] 5)) := nl0; clear nls nl0
          have o0 : Blk (w35.alloc (.cells #[.int .u8 82, .int .u8 82, .int .u8 0, .int .u8 ((f : Int)), .int .u8 ((t : Int))] 5)) B1 [.int .i64 (f : Int), .int .i64 (t : Int), .bool false, .int .u64 (s : Int), .int .u64 (a : Int), .slice A dl cap] 25 := (K35_0.out.alloc (.cells #[.int .u8 82, .int .u8 82, .int .u8 0, .int .u8 ((f : Int)), .int .u8 ((t : Int))] 5))
          have d36_0 : B1 < w35.heap.size := K35_0.out.lt
          obtain ⟨B36, hB0⟩ : ∃ B, B = w35.heap.size := ⟨_, rfl⟩
          obtain ⟨W36, hW⟩ : ∃ W, W = (w35.alloc (.cells #[.int .u8 82, .int .u8 82, .int .u8 0, .int .u8 ((f : Int)), .int .u8 ((t : Int))] 5)) := ⟨_, rfl⟩
          have hbx : Below w35.heap.size w35 W36 := hW ▸ (Below.refl w35.heap.size w35).alloc (Nat.le_refl _) _
          rw [← hW] at nl nb0 o0
          rw [← hB0] at nb0
          rw [← hW]
          try rw [← hB0]
          have K36_0 := Lib.hid o0
          have K36_1 := Lib.hid nb0
          have G36 : Hid (w.heap.size ≤ B36) := Lib.hid (by have := L35.out.size; omega)
          have x36_0_0 : B1 ≠ B36 := by omega
          have X36_0_0 := Lib.hid x36_0_0; clear x36_0_0
          have L36 := Lib.hid nl
          clear nl hW nb0 hB0 o0 d36_0 K35_0
          refine hK.out _ _ hbx (fun _ => ?_)
          clear hK K
          refine wpAnyH_more (S' := fun w' => Below W36.heap.size W36 w') (fun w' h => hbx.trans (h.mono hbx.size)) _ _ _ _ ?_
          have hH36 : Below W36.heap.size W36 W36 := Below.refl _ _
          clear hbx
          have hcv : ∀ w', Below W36.heap.size W36 w' → (convert 23 9 (.slice (some ⟨B36, 0, none⟩) 5 5)).run Tryd.prog w' = .ok (.string S1) w' := fun w' hb => by rw [HS1.out]; exact (rd_blk (cs := [82, 82, 0, (f : Int), (t : Int)]) (K36_1.out.below hb K36_1.out.lt) HB1.out (by simp)).conv 5 5 rfl
          refine wpAnyH_take (i := 8) (v := ?_) rfl (by kernel_rfl) (by kernel_rfl) (by kernel_rfl) (fun _ _ _ h => h) (Or.inl ⟨by rfl, ?yldq⟩) (by assumption) ?_
          case yldq => (intro w hSw; (try dsimp only at hSw); go_simp; try with_reducible rfl)
          try simp only [Act.put, List.setIfInBounds_toArray, List.set_cons_zero, List.set_cons_succ, List.getElem_toArray, List.getElem_cons_succ, List.getElem_cons_zero]
          clear hcv
          refine wpAnyH_take (i := 13) (v := ?_) rfl (by kernel_rfl) (by kernel_rfl) (by kernel_rfl) (fun _ _ _ h => h) (Or.inl ⟨by rfl, ?yldq⟩) (by assumption) ?_
          case yldq => (intro w hSw; (try dsimp only at hSw); go_simp; try with_reducible rfl)
          try simp only [Act.put, List.setIfInBounds_toArray, List.set_cons_zero, List.set_cons_succ, List.getElem_toArray, List.getElem_cons_succ, List.getElem_cons_zero]
          refine wpAnyH_take (i := 18) (v := ?_) rfl (by kernel_rfl) (by kernel_rfl) (by kernel_rfl) (fun _ _ _ h => h) (Or.inl ⟨by rfl, ?yldq⟩) (by assumption) ?_
          case yldq => (intro w hSw; (try dsimp only at hSw); go_simp; try with_reducible rfl)
          try simp only [Act.put, List.setIfInBounds_toArray, List.set_cons_zero, List.set_cons_succ, List.getElem_toArray, List.getElem_cons_succ, List.getElem_cons_zero]
          refine wpAnyH_take (i := 27) (v := ?_) rfl (by kernel_rfl) (by kernel_rfl) (by kernel_rfl) (fun _ _ _ h => h) (Or.inl ⟨by rfl, ?yldq⟩) (by assumption) ?_
          case yldq => (intro w hSw; (try dsimp only at hSw); go_simp; try with_reducible rfl)
          try simp only [Act.put, List.setIfInBounds_toArray, List.set_cons_zero, List.set_cons_succ, List.getElem_toArray, List.getElem_cons_succ, List.getElem_cons_zero]
          refine wpAnyH_take (i := 31) (v := ?_) rfl (by kernel_rfl) (by kernel_rfl) (by kernel_rfl) (fun _ _ _ h => h) (Or.inl ⟨by rfl, ?yldq⟩) (by assumption) ?_
          case yldq => (intro w hSw; (try dsimp only at hSw); go_simp; try with_reducible rfl)
          try simp only [Act.put, List.setIfInBounds_toArray, List.set_cons_zero, List.set_cons_succ, List.getElem_toArray, List.getElem_cons_succ, List.getElem_cons_zero]
          refine wpAnyH_take (i := 32) (v := ?_) rfl (by kernel_rfl) (by kernel_rfl) (by kernel_rfl) (fun _ _ _ h => h) (Or.inl ⟨by rfl, ?yldq⟩) (by assumption) ?_
          case yldq => (intro w hSw; (try dsimp only at hSw); go_simp; try with_reducible rfl)
          try simp only [Act.put, List.setIfInBounds_toArray, List.set_cons_zero, List.set_cons_succ, List.getElem_toArray, List.getElem_cons_succ, List.getElem_cons_zero]
          refine wpAnyH_done (by kernel_rfl) ?_ _
          go_wp2
          go_ret
          exact ⟨by rw [HPP.out]; rfl, L36.out⟩
  · obtain ⟨S1, hS1⟩ : ∃ S1, S1 = strOfNums [82, 82, 1, (f : Int), (t : Int)] := ⟨_, rfl⟩
    obtain ⟨S4, hS4⟩ : ∃ S4, S4 = strOfNums [(dl : Int) % 256, (dl : Int) / 256] := ⟨_, rfl⟩
    have hz1 : S1.size = 5 := by rw [hS1, strOfNums_size]; rfl
    have hz4 : S4.size = 2 := by rw [hS4, strOfNums_size]; rfl
    have hpl : PL = S1 ++ S2 ++ S3 ++ S4 ++ S5 := by rw [HPL.out, hS1, hS4]; rfl
    have hb1 : Byt [82, 82, 1, (f : Int), (t : Int)] := by intro x hx; simp at hx; omega
    have hb4 : Byt [(dl : Int) % 256, (dl : Int) / 256] := by intro x hx; simp at hx; omega
    have HB1 := Lib.hid hb1; have HB4 := Lib.hid hb4; have HS1 := Lib.hid hS1; have HS4 := Lib.hid hS4; have HPP := Lib.hid hpl
    clear hb1 hb4 hS1 hS4 hpl HPL bf bt
    go_enter Tryd.func23, Tryd.ntmps23
    go_upto_region 1 with (fail)
    have nb0 : Blk (w.alloc (.cells #[.int .i64 (f : Int), .int .i64 (t : Int), .bool true, .int .u64 (s : Int), .int .u64 (a : Int), .slice A dl cap] 25)) (w.heap.size) [.int .i64 (f : Int), .int .i64 (t : Int), .bool true, .int .u64 (s : Int), .int .u64 (a : Int), .slice A dl cap] 25 := Blk.new w [.int .i64 (f : Int), .int .i64 (t : Int), .bool true, .int .u64 (s : Int), .int .u64 (a : Int), .slice A dl cap] 25
    have nls : Below w.heap.size w w := (Below.refl w.heap.size w)
    have nl0 := nls.alloc nls.size (.cells #[.int .i64 (f : Int), .int .i64 (t : Int), .bool true, .int .u64 (s : Int), .int .u64 (a : Int), .slice A dl cap] 25)
    have nl : Below w.heap.size w (w.alloc (.cells #[.int .i64 (f : Int), .int .i64 (t : Int), .bool true, .int .u64 (s : Int), .int .u64 (a : Int), .slice A dl cap] 25)) := nl0; clear nls nl0
    obtain ⟨B1, hB0⟩ : ∃ B, B = w.heap.size := ⟨_, rfl⟩
    obtain ⟨W1, hW⟩ : ∃ W, W = (w.alloc (.cells #[.int .i64 (f : Int), .int .i64 (t : Int), .bool true, .int .u64 (s : Int), .int .u64 (a : Int), .slice A dl cap] 25)) := ⟨_, rfl⟩
    rw [← hW] at nl nb0
    rw [← hB0] at nb0
    rw [← hW]
    try rw [← hB0]
    have K1_0 := Lib.hid nb0
    have G1 : Hid (w.heap.size ≤ B1) := Lib.hid (by have := (Nat.le_refl w.heap.size); omega)
    have L1 := Lib.hid nl
    clear nl hW nb0 hB0
    have m0_0 : W1.cell? ⟨B1, 0, none⟩ = some _ := K1_0.out.cell 0
    have m0_1 : W1.cell? ⟨B1, 1, none⟩ = some _ := K1_0.out.cell 1
    have m0_2 : W1.cell? ⟨B1, 2, none⟩ = some _ := K1_0.out.cell 2
    have m0_3 : W1.cell? ⟨B1, 3, none⟩ = some _ := K1_0.out.cell 3
    have m0_4 : W1.cell? ⟨B1, 4, none⟩ = some _ := K1_0.out.cell 4
    have m0_5 : W1.cell? ⟨B1, 5, none⟩ = some _ := K1_0.out.cell 5
    have mlt0 : B1 < W1.heap.size := K1_0.out.lt
    go_upto_region 5 with (fail)
    clear m0_0 m0_1 m0_2 m0_3 m0_4 m0_5 mlt0
    refine wp_region_held_drew (S := fun w' => Below W1.drew.heap.size W1.drew w') (by kernel_rfl) (Below.refl _ _) (fun hHeld => ?_)
    clear hHeld
    obtain ⟨D2, hD⟩ : ∃ x, x = W1.drew := ⟨_, rfl⟩
    rw [← hD]
    have K2_0 := Lib.hid (show Blk D2 B1 [.int .i64 (f : Int), .int .i64 (t : Int), .bool true, .int .u64 (s : Int), .int .u64 (a : Int), .slice A dl cap] 25 from hD ▸ Blk.drewN K1_0.out 1)
    have L2 := Lib.hid (show Below w.heap.size w D2 from hD ▸ L1.out.drew)
    clear hD K1_0
    have hH2 : Below D2.heap.size D2 D2 := Below.refl _ _
    simp only [List.size_toArray, List.length_cons, List.length_nil, Nat.reduceAdd]
    rw [show Array.replicate 33 false = [false, false, false, false, false, false, false, false, false, false, false, false, false, false, false, false, false, false, false, false, false, false, false, false, false, false, false, false, false, false, false, false, false].toArray from rfl]
    refine wpAnyH_take (i := 0) (v := ?_) rfl (by kernel_rfl) (by kernel_rfl) (by kernel_rfl) (fun _ _ _ h => h) (Or.inl ⟨by rfl, ?yldq⟩) (by assumption) ?_
    case yldq => (intro w hSw; (try dsimp only at hSw); go_simp; try with_reducible rfl)
    try simp only [Act.put, List.setIfInBounds_toArray, List.set_cons_zero, List.set_cons_succ, List.getElem_toArray, List.getElem_cons_succ, List.getElem_cons_zero]
    refine wpAnyH_take (i := 1) (v := ?_) rfl (by kernel_rfl) (by kernel_rfl) (by kernel_rfl) (fun _ _ _ h => h) (Or.inl ⟨by rfl, ?yldq⟩) (by assumption) ?_
    case yldq => (intro w hSw; (try dsimp only at hSw); go_simp; try with_reducible rfl)
    try simp only [Act.put, List.setIfInBounds_toArray, List.set_cons_zero, List.set_cons_succ, List.getElem_toArray, List.getElem_cons_succ, List.getElem_cons_zero]
    refine wpAnyH_take (i := 2) (v := _) rfl (by kernel_rfl) (by kernel_rfl) (by kernel_rfl) (fun _ _ _ h => h) (Or.inl ⟨by rfl, fun w hSw => yield_i16 _ _ _ rfl rfl (show w.cell? ⟨B1, 0, none⟩ = some (.int .i64 (f : Int)) from (K2_0.out.below hSw K2_0.out.lt).cell 0)⟩) (by assumption) ?_
    try simp only [Act.put, List.setIfInBounds_toArray, List.set_cons_zero, List.set_cons_succ, List.getElem_toArray, List.getElem_cons_succ, List.getElem_cons_zero]
    refine wpAnyH_take (i := 3) (v := ?_) rfl (by kernel_rfl) (by kernel_rfl) (by kernel_rfl) (fun _ _ _ h => h) (Or.inl ⟨by rfl, ?yldq⟩) (by assumption) ?_
    case yldq => (intro w hSw; (try dsimp only at hSw); go_simp; try with_reducible rfl)
    try simp only [Act.put, List.setIfInBounds_toArray, List.set_cons_zero, List.set_cons_succ, List.getElem_toArray, List.getElem_cons_succ, List.getElem_cons_zero]
    refine wpAnyH_take (i := 4) (v := ?_) rfl (by kernel_rfl) (by kernel_rfl) (by kernel_rfl) (fun _ _ _ h => h) (Or.inl ⟨by rfl, ?yldq⟩) (by assumption) ?_
    case yldq => (intro w hSw; (try dsimp only at hSw); go_simp; try with_reducible rfl)
    try simp only [Act.put, List.setIfInBounds_toArray, List.set_cons_zero, List.set_cons_succ, List.getElem_toArray, List.getElem_cons_succ, List.getElem_cons_zero]
    refine wpAnyH_take (i := 5) (v := _) rfl (by kernel_rfl) (by kernel_rfl) (by kernel_rfl) (fun _ _ _ h => h) (Or.inl ⟨by rfl, fun w hSw => yield_i16 _ _ _ rfl rfl (show w.cell? ⟨B1, 1, none⟩ = some (.int .i64 (t : Int)) from (K2_0.out.below hSw K2_0.out.lt).cell 1)⟩) (by assumption) ?_
    try simp only [Act.put, List.setIfInBounds_toArray, List.set_cons_zero, List.set_cons_succ, List.getElem_toArray, List.getElem_cons_succ, List.getElem_cons_zero]
    refine wpAnyH_take (i := 6) (v := ?_) rfl (by kernel_rfl) (by kernel_rfl) (by kernel_rfl) (fun _ _ _ h => h) (Or.inl ⟨by rfl, ?yldq⟩) (by assumption) ?_
    case yldq => (intro w hSw; (try dsimp only at hSw); go_simp; try with_reducible rfl)
    try simp only [Act.put, List.setIfInBounds_toArray, List.set_cons_zero, List.set_cons_succ, List.getElem_toArray, List.getElem_cons_succ, List.getElem_cons_zero]
    refine wpAnyH_take (i := 9) (v := ?_) rfl (by kernel_rfl) (by kernel_rfl) (by kernel_rfl) (fun _ _ _ h => h) (Or.inl ⟨by rfl, ?yldq⟩) (by assumption) ?_
    case yldq => (intro w hSw; (try dsimp only at hSw); go_simp; try with_reducible rfl)
    try simp only [Act.put, List.setIfInBounds_toArray, List.set_cons_zero, List.set_cons_succ, List.getElem_toArray, List.getElem_cons_succ, List.getElem_cons_zero]
    refine wpAnyH_take (i := 10) (v := _) rfl (by kernel_rfl) (by kernel_rfl) (by kernel_rfl) (fun _ _ _ h => h) (Or.inl ⟨by rfl, fun w hSw => yield_u16 _ _ _ rfl rfl (show w.cell? ⟨B1, 3, none⟩ = some (.int .u64 (s : Int)) from (K2_0.out.below hSw K2_0.out.lt).cell 3)⟩) (by assumption) ?_
    try simp only [Act.put, List.setIfInBounds_toArray, List.set_cons_zero, List.set_cons_succ, List.getElem_toArray, List.getElem_cons_succ, List.getElem_cons_zero]
    refine wpAnyH_take (i := 14) (v := ?_) rfl (by kernel_rfl) (by kernel_rfl) (by kernel_rfl) (fun _ _ _ h => h) (Or.inl ⟨by rfl, ?yldq⟩) (by assumption) ?_
    case yldq => (intro w hSw; (try dsimp only at hSw); go_simp; try with_reducible rfl)
    try simp only [Act.put, List.setIfInBounds_toArray, List.set_cons_zero, List.set_cons_succ, List.getElem_toArray, List.getElem_cons_succ, List.getElem_cons_zero]
    refine wpAnyH_take (i := 15) (v := _) rfl (by kernel_rfl) (by kernel_rfl) (by kernel_rfl) (fun _ _ _ h => h) (Or.inl ⟨by rfl, fun w hSw => yield_u16 _ _ _ rfl rfl (show w.cell? ⟨B1, 4, none⟩ = some (.int .u64 (a : Int)) from (K2_0.out.below hSw K2_0.out.lt).cell 4)⟩) (by assumption) ?_
    try simp only [Act.put, List.setIfInBounds_toArray, List.set_cons_zero, List.set_cons_succ, List.getElem_toArray, List.getElem_cons_succ, List.getElem_cons_zero]
    refine wpAnyH_take (i := 19) (v := ?_) rfl (by kernel_rfl) (by kernel_rfl) (by kernel_rfl) (fun _ _ _ h => h) (Or.inl ⟨by rfl, ?yldq⟩) (by assumption) ?_
    case yldq => (intro w hSw; (try dsimp only at hSw); go_simp; try with_reducible rfl)
    try simp only [Act.put, List.setIfInBounds_toArray, List.set_cons_zero, List.set_cons_succ, List.getElem_toArray, List.getElem_cons_succ, List.getElem_cons_zero]
    refine wpAnyH_take (i := 20) (v := ?_) rfl (by kernel_rfl) (by kernel_rfl) (by kernel_rfl) (fun _ _ _ h => h) (Or.inl ⟨by rfl, ?yldq⟩) (by assumption) ?_
    case yldq => (intro w hSw; (try dsimp only at hSw); go_simp; try with_reducible rfl)
    try simp only [Act.put, List.setIfInBounds_toArray, List.set_cons_zero, List.set_cons_succ, List.getElem_toArray, List.getElem_cons_succ, List.getElem_cons_zero]
    refine wpAnyH_take (i := 21) (v := ?_) rfl (by kernel_rfl) (by kernel_rfl) (by kernel_rfl) (fun _ _ _ h => h) (Or.inl ⟨by rfl, ?yldq⟩) (by assumption) ?_
    case yldq => (intro w hSw; (try dsimp only at hSw); go_simp; try with_reducible rfl)
    try simp only [Act.put, List.setIfInBounds_toArray, List.set_cons_zero, List.set_cons_succ, List.getElem_toArray, List.getElem_cons_succ, List.getElem_cons_zero]
    refine wpAnyH_take (i := 22) (v := ?_) rfl (by kernel_rfl) (by kernel_rfl) (by kernel_rfl) (fun _ _ _ h => h) (Or.inl ⟨by rfl, ?yldq⟩) (by assumption) ?_
    case yldq => (intro w hSw; (try dsimp only at hSw); go_simp; try with_reducible rfl)
    try simp only [Act.put, List.setIfInBounds_toArray, List.set_cons_zero, List.set_cons_succ, List.getElem_toArray, List.getElem_cons_succ, List.getElem_cons_zero]
    refine wpAnyH_take (i := 23) (v := ?_) rfl (by kernel_rfl) (by kernel_rfl) (by kernel_rfl) (fun _ _ _ h => h) (Or.inl ⟨by rfl, ?yldq⟩) (by assumption) ?_
    case yldq => (intro w hSw; (try dsimp only at hSw); go_simp; try with_reducible rfl)
    try simp only [Act.put, List.setIfInBounds_toArray, List.set_cons_zero, List.set_cons_succ, List.getElem_toArray, List.getElem_cons_succ, List.getElem_cons_zero]
    refine wpAnyH_take (i := 24) (v := ?_) rfl (by kernel_rfl) (by kernel_rfl) (by kernel_rfl) (fun _ _ _ h => h) (Or.inl ⟨by rfl, ?yldq⟩) (by assumption) ?_
    case yldq => (intro w hSw; (try dsimp only at hSw); go_simp; try with_reducible rfl)
    try simp only [Act.put, List.setIfInBounds_toArray, List.set_cons_zero, List.set_cons_succ, List.getElem_toArray, List.getElem_cons_succ, List.getElem_cons_zero]
    try simp only [um1, ud1, um, ud, uf, ut]
    refine wpAnyH_take (i := 28) (v := ?_) rfl (by kernel_rfl) (by kernel_rfl) (by kernel_rfl) (fun _ _ _ h => h) (Or.inl ⟨by rfl, ?yldq⟩) (by assumption) ?_
    case yldq => (intro w hSw; (try dsimp only at hSw); go_simp; try with_reducible rfl)
    try simp only [Act.put, List.setIfInBounds_toArray, List.set_cons_zero, List.set_cons_succ, List.getElem_toArray, List.getElem_cons_succ, List.getElem_cons_zero]
    refine wpAnyH_take (i := 29) (v := _) rfl (by kernel_rfl) (by kernel_rfl) (by kernel_rfl) (fun _ _ _ h => h) (Or.inl ⟨by rfl, fun w hSw => yield_s16 _ _ _ rfl rfl (show w.cell? ⟨B1, 5, none⟩ = some (.slice A dl cap) from (K2_0.out.below hSw K2_0.out.lt).cell 5)⟩) (by assumption) ?_
    try simp only [Act.put, List.setIfInBounds_toArray, List.set_cons_zero, List.set_cons_succ, List.getElem_toArray, List.getElem_cons_succ, List.getElem_cons_zero]
    have hq5 : ∀ w', Below D2.heap.size D2 w' → (convert 23 9 (.slice A dl cap)).run Tryd.prog w' = .ok (.string S5) w' := fun w' hb => HQ5.out w' (L2.out.trans (hb.mono L2.out.size))
    refine wpAnyH_take (i := 30) (v := ?_) rfl (by kernel_rfl) (by kernel_rfl) (by kernel_rfl) (fun _ _ _ h => h) (Or.inl ⟨by rfl, ?yldq⟩) (by assumption) ?_
    case yldq => (intro w hSw; (try dsimp only at hSw); go_simp; try with_reducible rfl)
    try simp only [Act.put, List.setIfInBounds_toArray, List.set_cons_zero, List.set_cons_succ, List.getElem_toArray, List.getElem_cons_succ, List.getElem_cons_zero]
    clear hq5
    refine wpAnyH_ready (rs := [7, 11, 25]) (by kernel_rfl) (by simp) ?_
    refine AllReadyH.cons rfl (fun K hK => ?_) (AllReadyH.cons rfl (fun K hK => ?_) (AllReadyH.cons rfl (fun K hK => ?_) AllReadyH.nil))
    · go_simp
      have nb0 : Blk (D2.alloc (.cells #[.int .u8 82, .int .u8 82, .int .u8 1, .int .u8 ((f : Int)), .int .u8 ((t : Int))] 5)) (D2.heap.size) [.int .u8 82, .int .u8 82, .int .u8 1, .int .u8 ((f : Int)), .int .u8 ((t : Int))] 5 := Blk.new D2 [.int .u8 82, .int .u8 82, .int .u8 1, .int .u8 ((f : Int)), .int .u8 ((t : Int))] 5
      have nls : Below w.heap.size w D2 := L2.out
      have nl0 := nls.alloc nls.size (.cells #[.int .u8 82, .int .u8 82, .int .u8 1, .int .u8 ((f : Int)), .int .u8 ((t : Int))] 5)
      have nl : Below w.heap.size w (D2.alloc (.cells #[.int .u8 82, .int .u8 82, .int .u8 1, .int .u8 ((f : Int)), .int .u8 ((t : Int))] 5)) := nl0; clear nls nl0
      have o0 : Blk (D2.alloc (.cells #[.int .u8 82, .int .u8 82, .int .u8 1, .int .u8 ((f : Int)), .int .u8 ((t : Int))] 5)) B1 [.int .i64 (f : Int), .int .i64 (t : Int), .bool true, .int .u64 (s : Int), .int .u64 (a : Int), .slice A dl cap] 25 := (K2_0.out.alloc (.cells #[.int .u8 82, .int .u8 82, .int .u8 1, .int .u8 ((f : Int)), .int .u8 ((t : Int))] 5))
      have d3_0 : B1 < D2.heap.size := K2_0.out.lt
      obtain ⟨B3, hB0⟩ : ∃ B, B = D2.heap.size := ⟨_, rfl⟩
      obtain ⟨W3, hW⟩ : ∃ W, W = (D2.alloc (.cells #[.int .u8 82, .int .u8 82, .int .u8 1, .int .u8 ((f : Int)), .int .u8 ((t : Int))] 5)) := ⟨_, rfl⟩
      have hbx : Below D2.heap.size D2 W3 := hW ▸ (Below.refl D2.heap.size D2).alloc (Nat.le_refl _) _
      rw [← hW] at nl nb0 o0
      rw [← hB0] at nb0
      rw [← hW]
      try rw [← hB0]
      have K3_0 := Lib.hid o0
      have K3_1 := Lib.hid nb0
      have G3 : Hid (w.heap.size ≤ B3) := Lib.hid (by have := L2.out.size; omega)
      have x3_0_0 : B1 ≠ B3 := by omega
      have X3_0_0 := Lib.hid x3_0_0; clear x3_0_0
      have L3 := Lib.hid nl
      clear nl hW nb0 hB0 o0 d3_0 K2_0
      refine hK.out _ _ hbx (fun _ => ?_)
      clear hK K
      refine wpAnyH_more (S' := fun w' => Below W3.heap.size W3 w') (fun w' h => hbx.trans (h.mono hbx.size)) _ _ _ _ ?_
      have hH3 : Below W3.heap.size W3 W3 := Below.refl _ _
      clear hbx
      have hcv : ∀ w', Below W3.heap.size W3 w' → (convert 23 9 (.slice (some ⟨B3, 0, none⟩) 5 5)).run Tryd.prog w' = .ok (.string S1) w' := fun w' hb => by rw [HS1.out]; exact (rd_blk (cs := [82, 82, 1, (f : Int), (t : Int)]) (K3_1.out.below hb K3_1.out.lt) HB1.out (by simp)).conv 5 5 rfl
      refine wpAnyH_take (i := 8) (v := ?_) rfl (by kernel_rfl) (by kernel_rfl) (by kernel_rfl) (fun _ _ _ h => h) (Or.inl ⟨by rfl, ?yldq⟩) (by assumption) ?_
      case yldq => (intro w hSw; (try dsimp only at hSw); go_simp; try with_reducible rfl)
      try simp only [Act.put, List.setIfInBounds_toArray, List.set_cons_zero, List.set_cons_succ, List.getElem_toArray, List.getElem_cons_succ, List.getElem_cons_zero]
      clear hcv
      refine wpAnyH_ready (rs := [11, 25]) (by kernel_rfl) (by simp) ?_
      refine AllReadyH.cons rfl (fun K hK => ?_) (AllReadyH.cons rfl (fun K hK => ?_) AllReadyH.nil)
      · go_simp
        refine (rbytes_yes (s : Int) 8 _ (.inr (.inr (.inr rfl))) (by omega) (by omega)).mono ?_
        rintro e w4 ⟨y4, rfl, ho, hb⟩
        have L4 := Lib.hid (L3.out.trans (hb.mono L3.out.size))
        have K4_0 := Lib.hid (K3_0.out.below hb K3_0.out.lt)
        have hbx := hb
        clear hb K3_0
        obtain ⟨A4, cap4, rfl, hrd⟩ := ho.rd (byt_Byt 8 _) (by rw [byt_len]; omega)
        have HRD := Lib.hid hrd
        clear ho hrd
        rw [byt_len]
        refine hK.out _ _ hbx (fun _ => ?_)
        clear hK K
        refine wpAnyH_more (S' := fun w' => Below w4.heap.size w4 w') (fun w' h => hbx.trans (h.mono hbx.size)) _ _ _ _ ?_
        have hH4 : Below w4.heap.size w4 w4 := Below.refl _ _
        clear hbx
        have hcv : ∀ w', Below w4.heap.size w4 w' → (convert 23 9 (.slice A4 8 cap4)).run Tryd.prog w' = .ok (.string S2) w' := fun w' hb => by rw [HS2.out]; exact (HRD.out.below hb).conv 8 cap4 (byt_len _ _)
        refine wpAnyH_take (i := 12) (v := ?_) rfl (by kernel_rfl) (by kernel_rfl) (by kernel_rfl) (fun _ _ _ h => h) (Or.inl ⟨by rfl, ?yldq⟩) (by assumption) ?_
        case yldq => (intro w hSw; (try dsimp only at hSw); go_simp; try with_reducible rfl)
        try simp only [Act.put, List.setIfInBounds_toArray, List.set_cons_zero, List.set_cons_succ, List.getElem_toArray, List.getElem_cons_succ, List.getElem_cons_zero]
        clear hcv
        refine wpAnyH_take (i := 13) (v := ?_) rfl (by kernel_rfl) (by kernel_rfl) (by kernel_rfl) (fun _ _ _ h => h) (Or.inl ⟨by rfl, ?yldq⟩) (by assumption) ?_
        case yldq => (intro w hSw; (try dsimp only at hSw); go_simp; try with_reducible rfl)
        try simp only [Act.put, List.setIfInBounds_toArray, List.set_cons_zero, List.set_cons_succ, List.getElem_toArray, List.getElem_cons_succ, List.getElem_cons_zero]
        refine wpAnyH_ready (rs := [16, 25]) (by kernel_rfl) (by simp) ?_
        refine AllReadyH.cons rfl (fun K hK => ?_) (AllReadyH.cons rfl (fun K hK => ?_) AllReadyH.nil)
        · go_simp
          refine (rbytes_yes (a : Int) 8 _ (.inr (.inr (.inr rfl))) (by omega) (by omega)).mono ?_
          rintro e w5 ⟨y5, rfl, ho, hb⟩
          have L5 := Lib.hid (L4.out.trans (hb.mono L4.out.size))
          have K5_0 := Lib.hid (K4_0.out.below hb K4_0.out.lt)
          have hbx := hb
          clear hb K4_0
          obtain ⟨A5, cap5, rfl, hrd⟩ := ho.rd (byt_Byt 8 _) (by rw [byt_len]; omega)
          have HRD := Lib.hid hrd
          clear ho hrd
          rw [byt_len]
          refine hK.out _ _ hbx (fun _ => ?_)
          clear hK K
          refine wpAnyH_more (S' := fun w' => Below w5.heap.size w5 w') (fun w' h => hbx.trans (h.mono hbx.size)) _ _ _ _ ?_
          have hH5 : Below w5.heap.size w5 w5 := Below.refl _ _
          clear hbx
          have hcv : ∀ w', Below w5.heap.size w5 w' → (convert 23 9 (.slice A5 8 cap5)).run Tryd.prog w' = .ok (.string S3) w' := fun w' hb => by rw [HS3.out]; exact (HRD.out.below hb).conv 8 cap5 (byt_len _ _)
          refine wpAnyH_take (i := 17) (v := ?_) rfl (by kernel_rfl) (by kernel_rfl) (by kernel_rfl) (fun _ _ _ h => h) (Or.inl ⟨by rfl, ?yldq⟩) (by assumption) ?_
          case yldq => (intro w hSw; (try dsimp only at hSw); go_simp; try with_reducible rfl)
          try simp only [Act.put, List.setIfInBounds_toArray, List.set_cons_zero, List.set_cons_succ, List.getElem_toArray, List.getElem_cons_succ, List.getElem_cons_zero]
          clear hcv
          refine wpAnyH_take (i := 18) (v := ?_) rfl (by kernel_rfl) (by kernel_rfl) (by kernel_rfl) (fun _ _ _ h => h) (Or.inl ⟨by rfl, ?yldq⟩) (by assumption) ?_
          case yldq => (intro w hSw; (try dsimp only at hSw); go_simp; try with_reducible rfl)
          try simp only [Act.put, List.setIfInBounds_toArray, List.set_cons_zero, List.set_cons_succ, List.getElem_toArray, List.getElem_cons_succ, List.getElem_cons_zero]
          refine wpAnyH_ready (rs := [25]) (by kernel_rfl) (by simp) ?_
          refine AllReadyH.cons rfl (fun K hK => ?_) AllReadyH.nil
          go_simp
          have nb0 : Blk (w5.alloc (.cells #[.int .u8 ((dl : Int) % 256), .int .u8 ((dl : Int) / 256)] 5)) (w5.heap.size) [.int .u8 ((dl : Int) % 256), .int .u8 ((dl : Int) / 256)] 5 := Blk.new w5 [.int .u8 ((dl : Int) % 256), .int .u8 ((dl : Int) / 256)] 5
          have nls : Below w.heap.size w w5 := L5.out
          have nl0 := nls.alloc nls.size (.cells #[.int .u8 ((dl : Int) % 256), .int .u8 ((dl : Int) / 256)] 5)
          have nl : Below w.heap.size w (w5.alloc (.cells #[.int .u8 ((dl : Int) % 256), .int .u8 ((dl : Int) / 256)] 5)) := nl0; clear nls nl0
          have o0 : Blk (w5.alloc (.cells #[.int .u8 ((dl : Int) % 256), .int .u8 ((dl : Int) / 256)] 5)) B1 [.int .i64 (f : Int), .int .i64 (t : Int), .bool true, .int .u64 (s : Int), .int .u64 (a : Int), .slice A dl cap] 25 := (K5_0.out.alloc (.cells #[.int .u8 ((dl : Int) % 256), .int .u8 ((dl : Int) / 256)] 5))
          have d6_0 : B1 < w5.heap.size := K5_0.out.lt
          obtain ⟨B6, hB0⟩ : ∃ B, B = w5.heap.size := ⟨_, rfl⟩
          obtain ⟨W6, hW⟩ : ∃ W, W = (w5.alloc (.cells #[.int .u8 ((dl : Int) % 256), .int .u8 ((dl : Int) / 256)] 5)) := ⟨_, rfl⟩
          have hbx : Below w5.heap.size w5 W6 := hW ▸ (Below.refl w5.heap.size w5).alloc (Nat.le_refl _) _
          rw [← hW] at nl nb0 o0
          rw [← hB0] at nb0
          rw [← hW]
          try rw [← hB0]
          have K6_0 := Lib.hid o0
          have K6_1 := Lib.hid nb0
          have G6 : Hid (w.heap.size ≤ B6) := Lib.hid (by have := L5.out.size; omega)
          have x6_0_0 : B1 ≠ B6 := by omega
          have X6_0_0 := Lib.hid x6_0_0; clear x6_0_0
          have L6 := Lib.hid nl
          clear nl hW nb0 hB0 o0 d6_0 K5_0
          refine hK.out _ _ hbx (fun _ => ?_)
          clear hK K
          refine wpAnyH_more (S' := fun w' => Below W6.heap.size W6 w') (fun w' h => hbx.trans (h.mono hbx.size)) _ _ _ _ ?_
          have hH6 : Below W6.heap.size W6 W6 := Below.refl _ _
          clear hbx
          have hcv : ∀ w', Below W6.heap.size W6 w' → (convert 23 9 (.slice (some ⟨B6, 0, none⟩) 2 2)).run Tryd.prog w' = .ok (.string S4) w' := fun w' hb => by rw [HS4.out]; exact (rd_blk (cs := [(dl : Int) % 256, (dl : Int) / 256]) (K6_1.out.below hb K6_1.out.lt) HB4.out (by simp)).conv 2 2 rfl
          refine wpAnyH_take (i := 26) (v := ?_) rfl (by kernel_rfl) (by kernel_rfl) (by kernel_rfl) (fun _ _ _ h => h) (Or.inl ⟨by rfl, ?yldq⟩) (by assumption) ?_
          case yldq => (intro w hSw; (try dsimp only at hSw); go_simp; try with_reducible rfl)
          try simp only [Act.put, List.setIfInBounds_toArray, List.set_cons_zero, List.set_cons_succ, List.getElem_toArray, List.getElem_cons_succ, List.getElem_cons_zero]
          clear hcv
          refine wpAnyH_take (i := 27) (v := ?_) rfl (by kernel_rfl) (by kernel_rfl) (by kernel_rfl) (fun _ _ _ h => h) (Or.inl ⟨by rfl, ?yldq⟩) (by assumption) ?_
          case yldq => (intro w hSw; (try dsimp only at hSw); go_simp; try with_reducible rfl)
          try simp only [Act.put, List.setIfInBounds_toArray, List.set_cons_zero, List.set_cons_succ, List.getElem_toArray, List.getElem_cons_succ, List.getElem_cons_zero]
          refine wpAnyH_take (i := 31) (v := ?_) rfl (by kernel_rfl) (by kernel_rfl) (by kernel_rfl) (fun _ _ _ h => h) (Or.inl ⟨by rfl, ?yldq⟩) (by assumption) ?_
          case yldq => (intro w hSw; (try dsimp only at hSw); go_simp; try with_reducible rfl)
          try simp only [Act.put, List.setIfInBounds_toArray, List.set_cons_zero, List.set_cons_succ, List.getElem_toArray, List.getElem_cons_succ, List.getElem_cons_zero]
          refine wpAnyH_take (i := 32) (v := ?_) rfl (by kernel_rfl) (by kernel_rfl) (by kernel_rfl) (fun _ _ _ h => h) (Or.inl ⟨by rfl, ?yldq⟩) (by assumption) ?_
          case yldq => (intro w hSw; (try dsimp only at hSw); go_simp; try with_reducible rfl)
          try simp only [Act.put, List.setIfInBounds_toArray, List.set_cons_zero, List.set_cons_succ, List.getElem_toArray, List.getElem_cons_succ, List.getElem_cons_zero]
          refine wpAnyH_done (by kernel_rfl) ?_ _
          go_wp2
          go_ret
          exact ⟨by rw [HPP.out]; rfl, L6.out⟩
        · go_simp
          have nb0 : Blk (w4.alloc (.cells #[.int .u8 ((dl : Int) % 256), .int .u8 ((dl : Int) / 256)] 5)) (w4.heap.size) [.int .u8 ((dl : Int) % 256), .int .u8 ((dl : Int) / 256)] 5 := Blk.new w4 [.int .u8 ((dl : Int) % 256), .int .u8 ((dl : Int) / 256)] 5
          have nls : Below w.heap.size w w4 := L4.out
          have nl0 := nls.alloc nls.size (.cells #[.int .u8 ((dl : Int) % 256), .int .u8 ((dl : Int) / 256)] 5)
          have nl : Below w.heap.size w (w4.alloc (.cells #[.int .u8 ((dl : Int) % 256), .int .u8 ((dl : Int) / 256)] 5)) := nl0; clear nls nl0
          have o0 : Blk (w4.alloc (.cells #[.int .u8 ((dl : Int) % 256), .int .u8 ((dl : Int) / 256)] 5)) B1 [.int .i64 (f : Int), .int .i64 (t : Int), .bool true, .int .u64 (s : Int), .int .u64 (a : Int), .slice A dl cap] 25 := (K4_0.out.alloc (.cells #[.int .u8 ((dl : Int) % 256), .int .u8 ((dl : Int) / 256)] 5))
          have d7_0 : B1 < w4.heap.size := K4_0.out.lt
          obtain ⟨B7, hB0⟩ : ∃ B, B = w4.heap.size := ⟨_, rfl⟩
          obtain ⟨W7, hW⟩ : ∃ W, W = (w4.alloc (.cells #[.int .u8 ((dl : Int) % 256), .int .u8 ((dl : Int) / 256)] 5)) := ⟨_, rfl⟩
          have hbx : Below w4.heap.size w4 W7 := hW ▸ (Below.refl w4.heap.size w4).alloc (Nat.le_refl _) _
          rw [← hW] at nl nb0 o0
          rw [← hB0] at nb0
          rw [← hW]
          try rw [← hB0]
          have K7_0 := Lib.hid o0
          have K7_1 := Lib.hid nb0
          have G7 : Hid (w.heap.size ≤ B7) := Lib.hid (by have := L4.out.size; omega)
          have x7_0_0 : B1 ≠ B7 := by omega
          have X7_0_0 := Lib.hid x7_0_0; clear x7_0_0
          have L7 := Lib.hid nl
          clear nl hW nb0 hB0 o0 d7_0 K4_0
          refine hK.out _ _ hbx (fun _ => ?_)
          clear hK K
          refine wpAnyH_more (S' := fun w' => Below W7.heap.size W7 w') (fun w' h => hbx.trans (h.mono hbx.size)) _ _ _ _ ?_
          have hH7 : Below W7.heap.size W7 W7 := Below.refl _ _
          clear hbx
          have hcv : ∀ w', Below W7.heap.size W7 w' → (convert 23 9 (.slice (some ⟨B7, 0, none⟩) 2 2)).run Tryd.prog w' = .ok (.string S4) w' := fun w' hb => by rw [HS4.out]; exact (rd_blk (cs := [(dl : Int) % 256, (dl : Int) / 256]) (K7_1.out.below hb K7_1.out.lt) HB4.out (by simp)).conv 2 2 rfl
          refine wpAnyH_take (i := 26) (v := ?_) rfl (by kernel_rfl) (by kernel_rfl) (by kernel_rfl) (fun _ _ _ h => h) (Or.inl ⟨by rfl, ?yldq⟩) (by assumption) ?_
          case yldq => (intro w hSw; (try dsimp only at hSw); go_simp; try with_reducible rfl)
          try simp only [Act.put, List.setIfInBounds_toArray, List.set_cons_zero, List.set_cons_succ, List.getElem_toArray, List.getElem_cons_succ, List.getElem_cons_zero]
          clear hcv
          refine wpAnyH_ready (rs := [16]) (by kernel_rfl) (by simp) ?_
          refine AllReadyH.cons rfl (fun K hK => ?_) AllReadyH.nil
          go_simp
          refine (rbytes_yes (a : Int) 8 _ (.inr (.inr (.inr rfl))) (by omega) (by omega)).mono ?_
          rintro e w8 ⟨y8, rfl, ho, hb⟩
          have L8 := Lib.hid (L7.out.trans (hb.mono L7.out.size))
          have K8_0 := Lib.hid (K7_0.out.below hb K7_0.out.lt)
          have hbx := hb
          clear hb K7_0
          obtain ⟨A8, cap8, rfl, hrd⟩ := ho.rd (byt_Byt 8 _) (by rw [byt_len]; omega)
          have HRD := Lib.hid hrd
          clear ho hrd
          rw [byt_len]
          refine hK.out _ _ hbx (fun _ => ?_)
          clear hK K
          refine wpAnyH_more (S' := fun w' => Below w8.heap.size w8 w') (fun w' h => hbx.trans (h.mono hbx.size)) _ _ _ _ ?_
          have hH8 : Below w8.heap.size w8 w8 := Below.refl _ _
          clear hbx
          have hcv : ∀ w', Below w8.heap.size w8 w' → (convert 23 9 (.slice A8 8 cap8)).run Tryd.prog w' = .ok (.string S3) w' := fun w' hb => by rw [HS3.out]; exact (HRD.out.below hb).conv 8 cap8 (byt_len _ _)
          refine wpAnyH_take (i := 17) (v := ?_) rfl (by kernel_rfl) (by kernel_rfl) (by kernel_rfl) (fun _ _ _ h => h) (Or.inl ⟨by rfl, ?yldq⟩) (by assumption) ?_
          case yldq => (intro w hSw; (try dsimp only at hSw); go_simp; try with_reducible rfl)
          try simp only [Act.put, List.setIfInBounds_toArray, List.set_cons_zero, List.set_cons_succ, List.getElem_toArray, List.getElem_cons_succ, List.getElem_cons_zero]
          clear hcv
          refine wpAnyH_take (i := 18) (v := ?_) rfl (by kernel_rfl) (by kernel_rfl) (by kernel_rfl) (fun _ _ _ h => h) (Or.inl ⟨by rfl, ?yldq⟩) (by assumption) ?_
          case yldq => (intro w hSw; (try dsimp only at hSw); go_simp; try with_reducible rfl)
          try simp only [Act.put, List.setIfInBounds_toArray, List.set_cons_zero, List.set_cons_succ, List.getElem_toArray, List.getElem_cons_succ, List.getElem_cons_zero]
          refine wpAnyH_take (i := 27) (v := ?_) rfl (by kernel_rfl) (by kernel_rfl) (by kernel_rfl) (fun _ _ _ h => h) (Or.inl ⟨by rfl, ?yldq⟩) (by assumption) ?_
          case yldq => (intro w hSw; (try dsimp only at hSw); go_simp; try with_reducible rfl)
          try simp only [Act.put, List.setIfInBounds_toArray, List.set_cons_zero, List.set_cons_succ, List.getElem_toArray, List.getElem_cons_succ, List.getElem_cons_zero]
          refine wpAnyH_take (i := 31) (v := ?_) rfl (by kernel_rfl) (by kernel_rfl) (by kernel_rfl) (fun _ _ _ h => h) (Or.inl ⟨by rfl, ?yldq⟩) (by assumption) ?_
          case yldq => (intro w hSw; (try dsimp only at hSw); go_simp; try with_reducible rfl)
          try simp only [Act.put, List.setIfInBounds_toArray, List.set_cons_zero, List.set_cons_succ, List.getElem_toArray, List.getElem_cons_succ, List.getElem_cons_zero]
          refine wpAnyH_take (i := 32) (v := ?_) rfl (by kernel_rfl) (by kernel_rfl) (by kernel_rfl) (fun _ _ _ h => h) (Or.inl ⟨by rfl, ?yldq⟩) (by assumption) ?_
          case yldq => (intro w hSw; (try dsimp only at hSw); go_simp; try with_reducible rfl)
          try simp only [Act.put, List.setIfInBounds_toArray, List.set_cons_zero, List.set_cons_succ, List.getElem_toArray, List.getElem_cons_succ, List.getElem_cons_zero]
          refine wpAnyH_done (by kernel_rfl) ?_ _
          go_wp2
          go_ret
          exact ⟨by rw [HPP.out]; rfl, L8.out⟩
      · go_simp
        have nb0 : Blk (W3.alloc (.cells #[.int .u8 ((dl : Int) % 256), .int .u8 ((dl : Int) / 256)] 5)) (W3.heap.size) [.int .u8 ((dl : Int) % 256), .int .u8 ((dl : Int) / 256)] 5 := Blk.new W3 [.int .u8 ((dl : Int) % 256), .int .u8 ((dl : Int) / 256)] 5
        have nls : Below w.heap.size w W3 := L3.out
        have nl0 := nls.alloc nls.size (.cells #[.int .u8 ((dl : Int) % 256), .int .u8 ((dl : Int) / 256)] 5)
        have nl : Below w.heap.size w (W3.alloc (.cells #[.int .u8 ((dl : Int) % 256), .int .u8 ((dl : Int) / 256)] 5)) := nl0; clear nls nl0
        have o0 : Blk (W3.alloc (.cells #[.int .u8 ((dl : Int) % 256), .int .u8 ((dl : Int) / 256)] 5)) B1 [.int .i64 (f : Int), .int .i64 (t : Int), .bool true, .int .u64 (s : Int), .int .u64 (a : Int), .slice A dl cap] 25 := (K3_0.out.alloc (.cells #[.int .u8 ((dl : Int) % 256), .int .u8 ((dl : Int) / 256)] 5))
        have d9_0 : B1 < W3.heap.size := K3_0.out.lt
        obtain ⟨B9, hB0⟩ : ∃ B, B = W3.heap.size := ⟨_, rfl⟩
        obtain ⟨W9, hW⟩ : ∃ W, W = (W3.alloc (.cells #[.int .u8 ((dl : Int) % 256), .int .u8 ((dl : Int) / 256)] 5)) := ⟨_, rfl⟩
        have hbx : Below W3.heap.size W3 W9 := hW ▸ (Below.refl W3.heap.size W3).alloc (Nat.le_refl _) _
        rw [← hW] at nl nb0 o0
        rw [← hB0] at nb0
        rw [← hW]
        try rw [← hB0]
        have K9_0 := Lib.hid o0
        have K9_1 := Lib.hid nb0
        have G9 : Hid (w.heap.size ≤ B9) := Lib.hid (by have := L3.out.size; omega)
        have x9_0_0 : B1 ≠ B9 := by omega
        have X9_0_0 := Lib.hid x9_0_0; clear x9_0_0
        have L9 := Lib.hid nl
        clear nl hW nb0 hB0 o0 d9_0 K3_0
        refine hK.out _ _ hbx (fun _ => ?_)
        clear hK K
        refine wpAnyH_more (S' := fun w' => Below W9.heap.size W9 w') (fun w' h => hbx.trans (h.mono hbx.size)) _ _ _ _ ?_
        have hH9 : Below W9.heap.size W9 W9 := Below.refl _ _
        clear hbx
        have hcv : ∀ w', Below W9.heap.size W9 w' → (convert 23 9 (.slice (some ⟨B9, 0, none⟩) 2 2)).run Tryd.prog w' = .ok (.string S4) w' := fun w' hb => by rw [HS4.out]; exact (rd_blk (cs := [(dl : Int) % 256, (dl : Int) / 256]) (K9_1.out.below hb K9_1.out.lt) HB4.out (by simp)).conv 2 2 rfl
        refine wpAnyH_take (i := 26) (v := ?_) rfl (by kernel_rfl) (by kernel_rfl) (by kernel_rfl) (fun _ _ _ h => h) (Or.inl ⟨by rfl, ?yldq⟩) (by assumption) ?_
        case yldq => (intro w hSw; (try dsimp only at hSw); go_simp; try with_reducible rfl)
        try simp only [Act.put, List.setIfInBounds_toArray, List.set_cons_zero, List.set_cons_succ, List.getElem_toArray, List.getElem_cons_succ, List.getElem_cons_zero]
        clear hcv
        refine wpAnyH_ready (rs := [11]) (by kernel_rfl) (by simp) ?_
        refine AllReadyH.cons rfl (fun K hK => ?_) AllReadyH.nil
        go_simp
        refine (rbytes_yes (s : Int) 8 _ (.inr (.inr (.inr rfl))) (by omega) (by omega)).mono ?_
        rintro e w10 ⟨y10, rfl, ho, hb⟩
        have L10 := Lib.hid (L9.out.trans (hb.mono L9.out.size))
        have K10_0 := Lib.hid (K9_0.out.below hb K9_0.out.lt)
        have hbx := hb
        clear hb K9_0
        obtain ⟨A10, cap10, rfl, hrd⟩ := ho.rd (byt_Byt 8 _) (by rw [byt_len]; omega)
        have HRD := Lib.hid hrd
        clear ho hrd
        rw [byt_len]
        refine hK.out _ _ hbx (fun _ => ?_)
        clear hK K
        refine wpAnyH_more (S' := fun w' => Below w10.heap.size w10 w') (fun w' h => hbx.trans (h.mono hbx.size)) _ _ _ _ ?_
        have hH10 : Below w10.heap.size w10 w10 := Below.refl _ _
        clear hbx
        have hcv : ∀ w', Below w10.heap.size w10 w' → (convert 23 9 (.slice A10 8 cap10)).run Tryd.prog w' = .ok (.string S2) w' := fun w' hb => by rw [HS2.out]; exact (HRD.out.below hb).conv 8 cap10 (byt_len _ _)
        refine wpAnyH_take (i := 12) (v := ?_) rfl (by kernel_rfl) (by kernel_rfl) (by kernel_rfl) (fun _ _ _ h => h) (Or.inl ⟨by rfl, ?yldq⟩) (by assumption) ?_
        case yldq => (intro w hSw; (try dsimp only at hSw); go_simp; try with_reducible rfl)
        try simp only [Act.put, List.setIfInBounds_toArray, List.set_cons_zero, List.set_cons_succ, List.getElem_toArray, List.getElem_cons_succ, List.getElem_cons_zero]
        clear hcv
        refine wpAnyH_take (i := 13) (v := ?_) rfl (by kernel_rfl) (by kernel_rfl) (by kernel_rfl) (fun _ _ _ h => h) (Or.inl ⟨by rfl, ?yldq⟩) (by assumption) ?_
        case yldq => (intro w hSw; (try dsimp only at hSw); go_simp; try with_reducible rfl)
        try simp only [Act.put, List.setIfInBounds_toArray, List.set_cons_zero, List.set_cons_succ, List.getElem_toArray, List.getElem_cons_succ, List.getElem_cons_zero]
        refine wpAnyH_ready (rs := [16]) (by kernel_rfl) (by simp) ?_
        refine AllReadyH.cons rfl (fun K hK => ?_) AllReadyH.nil
        go_simp
        refine (rbytes_yes (a : Int) 8 _ (.inr (.inr (.inr rfl))) (by omega) (by omega)).mono ?_
        rintro e w11 ⟨y11, rfl, ho, hb⟩
        have L11 := Lib.hid (L10.out.trans (hb.mono L10.out.size))
        have K11_0 := Lib.hid (K10_0.out.below hb K10_0.out.lt)
        have hbx := hb
        clear hb K10_0
        obtain ⟨A11, cap11, rfl, hrd⟩ := ho.rd (byt_Byt 8 _) (by rw [byt_len]; omega)
        have HRD := Lib.hid hrd
        clear ho hrd
        rw [byt_len]
        refine hK.out _ _ hbx (fun _ => ?_)
        clear hK K
        refine wpAnyH_more (S' := fun w' => Below w11.heap.size w11 w') (fun w' h => hbx.trans (h.mono hbx.size)) _ _ _ _ ?_
        have hH11 : Below w11.heap.size w11 w11 := Below.refl _ _
        clear hbx
        have hcv : ∀ w', Below w11.heap.size w11 w' → (convert 23 9 (.slice A11 8 cap11)).run Tryd.prog w' = .ok (.string S3) w' := fun w' hb => by rw [HS3.out]; exact (HRD.out.below hb).conv 8 cap11 (byt_len _ _)
        refine wpAnyH_take (i := 17) (v := ?_) rfl (by kernel_rfl) (by kernel_rfl) (by kernel_rfl) (fun _ _ _ h => h) (Or.inl ⟨by rfl, ?yldq⟩) (by assumption) ?_
        case yldq => (intro w hSw; (try dsimp only at hSw); go_simp; try with_reducible rfl)
        try simp only [Act.put, List.setIfInBounds_toArray, List.set_cons_zero, List.set_cons_succ, List.getElem_toArray, List.getElem_cons_succ, List.getElem_cons_zero]
        clear hcv
        refine wpAnyH_take (i := 18) (v := ?_) rfl (by kernel_rfl) (by kernel_rfl) (by kernel_rfl) (fun _ _ _ h => h) (Or.inl ⟨by rfl, ?yldq⟩) (by assumption) ?_
        case yldq => (intro w hSw; (try dsimp only at hSw); go_simp; try with_reducible rfl)
        try simp only [Act.put, List.setIfInBounds_toArray, List.set_cons_zero, List.set_cons_succ, List.getElem_toArray, List.getElem_cons_succ, List.getElem_cons_zero]
        refine wpAnyH_take (i := 27) (v := ?_) rfl (by kernel_rfl) (by kernel_rfl) (by kernel_rfl) (fun _ _ _ h => h) (Or.inl ⟨by rfl, ?yldq⟩) (by assumption) ?_
        case yldq => (intro w hSw; (try dsimp only at hSw); go_simp; try with_reducible rfl)
        try simp only [Act.put, List.setIfInBounds_toArray, List.set_cons_zero, List.set_cons_succ, List.getElem_toArray, List.getElem_cons_succ, List.getElem_cons_zero]
        refine wpAnyH_take (i := 31) (v := ?_) rfl (by kernel_rfl) (by kernel_rfl) (by kernel_rfl) (fun _ _ _ h => h) (Or.inl ⟨by rfl, ?yldq⟩) (by assumption) ?_
        case yldq => (intro w hSw; (try dsimp only at hSw); go_simp; try with_reducible rfl)
        try simp only [Act.put, List.setIfInBounds_toArray, List.set_cons_zero, List.set_cons_succ, List.getElem_toArray, List.getElem_cons_succ, List.getElem_cons_zero]
        refine wpAnyH_take (i := 32) (v := ?_) rfl (by kernel_rfl) (by kernel_rfl) (by kernel_rfl) (fun _ _ _ h => h) (Or.inl ⟨by rfl, ?yldq⟩) (by assumption) ?_
        case yldq => (intro w hSw; (try dsimp only at hSw); go_simp; try with_reducible rfl)
        try simp only [Act.put, List.setIfInBounds_toArray, List.set_cons_zero, List.set_cons_succ, List.getElem_toArray, List.getElem_cons_succ, List.getElem_cons_zero]
        refine wpAnyH_done (by kernel_rfl) ?_ _
        go_wp2
        go_ret
        exact ⟨by rw [HPP.out]; rfl, L11.out⟩
    · go_simp
      refine (rbytes_yes (s : Int) 8 _ (.inr (.inr (.inr rfl))) (by omega) (by omega)).mono ?_
      rintro e w12 ⟨y12, rfl, ho, hb⟩
      have L12 := Lib.hid (L2.out.trans (hb.mono L2.out.size))
      have K12_0 := Lib.hid (K2_0.out.below hb K2_0.out.lt)
      have hbx := hb
      clear hb K2_0
      obtain ⟨A12, cap12, rfl, hrd⟩ := ho.rd (byt_Byt 8 _) (by rw [byt_len]; omega)
      have HRD := Lib.hid hrd
      clear ho hrd
      rw [byt_len]
      refine hK.out _ _ hbx (fun _ => ?_)
      clear hK K
      refine wpAnyH_more (S' := fun w' => Below w12.heap.size w12 w') (fun w' h => hbx.trans (h.mono hbx.size)) _ _ _ _ ?_
      have hH12 : Below w12.heap.size w12 w12 := Below.refl _ _
      clear hbx
      have hcv : ∀ w', Below w12.heap.size w12 w' → (convert 23 9 (.slice A12 8 cap12)).run Tryd.prog w' = .ok (.string S2) w' := fun w' hb => by rw [HS2.out]; exact (HRD.out.below hb).conv 8 cap12 (byt_len _ _)
      refine wpAnyH_take (i := 12) (v := ?_) rfl (by kernel_rfl) (by kernel_rfl) (by kernel_rfl) (fun _ _ _ h => h) (Or.inl ⟨by rfl, ?yldq⟩) (by assumption) ?_
      case yldq => (intro w hSw; (try dsimp only at hSw); go_simp; try with_reducible rfl)
      try simp only [Act.put, List.setIfInBounds_toArray, List.set_cons_zero, List.set_cons_succ, List.getElem_toArray, List.getElem_cons_succ, List.getElem_cons_zero]
      clear hcv
      refine wpAnyH_ready (rs := [7, 16, 25]) (by kernel_rfl) (by simp) ?_
      refine AllReadyH.cons rfl (fun K hK => ?_) (AllReadyH.cons rfl (fun K hK => ?_) (AllReadyH.cons rfl (fun K hK => ?_) AllReadyH.nil))
      · go_simp
        have nb0 : Blk (w12.alloc (.cells #[.int .u8 82, .int .u8 82, .int .u8 1, .int .u8 ((f : Int)), .int .u8 ((t : Int))] 5)) (w12.heap.size) [.int .u8 82, .int .u8 82, .int .u8 1, .int .u8 ((f : Int)), .int .u8 ((t : Int))] 5 := Blk.new w12 [.int .u8 82, .int .u8 82, .int .u8 1, .int .u8 ((f : Int)), .int .u8 ((t : Int))] 5
        have nls : Below w.heap.size w w12 := L12.out
        have nl0 := nls.alloc nls.size (.cells #[.int .u8 82, .int .u8 82, .int .u8 1, .int .u8 ((f : Int)), .int .u8 ((t : Int))] 5)
        have nl : Below w.heap.size w (w12.alloc (.cells #[.int .u8 82, .int .u8 82, .int .u8 1, .int .u8 ((f : Int)), .int .u8 ((t : Int))] 5)) := nl0; clear nls nl0
        have o0 : Blk (w12.alloc (.cells #[.int .u8 82, .int .u8 82, .int .u8 1, .int .u8 ((f : Int)), .int .u8 ((t : Int))] 5)) B1 [.int .i64 (f : Int), .int .i64 (t : Int), .bool true, .int .u64 (s : Int), .int .u64 (a : Int), .slice A dl cap] 25 := (K12_0.out.alloc (.cells #[.int .u8 82, .int .u8 82, .int .u8 1, .int .u8 ((f : Int)), .int .u8 ((t : Int))] 5))
        have d13_0 : B1 < w12.heap.size := K12_0.out.lt
        obtain ⟨B13, hB0⟩ : ∃ B, B = w12.heap.size := ⟨_, rfl⟩
        obtain ⟨W13, hW⟩ : ∃ W, W = (w12.alloc (.cells #[.int .u8 82, .int .u8 82, .int .u8 1, .int .u8 ((f : Int)), .int .u8 ((t : Int))] 5)) := ⟨_, rfl⟩
        have hbx : Below w12.heap.size w12 W13 := hW ▸ (Below.refl w12.heap.size w12).alloc (Nat.le_refl _) _
        rw [← hW] at nl nb0 o0
        rw [← hB0] at nb0
        rw [← hW]
        try rw [← hB0]
        have K13_0 := Lib.hid o0
        have K13_1 := Lib.hid nb0
        have G13 : Hid (w.heap.size ≤ B13) := Lib.hid (by have := L12.out.size; omega)
        have x13_0_0 : B1 ≠ B13 := by omega
        have X13_0_0 := Lib.hid x13_0_0; clear x13_0_0
        have L13 := Lib.hid nl
        clear nl hW nb0 hB0 o0 d13_0 K12_0
        refine hK.out _ _ hbx (fun _ => ?_)
        clear hK K
        refine wpAnyH_more (S' := fun w' => Below W13.heap.size W13 w') (fun w' h => hbx.trans (h.mono hbx.size)) _ _ _ _ ?_
        have hH13 : Below W13.heap.size W13 W13 := Below.refl _ _
        clear hbx
        have hcv : ∀ w', Below W13.heap.size W13 w' → (convert 23 9 (.slice (some ⟨B13, 0, none⟩) 5 5)).run Tryd.prog w' = .ok (.string S1) w' := fun w' hb => by rw [HS1.out]; exact (rd_blk (cs := [82, 82, 1, (f : Int), (t : Int)]) (K13_1.out.below hb K13_1.out.lt) HB1.out (by simp)).conv 5 5 rfl
        refine wpAnyH_take (i := 8) (v := ?_) rfl (by kernel_rfl) (by kernel_rfl) (by kernel_rfl) (fun _ _ _ h => h) (Or.inl ⟨by rfl, ?yldq⟩) (by assumption) ?_
        case yldq => (intro w hSw; (try dsimp only at hSw); go_simp; try with_reducible rfl)
        try simp only [Act.put, List.setIfInBounds_toArray, List.set_cons_zero, List.set_cons_succ, List.getElem_toArray, List.getElem_cons_succ, List.getElem_cons_zero]
        clear hcv
        refine wpAnyH_take (i := 13) (v := ?_) rfl (by kernel_rfl) (by kernel_rfl) (by kernel_rfl) (fun _ _ _ h => h) (Or.inl ⟨by rfl, ?yldq⟩) (by assumption) ?_
        case yldq => (intro w hSw; (try dsimp only at hSw); go_simp; try with_reducible rfl)
        try simp only [Act.put, List.setIfInBounds_toArray, List.set_cons_zero, List.set_cons_succ, List.getElem_toArray, List.getElem_cons_succ, List.getElem_cons_zero]
        refine wpAnyH_ready (rs := [16, 25]) (by kernel_rfl) (by simp) ?_
        refine AllReadyH.cons rfl (fun K hK => ?_) (AllReadyH.cons rfl (fun K hK => ?_) AllReadyH.nil)
        · go_simp
          refine (rbytes_yes (a : Int) 8 _ (.inr (.inr (.inr rfl))) (by omega) (by omega)).mono ?_
          rintro e w14 ⟨y14, rfl, ho, hb⟩
          have L14 := Lib.hid (L13.out.trans (hb.mono L13.out.size))
          have K14_0 := Lib.hid (K13_0.out.below hb K13_0.out.lt)
          have hbx := hb
          clear hb K13_0
          obtain ⟨A14, cap14, rfl, hrd⟩ := ho.rd (byt_Byt 8 _) (by rw [byt_len]; omega)
          have HRD := Lib.hid hrd
          clear ho hrd
          rw [byt_len]
          refine hK.out _ _ hbx (fun _ => ?_)
          clear hK K
          refine wpAnyH_more (S' := fun w' => Below w14.heap.size w14 w') (fun w' h => hbx.trans (h.mono hbx.size)) _ _ _ _ ?_
          have hH14 : Below w14.heap.size w14 w14 := Below.refl _ _
          clear hbx
          have hcv : ∀ w', Below w14.heap.size w14 w' → (convert 23 9 (.slice A14 8 cap14)).run Tryd.prog w' = .ok (.string S3) w' := fun w' hb => by rw [HS3.out]; exact (HRD.out.below hb).conv 8 cap14 (byt_len _ _)
          refine wpAnyH_take (i := 17) (v := ?_) rfl (by kernel_rfl) (by kernel_rfl) (by kernel_rfl) (fun _ _ _ h => h) (Or.inl ⟨by rfl, ?yldq⟩) (by assumption) ?_
          case yldq => (intro w hSw; (try dsimp only at hSw); go_simp; try with_reducible rfl)
          try simp only [Act.put, List.setIfInBounds_toArray, List.set_cons_zero, List.set_cons_succ, List.getElem_toArray, List.getElem_cons_succ, List.getElem_cons_zero]
          clear hcv
          refine wpAnyH_take (i := 18) (v := ?_) rfl (by kernel_rfl) (by kernel_rfl) (by kernel_rfl) (fun _ _ _ h => h) (Or.inl ⟨by rfl, ?yldq⟩) (by assumption) ?_
          case yldq => (intro w hSw; (try dsimp only at hSw); go_simp; try with_reducible rfl)
          try simp only [Act.put, List.setIfInBounds_toArray, List.set_cons_zero, List.set_cons_succ, List.getElem_toArray, List.getElem_cons_succ, List.getElem_cons_zero]
          refine wpAnyH_ready (rs := [25]) (by kernel_rfl) (by simp) ?_
          refine AllReadyH.cons rfl (fun K hK => ?_) AllReadyH.nil
          go_simp
          have nb0 : Blk (w14.alloc (.cells #[.int .u8 ((dl : Int) % 256), .int .u8 ((dl : Int) / 256)] 5)) (w14.heap.size) [.int .u8 ((dl : Int) % 256), .int .u8 ((dl : Int) / 256)] 5 := Blk.new w14 [.int .u8 ((dl : Int) % 256), .int .u8 ((dl : Int) / 256)] 5
          have nls : Below w.heap.size w w14 := L14.out
          have nl0 := nls.alloc nls.size (.cells #[.int .u8 ((dl : Int) % 256), .int .u8 ((dl : Int) / 256)] 5)
          have nl : Below w.heap.size w (w14.alloc (.cells #[.int .u8 ((dl : Int) % 256), .int .u8 ((dl : Int) / 256)] 5)) := nl0; clear nls nl0
          have o0 : Blk (w14.alloc (.cells #[.int .u8 ((dl : Int) % 256), .int .u8 ((dl : Int) / 256)] 5)) B1 [.int .i64 (f : Int), .int .i64 (t : Int), .bool true, .int .u64 (s : Int), .int .u64 (a : Int), .slice A dl cap] 25 := (K14_0.out.alloc (.cells #[.int .u8 ((dl : Int) % 256), .int .u8 ((dl : Int) / 256)] 5))
          have d15_0 : B1 < w14.heap.size := K14_0.out.lt
          obtain ⟨B15, hB0⟩ : ∃ B, B = w14.heap.size := ⟨_, rfl⟩
          obtain ⟨W15, hW⟩ : ∃ W, W = (w14.alloc (.cells #[.int .u8 ((dl : Int) % 256), .int .u8 ((dl : Int) / 256)] 5)) := ⟨_, rfl⟩
          have hbx : Below w14.heap.size w14 W15 := hW ▸ (Below.refl w14.heap.size w14).alloc (Nat.le_refl _) _
          rw [← hW] at nl nb0 o0
          rw [← hB0] at nb0
          rw [← hW]
          try rw [← hB0]
          have K15_0 := Lib.hid o0
          have K15_1 := Lib.hid nb0
          have G15 : Hid (w.heap.size ≤ B15) := Lib.hid (by have := L14.out.size; omega)
          have x15_0_0 : B1 ≠ B15 := by omega
          have X15_0_0 := Lib.hid x15_0_0; clear x15_0_0
          have L15 := Lib.hid nl
          clear nl hW nb0 hB0 o0 d15_0 K14_0
          refine hK.out _ _ hbx (fun _ => ?_)
          clear hK K
          refine wpAnyH_more (S' := fun w' => Below W15.heap.size W15 w') (fun w' h => hbx.trans (h.mono hbx.size)) _ _ _ _ ?_
          have hH15 : Below W15.heap.size W15 W15 := Below.refl _ _
          clear hbx
          have hcv : ∀ w', Below W15.heap.size W15 w' → (convert 23 9 (.slice (some ⟨B15, 0, none⟩) 2 2)).run Tryd.prog w' = .ok (.string S4) w' := fun w' hb => by rw [HS4.out]; exact (rd_blk (cs := [(dl : Int) % 256, (dl : Int) / 256]) (K15_1.out.below hb K15_1.out.lt) HB4.out (by simp)).conv 2 2 rfl
          refine wpAnyH_take (i := 26) (v := ?_) rfl (by kernel_rfl) (by kernel_rfl) (by kernel_rfl) (fun _ _ _ h => h) (Or.inl ⟨by rfl, ?yldq⟩) (by assumption) ?_
          case yldq => (intro w hSw; (try dsimp only at hSw); go_simp; try with_reducible rfl)
          try simp only [Act.put, List.setIfInBounds_toArray, List.set_cons_zero, List.set_cons_succ, List.getElem_toArray, List.getElem_cons_succ, List.getElem_cons_zero]
          clear hcv
          refine wpAnyH_take (i := 27) (v := ?_) rfl (by kernel_rfl) (by kernel_rfl) (by kernel_rfl) (fun _ _ _ h => h) (Or.inl ⟨by rfl, ?yldq⟩) (by assumption) ?_
          case yldq => (intro w hSw; (try dsimp only at hSw); go_simp; try with_reducible rfl)
          try simp only [Act.put, List.setIfInBounds_toArray, List.set_cons_zero, List.set_cons_succ, List.getElem_toArray, List.getElem_cons_succ, List.getElem_cons_zero]
          refine wpAnyH_take (i := 31) (v := ?_) rfl (by kernel_rfl) (by kernel_rfl) (by kernel_rfl) (fun _ _ _ h => h) (Or.inl ⟨by rfl, ?yldq⟩) (by assumption) ?_
          case yldq => (intro w hSw; (try dsimp only at hSw); go_simp; try with_reducible rfl)
          try simp only [Act.put, List.setIfInBounds_toArray, List.set_cons_zero, List.set_cons_succ, List.getElem_toArray, List.getElem_cons_succ, List.getElem_cons_zero]
          refine wpAnyH_take (i := 32) (v := ?_) rfl (by kernel_rfl) (by kernel_rfl) (by kernel_rfl) (fun _ _ _ h => h) (Or.inl ⟨by rfl, ?yldq⟩) (by assumption) ?_
          case yldq => (intro w hSw; (try dsimp only at hSw); go_simp; try with_reducible rfl)
          try simp only [Act.put, List.setIfInBounds_toArray, List.set_cons_zero, List.set_cons_succ, List.getElem_toArray, List.getElem_cons_succ, List.getElem_cons_zero]
          refine wpAnyH_done (by kernel_rfl) ?_ _
          go_wp2
          go_ret
          exact ⟨by rw [HPP.out]; rfl, L15.out⟩
        · go_simp
          have nb0 : Blk (W13.alloc (.cells #[.int .u8 ((dl : Int) % 256), .int .u8 ((dl : Int) / 256)] 5)) (W13.heap.size) [.int .u8 ((dl : Int) % 256), .int .u8 ((dl : Int) / 256)] 5 := Blk.new W13 [.int .u8 ((dl : Int) % 256), .int .u8 ((dl : Int) / 256)] 5
          have nls : Below w.heap.size w W13 := L13.out
          have nl0 := nls.alloc nls.size (.cells #[.int .u8 ((dl : Int) % 256), .int .u8 ((dl : Int) / 256)] 5)
          have nl : Below w.heap.size w (W13.alloc (.cells #[.int .u8 ((dl : Int) % 256), .int .u8 ((dl : Int) / 256)] 5)) := nl0; clear nls nl0
          have o0 : Blk (W13.alloc (.cells #[.int .u8 ((dl : Int) % 256), .int .u8 ((dl : Int) / 256)] 5)) B1 [.int .i64 (f : Int), .int .i64 (t : Int), .bool true, .int .u64 (s : Int), .int .u64 (a : Int), .slice A dl cap] 25 := (K13_0.out.alloc (.cells #[.int .u8 ((dl : Int) % 256), .int .u8 ((dl : Int) / 256)] 5))
          have d16_0 : B1 < W13.heap.size := K13_0.out.lt
          obtain ⟨B16, hB0⟩ : ∃ B, B = W13.heap.size := ⟨_, rfl⟩
          obtain ⟨W16, hW⟩ : ∃ W, W = (W13.alloc (.cells #[.int .u8 ((dl : Int) % 256), .int .u8 ((dl : Int) / 256)] 5)) := ⟨_, rfl⟩
          have hbx : Below W13.heap.size W13 W16 := hW ▸ (Below.refl W13.heap.size W13).alloc (Nat.le_refl _) _
          rw [← hW] at nl nb0 o0
          rw [← hB0] at nb0
          rw [← hW]
          try rw [← hB0]
          have K16_0 := Lib.hid o0
          have K16_1 := Lib.hid nb0
          have G16 : Hid (w.heap.size ≤ B16) := Lib.hid (by have := L13.out.size; omega)
          have x16_0_0 : B1 ≠ B16 := by omega
          have X16_0_0 := Lib.hid x16_0_0; clear x16_0_0
          have L16 := Lib.hid nl
          clear nl hW nb0 hB0 o0 d16_0 K13_0
          refine hK.out _ _ hbx (fun _ => ?_)
          clear hK K
          refine wpAnyH_more (S' := fun w' => Below W16.heap.size W16 w') (fun w' h => hbx.trans (h.mono hbx.size)) _ _ _ _ ?_
          have hH16 : Below W16.heap.size W16 W16 := Below.refl _ _
          clear hbx
          have hcv : ∀ w', Below W16.heap.size W16 w' → (convert 23 9 (.slice (some ⟨B16, 0, none⟩) 2 2)).run Tryd.prog w' = .ok (.string S4) w' := fun w' hb => by rw [HS4.out]; exact (rd_blk (cs := [(dl : Int) % 256, (dl : Int) / 256]) (K16_1.out.below hb K16_1.out.lt) HB4.out (by simp)).conv 2 2 rfl
          refine wpAnyH_take (i := 26) (v := ?_) rfl (by kernel_rfl) (by kernel_rfl) (by kernel_rfl) (fun _ _ _ h => h) (Or.inl ⟨by rfl, ?yldq⟩) (by assumption) ?_
          case yldq => (intro w hSw; (try dsimp only at hSw); go_simp; try with_reducible rfl)
          try simp only [Act.put, List.setIfInBounds_toArray, List.set_cons_zero, List.set_cons_succ, List.getElem_toArray, List.getElem_cons_succ, List.getElem_cons_zero]
          clear hcv
          refine wpAnyH_ready (rs := [16]) (by kernel_rfl) (by simp) ?_
          refine AllReadyH.cons rfl (fun K hK => ?_) AllReadyH.nil
          go_simp
          refine (rbytes_yes (a : Int) 8 _ (.inr (.inr (.inr rfl))) (by omega) (by omega)).mono ?_
          rintro e w17 ⟨y17, rfl, ho, hb⟩
          have L17 := Lib.hid (L16.out.trans (hb.mono L16.out.size))
          have K17_0 := Lib.hid (K16_0.out.below hb K16_0.out.lt)
          have hbx := hb
          clear hb K16_0
          obtain ⟨A17, cap17, rfl, hrd⟩ := ho.rd (byt_Byt 8 _) (by rw [byt_len]; omega)
          have HRD := Lib.hid hrd
          clear ho hrd
          rw [byt_len]
          refine hK.out _ _ hbx (fun _ => ?_)
          clear hK K
          refine wpAnyH_more (S' := fun w' => Below w17.heap.size w17 w') (fun w' h => hbx.trans (h.mono hbx.size)) _ _ _ _ ?_
          have hH17 : Below w17.heap.size w17 w17 := Below.refl _ _
          clear hbx
          have hcv : ∀ w', Below w17.heap.size w17 w' → (convert 23 9 (.slice A17 8 cap17)).run Tryd.prog w' = .ok (.string S3) w' := fun w' hb => by rw [HS3.out]; exact (HRD.out.below hb).conv 8 cap17 (byt_len _ _)
          refine wpAnyH_take (i := 17) (v := ?_) rfl (by kernel_rfl) (by kernel_rfl) (by kernel_rfl) (fun _ _ _ h => h) (Or.inl ⟨by rfl, ?yldq⟩) (by assumption) ?_
          case yldq => (intro w hSw; (try dsimp only at hSw); go_simp; try with_reducible rfl)
          try simp only [Act.put, List.setIfInBounds_toArray, List.set_cons_zero, List.set_cons_succ, List.getElem_toArray, List.getElem_cons_succ, List.getElem_cons_zero]
          clear hcv
          refine wpAnyH_take (i := 18) (v := ?_) rfl (by kernel_rfl) (by kernel_rfl) (by kernel_rfl) (fun _ _ _ h => h) (Or.inl ⟨by rfl, ?yldq⟩) (by assumption) ?_
          case yldq => (intro w hSw; (try dsimp only at hSw); go_simp; try with_reducible rfl)
          try simp only [Act.put, List.setIfInBounds_toArray, List.set_cons_zero, List.set_cons_succ, List.getElem_toArray, List.getElem_cons_succ, List.getElem_cons_zero]
          refine wpAnyH_take (i := 27) (v := ?_) rfl (by kernel_rfl) (by kernel_rfl) (by kernel_rfl) (fun _ _ _ h => h) (Or.inl ⟨by rfl, ?yldq⟩) (by assumption) ?_
          case yldq => (intro w hSw; (try dsimp only at hSw); go_simp; try with_reducible rfl)
          try simp only [Act.put, List.setIfInBounds_toArray, List.set_cons_zero, List.set_cons_succ, List.getElem_toArray, List.getElem_cons_succ, List.getElem_cons_zero]
          refine wpAnyH_take (i := 31) (v := ?_) rfl (by kernel_rfl) (by kernel_rfl) (by kernel_rfl) (fun _ _ _ h => h) (Or.inl ⟨by rfl, ?yldq⟩) (by assumption) ?_
          case yldq => (intro w hSw; (try dsimp only at hSw); go_simp; try with_reducible rfl)
          try simp only [Act.put, List.setIfInBounds_toArray, List.set_cons_zero, List.set_cons_succ, List.getElem_toArray, List.getElem_cons_succ, List.getElem_cons_zero]
          refine wpAnyH_take (i := 32) (v := ?_) rfl (by kernel_rfl) (by kernel_rfl) (by kernel_rfl) (fun _ _ _ h => h) (Or.inl ⟨by rfl, ?yldq⟩) (by assumption) ?_
          case yldq => (intro w hSw; (try dsimp only at hSw); go_simp; try with_reducible rfl)
          try simp only [Act.put, List.setIfInBounds_toArray, List.set_cons_zero, List.set_cons_succ, List.getElem_toArray, List.getElem_cons_succ, List.getElem_cons_zero]
          refine wpAnyH_done (by kernel_rfl) ?_ _
          go_wp2
          go_ret
          exact ⟨by rw [HPP.out]; rfl, L17.out⟩
      · go_simp
        refine (rbytes_yes (a : Int) 8 _ (.inr (.inr (.inr rfl))) (by omega) (by omega)).mono ?_
        rintro e w18 ⟨y18, rfl, ho, hb⟩
        have L18 := Lib.hid (L12.out.trans (hb.mono L12.out.size))
        have K18_0 := Lib.hid (K12_0.out.below hb K12_0.out.lt)
        have hbx := hb
        clear hb K12_0
        obtain ⟨A18, cap18, rfl, hrd⟩ := ho.rd (byt_Byt 8 _) (by rw [byt_len]; omega)
        have HRD := Lib.hid hrd
        clear ho hrd
        rw [byt_len]
        refine hK.out _ _ hbx (fun _ => ?_)
        clear hK K
        refine wpAnyH_more (S' := fun w' => Below w18.heap.size w18 w') (fun w' h => hbx.trans (h.mono hbx.size)) _ _ _ _ ?_
        have hH18 : Below w18.heap.size w18 w18 := Below.refl _ _
        clear hbx
        have hcv : ∀ w', Below w18.heap.size w18 w' → (convert 23 9 (.slice A18 8 cap18)).run Tryd.prog w' = .ok (.string S3) w' := fun w' hb => by rw [HS3.out]; exact (HRD.out.below hb).conv 8 cap18 (byt_len _ _)
        refine wpAnyH_take (i := 17) (v := ?_) rfl (by kernel_rfl) (by kernel_rfl) (by kernel_rfl) (fun _ _ _ h => h) (Or.inl ⟨by rfl, ?yldq⟩) (by assumption) ?_
        case yldq => (intro w hSw; (try dsimp only at hSw); go_simp; try with_reducible rfl)
        try simp only [Act.put, List.setIfInBounds_toArray, List.set_cons_zero, List.set_cons_succ, List.getElem_toArray, List.getElem_cons_succ, List.getElem_cons_zero]
        clear hcv
        refine wpAnyH_ready (rs := [7, 25]) (by kernel_rfl) (by simp) ?_
        refine AllReadyH.cons rfl (fun K hK => ?_) (AllReadyH.cons rfl (fun K hK => ?_) AllReadyH.nil)
        · go_simp
          have nb0 : Blk (w18.alloc (.cells #[.int .u8 82, .int .u8 82, .int .u8 1, .int .u8 ((f : Int)), .int .u8 ((t : Int))] 5)) (w18.heap.size) [.int .u8 82, .int .u8 82, .int .u8 1, .int .u8 ((f : Int)), .int .u8 ((t : Int))] 5 := Blk.new w18 [.int .u8 82, .int .u8 82, .int .u8 1, .int .u8 ((f : Int)), .int .u8 ((t : Int))] 5
          have nls : Below w.heap.size w w18 := L18.out
          have nl0 := nls.alloc nls.size (.cells #[.int .u8 82, .int .u8 82, .int .u8 1, .int .u8 ((f : Int)), .int .u8 ((t : Int))] 5)
          have nl : Below w.heap.size w (w18.alloc (.cells #[.int .u8 82, .int .u8 82, .int .u8 1, .int .u8 ((f : Int)), .int .u8 ((t : Int))] 5)) := nl0; clear nls nl0
          have o0 : Blk (w18.alloc (.cells #[.int .u8 82, .int .u8 82, .int .u8 1, .int .u8 ((f : Int)), .int .u8 ((t : Int))] 5)) B1 [.int .i64 (f : Int), .int .i64 (t : Int), .bool true, .int .u64 (s : Int), .int .u64 (a : Int), .slice A dl cap] 25 := (K18_0.out.alloc (.cells #[.int .u8 82, .int .u8 82, .int .u8 1, .int .u8 ((f : Int)), .int .u8 ((t : Int))] 5))
          have d19_0 : B1 < w18.heap.size := K18_0.out.lt
          obtain ⟨B19, hB0⟩ : ∃ B, B = w18.heap.size := ⟨_, rfl⟩
          obtain ⟨W19, hW⟩ : ∃ W, W = (w18.alloc (.cells #[.int .u8 82, .int .u8 82, .int .u8 1, .int .u8 ((f : Int)), .int .u8 ((t : Int))] 5)) := ⟨_, rfl⟩
          have hbx : Below w18.heap.size w18 W19 := hW ▸ (Below.refl w18.heap.size w18).alloc (Nat.le_refl _) _
          rw [← hW] at nl nb0 o0
          rw [← hB0] at nb0
          rw [← hW]
          try rw [← hB0]
          have K19_0 := Lib.hid o0
          have K19_1 := Lib.hid nb0
          have G19 : Hid (w.heap.size ≤ B19) := Lib.hid (by have := L18.out.size; omega)
          have x19_0_0 : B1 ≠ B19 := by omega
          have X19_0_0 := Lib.hid x19_0_0; clear x19_0_0
          have L19 := Lib.hid nl
          clear nl hW nb0 hB0 o0 d19_0 K18_0
          refine hK.out _ _ hbx (fun _ => ?_)
          clear hK K
          refine wpAnyH_more (S' := fun w' => Below W19.heap.size W19 w') (fun w' h => hbx.trans (h.mono hbx.size)) _ _ _ _ ?_
          have hH19 : Below W19.heap.size W19 W19 := Below.refl _ _
          clear hbx
          have hcv : ∀ w', Below W19.heap.size W19 w' → (convert 23 9 (.slice (some ⟨B19, 0, none⟩) 5 5)).run Tryd.prog w' = .ok (.string S1) w' := fun w' hb => by rw [HS1.out]; exact (rd_blk (cs := [82, 82, 1, (f : Int), (t : Int)]) (K19_1.out.below hb K19_1.out.lt) HB1.out (by simp)).conv 5 5 rfl
          refine wpAnyH_take (i := 8) (v := ?_) rfl (by kernel_rfl) (by kernel_rfl) (by kernel_rfl) (fun _ _ _ h => h) (Or.inl ⟨by rfl, ?yldq⟩) (by assumption) ?_
          case yldq => (intro w hSw; (try dsimp only at hSw); go_simp; try with_reducible rfl)
          try simp only [Act.put, List.setIfInBounds_toArray, List.set_cons_zero, List.set_cons_succ, List.getElem_toArray, List.getElem_cons_succ, List.getElem_cons_zero]
          clear hcv
          refine wpAnyH_take (i := 13) (v := ?_) rfl (by kernel_rfl) (by kernel_rfl) (by kernel_rfl) (fun _ _ _ h => h) (Or.inl ⟨by rfl, ?yldq⟩) (by assumption) ?_
          case yldq => (intro w hSw; (try dsimp only at hSw); go_simp; try with_reducible rfl)
          try simp only [Act.put, List.setIfInBounds_toArray, List.set_cons_zero, List.set_cons_succ, List.getElem_toArray, List.getElem_cons_succ, List.getElem_cons_zero]
          refine wpAnyH_take (i := 18) (v := ?_) rfl (by kernel_rfl) (by kernel_rfl) (by kernel_rfl) (fun _ _ _ h => h) (Or.inl ⟨by rfl, ?yldq⟩) (by assumption) ?_
          case yldq => (intro w hSw; (try dsimp only at hSw); go_simp; try with_reducible rfl)
          try simp only [Act.put, List.setIfInBounds_toArray, List.set_cons_zero, List.set_cons_succ, List.getElem_toArray, List.getElem_cons_succ, List.getElem_cons_zero]
          refine wpAnyH_ready (rs := [25]) (by kernel_rfl) (by simp) ?_
          refine AllReadyH.cons rfl (fun K hK => ?_) AllReadyH.nil
          go_simp
          have nb0 : Blk (W19.alloc (.cells #[.int .u8 ((dl : Int) % 256), .int .u8 ((dl : Int) / 256)] 5)) (W19.heap.size) [.int .u8 ((dl : Int) % 256), .int .u8 ((dl : Int) / 256)] 5 := Blk.new W19 [.int .u8 ((dl : Int) % 256), .int .u8 ((dl : Int) / 256)] 5
          have nls : Below w.heap.size w W19 := L19.out
          have nl0 := nls.alloc nls.size (.cells #[.int .u8 ((dl : Int) % 256), .int .u8 ((dl : Int) / 256)] 5)
          have nl : Below w.heap.size w (W19.alloc (.cells #[.int .u8 ((dl : Int) % 256), .int .u8 ((dl : Int) / 256)] 5)) := nl0; clear nls nl0
          have o0 : Blk (W19.alloc (.cells #[.int .u8 ((dl : Int) % 256), .int .u8 ((dl : Int) / 256)] 5)) B1 [.int .i64 (f : Int), .int .i64 (t : Int), .bool true, .int .u64 (s : Int), .int .u64 (a : Int), .slice A dl cap] 25 := (K19_0.out.alloc (.cells #[.int .u8 ((dl : Int) % 256), .int .u8 ((dl : Int) / 256)] 5))
          have d20_0 : B1 < W19.heap.size := K19_0.out.lt
          obtain ⟨B20, hB0⟩ : ∃ B, B = W19.heap.size := ⟨_, rfl⟩
          obtain ⟨W20, hW⟩ : ∃ W, W = (W19.alloc (.cells #[.int .u8 ((dl : Int) % 256), .int .u8 ((dl : Int) / 256)] 5)) := ⟨_, rfl⟩
          have hbx : Below W19.heap.size W19 W20 := hW ▸ (Below.refl W19.heap.size W19).alloc (Nat.le_refl _) _
          rw [← hW] at nl nb0 o0
          rw [← hB0] at nb0
          rw [← hW]
          try rw [← hB0]
          have K20_0 := Lib.hid o0
          have K20_1 := Lib.hid nb0
          have G20 : Hid (w.heap.size ≤ B20) := Lib.hid (by have := L19.out.size; omega)
          have x20_0_0 : B1 ≠ B20 := by omega
          have X20_0_0 := Lib.hid x20_0_0; clear x20_0_0
          have L20 := Lib.hid nl
          clear nl hW nb0 hB0 o0 d20_0 K19_0
          refine hK.out _ _ hbx (fun _ => ?_)
          clear hK K
          refine wpAnyH_more (S' := fun w' => Below W20.heap.size W20 w') (fun w' h => hbx.trans (h.mono hbx.size)) _ _ _ _ ?_
          have hH20 : Below W20.heap.size W20 W20 := Below.refl _ _
          clear hbx
          have hcv : ∀ w', Below W20.heap.size W20 w' → (convert 23 9 (.slice (some ⟨B20, 0, none⟩) 2 2)).run Tryd.prog w' = .ok (.string S4) w' := fun w' hb => by rw [HS4.out]; exact (rd_blk (cs := [(dl : Int) % 256, (dl : Int) / 256]) (K20_1.out.below hb K20_1.out.lt) HB4.out (by simp)).conv 2 2 rfl
          refine wpAnyH_take (i := 26) (v := ?_) rfl (by kernel_rfl) (by kernel_rfl) (by kernel_rfl) (fun _ _ _ h => h) (Or.inl ⟨by rfl, ?yldq⟩) (by assumption) ?_
          case yldq => (intro w hSw; (try dsimp only at hSw); go_simp; try with_reducible rfl)
          try simp only [Act.put, List.setIfInBounds_toArray, List.set_cons_zero, List.set_cons_succ, List.getElem_toArray, List.getElem_cons_succ, List.getElem_cons_zero]
          clear hcv
          refine wpAnyH_take (i := 27) (v := ?_) rfl (by kernel_rfl) (by kernel_rfl) (by kernel_rfl) (fun _ _ _ h => h) (Or.inl ⟨by rfl, ?yldq⟩) (by assumption) ?_
          case yldq => (intro w hSw; (try dsimp only at hSw); go_simp; try with_reducible rfl)
          try simp only [Act.put, List.setIfInBounds_toArray, List.set_cons_zero, List.set_cons_succ, List.getElem_toArray, List.getElem_cons_succ, List.getElem_cons_zero]
          refine wpAnyH_take (i := 31) (v := ?_) rfl (by kernel_rfl) (by kernel_rfl) (by kernel_rfl) (fun _ _ _ h => h) (Or.inl ⟨by rfl, ?yldq⟩) (by assumption) ?_
          case yldq => (intro w hSw; (try dsimp only at hSw); go_simp; try with_reducible rfl)
          try simp only [Act.put, List.setIfInBounds_toArray, List.set_cons_zero, List.set_cons_succ, List.getElem_toArray, List.getElem_cons_succ, List.getElem_cons_zero]
          refine wpAnyH_take (i := 32) (v := ?_) rfl (by kernel_rfl) (by kernel_rfl) (by kernel_rfl) (fun _ _ _ h => h) (Or.inl ⟨by rfl, ?yldq⟩) (by assumption) ?_
          case yldq => (intro w hSw; (try dsimp only at hSw); go_simp; try with_reducible rfl)
          try simp only [Act.put, List.setIfInBounds_toArray, List.set_cons_zero, List.set_cons_succ, List.getElem_toArray, List.getElem_cons_succ, List.getElem_cons_zero]
          refine wpAnyH_done (by kernel_rfl) ?_ _
          go_wp2
          go_ret
          exact ⟨by rw [HPP.out]; rfl, L20.out⟩
        · go_simp
          have nb0 : Blk (w18.alloc (.cells #[.int .u8 ((dl : Int) % 256), .int .u8 ((dl : Int) / 256)] 5)) (w18.heap.size) [.int .u8 ((dl : Int) % 256), .int .u8 ((dl : Int) / 256)] 5 := Blk.new w18 [.int .u8 ((dl : Int) % 256), .int .u8 ((dl : Int) / 256)] 5
          have nls : Below w.heap.size w w18 := L18.out
          have nl0 := nls.alloc nls.size (.cells #[.int .u8 ((dl : Int) % 256), .int .u8 ((dl : Int) / 256)] 5)
          have nl : Below w.heap.size w (w18.alloc (.cells #[.int .u8 ((dl : Int) % 256), .int .u8 ((dl : Int) / 256)] 5)) := nl0; clear nls nl0
          have o0 : Blk (w18.alloc (.cells #[.int .u8 ((dl : Int) % 256), .int .u8 ((dl : Int) / 256)] 5)) B1 [.int .i64 (f : Int), .int .i64 (t : Int), .bool true, .int .u64 (s : Int), .int .u64 (a : Int), .slice A dl cap] 25 := (K18_0.out.alloc (.cells #[.int .u8 ((dl : Int) % 256), .int .u8 ((dl : Int) / 256)] 5))
          have d21_0 : B1 < w18.heap.size := K18_0.out.lt
          obtain ⟨B21, hB0⟩ : ∃ B, B = w18.heap.size := ⟨_, rfl⟩
          obtain ⟨W21, hW⟩ : ∃ W, W = (w18.alloc (.cells #[.int .u8 ((dl : Int) % 256), .int .u8 ((dl : Int) / 256)] 5)) := ⟨_, rfl⟩
          have hbx : Below w18.heap.size w18 W21 := hW ▸ (Below.refl w18.heap.size w18).alloc (Nat.le_refl _) _
          rw [← hW] at nl nb0 o0
          rw [← hB0] at nb0
          rw [← hW]
          try rw [← hB0]
          have K21_0 := Lib.hid o0
          have K21_1 := Lib.hid nb0
          have G21 : Hid (w.heap.size ≤ B21) := Lib.hid (by have := L18.out.size; omega)
          have x21_0_0 : B1 ≠ B21 := by omega
          have X21_0_0 := Lib.hid x21_0_0; clear x21_0_0
          have L21 := Lib.hid nl
          clear nl hW nb0 hB0 o0 d21_0 K18_0
          refine hK.out _ _ hbx (fun _ => ?_)
          clear hK K
          refine wpAnyH_more (S' := fun w' => Below W21.heap.size W21 w') (fun w' h => hbx.trans (h.mono hbx.size)) _ _ _ _ ?_
          have hH21 : Below W21.heap.size W21 W21 := Below.refl _ _
          clear hbx
          have hcv : ∀ w', Below W21.heap.size W21 w' → (convert 23 9 (.slice (some ⟨B21, 0, none⟩) 2 2)).run Tryd.prog w' = .ok (.string S4) w' := fun w' hb => by rw [HS4.out]; exact (rd_blk (cs := [(dl : Int) % 256, (dl : Int) / 256]) (K21_1.out.below hb K21_1.out.lt) HB4.out (by simp)).conv 2 2 rfl
          refine wpAnyH_take (i := 26) (v := ?_) rfl (by kernel_rfl) (by kernel_rfl) (by kernel_rfl) (fun _ _ _ h => h) (Or.inl ⟨by rfl, ?yldq⟩) (by assumption) ?_
          case yldq => (intro w hSw; (try dsimp only at hSw); go_simp; try with_reducible rfl)
          try simp only [Act.put, List.setIfInBounds_toArray, List.set_cons_zero, List.set_cons_succ, List.getElem_toArray, List.getElem_cons_succ, List.getElem_cons_zero]
          clear hcv
          refine wpAnyH_ready (rs := [7]) (by kernel_rfl) (by simp) ?_
          refine AllReadyH.cons rfl (fun K hK => ?_) AllReadyH.nil
          go_simp
          have nb0 : Blk (W21.alloc (.cells #[.int .u8 82, .int .u8 82, .int .u8 1, .int .u8 ((f : Int)), .int .u8 ((t : Int))] 5)) (W21.heap.size) [.int .u8 82, .int .u8 82, .int .u8 1, .int .u8 ((f : Int)), .int .u8 ((t : Int))] 5 := Blk.new W21 [.int .u8 82, .int .u8 82, .int .u8 1, .int .u8 ((f : Int)), .int .u8 ((t : Int))] 5
          have nls : Below w.heap.size w W21 := L21.out
          have nl0 := nls.alloc nls.size (.cells #[.int .u8 82, .int .u8 82, .int .u8 1, .int .u8 ((f : Int)), .int .u8 ((t : Int))] 5)
          have nl : Below w.heap.size w (W21.alloc (.cells #[.int .u8 82, .int .u8 82, .int .u8 1, .int .u8 ((f : Int)), .int .u8 ((t : Int))] 5)) := nl0; clear nls nl0
          have o0 : Blk (W21.alloc (.cells #[.int .u8 82, .int .u8 82, .int .u8 1, .int .u8 ((f : Int)), .int .u8 ((t : Int))] 5)) B1 [.int .i64 (f : Int), .int .i64 (t : Int), .bool true, .int .u64 (s : Int), .int .u64 (a : Int), .slice A dl cap] 25 := (K21_0.out.alloc (.cells #[.int .u8 82, .int .u8 82, .int .u8 1, .int .u8 ((f : Int)), .int .u8 ((t : Int))] 5))
          have d22_0 : B1 < W21.heap.size := K21_0.out.lt
          obtain ⟨B22, hB0⟩ : ∃ B, B = W21.heap.size := ⟨_, rfl⟩
          obtain ⟨W22, hW⟩ : ∃ W, W = (W21.alloc (.cells #[.int .u8 82, .int .u8 82, .int .u8 1, .int .u8 ((f : Int)), .int .u8 ((t : Int))] 5)) := ⟨_, rfl⟩
          have hbx : Below W21.heap.size W21 W22 := hW ▸ (Below.refl W21.heap.size W21).alloc (Nat.le_refl _) _
          rw [← hW] at nl nb0 o0
          rw [← hB0] at nb0
          rw [← hW]
          try rw [← hB0]
          have K22_0 := Lib.hid o0
          have K22_1 := Lib.hid nb0
          have G22 : Hid (w.heap.size ≤ B22) := Lib.hid (by have := L21.out.size; omega)
          have x22_0_0 : B1 ≠ B22 := by omega
          have X22_0_0 := Lib.hid x22_0_0; clear x22_0_0
          have L22 := Lib.hid nl
          clear nl hW nb0 hB0 o0 d22_0 K21_0
          refine hK.out _ _ hbx (fun _ => ?_)
          clear hK K
          refine wpAnyH_more (S' := fun w' => Below W22.heap.size W22 w') (fun w' h => hbx.trans (h.mono hbx.size)) _ _ _ _ ?_
          have hH22 : Below W22.heap.size W22 W22 := Below.refl _ _
          clear hbx
          have hcv : ∀ w', Below W22.heap.size W22 w' → (convert 23 9 (.slice (some ⟨B22, 0, none⟩) 5 5)).run Tryd.prog w' = .ok (.string S1) w' := fun w' hb => by rw [HS1.out]; exact (rd_blk (cs := [82, 82, 1, (f : Int), (t : Int)]) (K22_1.out.below hb K22_1.out.lt) HB1.out (by simp)).conv 5 5 rfl
          refine wpAnyH_take (i := 8) (v := ?_) rfl (by kernel_rfl) (by kernel_rfl) (by kernel_rfl) (fun _ _ _ h => h) (Or.inl ⟨by rfl, ?yldq⟩) (by assumption) ?_
          case yldq => (intro w hSw; (try dsimp only at hSw); go_simp; try with_reducible rfl)
          try simp only [Act.put, List.setIfInBounds_toArray, List.set_cons_zero, List.set_cons_succ, List.getElem_toArray, List.getElem_cons_succ, List.getElem_cons_zero]
          clear hcv
          refine wpAnyH_take (i := 13) (v := ?_) rfl (by kernel_rfl) (by kernel_rfl) (by kernel_rfl) (fun _ _ _ h => h) (Or.inl ⟨by rfl, ?yldq⟩) (by assumption) ?_
          case yldq => (intro w hSw; (try dsimp only at hSw); go_simp; try with_reducible rfl)
          try simp only [Act.put, List.setIfInBounds_toArray, List.set_cons_zero, List.set_cons_succ, List.getElem_toArray, List.getElem_cons_succ, List.getElem_cons_zero]
          refine wpAnyH_take (i := 18) (v := ?_) rfl (by kernel_rfl) (by kernel_rfl) (by kernel_rfl) (fun _ _ _ h => h) (Or.inl ⟨by rfl, ?yldq⟩) (by assumption) ?_
          case yldq => (intro w hSw; (try dsimp only at hSw); go_simp; try with_reducible rfl)
          try simp only [Act.put, List.setIfInBounds_toArray, List.set_cons_zero, List.set_cons_succ, List.getElem_toArray, List.getElem_cons_succ, List.getElem_cons_zero]
          refine wpAnyH_take (i := 27) (v := ?_) rfl (by kernel_rfl) (by kernel_rfl) (by kernel_rfl) (fun _ _ _ h => h) (Or.inl ⟨by rfl, ?yldq⟩) (by assumption) ?_
          case yldq => (intro w hSw; (try dsimp only at hSw); go_simp; try with_reducible rfl)
          try simp only [Act.put, List.setIfInBounds_toArray, List.set_cons_zero, List.set_cons_succ, List.getElem_toArray, List.getElem_cons_succ, List.getElem_cons_zero]
          refine wpAnyH_take (i := 31) (v := ?_) rfl (by kernel_rfl) (by kernel_rfl) (by kernel_rfl) (fun _ _ _ h => h) (Or.inl ⟨by rfl, ?yldq⟩) (by assumption) ?_
          case yldq => (intro w hSw; (try dsimp only at hSw); go_simp; try with_reducible rfl)
          try simp only [Act.put, List.setIfInBounds_toArray, List.set_cons_zero, List.set_cons_succ, List.getElem_toArray, List.getElem_cons_succ, List.getElem_cons_zero]
          refine wpAnyH_take (i := 32) (v := ?_) rfl (by kernel_rfl) (by kernel_rfl) (by kernel_rfl) (fun _ _ _ h => h) (Or.inl ⟨by rfl, ?yldq⟩) (by assumption) ?_
          case yldq => (intro w hSw; (try dsimp only at hSw); go_simp; try with_reducible rfl)
          try simp only [Act.put, List.setIfInBounds_toArray, List.set_cons_zero, List.set_cons_succ, List.getElem_toArray, List.getElem_cons_succ, List.getElem_cons_zero]
          refine wpAnyH_done (by kernel_rfl) ?_ _
          go_wp2
          go_ret
          exact ⟨by rw [HPP.out]; rfl, L22.out⟩
      · go_simp
        have nb0 : Blk (w12.alloc (.cells #[.int .u8 ((dl : Int) % 256), .int .u8 ((dl : Int) / 256)] 5)) (w12.heap.size) [.int .u8 ((dl : Int) % 256), .int .u8 ((dl : Int) / 256)] 5 := Blk.new w12 [.int .u8 ((dl : Int) % 256), .int .u8 ((dl : Int) / 256)] 5
        have nls : Below w.heap.size w w12 := L12.out
        have nl0 := nls.alloc nls.size (.cells #[.int .u8 ((dl : Int) % 256), .int .u8 ((dl : Int) / 256)] 5)
        have nl : Below w.heap.size w (w12.alloc (.cells #[.int .u8 ((dl : Int) % 256), .int .u8 ((dl : Int) / 256)] 5)) := nl0; clear nls nl0
        have o0 : Blk (w12.alloc (.cells #[.int .u8 ((dl : Int) % 256), .int .u8 ((dl : Int) / 256)] 5)) B1 [.int .i64 (f : Int), .int .i64 (t : Int), .bool true, .int .u64 (s : Int), .int .u64 (a : Int), .slice A dl cap] 25 := (K12_0.out.alloc (.cells #[.int .u8 ((dl : Int) % 256), .int .u8 ((dl : Int) / 256)] 5))
        have d23_0 : B1 < w12.heap.size := K12_0.out.lt
        obtain ⟨B23, hB0⟩ : ∃ B, B = w12.heap.size := ⟨_, rfl⟩
        obtain ⟨W23, hW⟩ : ∃ W, W = (w12.alloc (.cells #[.int .u8 ((dl : Int) % 256), .int .u8 ((dl : Int) / 256)] 5)) := ⟨_, rfl⟩
        have hbx : Below w12.heap.size w12 W23 := hW ▸ (Below.refl w12.heap.size w12).alloc (Nat.le_refl _) _
        rw [← hW] at nl nb0 o0
        rw [← hB0] at nb0
        rw [← hW]
        try rw [← hB0]
        have K23_0 := Lib.hid o0
        have K23_1 := Lib.hid nb0
        have G23 : Hid (w.heap.size ≤ B23) := Lib.hid (by have := L12.out.size; omega)
        have x23_0_0 : B1 ≠ B23 := by omega
        have X23_0_0 := Lib.hid x23_0_0; clear x23_0_0
        have L23 := Lib.hid nl
        clear nl hW nb0 hB0 o0 d23_0 K12_0
        refine hK.out _ _ hbx (fun _ => ?_)
        clear hK K
        refine wpAnyH_more (S' := fun w' => Below W23.heap.size W23 w') (fun w' h => hbx.trans (h.mono hbx.size)) _ _ _ _ ?_
        have hH23 : Below W23.heap.size W23 W23 := Below.refl _ _
        clear hbx
        have hcv : ∀ w', Below W23.heap.size W23 w' → (convert 23 9 (.slice (some ⟨B23, 0, none⟩) 2 2)).run Tryd.prog w' = .ok (.string S4) w' := fun w' hb => by rw [HS4.out]; exact (rd_blk (cs := [(dl : Int) % 256, (dl : Int) / 256]) (K23_1.out.below hb K23_1.out.lt) HB4.out (by simp)).conv 2 2 rfl
        refine wpAnyH_take (i := 26) (v := ?_) rfl (by kernel_rfl) (by kernel_rfl) (by kernel_rfl) (fun _ _ _ h => h) (Or.inl ⟨by rfl, ?yldq⟩) (by assumption) ?_
        case yldq => (intro w hSw; (try dsimp only at hSw); go_simp; try with_reducible rfl)
        try simp only [Act.put, List.setIfInBounds_toArray, List.set_cons_zero, List.set_cons_succ, List.getElem_toArray, List.getElem_cons_succ, List.getElem_cons_zero]
        clear hcv
        refine wpAnyH_ready (rs := [7, 16]) (by kernel_rfl) (by simp) ?_
        refine AllReadyH.cons rfl (fun K hK => ?_) (AllReadyH.cons rfl (fun K hK => ?_) AllReadyH.nil)
        · go_simp
          have nb0 : Blk (W23.alloc (.cells #[.int .u8 82, .int .u8 82, .int .u8 1, .int .u8 ((f : Int)), .int .u8 ((t : Int))] 5)) (W23.heap.size) [.int .u8 82, .int .u8 82, .int .u8 1, .int .u8 ((f : Int)), .int .u8 ((t : Int))] 5 := Blk.new W23 [.int .u8 82, .int .u8 82, .int .u8 1, .int .u8 ((f : Int)), .int .u8 ((t : Int))] 5
          have nls : Below w.heap.size w W23 := L23.out
          have nl0 := nls.alloc nls.size (.cells #[.int .u8 82, .int .u8 82, .int .u8 1, .int .u8 ((f : Int)), .int .u8 ((t : Int))] 5)
          have nl : Below w.heap.size w (W23.alloc (.cells #[.int .u8 82, .int .u8 82, .int .u8 1, .int .u8 ((f : Int)), .int .u8 ((t : Int))] 5)) := nl0; clear nls nl0
          have o0 : Blk (W23.alloc (.cells #[.int .u8 82, .int .u8 82, .int .u8 1, .int .u8 ((f : Int)), .int .u8 ((t : Int))] 5)) B1 [.int .i64 (f : Int), .int .i64 (t : Int), .bool true, .int .u64 (s : Int), .int .u64 (a : Int), .slice A dl cap] 25 := (K23_0.out.alloc (.cells #[.int .u8 82, .int .u8 82, .int .u8 1, .int .u8 ((f : Int)), .int .u8 ((t : Int))] 5))
          have d24_0 : B1 < W23.heap.size := K23_0.out.lt
          obtain ⟨B24, hB0⟩ : ∃ B, B = W23.heap.size := ⟨_, rfl⟩
          obtain ⟨W24, hW⟩ : ∃ W, W = (W23.alloc (.cells #[.int .u8 82, .int .u8 82, .int .u8 1, .int .u8 ((f : Int)), .int .u8 ((t : Int))] 5)) := ⟨_, rfl⟩
          have hbx : Below W23.heap.size W23 W24 := hW ▸ (Below.refl W23.heap.size W23).alloc (Nat.le_refl _) _
          rw [← hW] at nl nb0 o0
          rw [← hB0] at nb0
          rw [← hW]
          try rw [← hB0]
          have K24_0 := Lib.hid o0
          have K24_1 := Lib.hid nb0
          have G24 : Hid (w.heap.size ≤ B24) := Lib.hid (by have := L23.out.size; omega)
          have x24_0_0 : B1 ≠ B24 := by omega
          have X24_0_0 := Lib.hid x24_0_0; clear x24_0_0
          have L24 := Lib.hid nl
          clear nl hW nb0 hB0 o0 d24_0 K23_0
          refine hK.out _ _ hbx (fun _ => ?_)
          clear hK K
          refine wpAnyH_more (S' := fun w' => Below W24.heap.size W24 w') (fun w' h => hbx.trans (h.mono hbx.size)) _ _ _ _ ?_
          have hH24 : Below W24.heap.size W24 W24 := Below.refl _ _
          clear hbx
          have hcv : ∀ w', Below W24.heap.size W24 w' → (convert 23 9 (.slice (some ⟨B24, 0, none⟩) 5 5)).run Tryd.prog w' = .ok (.string S1) w' := fun w' hb => by rw [HS1.out]; exact (rd_blk (cs := [82, 82, 1, (f : Int), (t : Int)]) (K24_1.out.below hb K24_1.out.lt) HB1.out (by simp)).conv 5 5 rfl
          refine wpAnyH_take (i := 8) (v := ?_) rfl (by kernel_rfl) (by kernel_rfl) (by kernel_rfl) (fun _ _ _ h => h) (Or.inl ⟨by rfl, ?yldq⟩) (by assumption) ?_
          case yldq => (intro w hSw; (try dsimp only at hSw); go_simp; try with_reducible rfl)
          try simp only [Act.put, List.setIfInBounds_toArray, List.set_cons_zero, List.set_cons_succ, List.getElem_toArray, List.getElem_cons_succ, List.getElem_cons_zero]
          clear hcv
          refine wpAnyH_take (i := 13) (v := ?_) rfl (by kernel_rfl) (by kernel_rfl) (by kernel_rfl) (fun _ _ _ h => h) (Or.inl ⟨by rfl, ?yldq⟩) (by assumption) ?_
          case yldq => (intro w hSw; (try dsimp only at hSw); go_simp; try with_reducible rfl)
          try simp only [Act.put, List.setIfInBounds_toArray, List.set_cons_zero, List.set_cons_succ, List.getElem_toArray, List.getElem_cons_succ, List.getElem_cons_zero]
          refine wpAnyH_ready (rs := [16]) (by kernel_rfl) (by simp) ?_
          refine AllReadyH.cons rfl (fun K hK => ?_) AllReadyH.nil
          go_simp
          refine (rbytes_yes (a : Int) 8 _ (.inr (.inr (.inr rfl))) (by omega) (by omega)).mono ?_
          rintro e w25 ⟨y25, rfl, ho, hb⟩
          have L25 := Lib.hid (L24.out.trans (hb.mono L24.out.size))
          have K25_0 := Lib.hid (K24_0.out.below hb K24_0.out.lt)
          have hbx := hb
          clear hb K24_0
          obtain ⟨A25, cap25, rfl, hrd⟩ := ho.rd (byt_Byt 8 _) (by rw [byt_len]; omega)
          have HRD := Lib.hid hrd
          clear ho hrd
          rw [byt_len]
          refine hK.out _ _ hbx (fun _ => ?_)
          clear hK K
          refine wpAnyH_more (S' := fun w' => Below w25.heap.size w25 w') (fun w' h => hbx.trans (h.mono hbx.size)) _ _ _ _ ?_
          have hH25 : Below w25.heap.size w25 w25 := Below.refl _ _
          clear hbx
          have hcv : ∀ w', Below w25.heap.size w25 w' → (convert 23 9 (.slice A25 8 cap25)).run Tryd.prog w' = .ok (.string S3) w' := fun w' hb => by rw [HS3.out]; exact (HRD.out.below hb).conv 8 cap25 (byt_len _ _)
          refine wpAnyH_take (i := 17) (v := ?_) rfl (by kernel_rfl) (by kernel_rfl) (by kernel_rfl) (fun _ _ _ h => h) (Or.inl ⟨by rfl, ?yldq⟩) (by assumption) ?_
          case yldq => (intro w hSw; (try dsimp only at hSw); go_simp; try with_reducible rfl)
          try simp only [Act.put, List.setIfInBounds_toArray, List.set_cons_zero, List.set_cons_succ, List.getElem_toArray, List.getElem_cons_succ, List.getElem_cons_zero]
          clear hcv
          refine wpAnyH_take (i := 18) (v := ?_) rfl (by kernel_rfl) (by kernel_rfl) (by kernel_rfl) (fun _ _ _ h => h) (Or.inl ⟨by rfl, ?yldq⟩) (by assumption) ?_
          case yldq => (intro w hSw; (try dsimp only at hSw); go_simp; try with_reducible rfl)
          try simp only [Act.put, List.setIfInBounds_toArray, List.set_cons_zero, List.set_cons_succ, List.getElem_toArray, List.getElem_cons_succ, List.getElem_cons_zero]
          refine wpAnyH_take (i := 27) (v := ?_) rfl (by kernel_rfl) (by kernel_rfl) (by kernel_rfl) (fun _ _ _ h => h) (Or.inl ⟨by rfl, ?yldq⟩) (by assumption) ?_
          case yldq => (intro w hSw; (try dsimp only at hSw); go_simp; try with_reducible rfl)
          try simp only [Act.put, List.setIfInBounds_toArray, List.set_cons_zero, List.set_cons_succ, List.getElem_toArray, List.getElem_cons_succ, List.getElem_cons_zero]
          refine wpAnyH_take (i := 31) (v := ?_) rfl (by kernel_rfl) (by kernel_rfl) (by kernel_rfl) (fun _ _ _ h => h) (Or.inl ⟨by rfl, ?yldq⟩) (by assumption) ?_
          case yldq => (intro w hSw; (try dsimp only at hSw); go_simp; try with_reducible rfl)
          try simp only [Act.put, List.setIfInBounds_toArray, List.set_cons_zero, List.set_cons_succ, List.getElem_toArray, List.getElem_cons_succ, List.getElem_cons_zero]
          refine wpAnyH_take (i := 32) (v := ?_) rfl (by kernel_rfl) (by kernel_rfl) (by kernel_rfl) (fun _ _ _ h => h) (Or.inl ⟨by rfl, ?yldq⟩) (by assumption) ?_
          case yldq => (intro w hSw; (try dsimp only at hSw); go_simp; try with_reducible rfl)
          try simp only [Act.put, List.setIfInBounds_toArray, List.set_cons_zero, List.set_cons_succ, List.getElem_toArray, List.getElem_cons_succ, List.getElem_cons_zero]
          refine wpAnyH_done (by kernel_rfl) ?_ _
          go_wp2
          go_ret
          exact ⟨by rw [HPP.out]; rfl, L25.out⟩
        · go_simp
          refine (rbytes_yes (a : Int) 8 _ (.inr (.inr (.inr rfl))) (by omega) (by omega)).mono ?_
          rintro e w26 ⟨y26, rfl, ho, hb⟩
          have L26 := Lib.hid (L23.out.trans (hb.mono L23.out.size))
          have K26_0 := Lib.hid (K23_0.out.below hb K23_0.out.lt)
          have hbx := hb
          clear hb K23_0
          obtain ⟨A26, cap26, rfl, hrd⟩ := ho.rd (byt_Byt 8 _) (by rw [byt_len]; omega)
          have HRD := Lib.hid hrd
          clear ho hrd
          rw [byt_len]
          refine hK.out _ _ hbx (fun _ => ?_)
          clear hK K
          refine wpAnyH_more (S' := fun w' => Below w26.heap.size w26 w') (fun w' h => hbx.trans (h.mono hbx.size)) _ _ _ _ ?_
          have hH26 : Below w26.heap.size w26 w26 := Below.refl _ _
          clear hbx
          have hcv : ∀ w', Below w26.heap.size w26 w' → (convert 23 9 (.slice A26 8 cap26)).run Tryd.prog w' = .ok (.string S3) w' := fun w' hb => by rw [HS3.out]; exact (HRD.out.below hb).conv 8 cap26 (byt_len _ _)
          refine wpAnyH_take (i := 17) (v := ?_) rfl (by kernel_rfl) (by kernel_rfl) (by kernel_rfl) (fun _ _ _ h => h) (Or.inl ⟨by rfl, ?yldq⟩) (by assumption) ?_
          case yldq => (intro w hSw; (try dsimp only at hSw); go_simp; try with_reducible rfl)
          try simp only [Act.put, List.setIfInBounds_toArray, List.set_cons_zero, List.set_cons_succ, List.getElem_toArray, List.getElem_cons_succ, List.getElem_cons_zero]
          clear hcv
          refine wpAnyH_ready (rs := [7]) (by kernel_rfl) (by simp) ?_
          refine AllReadyH.cons rfl (fun K hK => ?_) AllReadyH.nil
          go_simp
          have nb0 : Blk (w26.alloc (.cells #[.int .u8 82, .int .u8 82, .int .u8 1, .int .u8 ((f : Int)), .int .u8 ((t : Int))] 5)) (w26.heap.size) [.int .u8 82, .int .u8 82, .int .u8 1, .int .u8 ((f : Int)), .int .u8 ((t : Int))] 5 := Blk.new w26 [.int .u8 82, .int .u8 82, .int .u8 1, .int .u8 ((f : Int)), .int .u8 ((t : Int))] 5
          have nls : Below w.heap.size w w26 := L26.out
          have nl0 := nls.alloc nls.size (.cells #[.int .u8 82, .int .u8 82, .int .u8 1, .int .u8 ((f : Int)), .int .u8 ((t : Int))] 5)
          have nl : Below w.heap.size w (w26.alloc (.cells #[.int .u8 82, .int .u8 82, .int .u8 1, .int .u8 ((f : Int)), .int .u8 ((t : Int))] 5)) := nl0; clear nls nl0
          have o0 : Blk (w26.alloc (.cells #[.int .u8 82, .int .u8 82, .int .u8 1, .int .u8 ((f : Int)), .int .u8 ((t : Int))] 5)) B1 [.int .i64 (f : Int), .int .i64 (t : Int), .bool true, .int .u64 (s : Int), .int .u64 (a : Int), .slice A dl cap] 25 := (K26_0.out.alloc (.cells #[.int .u8 82, .int .u8 82, .int .u8 1, .int .u8 ((f : Int)), .int .u8 ((t : Int))] 5))
          have d27_0 : B1 < w26.heap.size := K26_0.out.lt
          obtain ⟨B27, hB0⟩ : ∃ B, B = w26.heap.size := ⟨_, rfl⟩
          obtain ⟨W27, hW⟩ : ∃ W, W = (w26.alloc (.cells #[.int .u8 82, .int .u8 82, .int .u8 1, .int .u8 ((f : Int)), .int .u8 ((t : Int))] 5)) := ⟨_, rfl⟩
          have hbx : Below w26.heap.size w26 W27 := hW ▸ (Below.refl w26.heap.size w26).alloc (Nat.le_refl _) _
          rw [← hW] at nl nb0 o0
          rw [← hB0] at nb0
          rw [← hW]
          try rw [← hB0]
          have K27_0 := Lib.hid o0
          have K27_1 := Lib.hid nb0
          have G27 : Hid (w.heap.size ≤ B27) := Lib.hid (by have := L26.out.size; omega)
          have x27_0_0 : B1 ≠ B27 := by omega
          have X27_0_0 := Lib.hid x27_0_0; clear x27_0_0
          have L27 := Lib.hid nl
          clear nl hW nb0 hB0 o0 d27_0 K26_0
          refine hK.out _ _ hbx (fun _ => ?_)
          clear hK K
          refine wpAnyH_more (S' := fun w' => Below W27.heap.size W27 w') (fun w' h => hbx.trans (h.mono hbx.size)) _ _ _ _ ?_
          have hH27 : Below W27.heap.size W27 W27 := Below.refl _ _
          clear hbx
          have hcv : ∀ w', Below W27.heap.size W27 w' → (convert 23 9 (.slice (some ⟨B27, 0, none⟩) 5 5)).run Tryd.prog w' = .ok (.string S1) w' := fun w' hb => by rw [HS1.out]; exact (rd_blk (cs := [82, 82, 1, (f : Int), (t : Int)]) (K27_1.out.below hb K27_1.out.lt) HB1.out (by simp)).conv 5 5 rfl
          refine wpAnyH_take (i := 8) (v := ?_) rfl (by kernel_rfl) (by kernel_rfl) (by kernel_rfl) (fun _ _ _ h => h) (Or.inl ⟨by rfl, ?yldq⟩) (by assumption) ?_
          case yldq => (intro w hSw; (try dsimp only at hSw); go_simp; try with_reducible rfl)
          try simp only [Act.put, List.setIfInBounds_toArray, List.set_cons_zero, List.set_cons_succ, List.getElem_toArray, List.getElem_cons_succ, List.getElem_cons_zero]
          clear hcv
          refine wpAnyH_take (i := 13) (v := ?_) rfl (by kernel_rfl) (by kernel_rfl) (by kernel_rfl) (fun _ _ _ h => h) (Or.inl ⟨by rfl, ?yldq⟩) (by assumption) ?_
          case yldq => (intro w hSw; (try dsimp only at hSw); go_simp; try with_reducible rfl)
          try simp only [Act.put, List.setIfInBounds_toArray, List.set_cons_zero, List.set_cons_succ, List.getElem_toArray, List.getElem_cons_succ, List.getElem_cons_zero]
          refine wpAnyH_take (i := 18) (v := ?_) rfl (by kernel_rfl) (by kernel_rfl) (by kernel_rfl) (fun _ _ _ h => h) (Or.inl ⟨by rfl, ?yldq⟩) (by assumption) ?_
          case yldq => (intro w hSw; (try dsimp only at hSw); go_simp; try with_reducible rfl)
          try simp only [Act.put, List.setIfInBounds_toArray, List.set_cons_zero, List.set_cons_succ, List.getElem_toArray, List.getElem_cons_succ, List.getElem_cons_zero]
          refine wpAnyH_take (i := 27) (v := ?_) rfl (by kernel_rfl) (by kernel_rfl) (by kernel_rfl) (fun _ _ _ h => h) (Or.inl ⟨by rfl, ?yldq⟩) (by assumption) ?_
          case yldq => (intro w hSw; (try dsimp only at hSw); go_simp; try with_reducible rfl)
          try simp only [Act.put, List.setIfInBounds_toArray, List.set_cons_zero, List.set_cons_succ, List.getElem_toArray, List.getElem_cons_succ, List.getElem_cons_zero]
          refine wpAnyH_take (i := 31) (v := ?_) rfl (by kernel_rfl) (by kernel_rfl) (by kernel_rfl) (fun _ _ _ h => h) (Or.inl ⟨by rfl, ?yldq⟩) (by assumption) ?_
          case yldq => (intro w hSw; (try dsimp only at hSw); go_simp; try with_reducible rfl)
          try simp only [Act.put, List.setIfInBounds_toArray, List.set_cons_zero, List.set_cons_succ, List.getElem_toArray, List.getElem_cons_succ, List.getElem_cons_zero]
          refine wpAnyH_take (i := 32) (v := ?_) rfl (by kernel_rfl) (by kernel_rfl) (by kernel_rfl) (fun _ _ _ h => h) (Or.inl ⟨by rfl, ?yldq⟩) (by assumption) ?_
          case yldq => (intro w hSw; (try dsimp only at hSw); go_simp; try with_reducible rfl)
          try simp only [Act.put, List.setIfInBounds_toArray, List.set_cons_zero, List.set_cons_succ, List.getElem_toArray, List.getElem_cons_succ, List.getElem_cons_zero]
          refine wpAnyH_done (by kernel_rfl) ?_ _
          go_wp2
          go_ret
          exact ⟨by rw [HPP.out]; rfl, L27.out⟩
    · go_simp
      have nb0 : Blk (D2.alloc (.cells #[.int .u8 ((dl : Int) % 256), .int .u8 ((dl : Int) / 256)] 5)) (D2.heap.size) [.int .u8 ((dl : Int) % 256), .int .u8 ((dl : Int) / 256)] 5 := Blk.new D2 [.int .u8 ((dl : Int) % 256), .int .u8 ((dl : Int) / 256)] 5
      have nls : Below w.heap.size w D2 := L2.out
      have nl0 := nls.alloc nls.size (.cells #[.int .u8 ((dl : Int) % 256), .int .u8 ((dl : Int) / 256)] 5)
      have nl : Below w.heap.size w (D2.alloc (.cells #[.int .u8 ((dl : Int) % 256), .int .u8 ((dl : Int) / 256)] 5)) := nl0; clear nls nl0
      have o0 : Blk (D2.alloc (.cells #[.int .u8 ((dl : Int) % 256), .int .u8 ((dl : Int) / 256)] 5)) B1 [.int .i64 (f : Int), .int .i64 (t : Int), .bool true, .int .u64 (s : Int), .int .u64 (a : Int), .slice A dl cap] 25 := (K2_0.out.alloc (.cells #[.int .u8 ((dl : Int) % 256), .int .u8 ((dl : Int) / 256)] 5))
      have d28_0 : B1 < D2.heap.size := K2_0.out.lt
      obtain ⟨B28, hB0⟩ : ∃ B, B = D2.heap.size := ⟨_, rfl⟩
      obtain ⟨W28, hW⟩ : ∃ W, W = (D2.alloc (.cells #[.int .u8 ((dl : Int) % 256), .int .u8 ((dl : Int) / 256)] 5)) := ⟨_, rfl⟩
      have hbx : Below D2.heap.size D2 W28 := hW ▸ (Below.refl D2.heap.size D2).alloc (Nat.le_refl _) _
      rw [← hW] at nl nb0 o0
      rw [← hB0] at nb0
      rw [← hW]
      try rw [← hB0]
      have K28_0 := Lib.hid o0
      have K28_1 := Lib.hid nb0
      have G28 : Hid (w.heap.size ≤ B28) := Lib.hid (by have := L2.out.size; omega)
      have x28_0_0 : B1 ≠ B28 := by omega
      have X28_0_0 := Lib.hid x28_0_0; clear x28_0_0
      have L28 := Lib.hid nl
      clear nl hW nb0 hB0 o0 d28_0 K2_0
      refine hK.out _ _ hbx (fun _ => ?_)
      clear hK K
      refine wpAnyH_more (S' := fun w' => Below W28.heap.size W28 w') (fun w' h => hbx.trans (h.mono hbx.size)) _ _ _ _ ?_
      have hH28 : Below W28.heap.size W28 W28 := Below.refl _ _
      clear hbx
      have hcv : ∀ w', Below W28.heap.size W28 w' → (convert 23 9 (.slice (some ⟨B28, 0, none⟩) 2 2)).run Tryd.prog w' = .ok (.string S4) w' := fun w' hb => by rw [HS4.out]; exact (rd_blk (cs := [(dl : Int) % 256, (dl : Int) / 256]) (K28_1.out.below hb K28_1.out.lt) HB4.out (by simp)).conv 2 2 rfl
      refine wpAnyH_take (i := 26) (v := ?_) rfl (by kernel_rfl) (by kernel_rfl) (by kernel_rfl) (fun _ _ _ h => h) (Or.inl ⟨by rfl, ?yldq⟩) (by assumption) ?_
      case yldq => (intro w hSw; (try dsimp only at hSw); go_simp; try with_reducible rfl)
      try simp only [Act.put, List.setIfInBounds_toArray, List.set_cons_zero, List.set_cons_succ, List.getElem_toArray, List.getElem_cons_succ, List.getElem_cons_zero]
      clear hcv
      refine wpAnyH_ready (rs := [7, 11]) (by kernel_rfl) (by simp) ?_
      refine AllReadyH.cons rfl (fun K hK => ?_) (AllReadyH.cons rfl (fun K hK => ?_) AllReadyH.nil)
      · go_simp
        have nb0 : Blk (W28.alloc (.cells #[.int .u8 82, .int .u8 82, .int .u8 1, .int .u8 ((f : Int)), .int .u8 ((t : Int))] 5)) (W28.heap.size) [.int .u8 82, .int .u8 82, .int .u8 1, .int .u8 ((f : Int)), .int .u8 ((t : Int))] 5 := Blk.new W28 [.int .u8 82, .int .u8 82, .int .u8 1, .int .u8 ((f : Int)), .int .u8 ((t : Int))] 5
        have nls : Below w.heap.size w W28 := L28.out
        have nl0 := nls.alloc nls.size (.cells #[.int .u8 82, .int .u8 82, .int .u8 1, .int .u8 ((f : Int)), .int .u8 ((t : Int))] 5)
        have nl : Below w.heap.size w (W28.alloc (.cells #[.int .u8 82, .int .u8 82, .int .u8 1, .int .u8 ((f : Int)), .int .u8 ((t : Int))] 5)) := nl0; clear nls nl0
        have o0 : Blk (W28.alloc (.cells #[.int .u8 82, .int .u8 82, .int .u8 1, .int .u8 ((f : Int)), .int .u8 ((t : Int))] 5)) B1 [.int .i64 (f : Int), .int .i64 (t : Int), .bool true, .int .u64 (s : Int), .int .u64 (a : Int), .slice A dl cap] 25 := (K28_0.out.alloc (.cells #[.int .u8 82, .int .u8 82, .int .u8 1, .int .u8 ((f : Int)), .int .u8 ((t : Int))] 5))
        have d29_0 : B1 < W28.heap.size := K28_0.out.lt
        obtain ⟨B29, hB0⟩ : ∃ B, B = W28.heap.size := ⟨_, rfl⟩
        obtain ⟨W29, hW⟩ : ∃ W, W = (W28.alloc (.cells #[.int .u8 82, .int .u8 82, .int .u8 1, .int .u8 ((f : Int)), .int .u8 ((t : Int))] 5)) := ⟨_, rfl⟩
        have hbx : Below W28.heap.size W28 W29 := hW ▸ (Below.refl W28.heap.size W28).alloc (Nat.le_refl _) _
        rw [← hW] at nl nb0 o0
        rw [← hB0] at nb0
        rw [← hW]
        try rw [← hB0]
        have K29_0 := Lib.hid o0
        have K29_1 := Lib.hid nb0
        have G29 : Hid (w.heap.size ≤ B29) := Lib.hid (by have := L28.out.size; omega)
        have x29_0_0 : B1 ≠ B29 := by omega
        have X29_0_0 := Lib.hid x29_0_0; clear x29_0_0
        have L29 := Lib.hid nl
        clear nl hW nb0 hB0 o0 d29_0 K28_0
        refine hK.out _ _ hbx (fun _ => ?_)
        clear hK K
        refine wpAnyH_more (S' := fun w' => Below W29.heap.size W29 w') (fun w' h => hbx.trans (h.mono hbx.size)) _ _ _ _ ?_
        have hH29 : Below W29.heap.size W29 W29 := Below.refl _ _
        clear hbx
        have hcv : ∀ w', Below W29.heap.size W29 w' → (convert 23 9 (.slice (some ⟨B29, 0, none⟩) 5 5)).run Tryd.prog w' = .ok (.string S1) w' := fun w' hb => by rw [HS1.out]; exact (rd_blk (cs := [82, 82, 1, (f : Int), (t : Int)]) (K29_1.out.below hb K29_1.out.lt) HB1.out (by simp)).conv 5 5 rfl
        refine wpAnyH_take (i := 8) (v := ?_) rfl (by kernel_rfl) (by kernel_rfl) (by kernel_rfl) (fun _ _ _ h => h) (Or.inl ⟨by rfl, ?yldq⟩) (by assumption) ?_
        case yldq => (intro w hSw; (try dsimp only at hSw); go_simp; try with_reducible rfl)
        try simp only [Act.put, List.setIfInBounds_toArray, List.set_cons_zero, List.set_cons_succ, List.getElem_toArray, List.getElem_cons_succ, List.getElem_cons_zero]
        clear hcv
        refine wpAnyH_ready (rs := [11]) (by kernel_rfl) (by simp) ?_
        refine AllReadyH.cons rfl (fun K hK => ?_) AllReadyH.nil
        go_simp
        refine (rbytes_yes (s : Int) 8 _ (.inr (.inr (.inr rfl))) (by omega) (by omega)).mono ?_
        rintro e w30 ⟨y30, rfl, ho, hb⟩
        have L30 := Lib.hid (L29.out.trans (hb.mono L29.out.size))
        have K30_0 := Lib.hid (K29_0.out.below hb K29_0.out.lt)
        have hbx := hb
        clear hb K29_0
        obtain ⟨A30, cap30, rfl, hrd⟩ := ho.rd (byt_Byt 8 _) (by rw [byt_len]; omega)
        have HRD := Lib.hid hrd
        clear ho hrd
        rw [byt_len]
        refine hK.out _ _ hbx (fun _ => ?_)
        clear hK K
        refine wpAnyH_more (S' := fun w' => Below w30.heap.size w30 w') (fun w' h => hbx.trans (h.mono hbx.size)) _ _ _ _ ?_
        have hH30 : Below w30.heap.size w30 w30 := Below.refl _ _
        clear hbx
        have hcv : ∀ w', Below w30.heap.size w30 w' → (convert 23 9 (.slice A30 8 cap30)).run Tryd.prog w' = .ok (.string S2) w' := fun w' hb => by rw [HS2.out]; exact (HRD.out.below hb).conv 8 cap30 (byt_len _ _)
        refine wpAnyH_take (i := 12) (v := ?_) rfl (by kernel_rfl) (by kernel_rfl) (by kernel_rfl) (fun _ _ _ h => h) (Or.inl ⟨by rfl, ?yldq⟩) (by assumption) ?_
        case yldq => (intro w hSw; (try dsimp only at hSw); go_simp; try with_reducible rfl)
        try simp only [Act.put, List.setIfInBounds_toArray, List.set_cons_zero, List.set_cons_succ, List.getElem_toArray, List.getElem_cons_succ, List.getElem_cons_zero]
        clear hcv
        refine wpAnyH_take (i := 13) (v := ?_) rfl (by kernel_rfl) (by kernel_rfl) (by kernel_rfl) (fun _ _ _ h => h) (Or.inl ⟨by rfl, ?yldq⟩) (by assumption) ?_
        case yldq => (intro w hSw; (try dsimp only at hSw); go_simp; try with_reducible rfl)
        try simp only [Act.put, List.setIfInBounds_toArray, List.set_cons_zero, List.set_cons_succ, List.getElem_toArray, List.getElem_cons_succ, List.getElem_cons_zero]
        refine wpAnyH_ready (rs := [16]) (by kernel_rfl) (by simp) ?_
        refine AllReadyH.cons rfl (fun K hK => ?_) AllReadyH.nil
        go_simp
        refine (rbytes_yes (a : Int) 8 _ (.inr (.inr (.inr rfl))) (by omega) (by omega)).mono ?_
        rintro e w31 ⟨y31, rfl, ho, hb⟩
        have L31 := Lib.hid (L30.out.trans (hb.mono L30.out.size))
        have K31_0 := Lib.hid (K30_0.out.below hb K30_0.out.lt)
        have hbx := hb
        clear hb K30_0
        obtain ⟨A31, cap31, rfl, hrd⟩ := ho.rd (byt_Byt 8 _) (by rw [byt_len]; omega)
        have HRD := Lib.hid hrd
        clear ho hrd
        rw [byt_len]
        refine hK.out _ _ hbx (fun _ => ?_)
        clear hK K
        refine wpAnyH_more (S' := fun w' => Below w31.heap.size w31 w') (fun w' h => hbx.trans (h.mono hbx.size)) _ _ _ _ ?_
        have hH31 : Below w31.heap.size w31 w31 := Below.refl _ _
        clear hbx
        have hcv : ∀ w', Below w31.heap.size w31 w' → (convert 23 9 (.slice A31 8 cap31)).run Tryd.prog w' = .ok (.string S3) w' := fun w' hb => by rw [HS3.out]; exact (HRD.out.below hb).conv 8 cap31 (byt_len _ _)
        refine wpAnyH_take (i := 17) (v := ?_) rfl (by kernel_rfl) (by kernel_rfl) (by kernel_rfl) (fun _ _ _ h => h) (Or.inl ⟨by rfl, ?yldq⟩) (by assumption) ?_
        case yldq => (intro w hSw; (try dsimp only at hSw); go_simp; try with_reducible rfl)
        try simp only [Act.put, List.setIfInBounds_toArray, List.set_cons_zero, List.set_cons_succ, List.getElem_toArray, List.getElem_cons_succ, List.getElem_cons_zero]
        clear hcv
        refine wpAnyH_take (i := 18) (v := ?_) rfl (by kernel_rfl) (by kernel_rfl) (by kernel_rfl) (fun _ _ _ h => h) (Or.inl ⟨by rfl, ?yldq⟩) (by assumption) ?_
        case yldq => (intro w hSw; (try dsimp only at hSw); go_simp; try with_reducible rfl)
        try simp only [Act.put, List.setIfInBounds_toArray, List.set_cons_zero, List.set_cons_succ, List.getElem_toArray, List.getElem_cons_succ, List.getElem_cons_zero]
        refine wpAnyH_take (i := 27) (v := ?_) rfl (by kernel_rfl) (by kernel_rfl) (by kernel_rfl) (fun _ _ _ h => h) (Or.inl ⟨by rfl, ?yldq⟩) (by assumption) ?_
        case yldq => (intro w hSw; (try dsimp only at hSw); go_simp; try with_reducible rfl)
        try simp only [Act.put, List.setIfInBounds_toArray, List.set_cons_zero, List.set_cons_succ, List.getElem_toArray, List.getElem_cons_succ, List.getElem_cons_zero]
        refine wpAnyH_take (i := 31) (v := ?_) rfl (by kernel_rfl) (by kernel_rfl) (by kernel_rfl) (fun _ _ _ h => h) (Or.inl ⟨by rfl, ?yldq⟩) (by assumption) ?_
        case yldq => (intro w hSw; (try dsimp only at hSw); go_simp; try with_reducible rfl)
        try simp only [Act.put, List.setIfInBounds_toArray, List.set_cons_zero, List.set_cons_succ, List.getElem_toArray, List.getElem_cons_succ, List.getElem_cons_zero]
        refine wpAnyH_take (i := 32) (v := ?_) rfl (by kernel_rfl) (by kernel_rfl) (by kernel_rfl) (fun _ _ _ h => h) (Or.inl ⟨by rfl, ?yldq⟩) (by assumption) ?_
        case yldq => (intro w hSw; (try dsimp only at hSw); go_simp; try with_reducible rfl)
        try simp only [Act.put, List.setIfInBounds_toArray, List.set_cons_zero, List.set_cons_succ, List.getElem_toArray, List.getElem_cons_succ, List.getElem_cons_zero]
        refine wpAnyH_done (by kernel_rfl) ?_ _
        go_wp2
        go_ret
        exact ⟨by rw [HPP.out]; rfl, L31.out⟩
      · go_simp
        refine (rbytes_yes (s : Int) 8 _ (.inr (.inr (.inr rfl))) (by omega) (by omega)).mono ?_
        rintro e w32 ⟨y32, rfl, ho, hb⟩
        have L32 := Lib.hid (L28.out.trans (hb.mono L28.out.size))
        have K32_0 := Lib.hid (K28_0.out.below hb K28_0.out.lt)
        have hbx := hb
        clear hb K28_0
        obtain ⟨A32, cap32, rfl, hrd⟩ := ho.rd (byt_Byt 8 _) (by rw [byt_len]; omega)
        have HRD := Lib.hid hrd
        clear ho hrd
        rw [byt_len]
        refine hK.out _ _ hbx (fun _ => ?_)
        clear hK K
        refine wpAnyH_more (S' := fun w' => Below w32.heap.size w32 w') (fun w' h => hbx.trans (h.mono hbx.size)) _ _ _ _ ?_
        have hH32 : Below w32.heap.size w32 w32 := Below.refl _ _
        clear hbx
        have hcv : ∀ w', Below w32.heap.size w32 w' → (convert 23 9 (.slice A32 8 cap32)).run Tryd.prog w' = .ok (.string S2) w' := fun w' hb => by rw [HS2.out]; exact (HRD.out.below hb).conv 8 cap32 (byt_len _ _)
        refine wpAnyH_take (i := 12) (v := ?_) rfl (by kernel_rfl) (by kernel_rfl) (by kernel_rfl) (fun _ _ _ h => h) (Or.inl ⟨by rfl, ?yldq⟩) (by assumption) ?_
        case yldq => (intro w hSw; (try dsimp only at hSw); go_simp; try with_reducible rfl)
        try simp only [Act.put, List.setIfInBounds_toArray, List.set_cons_zero, List.set_cons_succ, List.getElem_toArray, List.getElem_cons_succ, List.getElem_cons_zero]
        clear hcv
        refine wpAnyH_ready (rs := [7, 16]) (by kernel_rfl) (by simp) ?_
        refine AllReadyH.cons rfl (fun K hK => ?_) (AllReadyH.cons rfl (fun K hK => ?_) AllReadyH.nil)
        · go_simp
          have nb0 : Blk (w32.alloc (.cells #[.int .u8 82, .int .u8 82, .int .u8 1, .int .u8 ((f : Int)), .int .u8 ((t : Int))] 5)) (w32.heap.size) [.int .u8 82, .int .u8 82, .int .u8 1, .int .u8 ((f : Int)), .int .u8 ((t : Int))] 5 := Blk.new w32 [.int .u8 82, .int .u8 82, .int .u8 1, .int .u8 ((f : Int)), .int .u8 ((t : Int))] 5
          have nls : Below w.heap.size w w32 := L32.out
          have nl0 := nls.alloc nls.size (.cells #[.int .u8 82, .int .u8 82, .int .u8 1, .int .u8 ((f : Int)), .int .u8 ((t : Int))] 5)
          have nl : Below w.heap.size w (w32.alloc (.cells #[.int .u8 82, .int .u8 82, .int .u8 1, .int .u8 ((f : Int)), .int .u8 ((t : Int))] 5)) := nl0; clear nls nl0
          have o0 : Blk (w32.alloc (.cells #[.int .u8 82, .int .u8 82, .int .u8 1, .int .u8 ((f : Int)), .int .u8 ((t : Int))] 5)) B1 [.int .i64 (f : Int), .int .i64 (t : Int), .bool true, .int .u64 (s : Int), .int .u64 (a : Int), .slice A dl cap] 25 := (K32_0.out.alloc (.cells #[.int .u8 82, .int .u8 82, .int .u8 1, .int .u8 ((f : Int)), .int .u8 ((t : Int))] 5))
          have d33_0 : B1 < w32.heap.size := K32_0.out.lt
          obtain ⟨B33, hB0⟩ : ∃ B, B = w32.heap.size := ⟨_, rfl⟩
          obtain ⟨W33, hW⟩ : ∃ W, W = (w32.alloc (.cells #[.int .u8 82, .int .u8 82, .int .u8 1, .int .u8 ((f : Int)), .int .u8 ((t : Int))] 5)) := ⟨_, rfl⟩
          have hbx : Below w32.heap.size w32 W33 := hW ▸ (Below.refl w32.heap.size w32).alloc (Nat.le_refl _) _
          rw [← hW] at nl nb0 o0
          rw [← hB0] at nb0
          rw [← hW]
          try rw [← hB0]
          have K33_0 := Lib.hid o0
          have K33_1 := Lib.hid nb0
          have G33 : Hid (w.heap.size ≤ B33) := Lib.hid (by have := L32.out.size; omega)
          have x33_0_0 : B1 ≠ B33 := by omega
          have X33_0_0 := Lib.hid x33_0_0; clear x33_0_0
          have L33 := Lib.hid nl
          clear nl hW nb0 hB0 o0 d33_0 K32_0
          refine hK.out _ _ hbx (fun _ => ?_)
          clear hK K
          refine wpAnyH_more (S' := fun w' => Below W33.heap.size W33 w') (fun w' h => hbx.trans (h.mono hbx.size)) _ _ _ _ ?_
          have hH33 : Below W33.heap.size W33 W33 := Below.refl _ _
          clear hbx
          have hcv : ∀ w', Below W33.heap.size W33 w' → (convert 23 9 (.slice (some ⟨B33, 0, none⟩) 5 5)).run Tryd.prog w' = .ok (.string S1) w' := fun w' hb => by rw [HS1.out]; exact (rd_blk (cs := [82, 82, 1, (f : Int), (t : Int)]) (K33_1.out.below hb K33_1.out.lt) HB1.out (by simp)).conv 5 5 rfl
          refine wpAnyH_take (i := 8) (v := ?_) rfl (by kernel_rfl) (by kernel_rfl) (by kernel_rfl) (fun _ _ _ h => h) (Or.inl ⟨by rfl, ?yldq⟩) (by assumption) ?_
          case yldq => (intro w hSw; (try dsimp only at hSw); go_simp; try with_reducible rfl)
          try simp only [Act.put, List.setIfInBounds_toArray, List.set_cons_zero, List.set_cons_succ, List.getElem_toArray, List.getElem_cons_succ, List.getElem_cons_zero]
          clear hcv
          refine wpAnyH_take (i := 13) (v := ?_) rfl (by kernel_rfl) (by kernel_rfl) (by kernel_rfl) (fun _ _ _ h => h) (Or.inl ⟨by rfl, ?yldq⟩) (by assumption) ?_
          case yldq => (intro w hSw; (try dsimp only at hSw); go_simp; try with_reducible rfl)
          try simp only [Act.put, List.setIfInBounds_toArray, List.set_cons_zero, List.set_cons_succ, List.getElem_toArray, List.getElem_cons_succ, List.getElem_cons_zero]
          refine wpAnyH_ready (rs := [16]) (by kernel_rfl) (by simp) ?_
          refine AllReadyH.cons rfl (fun K hK => ?_) AllReadyH.nil
          go_simp
          refine (rbytes_yes (a : Int) 8 _ (.inr (.inr (.inr rfl))) (by omega) (by omega)).mono ?_
          rintro e w34 ⟨y34, rfl, ho, hb⟩
          have L34 := Lib.hid (L33.out.trans (hb.mono L33.out.size))
          have K34_0 := Lib.hid (K33_0.out.below hb K33_0.out.lt)
          have hbx := hb
          clear hb K33_0
          obtain ⟨A34, cap34, rfl, hrd⟩ := ho.rd (byt_Byt 8 _) (by rw [byt_len]; omega)
          have HRD := Lib.hid hrd
          clear ho hrd
          rw [byt_len]
          refine hK.out _ _ hbx (fun _ => ?_)
          clear hK K
          refine wpAnyH_more (S' := fun w' => Below w34.heap.size w34 w') (fun w' h => hbx.trans (h.mono hbx.size)) _ _ _ _ ?_
          have hH34 : Below w34.heap.size w34 w34 := Below.refl _ _
          clear hbx
          have hcv : ∀ w', Below w34.heap.size w34 w' → (convert 23 9 (.slice A34 8 cap34)).run Tryd.prog w' = .ok (.string S3) w' := fun w' hb => by rw [HS3.out]; exact (HRD.out.below hb).conv 8 cap34 (byt_len _ _)
          refine wpAnyH_take (i := 17) (v := ?_) rfl (by kernel_rfl) (by kernel_rfl) (by kernel_rfl) (fun _ _ _ h => h) (Or.inl ⟨by rfl, ?yldq⟩) (by assumption) ?_
          case yldq => (intro w hSw; (try dsimp only at hSw); go_simp; try with_reducible rfl)
          try simp only [Act.put, List.setIfInBounds_toArray, List.set_cons_zero, List.set_cons_succ, List.getElem_toArray, List.getElem_cons_succ, List.getElem_cons_zero]
          clear hcv
          refine wpAnyH_take (i := 18) (v := ?_) rfl (by kernel_rfl) (by kernel_rfl) (by kernel_rfl) (fun _ _ _ h => h) (Or.inl ⟨by rfl, ?yldq⟩) (by assumption) ?_
          case yldq => (intro w hSw; (try dsimp only at hSw); go_simp; try with_reducible rfl)
          try simp only [Act.put, List.setIfInBounds_toArray, List.set_cons_zero, List.set_cons_succ, List.getElem_toArray, List.getElem_cons_succ, List.getElem_cons_zero]
          refine wpAnyH_take (i := 27) (v := ?_) rfl (by kernel_rfl) (by kernel_rfl) (by kernel_rfl) (fun _ _ _ h => h) (Or.inl ⟨by rfl, ?yldq⟩) (by assumption) ?_
          case yldq => (intro w hSw; (try dsimp only at hSw); go_simp; try with_reducible rfl)
          try simp only [Act.put, List.setIfInBounds_toArray, List.set_cons_zero, List.set_cons_succ, List.getElem_toArray, List.getElem_cons_succ, List.getElem_cons_zero]
          refine wpAnyH_take (i := 31) (v := ?_) rfl (by kernel_rfl) (by kernel_rfl) (by kernel_rfl) (fun _ _ _ h => h) (Or.inl ⟨by rfl, ?yldq⟩) (by assumption) ?_
          case yldq => (intro w hSw; (try dsimp only at hSw); go_simp; try with_reducible rfl)
          try simp only [Act.put, List.setIfInBounds_toArray, List.set_cons_zero, List.set_cons_succ, List.getElem_toArray, List.getElem_cons_succ, List.getElem_cons_zero]
          refine wpAnyH_take (i := 32) (v := ?_) rfl (by kernel_rfl) (by kernel_rfl) (by kernel_rfl) (fun _ _ _ h => h) (Or.inl ⟨by rfl, ?yldq⟩) (by assumption) ?_
          case yldq => (intro w hSw; (try dsimp only at hSw); go_simp; try with_reducible rfl)
          try simp only [Act.put, List.setIfInBounds_toArray, List.set_cons_zero, List.set_cons_succ, List.getElem_toArray, List.getElem_cons_succ, List.getElem_cons_zero]
          refine wpAnyH_done (by kernel_rfl) ?_ _
          go_wp2
          go_ret
          exact ⟨by rw [HPP.out]; rfl, L34.out⟩
        · go_simp
          refine (rbytes_yes (a : Int) 8 _ (.inr (.inr (.inr rfl))) (by omega) (by omega)).mono ?_
          rintro e w35 ⟨y35, rfl, ho, hb⟩
          have L35 := Lib.hid (L32.out.trans (hb.mono L32.out.size))
          have K35_0 := Lib.hid (K32_0.out.below hb K32_0.out.lt)
          have hbx := hb
          clear hb K32_0
          obtain ⟨A35, cap35, rfl, hrd⟩ := ho.rd (byt_Byt 8 _) (by rw [byt_len]; omega)
          have HRD := Lib.hid hrd
          clear ho hrd
          rw [byt_len]
          refine hK.out _ _ hbx (fun _ => ?_)
          clear hK K
          refine wpAnyH_more (S' := fun w' => Below w35.heap.size w35 w') (fun w' h => hbx.trans (h.mono hbx.size)) _ _ _ _ ?_
          have hH35 : Below w35.heap.size w35 w35 := Below.refl _ _
          clear hbx
          have hcv : ∀ w', Below w35.heap.size w35 w' → (convert 23 9 (.slice A35 8 cap35)).run Tryd.prog w' = .ok (.string S3) w' := fun w' hb => by rw [HS3.out]; exact (HRD.out.below hb).conv 8 cap35 (byt_len _ _)
          refine wpAnyH_take (i := 17) (v := ?_) rfl (by kernel_rfl) (by kernel_rfl) (by kernel_rfl) (fun _ _ _ h => h) (Or.inl ⟨by rfl, ?yldq⟩) (by assumption) ?_
          case yldq => (intro w hSw; (try dsimp only at hSw); go_simp; try with_reducible rfl)
          try simp only [Act.put, List.setIfInBounds_toArray, List.set_cons_zero, List.set_cons_succ, List.getElem_toArray, List.getElem_cons_succ, List.getElem_cons_zero]
          clear hcv
          refine wpAnyH_ready (rs := [7]) (by kernel_rfl) (by simp) ?_
          refine AllReadyH.cons rfl (fun K hK => ?_) AllReadyH.nil
          go_simp
          have nb0 : Blk (w35.alloc (.cells #[.int .u8 82, .int .u8 82, .int .u8 1, .int .u8 ((f : Int)), .int .u8 ((t : Int))] 5)) (w35.heap.size) [.int .u8 82, .int .u8 82, .int .u8 1, .int .u8 ((f : Int)), .int .u8 ((t : Int))] 5 := Blk.new w35 [.int .u8 82, .int .u8 82, .int .u8 1, .int .u8 ((f : Int)), .int .u8 ((t : Int))] 5
          have nls : Below w.heap.size w w35 := L35.out
          have nl0 := nls.alloc nls.size (.cells #[.int .u8 82, .int .u8 82, .int .u8 1, .int .u8 ((f : Int)), .int .u8 ((t : Int))] 5)
          have nl : Below w.heap.size w (w35.alloc (.cells #[.int .u8 82, .int .u8 82, .int .u8 1, .int .u8 ((f : Int)), .int .u8 ((t : Int))] 5)) := nl0; clear nls nl0
          have o0 : Blk (w35.alloc (.cells #[.int .u8 82, .int .u8 82, .int .u8 1, .int .u8 ((f : Int)), .int .u8 ((t : Int))] 5)) B1 [.int .i64 (f : Int), .int .i64 (t : Int), .bool true, .int .u64 (s : Int), .int .u64 (a : Int), .slice A dl cap] 25 := (K35_0.out.alloc (.cells #[.int .u8 82, .int .u8 82, .int .u8 1, .int .u8 ((f : Int)), .int .u8 ((t : Int))] 5))
          have d36_0 : B1 < w35.heap.size := K35_0.out.lt
          obtain ⟨B36, hB0⟩ : ∃ B, B = w35.heap.size := ⟨_, rfl⟩
          obtain ⟨W36, hW⟩ : ∃ W, W = (w35.alloc (.cells #[.int .u8 82, .int .u8 82, .int .u8 1, .int .u8 ((f : Int)), .int .u8 ((t : Int))] 5)) := ⟨_, rfl⟩
          have hbx : Below w35.heap.size w35 W36 := hW ▸ (Below.refl w35.heap.size w35).alloc (Nat.le_refl _) _
          rw [← hW] at nl nb0 o0
          rw [← hB0] at nb0
          rw [← hW]
          try rw [← hB0]
          have K36_0 := Lib.hid o0
          have K36_1 := Lib.hid nb0
          have G36 : Hid (w.heap.size ≤ B36) := Lib.hid (by have := L35.out.size; omega)
          have x36_0_0 : B1 ≠ B36 := by omega
          have X36_0_0 := Lib.hid x36_0_0; clear x36_0_0
          have L36 := Lib.hid nl
          clear nl hW nb0 hB0 o0 d36_0 K35_0
          refine hK.out _ _ hbx (fun _ => ?_)
          clear hK K
          refine wpAnyH_more (S' := fun w' => Below W36.heap.size W36 w') (fun w' h => hbx.trans (h.mono hbx.size)) _ _ _ _ ?_
          have hH36 : Below W36.heap.size W36 W36 := Below.refl _ _
          clear hbx
          have hcv : ∀ w', Below W36.heap.size W36 w' → (convert 23 9 (.slice (some ⟨B36, 0, none⟩) 5 5)).run Tryd.prog w' = .ok (.string S1) w' := fun w' hb => by rw [HS1.out]; exact (rd_blk (cs := [82, 82, 1, (f : Int), (t : Int)]) (K36_1.out.below hb K36_1.out.lt) HB1.out (by simp)).conv 5 5 rfl
          refine wpAnyH_take (i := 8) (v := ?_) rfl (by kernel_rfl) (by kernel_rfl) (by kernel_rfl) (fun _ _ _ h => h) (Or.inl ⟨by rfl, ?yldq⟩) (by assumption) ?_
          case yldq => (intro w hSw; (try dsimp only at hSw); go_simp; try with_reducible rfl)
          try simp only [Act.put, List.setIfInBounds_toArray, List.set_cons_zero, List.set_cons_succ, List.getElem_toArray, List.getElem_cons_succ, List.getElem_cons_zero]
          clear hcv
          refine wpAnyH_take (i := 13) (v := ?_) rfl (by kernel_rfl) (by kernel_rfl) (by kernel_rfl) (fun _ _ _ h => h) (Or.inl ⟨by rfl, ?yldq⟩) (by assumption) ?_
          case yldq => (intro w hSw; (try dsimp only at hSw); go_simp; try with_reducible rfl)
          try simp only [Act.put, List.setIfInBounds_toArray, List.set_cons_zero, List.set_cons_succ, List.getElem_toArray, List.getElem_cons_succ, List.getElem_cons_zero]
          refine wpAnyH_take (i := 18) (v := ?_) rfl (by kernel_rfl) (by kernel_rfl) (by kernel_rfl) (fun _ _ _ h => h) (Or.inl ⟨by rfl, ?yldq⟩) (by assumption) ?_
          case yldq => (intro w hSw; (try dsimp only at hSw); go_simp; try with_reducible rfl)
          try simp only [Act.put, List.setIfInBounds_toArray, List.set_cons_zero, List.set_cons_succ, List.getElem_toArray, List.getElem_cons_succ, List.getElem_cons_zero]
          refine wpAnyH_take (i := 27) (v := ?_) rfl (by kernel_rfl) (by kernel_rfl) (by kernel_rfl) (fun _ _ _ h => h) (Or.inl ⟨by rfl, ?yldq⟩) (by assumption) ?_
          case yldq => (intro w hSw; (try dsimp only at hSw); go_simp; try with_reducible rfl)
          try simp only [Act.put, List.setIfInBounds_toArray, List.set_cons_zero, List.set_cons_succ, List.getElem_toArray, List.getElem_cons_succ, List.getElem_cons_zero]
          refine wpAnyH_take (i := 31) (v := ?_) rfl (by kernel_rfl) (by kernel_rfl) (by kernel_rfl) (fun _ _ _ h => h) (Or.inl ⟨by rfl, ?yldq⟩) (by assumption) ?_
          case yldq => (intro w hSw; (try dsimp only at hSw); go_simp; try with_reducible rfl)
          try simp only [Act.put, List.setIfInBounds_toArray, List.set_cons_zero, List.set_cons_succ, List.getElem_toArray, List.getElem_cons_succ, List.getElem_cons_zero]
          refine wpAnyH_take (i := 32) (v := ?_) rfl (by kernel_rfl) (by kernel_rfl) (by kernel_rfl) (fun _ _ _ h => h) (Or.inl ⟨by rfl, ?yldq⟩) (by assumption) ?_
          case yldq => (intro w hSw; (try dsimp only at hSw); go_simp; try with_reducible rfl)
          try simp only [Act.put, List.setIfInBounds_toArray, List.set_cons_zero, List.set_cons_succ, List.getElem_toArray, List.getElem_cons_succ, List.getElem_cons_zero]
          refine wpAnyH_done (by kernel_rfl) ?_ _
          go_wp2
          go_ret
          exact ⟨by rw [HPP.out]; rfl, L36.out⟩
end Go.Proofs.YtmdfopbigkfbnaaDoor
