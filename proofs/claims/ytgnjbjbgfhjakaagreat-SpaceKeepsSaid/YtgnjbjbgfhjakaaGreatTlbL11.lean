/-
  What tlb.Fill answers and leaves in memory: contracts over the translation. Each says its own conditions.
-/
import Derived.Test.YtgnjbjbgfhjakaaGreatTlbF11
namespace Go.Proofs.YtgnjbjbgfhjakaaGreat
open Go.RowKit
set_option linter.unusedVariables false
set_option linter.unusedSimpArgs false
attribute [local go_sem] setCell_drewN alloc_drewN

/-- a leaf of any level, as the program has it -/
def lfz (e : Ent) (lv : Int) (pl : Nat) : Value := .agg #[.bool e.v, .bool e.r, .bool e.w, .bool e.x, .bool e.u, .bool e.g, .bool e.a, .bool e.d, .int .i64 e.rsw, .int .u64 (e.ppn : Int), .int .i64 lv, .int .u64 (pl : Int)]
theorem Buf.fill {w w' : World} {b sp n m s k : Nat} {g : Nat → Nat} {R : Nat → Nat → Wy} {y : Wy} (h : Buf w b sp g n m R) (hs : s < n) (hk : k < m) (hy : y.l.lv < 3) (hc : Chg (fun c => c = g s) w w')
    (hr : Blk w' (g s) (rowC (updW (R s) k y) m) 161) : Buf w' b sp g n m (updB R s k y) := by
  have hgb := h.gb s hs
  refine ⟨h.blk.chg hc (fun e => hgb.1 e.symm), h.sets.chg hc (fun e => hgb.2 e.symm), fun i hi => ?_, h.n0, h.n1, h.m0, h.m1, h.ne, h.gb, h.gi, fun i j hi hj => ?_⟩
  · unfold updB
    by_cases e : i = s
    · subst e; rw [if_pos rfl]; exact hr
    · rw [if_neg e]; exact (h.row i hi).chg hc (fun e2 => e (h.gi i s hi hs e2))
  · unfold updB
    by_cases e : i = s
    · subst e; rw [if_pos rfl]
      unfold updW
      by_cases e2 : j = k
      · rw [if_pos e2]; exact hy
      · rw [if_neg e2]; exact h.lv i j hi hj
    · rw [if_neg e]; exact h.lv i j hi hj
set_option maxHeartbeats 8000000 in
theorem fill_yes (b sp : Nat) (g : Nat → Nat) (n m : Nat) (R : Nat → Nat → Wy) (va : Nat) (a pk : Int) (e : Ent) (lv pl : Nat) (w : World) (h : Buf w b sp g n m R) (hl : lv < 3) (hv : va < 18446744073709551616) (hp : -9223372036854775808 ≤ pk ∧ pk < 9223372036854775808) :
    Calls Tryz.prog 131 #[.pointer (some ⟨b, 0, none⟩), .int .u64 va, .int .i64 a, lfv ⟨e, lv, pl⟩, .int .i64 pk] w fun r w' => r = .returned (.bool true) ∧ Buf w' b sp g n m (filT R n m va a ⟨e, lv, pl⟩ pk) ∧ Chg (FpT b sp g n) w w' := by
  have h1 := fun w' (hb : Below w.heap.size w w') => Calls.belowE (none_at (h.below hb))
  have h2 := fun w => Calls.belowD (number_any va lv w hv hl)
  have h3 := fun w' (hb : Below w.heap.size w w') => Calls.belowD (set_at (numN va lv) (h.below hb) (Nat.lt_trans (numN_lt va lv) (by decide)))
  have hi := Nat.mod_lt (numN va lv) h.n0
  have h4 := fun w' (hb : Below w.heap.size w w') => room_any (R (numN va lv % n)) m (g (numN va lv % n)) ⟨true, a, numN va lv, ⟨e, lv, pl⟩⟩ pk w' ((h.below hb).row _ hi) h.m0 h.m1 hp
  have h5 := roomW_lt (R (numN va lv % n)) m ⟨true, a, numN va lv, ⟨e, lv, pl⟩⟩ pk h.m0
  have hli : (lv : Int) < 3 := by omega
  have H := Lib.hid h; have HI := Lib.hid hi
  obtain ⟨X, hX⟩ : ∃ X, X = filT R n m va a ⟨e, lv, pl⟩ pk := ⟨_, rfl⟩
  rw [← hX]
  have HX := Lib.hid hX
  clear hX h hi
  generalize hrm : roomW (R (numN va lv % n)) m ⟨true, a, numN va lv, ⟨e, lv, pl⟩⟩ pk = kk at *
  have HK := Lib.hid hrm; clear hrm
  generalize hpp : numN va lv = p at *
  have HP := Lib.hid hpp; clear hpp
  generalize hqq : g (p % n) = q at *
  have HQ := Lib.hid hqq; clear hqq
  obtain ⟨v, r, x1, x, u, g9, aa, d, rsw, ppn⟩ := e
  unfold lfv
  unfold wyv at h4
  dsimp only at *
  have H1 := Lib.hid h1; have H2 := Lib.hid h2; have H3 := Lib.hid h3; have H4 := Lib.hid h4; clear h1 h2 h3 h4
  go_enter Tryz.func131, Tryz.ntmps131
  go_upto_region 1 with (fail)
  have nb0 := Blk.new w [.bool v, .bool r, .bool x1, .bool x, .bool u, .bool g9, .bool aa, .bool d, .int .i64 rsw, .int .u64 (ppn : Int), .int .i64 (lv : Int), .int .u64 (pl : Int)] 41
  have nls : Below w.heap.size w w := (Below.refl w.heap.size w)
  have nl0 := nls.alloc nls.size (.cells #[.bool v, .bool r, .bool x1, .bool x, .bool u, .bool g9, .bool aa, .bool d, .int .i64 rsw, .int .u64 (ppn : Int), .int .i64 (lv : Int), .int .u64 (pl : Int)] 41)
  have nl : Below w.heap.size w (w.alloc (.cells #[.bool v, .bool r, .bool x1, .bool x, .bool u, .bool g9, .bool aa, .bool d, .int .i64 rsw, .int .u64 (ppn : Int), .int .i64 (lv : Int), .int .u64 (pl : Int)] 41)) := nl0; clear nls nl0
  obtain ⟨B1, hB0⟩ : ∃ B, B = w.heap.size := ⟨_, rfl⟩
  obtain ⟨W1, hW⟩ : ∃ W, W = (w.alloc (.cells #[.bool v, .bool r, .bool x1, .bool x, .bool u, .bool g9, .bool aa, .bool d, .int .i64 rsw, .int .u64 (ppn : Int), .int .i64 (lv : Int), .int .u64 (pl : Int)] 41)) := ⟨_, rfl⟩
  rw [← hW] at nl nb0
  rw [← hB0] at nb0
  rw [← hW]
  try rw [← hB0]
  have K1_0 := Lib.hid nb0
  have G1 : Hid (w.heap.size ≤ B1) := Lib.hid (by have := (Nat.le_refl w.heap.size); omega)
  have L1 := Lib.hid nl
  clear nl hW nb0 hB0
  go_wp2_with fail
  refine (H1.out _ L1.out).mono ?_
  rintro e w2 ⟨rfl, hb⟩
  have L2 := Lib.hid (L1.out.trans (hb.mono L1.out.size))
  have K2_0 := Lib.hid (K1_0.out.below hb K1_0.out.lt)
  clear hb K1_0
  have m0_0 := K2_0.out.c0
  have m0_1 := K2_0.out.c1
  have m0_2 := K2_0.out.c2
  have m0_3 := K2_0.out.c3
  have m0_4 := K2_0.out.c4
  have m0_5 := K2_0.out.c5
  have m0_6 := K2_0.out.c6
  have m0_7 := K2_0.out.c7
  have m0_8 := K2_0.out.c8
  have m0_9 := K2_0.out.c9
  have m0_10 := K2_0.out.c10
  have m0_11 := K2_0.out.c11
  have mlt0 : B1 < w2.heap.size := K2_0.out.lt
  go_wp2_with fail
  clear m0_0 m0_1 m0_2 m0_3 m0_4 m0_5 m0_6 m0_7 m0_8 m0_9 m0_10 m0_11 mlt0
  have hm10 : w2.cell? ⟨B1, 10, none⟩ = some (.int .i64 (lv : Int)) := K2_0.out.cell 10
  refine wp_region_held_drew (S := fun w' => w'.cell? ⟨B1, 10, none⟩ = some (.int .i64 (lv : Int)) ∧ Blk w' B1 [.bool v, .bool r, .bool x1, .bool x, .bool u, .bool g9, .bool aa, .bool d, .int .i64 rsw, .int .u64 (ppn : Int), .int .i64 (lv : Int), .int .u64 (pl : Int)] 41) (by kernel_rfl) ⟨hm10, K2_0.out⟩ (fun hHeld => ?_)
  clear hm10
  obtain ⟨D3, hD⟩ : ∃ x, x = w2.drew := ⟨_, rfl⟩
  rw [← hD]
  have K3_0 := Lib.hid (show Blk D3 B1 [.bool v, .bool r, .bool x1, .bool x, .bool u, .bool g9, .bool aa, .bool d, .int .i64 rsw, .int .u64 (ppn : Int), .int .i64 (lv : Int), .int .u64 (pl : Int)] 41 from hD ▸ Blk.drewN K2_0.out 1)
  have L3 := Lib.hid (show Below w.heap.size w D3 from hD ▸ L2.out.drew)
  clear hD K2_0
  clear hHeld
  have hSD : D3.cell? ⟨B1, 10, none⟩ = some (.int .i64 (lv : Int)) ∧ Blk D3 B1 [.bool v, .bool r, .bool x1, .bool x, .bool u, .bool g9, .bool aa, .bool d, .int .i64 rsw, .int .u64 (ppn : Int), .int .i64 (lv : Int), .int .u64 (pl : Int)] 41 := ⟨K3_0.out.cell 10, K3_0.out⟩
  simp only [List.size_toArray, List.length_cons, List.length_nil, Nat.reduceAdd]
  rw [show Array.replicate 9 false = [false, false, false, false, false, false, false, false, false].toArray from rfl]
  refine wpAnyH_take (i := 0) (v := ?_) rfl (by kernel_rfl) (by kernel_rfl) (by kernel_rfl) (fun _ _ _ h => h) (Or.inl ⟨by rfl, ?yldq⟩) (by assumption) ?_
  case yldq => (intro w hSw; (try dsimp only at hSw); go_simp; try with_reducible rfl)
  try simp only [Act.put, List.setIfInBounds_toArray, List.set_cons_zero, List.set_cons_succ, List.getElem_toArray, List.getElem_cons_succ, List.getElem_cons_zero]
  refine wpAnyH_take (i := 1) (v := ?_) rfl (by kernel_rfl) (by kernel_rfl) (by kernel_rfl) (fun _ _ _ h => h) (Or.inl ⟨by rfl, ?yldq⟩) (by assumption) ?_
  case yldq => (intro w hSw; (try dsimp only at hSw); go_simp; try with_reducible rfl)
  try simp only [Act.put, List.setIfInBounds_toArray, List.set_cons_zero, List.set_cons_succ, List.getElem_toArray, List.getElem_cons_succ, List.getElem_cons_zero]
  refine wpAnyH_take (i := 2) (v := ?_) rfl (by kernel_rfl) (by kernel_rfl) (by kernel_rfl) (fun _ _ _ h => h) (Or.inl ⟨by rfl, ?yldq⟩) (by assumption) ?_
  case yldq => (intro w hSw; (try dsimp only at hSw); go_simp; try with_reducible rfl)
  try simp only [Act.put, List.setIfInBounds_toArray, List.set_cons_zero, List.set_cons_succ, List.getElem_toArray, List.getElem_cons_succ, List.getElem_cons_zero]
  refine wpAnyH_take (i := 3) (v := ?_) rfl (by kernel_rfl) (by kernel_rfl) (by kernel_rfl) (fun _ _ _ h => h) (Or.inl ⟨by rfl, ?yldq⟩) (by assumption) ?_
  case yldq => (intro w hSw; (try dsimp only at hSw); go_simp; try with_reducible rfl)
  try simp only [Act.put, List.setIfInBounds_toArray, List.set_cons_zero, List.set_cons_succ, List.getElem_toArray, List.getElem_cons_succ, List.getElem_cons_zero]
  refine wpAnyH_take (i := 5) (v := _) rfl (by kernel_rfl) (by kernel_rfl) (by kernel_rfl) (fun _ _ _ h => h) (Or.inl ⟨by rfl, fun w hSw => yield_leaf _ _ _ rfl rfl hSw.2⟩) (by assumption) ?_
  try simp only [Act.put, List.setIfInBounds_toArray, List.set_cons_zero, List.set_cons_succ, List.getElem_toArray, List.getElem_cons_succ, List.getElem_cons_zero]
  refine wpAnyH_ready (rs := [4, 7]) (by kernel_rfl) (by simp) ?_
  refine AllReadyH.cons rfl (fun K hK => ?_) (AllReadyH.cons rfl (fun K hK => ?_) AllReadyH.nil)
  · go_simp
    refine (H2.out _).mono ?_
    rintro e w4 ⟨rfl, hb⟩
    have L4 := Lib.hid (L3.out.trans (hb.mono L3.out.size))
    have K4_0 := Lib.hid (K3_0.out.below hb K3_0.out.lt)
    clear hb K3_0
    refine hK.out _ _ ⟨K4_0.out.cell 10, K4_0.out⟩ (fun hS4 => ?_)
    clear hK K
    refine wpAnyH_take (i := 6) (v := ?_) rfl (by kernel_rfl) (by kernel_rfl) (by kernel_rfl) (fun _ _ _ h => h) (Or.inl ⟨by rfl, ?yldq⟩) (by assumption) ?_
    case yldq => (intro w hSw; (try dsimp only at hSw); go_simp; try with_reducible rfl)
    try simp only [Act.put, List.setIfInBounds_toArray, List.set_cons_zero, List.set_cons_succ, List.getElem_toArray, List.getElem_cons_succ, List.getElem_cons_zero]
    refine wpAnyH_ready (rs := [7]) (by kernel_rfl) (by simp) ?_
    refine AllReadyH.cons rfl (fun K hK => ?_) AllReadyH.nil
    go_simp
    have nb0 := Blk.new w4 [.bool false, .int .i64 0, .int .u64 0, .bool false, .bool false, .bool false, .bool false, .bool false, .bool false, .bool false, .bool false, .int .i64 0, .int .u64 0, .int .i64 0, .int .u64 0] 161
    have nls : Below w.heap.size w w4 := L4.out
    have nl0 := nls.alloc nls.size (.cells #[.bool false, .int .i64 0, .int .u64 0, .bool false, .bool false, .bool false, .bool false, .bool false, .bool false, .bool false, .bool false, .int .i64 0, .int .u64 0, .int .i64 0, .int .u64 0] 161)
    have nl : Below w.heap.size w (w4.alloc (.cells #[.bool false, .int .i64 0, .int .u64 0, .bool false, .bool false, .bool false, .bool false, .bool false, .bool false, .bool false, .bool false, .int .i64 0, .int .u64 0, .int .i64 0, .int .u64 0] 161)) := nl0; clear nls nl0
    have o0 := (K4_0.out.alloc (.cells #[.bool false, .int .i64 0, .int .u64 0, .bool false, .bool false, .bool false, .bool false, .bool false, .bool false, .bool false, .bool false, .int .i64 0, .int .u64 0, .int .i64 0, .int .u64 0] 161))
    have d5_0 : B1 < w4.heap.size := K4_0.out.lt
    obtain ⟨B5, hB0⟩ : ∃ B, B = w4.heap.size := ⟨_, rfl⟩
    obtain ⟨W5, hW⟩ : ∃ W, W = (w4.alloc (.cells #[.bool false, .int .i64 0, .int .u64 0, .bool false, .bool false, .bool false, .bool false, .bool false, .bool false, .bool false, .bool false, .int .i64 0, .int .u64 0, .int .i64 0, .int .u64 0] 161)) := ⟨_, rfl⟩
    rw [← hW] at nl nb0 o0
    rw [← hB0] at nb0
    rw [← hW]
    try rw [← hB0]
    have K5_0 := Lib.hid o0
    have K5_1 := Lib.hid nb0
    have G5 : Hid (w.heap.size ≤ B5) := Lib.hid (by have := L4.out.size; omega)
    have x5_0_0 : B1 ≠ B5 := by omega
    have X5_0_0 := Lib.hid x5_0_0; clear x5_0_0
    have L5 := Lib.hid nl
    clear nl hW nb0 hB0 o0 d5_0 K4_0
    refine hK.out _ _ ⟨K5_0.out.cell 10, K5_0.out⟩ (fun hS7 => ?_)
    clear hK K
    refine wpAnyH_ready (rs := [8]) (by kernel_rfl) (by simp) ?_
    refine AllReadyH.cons rfl (fun K hK => ?_) AllReadyH.nil
    have m1_0 := K5_1.out.c0
    have m1_1 := K5_1.out.c1
    have m1_2 := K5_1.out.c2
    have m1_3 := K5_1.out.c3
    have m1_4 := K5_1.out.c4
    have m1_5 := K5_1.out.c5
    have m1_6 := K5_1.out.c6
    have m1_7 := K5_1.out.c7
    have m1_8 := K5_1.out.c8
    have m1_9 := K5_1.out.c9
    have m1_10 := K5_1.out.c10
    have m1_11 := K5_1.out.c11
    have m1_12 := K5_1.out.c12
    have m1_13 := K5_1.out.c13
    have m1_14 := K5_1.out.c14
    have mlt1 : B5 < W5.heap.size := K5_1.out.lt
    have mf1 : ∀ o, W5.frozen? ⟨B5, o, none⟩ = false := fun o => K5_1.out.free o
    go_simp
    clear m1_0 m1_1 m1_2 m1_3 m1_4 m1_5 m1_6 m1_7 m1_8 m1_9 m1_10 m1_11 m1_12 m1_13 m1_14 mlt1 mf1
    obtain ⟨W6, hW⟩ : ∃ W9, W9 = (((((((((((((((W5.setCell ⟨B5, 0, none⟩ (.bool true)).setCell ⟨B5, 1, none⟩ (.int .i64 a)).setCell ⟨B5, 2, none⟩ (.int .u64 (p : Int))).setCell ⟨B5, 3, none⟩ (.bool v)).setCell ⟨B5, 4, none⟩ (.bool r)).setCell ⟨B5, 5, none⟩ (.bool x1)).setCell ⟨B5, 6, none⟩ (.bool x)).setCell ⟨B5, 7, none⟩ (.bool u)).setCell ⟨B5, 8, none⟩ (.bool g9)).setCell ⟨B5, 9, none⟩ (.bool aa)).setCell ⟨B5, 10, none⟩ (.bool d)).setCell ⟨B5, 11, none⟩ (.int .i64 rsw)).setCell ⟨B5, 12, none⟩ (.int .u64 (ppn : Int))).setCell ⟨B5, 13, none⟩ (.int .i64 (lv : Int))).setCell ⟨B5, 14, none⟩ (.int .u64 (pl : Int))) := ⟨_, rfl⟩
    rw [← hW]
    have K6_0 := Lib.hid (show Blk W6 B1 [.bool v, .bool r, .bool x1, .bool x, .bool u, .bool g9, .bool aa, .bool d, .int .i64 rsw, .int .u64 (ppn : Int), .int .i64 (lv : Int), .int .u64 (pl : Int)] 41 from hW ▸ (((((((((((((((K5_0.out.other ⟨B5, 0, none⟩ (.bool true) X5_0_0.out).other ⟨B5, 1, none⟩ (.int .i64 a) X5_0_0.out).other ⟨B5, 2, none⟩ (.int .u64 (p : Int)) X5_0_0.out).other ⟨B5, 3, none⟩ (.bool v) X5_0_0.out).other ⟨B5, 4, none⟩ (.bool r) X5_0_0.out).other ⟨B5, 5, none⟩ (.bool x1) X5_0_0.out).other ⟨B5, 6, none⟩ (.bool x) X5_0_0.out).other ⟨B5, 7, none⟩ (.bool u) X5_0_0.out).other ⟨B5, 8, none⟩ (.bool g9) X5_0_0.out).other ⟨B5, 9, none⟩ (.bool aa) X5_0_0.out).other ⟨B5, 10, none⟩ (.bool d) X5_0_0.out).other ⟨B5, 11, none⟩ (.int .i64 rsw) X5_0_0.out).other ⟨B5, 12, none⟩ (.int .u64 (ppn : Int)) X5_0_0.out).other ⟨B5, 13, none⟩ (.int .i64 (lv : Int)) X5_0_0.out).other ⟨B5, 14, none⟩ (.int .u64 (pl : Int)) X5_0_0.out))
    have K6_1 := Lib.hid (show Blk W6 B5 [.bool true, .int .i64 a, .int .u64 (p : Int), .bool v, .bool r, .bool x1, .bool x, .bool u, .bool g9, .bool aa, .bool d, .int .i64 rsw, .int .u64 (ppn : Int), .int .i64 (lv : Int), .int .u64 (pl : Int)] 161 from hW ▸ (((((((((((((((K5_1.out.set 0 (.bool true)).set 1 (.int .i64 a)).set 2 (.int .u64 (p : Int))).set 3 (.bool v)).set 4 (.bool r)).set 5 (.bool x1)).set 6 (.bool x)).set 7 (.bool u)).set 8 (.bool g9)).set 9 (.bool aa)).set 10 (.bool d)).set 11 (.int .i64 rsw)).set 12 (.int .u64 (ppn : Int))).set 13 (.int .i64 (lv : Int))).set 14 (.int .u64 (pl : Int))))
    have L6 := Lib.hid (show Below w.heap.size w W6 from hW ▸ (Below.setCell (Below.setCell (Below.setCell (Below.setCell (Below.setCell (Below.setCell (Below.setCell (Below.setCell (Below.setCell (Below.setCell (Below.setCell (Below.setCell (Below.setCell (Below.setCell (Below.setCell L5.out G5.out _) G5.out _) G5.out _) G5.out _) G5.out _) G5.out _) G5.out _) G5.out _) G5.out _) G5.out _) G5.out _) G5.out _) G5.out _) G5.out _) G5.out _))
    clear hW K5_0 K5_1
    refine hK.out _ _ ⟨K6_0.out.cell 10, K6_0.out⟩ (fun hS8 => ?_)
    clear hK K
    refine wpAnyH_done (by kernel_rfl) ?_ _
    have m1_0 := K6_1.out.c0
    have m1_1 := K6_1.out.c1
    have m1_2 := K6_1.out.c2
    have m1_3 := K6_1.out.c3
    have m1_4 := K6_1.out.c4
    have m1_5 := K6_1.out.c5
    have m1_6 := K6_1.out.c6
    have m1_7 := K6_1.out.c7
    have m1_8 := K6_1.out.c8
    have m1_9 := K6_1.out.c9
    have m1_10 := K6_1.out.c10
    have m1_11 := K6_1.out.c11
    have m1_12 := K6_1.out.c12
    have m1_13 := K6_1.out.c13
    have m1_14 := K6_1.out.c14
    have mlt1 : B5 < W6.heap.size := K6_1.out.lt
    go_wp2_with fail
    clear m1_0 m1_1 m1_2 m1_3 m1_4 m1_5 m1_6 m1_7 m1_8 m1_9 m1_10 m1_11 m1_12 m1_13 m1_14 mlt1
    refine (H3.out _ L6.out).mono ?_
    rintro e w7 ⟨rfl, hb⟩
    have L7 := Lib.hid (L6.out.trans (hb.mono L6.out.size))
    have K7_0 := Lib.hid (K6_0.out.below hb K6_0.out.lt)
    have K7_1 := Lib.hid (K6_1.out.below hb K6_1.out.lt)
    clear hb K6_0 K6_1
    go_wp2_with fail
    refine wp_region_held_drew (S := fun w' => Blk w' B5 [.bool true, .int .i64 a, .int .u64 (p : Int), .bool v, .bool r, .bool x1, .bool x, .bool u, .bool g9, .bool aa, .bool d, .int .i64 rsw, .int .u64 (ppn : Int), .int .i64 (lv : Int), .int .u64 (pl : Int)] 161) (by kernel_rfl) K7_1.out (fun hHeld => ?_)
    clear hHeld
    obtain ⟨D8, hD⟩ : ∃ x, x = w7.drew := ⟨_, rfl⟩
    rw [← hD]
    have K8_0 := Lib.hid (show Blk D8 B1 [.bool v, .bool r, .bool x1, .bool x, .bool u, .bool g9, .bool aa, .bool d, .int .i64 rsw, .int .u64 (ppn : Int), .int .i64 (lv : Int), .int .u64 (pl : Int)] 41 from hD ▸ Blk.drewN K7_0.out 1)
    have K8_1 := Lib.hid (show Blk D8 B5 [.bool true, .int .i64 a, .int .u64 (p : Int), .bool v, .bool r, .bool x1, .bool x, .bool u, .bool g9, .bool aa, .bool d, .int .i64 rsw, .int .u64 (ppn : Int), .int .i64 (lv : Int), .int .u64 (pl : Int)] 161 from hD ▸ Blk.drewN K7_1.out 1)
    have L8 := Lib.hid (show Below w.heap.size w D8 from hD ▸ L7.out.drew)
    clear hD K7_0 K7_1
    have hSD5 : Blk D8 B5 [.bool true, .int .i64 a, .int .u64 (p : Int), .bool v, .bool r, .bool x1, .bool x, .bool u, .bool g9, .bool aa, .bool d, .int .i64 rsw, .int .u64 (ppn : Int), .int .i64 (lv : Int), .int .u64 (pl : Int)] 161 := K8_1.out
    simp only [List.size_toArray, List.length_cons, List.length_nil, Nat.reduceAdd]
    rw [show Array.replicate 8 false = [false, false, false, false, false, false, false, false].toArray from rfl]
    refine wpAnyH_take (i := 0) (v := ?_) rfl (by kernel_rfl) (by kernel_rfl) (by kernel_rfl) (fun _ _ _ h => h) (Or.inl ⟨by rfl, ?yldq⟩) (by assumption) ?_
    case yldq => (intro w hSw; (try dsimp only at hSw); go_simp; try with_reducible rfl)
    try simp only [Act.put, List.setIfInBounds_toArray, List.set_cons_zero, List.set_cons_succ, List.getElem_toArray, List.getElem_cons_succ, List.getElem_cons_zero]
    refine wpAnyH_take (i := 1) (v := ?_) rfl (by kernel_rfl) (by kernel_rfl) (by kernel_rfl) (fun _ _ _ h => h) (Or.inl ⟨by rfl, ?yldq⟩) (by assumption) ?_
    case yldq => (intro w hSw; (try dsimp only at hSw); go_simp; try with_reducible rfl)
    try simp only [Act.put, List.setIfInBounds_toArray, List.set_cons_zero, List.set_cons_succ, List.getElem_toArray, List.getElem_cons_succ, List.getElem_cons_zero]
    refine wpAnyH_take (i := 3) (v := ?_) rfl (by kernel_rfl) (by kernel_rfl) (by kernel_rfl) (fun _ _ _ h => h) (Or.inl ⟨by rfl, ?yldq⟩) (by assumption) ?_
    case yldq => (intro w hSw; (try dsimp only at hSw); go_simp; try with_reducible rfl)
    try simp only [Act.put, List.setIfInBounds_toArray, List.set_cons_zero, List.set_cons_succ, List.getElem_toArray, List.getElem_cons_succ, List.getElem_cons_zero]
    refine wpAnyH_take (i := 2) (v := _) rfl (by kernel_rfl) (by kernel_rfl) (by kernel_rfl) (fun _ _ _ h => h) (Or.inl ⟨by rfl, fun w hSw => yield_way _ _ _ rfl rfl hSw⟩) (by assumption) ?_
    try simp only [Act.put, List.setIfInBounds_toArray, List.set_cons_zero, List.set_cons_succ, List.getElem_toArray, List.getElem_cons_succ, List.getElem_cons_zero]
    refine wpAnyH_take (i := 5) (v := _) rfl (by kernel_rfl) (by kernel_rfl) (by kernel_rfl) (fun _ _ _ h => h) (Or.inl ⟨by rfl, fun w hSw => yield_way _ _ _ rfl rfl hSw⟩) (by assumption) ?_
    try simp only [Act.put, List.setIfInBounds_toArray, List.set_cons_zero, List.set_cons_succ, List.getElem_toArray, List.getElem_cons_succ, List.getElem_cons_zero]
    refine wpAnyH_ready (rs := [4]) (by kernel_rfl) (by simp) ?_
    refine AllReadyH.cons rfl (fun K hK => ?_) AllReadyH.nil
    go_simp
    refine (H4.out _ L8.out).mono ?_
    rintro e w9 ⟨rfl, hb⟩
    have L9 := Lib.hid (L8.out.trans (hb.mono L8.out.size))
    have K9_0 := Lib.hid (K8_0.out.below hb K8_0.out.lt)
    have K9_1 := Lib.hid (K8_1.out.below hb K8_1.out.lt)
    clear hb K8_0 K8_1
    refine hK.out _ _ K9_1.out (fun hS4 => ?_)
    clear hK K
    have hki : (kk : Int) < (m : Int) := by omega
    refine wpAnyH_take (i := 6) (v := ?_) rfl (by kernel_rfl) (by kernel_rfl) (by kernel_rfl) (fun _ _ _ h => h) (Or.inl ⟨by rfl, ?yldq⟩) (by assumption) ?_
    case yldq => (intro w hSw; (try dsimp only at hSw); go_simp; try with_reducible rfl)
    try simp only [Act.put, List.setIfInBounds_toArray, List.set_cons_zero, List.set_cons_succ, List.getElem_toArray, List.getElem_cons_succ, List.getElem_cons_zero]
    have hB9 := H.out.below L9.out
    have hr9 := hB9.row (p % n) HI.out
    rw [HQ.out] at hr9
    have hw9 := hr9.wy h5
    have mf : ∀ o, w9.frozen? ⟨q, o, none⟩ = false := fun o => hr9.free o
    have cw0 : w9.cell? ⟨q, kk * 15, none⟩ = some _ := hw9 0 _ rfl
    have cw1 : w9.cell? ⟨q, kk * 15 + 1, none⟩ = some _ := hw9 1 _ rfl
    have cw2 : w9.cell? ⟨q, kk * 15 + 2, none⟩ = some _ := hw9 2 _ rfl
    have cw3 : w9.cell? ⟨q, kk * 15 + 3, none⟩ = some _ := hw9 3 _ rfl
    have cw4 : w9.cell? ⟨q, kk * 15 + 4, none⟩ = some _ := hw9 4 _ rfl
    have cw5 : w9.cell? ⟨q, kk * 15 + 5, none⟩ = some _ := hw9 5 _ rfl
    have cw6 : w9.cell? ⟨q, kk * 15 + 6, none⟩ = some _ := hw9 6 _ rfl
    have cw7 : w9.cell? ⟨q, kk * 15 + 7, none⟩ = some _ := hw9 7 _ rfl
    have cw8 : w9.cell? ⟨q, kk * 15 + 8, none⟩ = some _ := hw9 8 _ rfl
    have cw9 : w9.cell? ⟨q, kk * 15 + 9, none⟩ = some _ := hw9 9 _ rfl
    have cw10 : w9.cell? ⟨q, kk * 15 + 10, none⟩ = some _ := hw9 10 _ rfl
    have cw11 : w9.cell? ⟨q, kk * 15 + 11, none⟩ = some _ := hw9 11 _ rfl
    have cw12 : w9.cell? ⟨q, kk * 15 + 12, none⟩ = some _ := hw9 12 _ rfl
    have cw13 : w9.cell? ⟨q, kk * 15 + 13, none⟩ = some _ := hw9 13 _ rfl
    have cw14 : w9.cell? ⟨q, kk * 15 + 14, none⟩ = some _ := hw9 14 _ rfl
    have HB9 := Lib.hid hB9; have HR9 := Lib.hid hr9; clear hB9 hr9 hw9
    refine wpAnyH_ready (rs := [7]) (by kernel_rfl) (by simp) ?_
    refine AllReadyH.cons rfl (fun K hK => ?_) AllReadyH.nil
    go_simp
    clear mf cw0 cw1 cw2 cw3 cw4 cw5 cw6 cw7 cw8 cw9 cw10 cw11 cw12 cw13 cw14
    obtain ⟨WZ, hW⟩ : ∃ W9, W9 = (((((((((((((((w9.setCell ⟨q, kk * 15, none⟩ (.bool true)).setCell ⟨q, kk * 15 + 1, none⟩ (.int .i64 a)).setCell ⟨q, kk * 15 + 2, none⟩ (.int .u64 (p : Int))).setCell ⟨q, kk * 15 + 3, none⟩ (.bool v)).setCell ⟨q, kk * 15 + 4, none⟩ (.bool r)).setCell ⟨q, kk * 15 + 5, none⟩ (.bool x1)).setCell ⟨q, kk * 15 + 6, none⟩ (.bool x)).setCell ⟨q, kk * 15 + 7, none⟩ (.bool u)).setCell ⟨q, kk * 15 + 8, none⟩ (.bool g9)).setCell ⟨q, kk * 15 + 9, none⟩ (.bool aa)).setCell ⟨q, kk * 15 + 10, none⟩ (.bool d)).setCell ⟨q, kk * 15 + 11, none⟩ (.int .i64 rsw)).setCell ⟨q, kk * 15 + 12, none⟩ (.int .u64 (ppn : Int))).setCell ⟨q, kk * 15 + 13, none⟩ (.int .i64 (lv : Int))).setCell ⟨q, kk * 15 + 14, none⟩ (.int .u64 (pl : Int))) := ⟨_, rfl⟩
    rw [← hW]
    have hcz : Chg (fun c => c = q) w9 WZ := hW ▸ ((((((((((((((((Chg.refl (fun c => c = q) w9).setc ⟨q, kk * 15, none⟩ (.bool true) (.inl rfl)).setc ⟨q, kk * 15 + 1, none⟩ (.int .i64 a) (.inl rfl)).setc ⟨q, kk * 15 + 2, none⟩ (.int .u64 (p : Int)) (.inl rfl)).setc ⟨q, kk * 15 + 3, none⟩ (.bool v) (.inl rfl)).setc ⟨q, kk * 15 + 4, none⟩ (.bool r) (.inl rfl)).setc ⟨q, kk * 15 + 5, none⟩ (.bool x1) (.inl rfl)).setc ⟨q, kk * 15 + 6, none⟩ (.bool x) (.inl rfl)).setc ⟨q, kk * 15 + 7, none⟩ (.bool u) (.inl rfl)).setc ⟨q, kk * 15 + 8, none⟩ (.bool g9) (.inl rfl)).setc ⟨q, kk * 15 + 9, none⟩ (.bool aa) (.inl rfl)).setc ⟨q, kk * 15 + 10, none⟩ (.bool d) (.inl rfl)).setc ⟨q, kk * 15 + 11, none⟩ (.int .i64 rsw) (.inl rfl)).setc ⟨q, kk * 15 + 12, none⟩ (.int .u64 (ppn : Int)) (.inl rfl)).setc ⟨q, kk * 15 + 13, none⟩ (.int .i64 (lv : Int)) (.inl rfl)).setc ⟨q, kk * 15 + 14, none⟩ (.int .u64 (pl : Int)) (.inl rfl))
    have hrz : Blk WZ q (setL (rowC (R (p % n)) m) (kk * 15) (wyC ⟨true, a, p, ⟨⟨v, r, x1, x, u, g9, aa, d, rsw, ppn⟩, lv, pl⟩⟩)) 161 := hW ▸ (((((((((((((((HR9.out.set (kk * 15) (.bool true)).set (kk * 15 + 1) (.int .i64 a)).set (kk * 15 + 2) (.int .u64 (p : Int))).set (kk * 15 + 3) (.bool v)).set (kk * 15 + 4) (.bool r)).set (kk * 15 + 5) (.bool x1)).set (kk * 15 + 6) (.bool x)).set (kk * 15 + 7) (.bool u)).set (kk * 15 + 8) (.bool g9)).set (kk * 15 + 9) (.bool aa)).set (kk * 15 + 10) (.bool d)).set (kk * 15 + 11) (.int .i64 rsw)).set (kk * 15 + 12) (.int .u64 (ppn : Int))).set (kk * 15 + 13) (.int .i64 (lv : Int))).set (kk * 15 + 14) (.int .u64 (pl : Int)))
    rw [rowC_setL _ _ _ _ h5] at hrz
    clear hW
    have hqlt : q < w.heap.size := by
      have := (H.out.row (p % n) HI.out).lt
      rw [HQ.out] at this
      exact this
    have hbz : Blk WZ B5 [.bool true, .int .i64 a, .int .u64 (p : Int), .bool v, .bool r, .bool x1, .bool x, .bool u, .bool g9, .bool aa, .bool d, .int .i64 rsw, .int .u64 (ppn : Int), .int .i64 (lv : Int), .int .u64 (pl : Int)] 161 := K9_1.out.chg hcz (fun e => by have := G5.out; omega)
    have hbuf : Buf WZ b sp g n m X := by
      have hcz2 := hcz
      have hrz2 := hrz
      rw [← HQ.out] at hcz2 hrz2
      refine (HB9.out.fill HI.out h5 hl hcz2 hrz2).of_eq ?_
      rw [HX.out]
      unfold filT
      dsimp only
      rw [HP.out, HK.out]
    have hfin : Chg (FpT b sp g n) w WZ := (Chg.of_below L9.out).trans (hcz.mono (fun k _ e => by have e : k = q := e; rw [e, ← HQ.out]; exact .inr (.inr ⟨_, HI.out, rfl⟩)))
    have HBUF := Lib.hid hbuf; have HFIN := Lib.hid hfin; clear hcz hrz hbuf hfin
    refine hK.out _ _ hbz (fun hS7 => ?_)
    clear hK K hS7 hbz hS4 hSD5
    refine wpAnyH_done (by kernel_rfl) ?_ _
    go_wp2
    go_ret
    exact ⟨rfl, HBUF.out, HFIN.out⟩
  · go_simp
    have nb0 := Blk.new D3 [.bool false, .int .i64 0, .int .u64 0, .bool false, .bool false, .bool false, .bool false, .bool false, .bool false, .bool false, .bool false, .int .i64 0, .int .u64 0, .int .i64 0, .int .u64 0] 161
    have nls : Below w.heap.size w D3 := L3.out
    have nl0 := nls.alloc nls.size (.cells #[.bool false, .int .i64 0, .int .u64 0, .bool false, .bool false, .bool false, .bool false, .bool false, .bool false, .bool false, .bool false, .int .i64 0, .int .u64 0, .int .i64 0, .int .u64 0] 161)
    have nl : Below w.heap.size w (D3.alloc (.cells #[.bool false, .int .i64 0, .int .u64 0, .bool false, .bool false, .bool false, .bool false, .bool false, .bool false, .bool false, .bool false, .int .i64 0, .int .u64 0, .int .i64 0, .int .u64 0] 161)) := nl0; clear nls nl0
    have o0 := (K3_0.out.alloc (.cells #[.bool false, .int .i64 0, .int .u64 0, .bool false, .bool false, .bool false, .bool false, .bool false, .bool false, .bool false, .bool false, .int .i64 0, .int .u64 0, .int .i64 0, .int .u64 0] 161))
    have d10_0 : B1 < D3.heap.size := K3_0.out.lt
    obtain ⟨B10, hB0⟩ : ∃ B, B = D3.heap.size := ⟨_, rfl⟩
    obtain ⟨W10, hW⟩ : ∃ W, W = (D3.alloc (.cells #[.bool false, .int .i64 0, .int .u64 0, .bool false, .bool false, .bool false, .bool false, .bool false, .bool false, .bool false, .bool false, .int .i64 0, .int .u64 0, .int .i64 0, .int .u64 0] 161)) := ⟨_, rfl⟩
    rw [← hW] at nl nb0 o0
    rw [← hB0] at nb0
    rw [← hW]
    try rw [← hB0]
    have K10_0 := Lib.hid o0
    have K10_1 := Lib.hid nb0
    have G10 : Hid (w.heap.size ≤ B10) := Lib.hid (by have := L3.out.size; omega)
    have x10_0_0 : B1 ≠ B10 := by omega
    have X10_0_0 := Lib.hid x10_0_0; clear x10_0_0
    have L10 := Lib.hid nl
    clear nl hW nb0 hB0 o0 d10_0 K3_0
    refine hK.out _ _ ⟨K10_0.out.cell 10, K10_0.out⟩ (fun hS7 => ?_)
    clear hK K
    refine wpAnyH_ready (rs := [4]) (by kernel_rfl) (by simp) ?_
    refine AllReadyH.cons rfl (fun K hK => ?_) AllReadyH.nil
    go_simp
    refine (H2.out _).mono ?_
    rintro e w11 ⟨rfl, hb⟩
    have L11 := Lib.hid (L10.out.trans (hb.mono L10.out.size))
    have K11_0 := Lib.hid (K10_0.out.below hb K10_0.out.lt)
    have K11_1 := Lib.hid (K10_1.out.below hb K10_1.out.lt)
    clear hb K10_0 K10_1
    refine hK.out _ _ ⟨K11_0.out.cell 10, K11_0.out⟩ (fun hS4 => ?_)
    clear hK K
    refine wpAnyH_take (i := 6) (v := ?_) rfl (by kernel_rfl) (by kernel_rfl) (by kernel_rfl) (fun _ _ _ h => h) (Or.inl ⟨by rfl, ?yldq⟩) (by assumption) ?_
    case yldq => (intro w hSw; (try dsimp only at hSw); go_simp; try with_reducible rfl)
    try simp only [Act.put, List.setIfInBounds_toArray, List.set_cons_zero, List.set_cons_succ, List.getElem_toArray, List.getElem_cons_succ, List.getElem_cons_zero]
    refine wpAnyH_ready (rs := [8]) (by kernel_rfl) (by simp) ?_
    refine AllReadyH.cons rfl (fun K hK => ?_) AllReadyH.nil
    have m1_0 := K11_1.out.c0
    have m1_1 := K11_1.out.c1
    have m1_2 := K11_1.out.c2
    have m1_3 := K11_1.out.c3
    have m1_4 := K11_1.out.c4
    have m1_5 := K11_1.out.c5
    have m1_6 := K11_1.out.c6
    have m1_7 := K11_1.out.c7
    have m1_8 := K11_1.out.c8
    have m1_9 := K11_1.out.c9
    have m1_10 := K11_1.out.c10
    have m1_11 := K11_1.out.c11
    have m1_12 := K11_1.out.c12
    have m1_13 := K11_1.out.c13
    have m1_14 := K11_1.out.c14
    have mlt1 : B10 < w11.heap.size := K11_1.out.lt
    have mf1 : ∀ o, w11.frozen? ⟨B10, o, none⟩ = false := fun o => K11_1.out.free o
    go_simp
    clear m1_0 m1_1 m1_2 m1_3 m1_4 m1_5 m1_6 m1_7 m1_8 m1_9 m1_10 m1_11 m1_12 m1_13 m1_14 mlt1 mf1
    obtain ⟨W12, hW⟩ : ∃ W9, W9 = (((((((((((((((w11.setCell ⟨B10, 0, none⟩ (.bool true)).setCell ⟨B10, 1, none⟩ (.int .i64 a)).setCell ⟨B10, 2, none⟩ (.int .u64 (p : Int))).setCell ⟨B10, 3, none⟩ (.bool v)).setCell ⟨B10, 4, none⟩ (.bool r)).setCell ⟨B10, 5, none⟩ (.bool x1)).setCell ⟨B10, 6, none⟩ (.bool x)).setCell ⟨B10, 7, none⟩ (.bool u)).setCell ⟨B10, 8, none⟩ (.bool g9)).setCell ⟨B10, 9, none⟩ (.bool aa)).setCell ⟨B10, 10, none⟩ (.bool d)).setCell ⟨B10, 11, none⟩ (.int .i64 rsw)).setCell ⟨B10, 12, none⟩ (.int .u64 (ppn : Int))).setCell ⟨B10, 13, none⟩ (.int .i64 (lv : Int))).setCell ⟨B10, 14, none⟩ (.int .u64 (pl : Int))) := ⟨_, rfl⟩
    rw [← hW]
    have K12_0 := Lib.hid (show Blk W12 B1 [.bool v, .bool r, .bool x1, .bool x, .bool u, .bool g9, .bool aa, .bool d, .int .i64 rsw, .int .u64 (ppn : Int), .int .i64 (lv : Int), .int .u64 (pl : Int)] 41 from hW ▸ (((((((((((((((K11_0.out.other ⟨B10, 0, none⟩ (.bool true) X10_0_0.out).other ⟨B10, 1, none⟩ (.int .i64 a) X10_0_0.out).other ⟨B10, 2, none⟩ (.int .u64 (p : Int)) X10_0_0.out).other ⟨B10, 3, none⟩ (.bool v) X10_0_0.out).other ⟨B10, 4, none⟩ (.bool r) X10_0_0.out).other ⟨B10, 5, none⟩ (.bool x1) X10_0_0.out).other ⟨B10, 6, none⟩ (.bool x) X10_0_0.out).other ⟨B10, 7, none⟩ (.bool u) X10_0_0.out).other ⟨B10, 8, none⟩ (.bool g9) X10_0_0.out).other ⟨B10, 9, none⟩ (.bool aa) X10_0_0.out).other ⟨B10, 10, none⟩ (.bool d) X10_0_0.out).other ⟨B10, 11, none⟩ (.int .i64 rsw) X10_0_0.out).other ⟨B10, 12, none⟩ (.int .u64 (ppn : Int)) X10_0_0.out).other ⟨B10, 13, none⟩ (.int .i64 (lv : Int)) X10_0_0.out).other ⟨B10, 14, none⟩ (.int .u64 (pl : Int)) X10_0_0.out))
    have K12_1 := Lib.hid (show Blk W12 B10 [.bool true, .int .i64 a, .int .u64 (p : Int), .bool v, .bool r, .bool x1, .bool x, .bool u, .bool g9, .bool aa, .bool d, .int .i64 rsw, .int .u64 (ppn : Int), .int .i64 (lv : Int), .int .u64 (pl : Int)] 161 from hW ▸ (((((((((((((((K11_1.out.set 0 (.bool true)).set 1 (.int .i64 a)).set 2 (.int .u64 (p : Int))).set 3 (.bool v)).set 4 (.bool r)).set 5 (.bool x1)).set 6 (.bool x)).set 7 (.bool u)).set 8 (.bool g9)).set 9 (.bool aa)).set 10 (.bool d)).set 11 (.int .i64 rsw)).set 12 (.int .u64 (ppn : Int))).set 13 (.int .i64 (lv : Int))).set 14 (.int .u64 (pl : Int))))
    have L12 := Lib.hid (show Below w.heap.size w W12 from hW ▸ (Below.setCell (Below.setCell (Below.setCell (Below.setCell (Below.setCell (Below.setCell (Below.setCell (Below.setCell (Below.setCell (Below.setCell (Below.setCell (Below.setCell (Below.setCell (Below.setCell (Below.setCell L11.out G10.out _) G10.out _) G10.out _) G10.out _) G10.out _) G10.out _) G10.out _) G10.out _) G10.out _) G10.out _) G10.out _) G10.out _) G10.out _) G10.out _) G10.out _))
    clear hW K11_0 K11_1
    refine hK.out _ _ ⟨K12_0.out.cell 10, K12_0.out⟩ (fun hS8 => ?_)
    clear hK K
    refine wpAnyH_done (by kernel_rfl) ?_ _
    have m1_0 := K12_1.out.c0
    have m1_1 := K12_1.out.c1
    have m1_2 := K12_1.out.c2
    have m1_3 := K12_1.out.c3
    have m1_4 := K12_1.out.c4
    have m1_5 := K12_1.out.c5
    have m1_6 := K12_1.out.c6
    have m1_7 := K12_1.out.c7
    have m1_8 := K12_1.out.c8
    have m1_9 := K12_1.out.c9
    have m1_10 := K12_1.out.c10
    have m1_11 := K12_1.out.c11
    have m1_12 := K12_1.out.c12
    have m1_13 := K12_1.out.c13
    have m1_14 := K12_1.out.c14
    have mlt1 : B10 < W12.heap.size := K12_1.out.lt
    go_wp2_with fail
    clear m1_0 m1_1 m1_2 m1_3 m1_4 m1_5 m1_6 m1_7 m1_8 m1_9 m1_10 m1_11 m1_12 m1_13 m1_14 mlt1
    refine (H3.out _ L12.out).mono ?_
    rintro e w13 ⟨rfl, hb⟩
    have L13 := Lib.hid (L12.out.trans (hb.mono L12.out.size))
    have K13_0 := Lib.hid (K12_0.out.below hb K12_0.out.lt)
    have K13_1 := Lib.hid (K12_1.out.below hb K12_1.out.lt)
    clear hb K12_0 K12_1
    go_wp2_with fail
    refine wp_region_held_drew (S := fun w' => Blk w' B10 [.bool true, .int .i64 a, .int .u64 (p : Int), .bool v, .bool r, .bool x1, .bool x, .bool u, .bool g9, .bool aa, .bool d, .int .i64 rsw, .int .u64 (ppn : Int), .int .i64 (lv : Int), .int .u64 (pl : Int)] 161) (by kernel_rfl) K13_1.out (fun hHeld => ?_)
    clear hHeld
    obtain ⟨D14, hD⟩ : ∃ x, x = w13.drew := ⟨_, rfl⟩
    rw [← hD]
    have K14_0 := Lib.hid (show Blk D14 B1 [.bool v, .bool r, .bool x1, .bool x, .bool u, .bool g9, .bool aa, .bool d, .int .i64 rsw, .int .u64 (ppn : Int), .int .i64 (lv : Int), .int .u64 (pl : Int)] 41 from hD ▸ Blk.drewN K13_0.out 1)
    have K14_1 := Lib.hid (show Blk D14 B10 [.bool true, .int .i64 a, .int .u64 (p : Int), .bool v, .bool r, .bool x1, .bool x, .bool u, .bool g9, .bool aa, .bool d, .int .i64 rsw, .int .u64 (ppn : Int), .int .i64 (lv : Int), .int .u64 (pl : Int)] 161 from hD ▸ Blk.drewN K13_1.out 1)
    have L14 := Lib.hid (show Below w.heap.size w D14 from hD ▸ L13.out.drew)
    clear hD K13_0 K13_1
    have hSD5 : Blk D14 B10 [.bool true, .int .i64 a, .int .u64 (p : Int), .bool v, .bool r, .bool x1, .bool x, .bool u, .bool g9, .bool aa, .bool d, .int .i64 rsw, .int .u64 (ppn : Int), .int .i64 (lv : Int), .int .u64 (pl : Int)] 161 := K14_1.out
    simp only [List.size_toArray, List.length_cons, List.length_nil, Nat.reduceAdd]
    rw [show Array.replicate 8 false = [false, false, false, false, false, false, false, false].toArray from rfl]
    refine wpAnyH_take (i := 0) (v := ?_) rfl (by kernel_rfl) (by kernel_rfl) (by kernel_rfl) (fun _ _ _ h => h) (Or.inl ⟨by rfl, ?yldq⟩) (by assumption) ?_
    case yldq => (intro w hSw; (try dsimp only at hSw); go_simp; try with_reducible rfl)
    try simp only [Act.put, List.setIfInBounds_toArray, List.set_cons_zero, List.set_cons_succ, List.getElem_toArray, List.getElem_cons_succ, List.getElem_cons_zero]
    refine wpAnyH_take (i := 1) (v := ?_) rfl (by kernel_rfl) (by kernel_rfl) (by kernel_rfl) (fun _ _ _ h => h) (Or.inl ⟨by rfl, ?yldq⟩) (by assumption) ?_
    case yldq => (intro w hSw; (try dsimp only at hSw); go_simp; try with_reducible rfl)
    try simp only [Act.put, List.setIfInBounds_toArray, List.set_cons_zero, List.set_cons_succ, List.getElem_toArray, List.getElem_cons_succ, List.getElem_cons_zero]
    refine wpAnyH_take (i := 3) (v := ?_) rfl (by kernel_rfl) (by kernel_rfl) (by kernel_rfl) (fun _ _ _ h => h) (Or.inl ⟨by rfl, ?yldq⟩) (by assumption) ?_
    case yldq => (intro w hSw; (try dsimp only at hSw); go_simp; try with_reducible rfl)
    try simp only [Act.put, List.setIfInBounds_toArray, List.set_cons_zero, List.set_cons_succ, List.getElem_toArray, List.getElem_cons_succ, List.getElem_cons_zero]
    refine wpAnyH_take (i := 2) (v := _) rfl (by kernel_rfl) (by kernel_rfl) (by kernel_rfl) (fun _ _ _ h => h) (Or.inl ⟨by rfl, fun w hSw => yield_way _ _ _ rfl rfl hSw⟩) (by assumption) ?_
    try simp only [Act.put, List.setIfInBounds_toArray, List.set_cons_zero, List.set_cons_succ, List.getElem_toArray, List.getElem_cons_succ, List.getElem_cons_zero]
    refine wpAnyH_take (i := 5) (v := _) rfl (by kernel_rfl) (by kernel_rfl) (by kernel_rfl) (fun _ _ _ h => h) (Or.inl ⟨by rfl, fun w hSw => yield_way _ _ _ rfl rfl hSw⟩) (by assumption) ?_
    try simp only [Act.put, List.setIfInBounds_toArray, List.set_cons_zero, List.set_cons_succ, List.getElem_toArray, List.getElem_cons_succ, List.getElem_cons_zero]
    refine wpAnyH_ready (rs := [4]) (by kernel_rfl) (by simp) ?_
    refine AllReadyH.cons rfl (fun K hK => ?_) AllReadyH.nil
    go_simp
    refine (H4.out _ L14.out).mono ?_
    rintro e w15 ⟨rfl, hb⟩
    have L15 := Lib.hid (L14.out.trans (hb.mono L14.out.size))
    have K15_0 := Lib.hid (K14_0.out.below hb K14_0.out.lt)
    have K15_1 := Lib.hid (K14_1.out.below hb K14_1.out.lt)
    clear hb K14_0 K14_1
    refine hK.out _ _ K15_1.out (fun hS4 => ?_)
    clear hK K
    have hki : (kk : Int) < (m : Int) := by omega
    refine wpAnyH_take (i := 6) (v := ?_) rfl (by kernel_rfl) (by kernel_rfl) (by kernel_rfl) (fun _ _ _ h => h) (Or.inl ⟨by rfl, ?yldq⟩) (by assumption) ?_
    case yldq => (intro w hSw; (try dsimp only at hSw); go_simp; try with_reducible rfl)
    try simp only [Act.put, List.setIfInBounds_toArray, List.set_cons_zero, List.set_cons_succ, List.getElem_toArray, List.getElem_cons_succ, List.getElem_cons_zero]
    have hB9 := H.out.below L15.out
    have hr9 := hB9.row (p % n) HI.out
    rw [HQ.out] at hr9
    have hw9 := hr9.wy h5
    have mf : ∀ o, w15.frozen? ⟨q, o, none⟩ = false := fun o => hr9.free o
    have cw0 : w15.cell? ⟨q, kk * 15, none⟩ = some _ := hw9 0 _ rfl
    have cw1 : w15.cell? ⟨q, kk * 15 + 1, none⟩ = some _ := hw9 1 _ rfl
    have cw2 : w15.cell? ⟨q, kk * 15 + 2, none⟩ = some _ := hw9 2 _ rfl
    have cw3 : w15.cell? ⟨q, kk * 15 + 3, none⟩ = some _ := hw9 3 _ rfl
    have cw4 : w15.cell? ⟨q, kk * 15 + 4, none⟩ = some _ := hw9 4 _ rfl
    have cw5 : w15.cell? ⟨q, kk * 15 + 5, none⟩ = some _ := hw9 5 _ rfl
    have cw6 : w15.cell? ⟨q, kk * 15 + 6, none⟩ = some _ := hw9 6 _ rfl
    have cw7 : w15.cell? ⟨q, kk * 15 + 7, none⟩ = some _ := hw9 7 _ rfl
    have cw8 : w15.cell? ⟨q, kk * 15 + 8, none⟩ = some _ := hw9 8 _ rfl
    have cw9 : w15.cell? ⟨q, kk * 15 + 9, none⟩ = some _ := hw9 9 _ rfl
    have cw10 : w15.cell? ⟨q, kk * 15 + 10, none⟩ = some _ := hw9 10 _ rfl
    have cw11 : w15.cell? ⟨q, kk * 15 + 11, none⟩ = some _ := hw9 11 _ rfl
    have cw12 : w15.cell? ⟨q, kk * 15 + 12, none⟩ = some _ := hw9 12 _ rfl
    have cw13 : w15.cell? ⟨q, kk * 15 + 13, none⟩ = some _ := hw9 13 _ rfl
    have cw14 : w15.cell? ⟨q, kk * 15 + 14, none⟩ = some _ := hw9 14 _ rfl
    have HB9 := Lib.hid hB9; have HR9 := Lib.hid hr9; clear hB9 hr9 hw9
    refine wpAnyH_ready (rs := [7]) (by kernel_rfl) (by simp) ?_
    refine AllReadyH.cons rfl (fun K hK => ?_) AllReadyH.nil
    go_simp
    clear mf cw0 cw1 cw2 cw3 cw4 cw5 cw6 cw7 cw8 cw9 cw10 cw11 cw12 cw13 cw14
    obtain ⟨WZ, hW⟩ : ∃ W9, W9 = (((((((((((((((w15.setCell ⟨q, kk * 15, none⟩ (.bool true)).setCell ⟨q, kk * 15 + 1, none⟩ (.int .i64 a)).setCell ⟨q, kk * 15 + 2, none⟩ (.int .u64 (p : Int))).setCell ⟨q, kk * 15 + 3, none⟩ (.bool v)).setCell ⟨q, kk * 15 + 4, none⟩ (.bool r)).setCell ⟨q, kk * 15 + 5, none⟩ (.bool x1)).setCell ⟨q, kk * 15 + 6, none⟩ (.bool x)).setCell ⟨q, kk * 15 + 7, none⟩ (.bool u)).setCell ⟨q, kk * 15 + 8, none⟩ (.bool g9)).setCell ⟨q, kk * 15 + 9, none⟩ (.bool aa)).setCell ⟨q, kk * 15 + 10, none⟩ (.bool d)).setCell ⟨q, kk * 15 + 11, none⟩ (.int .i64 rsw)).setCell ⟨q, kk * 15 + 12, none⟩ (.int .u64 (ppn : Int))).setCell ⟨q, kk * 15 + 13, none⟩ (.int .i64 (lv : Int))).setCell ⟨q, kk * 15 + 14, none⟩ (.int .u64 (pl : Int))) := ⟨_, rfl⟩
    rw [← hW]
    have hcz : Chg (fun c => c = q) w15 WZ := hW ▸ ((((((((((((((((Chg.refl (fun c => c = q) w15).setc ⟨q, kk * 15, none⟩ (.bool true) (.inl rfl)).setc ⟨q, kk * 15 + 1, none⟩ (.int .i64 a) (.inl rfl)).setc ⟨q, kk * 15 + 2, none⟩ (.int .u64 (p : Int)) (.inl rfl)).setc ⟨q, kk * 15 + 3, none⟩ (.bool v) (.inl rfl)).setc ⟨q, kk * 15 + 4, none⟩ (.bool r) (.inl rfl)).setc ⟨q, kk * 15 + 5, none⟩ (.bool x1) (.inl rfl)).setc ⟨q, kk * 15 + 6, none⟩ (.bool x) (.inl rfl)).setc ⟨q, kk * 15 + 7, none⟩ (.bool u) (.inl rfl)).setc ⟨q, kk * 15 + 8, none⟩ (.bool g9) (.inl rfl)).setc ⟨q, kk * 15 + 9, none⟩ (.bool aa) (.inl rfl)).setc ⟨q, kk * 15 + 10, none⟩ (.bool d) (.inl rfl)).setc ⟨q, kk * 15 + 11, none⟩ (.int .i64 rsw) (.inl rfl)).setc ⟨q, kk * 15 + 12, none⟩ (.int .u64 (ppn : Int)) (.inl rfl)).setc ⟨q, kk * 15 + 13, none⟩ (.int .i64 (lv : Int)) (.inl rfl)).setc ⟨q, kk * 15 + 14, none⟩ (.int .u64 (pl : Int)) (.inl rfl))
    have hrz : Blk WZ q (setL (rowC (R (p % n)) m) (kk * 15) (wyC ⟨true, a, p, ⟨⟨v, r, x1, x, u, g9, aa, d, rsw, ppn⟩, lv, pl⟩⟩)) 161 := hW ▸ (((((((((((((((HR9.out.set (kk * 15) (.bool true)).set (kk * 15 + 1) (.int .i64 a)).set (kk * 15 + 2) (.int .u64 (p : Int))).set (kk * 15 + 3) (.bool v)).set (kk * 15 + 4) (.bool r)).set (kk * 15 + 5) (.bool x1)).set (kk * 15 + 6) (.bool x)).set (kk * 15 + 7) (.bool u)).set (kk * 15 + 8) (.bool g9)).set (kk * 15 + 9) (.bool aa)).set (kk * 15 + 10) (.bool d)).set (kk * 15 + 11) (.int .i64 rsw)).set (kk * 15 + 12) (.int .u64 (ppn : Int))).set (kk * 15 + 13) (.int .i64 (lv : Int))).set (kk * 15 + 14) (.int .u64 (pl : Int)))
    rw [rowC_setL _ _ _ _ h5] at hrz
    clear hW
    have hqlt : q < w.heap.size := by
      have := (H.out.row (p % n) HI.out).lt
      rw [HQ.out] at this
      exact this
    have hbz : Blk WZ B10 [.bool true, .int .i64 a, .int .u64 (p : Int), .bool v, .bool r, .bool x1, .bool x, .bool u, .bool g9, .bool aa, .bool d, .int .i64 rsw, .int .u64 (ppn : Int), .int .i64 (lv : Int), .int .u64 (pl : Int)] 161 := K15_1.out.chg hcz (fun e => by have := G10.out; omega)
    have hbuf : Buf WZ b sp g n m X := by
      have hcz2 := hcz
      have hrz2 := hrz
      rw [← HQ.out] at hcz2 hrz2
      refine (HB9.out.fill HI.out h5 hl hcz2 hrz2).of_eq ?_
      rw [HX.out]
      unfold filT
      dsimp only
      rw [HP.out, HK.out]
    have hfin : Chg (FpT b sp g n) w WZ := (Chg.of_below L15.out).trans (hcz.mono (fun k _ e => by have e : k = q := e; rw [e, ← HQ.out]; exact .inr (.inr ⟨_, HI.out, rfl⟩)))
    have HBUF := Lib.hid hbuf; have HFIN := Lib.hid hfin; clear hcz hrz hbuf hfin
    refine hK.out _ _ hbz (fun hS7 => ?_)
    clear hK K hS7 hbz hS4 hSD5
    refine wpAnyH_done (by kernel_rfl) ?_ _
    go_wp2
    go_ret
    exact ⟨rfl, HBUF.out, HFIN.out⟩
end Go.Proofs.YtgnjbjbgfhjakaaGreat
