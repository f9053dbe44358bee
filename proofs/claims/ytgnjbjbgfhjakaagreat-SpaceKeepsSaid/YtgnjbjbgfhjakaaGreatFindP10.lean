/-
  What walk.Find and walk.Walk answer: contracts over the translation. Each says its own conditions.
-/
import Derived.Test.YtgnjbjbgfhjakaaGreatWalk10
import Derived.ScopeJumps
namespace Go.Proofs.YtgnjbjbgfhjakaaGreat
open Go.RowKit
set_option linter.unusedVariables false
set_option linter.unusedSimpArgs false
attribute [local go_sem] setCell_drewN alloc_drewN

set_option maxHeartbeats 8000000 in
theorem wfind_any (mp fr n va : Nat) (S : Stp) (C : Nat → List Int) (F : Nat → Prop) (w : World) (hM : MemX w mp fr n C F) (hv : va < 18446744073709551616) (hs : S.ppn < 18446744073709551616) :
    Calls Tryz.prog 71 #[.pointer (some ⟨mp, 0, none⟩), sv S, .int .u64 va] w fun r w' => r = .returned (.tuple #[lfv (findW fr (Mw C) S va).1, .int .i64 ((findW fr (Mw C) S va).2 : Nat)]) ∧ Below w.heap.size w w' := by
  obtain ⟨on, asid, ppn⟩ := S
  have HM := Lib.hid hM; clear hM
  have h1 := fun w => Calls.belowE (can_any va w hv)
  have HC := Lib.hid h1; clear h1
  dsimp only at hs
  have ht := hs
  have hk : 2 < 3 := by omega
  unfold findW sv
  dsimp only
  cases on
  · rw [if_neg (by decide)]
    go_enter Tryz.func71, Tryz.ntmps71
    go_wp2_with fail
    have nb0 := Blk.new w [.bool false, .int .i64 asid, .int .u64 (ppn : Int)] 141
    replace nb0 := nb0.alloc (.cells #[.bool false, .bool false, .bool false, .bool false, .bool false, .bool false, .bool false, .bool false, .int .i64 0, .int .u64 0, .int .i64 0, .int .u64 0] 41)
    have nb1 : Blk ((w.alloc (.cells #[.bool false, .int .i64 asid, .int .u64 (ppn : Int)] 141)).alloc (.cells #[.bool false, .bool false, .bool false, .bool false, .bool false, .bool false, .bool false, .bool false, .int .i64 0, .int .u64 0, .int .i64 0, .int .u64 0] 41)) (w.heap.size + 1) [.bool false, .bool false, .bool false, .bool false, .bool false, .bool false, .bool false, .bool false, .int .i64 0, .int .u64 0, .int .i64 0, .int .u64 0] 41 := Blk.nextn (w.alloc (.cells #[.bool false, .int .i64 asid, .int .u64 (ppn : Int)] 141)) (w.heap.size + 1) [.bool false, .bool false, .bool false, .bool false, .bool false, .bool false, .bool false, .bool false, .int .i64 0, .int .u64 0, .int .i64 0, .int .u64 0] 41 (by simp)
    have nls : Below w.heap.size w w := (Below.refl w.heap.size w)
    have nl0 := nls.alloc nls.size (.cells #[.bool false, .int .i64 asid, .int .u64 (ppn : Int)] 141)
    have nl1 := nl0.alloc nl0.size (.cells #[.bool false, .bool false, .bool false, .bool false, .bool false, .bool false, .bool false, .bool false, .int .i64 0, .int .u64 0, .int .i64 0, .int .u64 0] 41)
    have nl : Below w.heap.size w ((w.alloc (.cells #[.bool false, .int .i64 asid, .int .u64 (ppn : Int)] 141)).alloc (.cells #[.bool false, .bool false, .bool false, .bool false, .bool false, .bool false, .bool false, .bool false, .int .i64 0, .int .u64 0, .int .i64 0, .int .u64 0] 41)) := nl1; clear nls nl0 nl1
    obtain ⟨B1_1, hB1⟩ : ∃ B, B = w.heap.size + 1 := ⟨_, rfl⟩
    obtain ⟨B1_0, hB0⟩ : ∃ B, B = w.heap.size := ⟨_, rfl⟩
    obtain ⟨W1, hW⟩ : ∃ W, W = ((w.alloc (.cells #[.bool false, .int .i64 asid, .int .u64 (ppn : Int)] 141)).alloc (.cells #[.bool false, .bool false, .bool false, .bool false, .bool false, .bool false, .bool false, .bool false, .int .i64 0, .int .u64 0, .int .i64 0, .int .u64 0] 41)) := ⟨_, rfl⟩
    rw [← hW] at nl nb0 nb1
    rw [← hB1] at nb1
    rw [← hB0] at nb0
    rw [← hW]
    try rw [← hB1]
    try rw [← hB0]
    have K1_0 := Lib.hid nb0
    have G1_0 : Hid (w.heap.size ≤ B1_0) := Lib.hid (by have := (Nat.le_refl w.heap.size); omega)
    have K1_1 := Lib.hid nb1
    have G1_1 : Hid (w.heap.size ≤ B1_1) := Lib.hid (by have := (Nat.le_refl w.heap.size); omega)
    have y1_0_1 : B1_0 ≠ B1_1 := by omega
    have Y1_0_1 := Lib.hid y1_0_1; clear y1_0_1
    have L1 := Lib.hid nl
    clear nl hW nb0 hB0 nb1 hB1
    refine wp_scope_jumps 0 (fun _ _ => False) (fun _ _ => 0) rfl ?_ (fun _ _ h => h.elim)
    have m0_0 := K1_0.out.c0
    have m0_1 := K1_0.out.c1
    have m0_2 := K1_0.out.c2
    have mlt0 : B1_0 < W1.heap.size := K1_0.out.lt
    have m1_0 := K1_1.out.c0
    have m1_1 := K1_1.out.c1
    have m1_2 := K1_1.out.c2
    have m1_3 := K1_1.out.c3
    have m1_4 := K1_1.out.c4
    have m1_5 := K1_1.out.c5
    have m1_6 := K1_1.out.c6
    have m1_7 := K1_1.out.c7
    have m1_8 := K1_1.out.c8
    have m1_9 := K1_1.out.c9
    have m1_10 := K1_1.out.c10
    have m1_11 := K1_1.out.c11
    have mlt1 : B1_1 < W1.heap.size := K1_1.out.lt
    have mf1 : ∀ o, W1.frozen? ⟨B1_1, o, none⟩ = false := fun o => K1_1.out.free o
    go_wp2
    try simp only [Exit.jump]
    clear m0_0 m0_1 m0_2 mlt0 m1_0 m1_1 m1_2 m1_3 m1_4 m1_5 m1_6 m1_7 m1_8 m1_9 m1_10 m1_11 mlt1 mf1
    obtain ⟨W3, hW3⟩ : ∃ W9, W9 = ((((((((((((W1.setCell ⟨B1_1, 0, none⟩ (.bool false)).setCell ⟨B1_1, 1, none⟩ (.bool false)).setCell ⟨B1_1, 2, none⟩ (.bool false)).setCell ⟨B1_1, 3, none⟩ (.bool false)).setCell ⟨B1_1, 4, none⟩ (.bool false)).setCell ⟨B1_1, 5, none⟩ (.bool false)).setCell ⟨B1_1, 6, none⟩ (.bool false)).setCell ⟨B1_1, 7, none⟩ (.bool false)).setCell ⟨B1_1, 8, none⟩ (.int .i64 0)).setCell ⟨B1_1, 9, none⟩ (.int .u64 0)).setCell ⟨B1_1, 10, none⟩ (.int .i64 0)).setCell ⟨B1_1, 11, none⟩ (.int .u64 0)) := ⟨_, rfl⟩
    rw [← hW3]
    have b3 : Blk W3 B1_1 [.bool false, .bool false, .bool false, .bool false, .bool false, .bool false, .bool false, .bool false, .int .i64 0, .int .u64 0, .int .i64 0, .int .u64 0] 41 := hW3 ▸ ((((((((((((K1_1.out.set 0 (.bool false)).set 1 (.bool false)).set 2 (.bool false)).set 3 (.bool false)).set 4 (.bool false)).set 5 (.bool false)).set 6 (.bool false)).set 7 (.bool false)).set 8 (.int .i64 0)).set 9 (.int .u64 0)).set 10 (.int .i64 0)).set 11 (.int .u64 0))
    have l3 : Below w.heap.size w W3 := hW3 ▸ (Below.setCell (Below.setCell (Below.setCell (Below.setCell (Below.setCell (Below.setCell (Below.setCell (Below.setCell (Below.setCell (Below.setCell (Below.setCell (Below.setCell L1.out G1_1.out _) G1_1.out _) G1_1.out _) G1_1.out _) G1_1.out _) G1_1.out _) G1_1.out _) G1_1.out _) G1_1.out _) G1_1.out _) G1_1.out _) G1_1.out _)
    clear hW3
    have r0 := b3.c0
    have r1 := b3.c1
    have r2 := b3.c2
    have r3 := b3.c3
    have r4 := b3.c4
    have r5 := b3.c5
    have r6 := b3.c6
    have r7 := b3.c7
    have r8 := b3.c8
    have r9 := b3.c9
    have r10 := b3.c10
    have r11 := b3.c11
    have Q3 := Lib.hid b3; have QL := Lib.hid l3; clear b3 l3
    refine bodyPost_ret (v := .tuple #[.agg #[.bool false, .bool false, .bool false, .bool false, .bool false, .bool false, .bool false, .bool false, .int .i64 0, .int .u64 0, .int .i64 0, .int .u64 0], .int .i64 2]) (by simp [results, Tryz.results71, go_sem, r0, r1, r2, r3, r4, r5, r6, r7, r8, r9, r10, r11]) rfl ⟨rfl, QL.out⟩
  rw [if_pos rfl]
  generalize canN va = cv at HC ⊢
  cases cv
  · rw [if_neg (by decide)]
    go_enter Tryz.func71, Tryz.ntmps71
    go_wp2_with fail
    have nb0 := Blk.new w [.bool true, .int .i64 asid, .int .u64 (ppn : Int)] 141
    replace nb0 := nb0.alloc (.cells #[.bool false, .bool false, .bool false, .bool false, .bool false, .bool false, .bool false, .bool false, .int .i64 0, .int .u64 0, .int .i64 0, .int .u64 0] 41)
    have nb1 : Blk ((w.alloc (.cells #[.bool true, .int .i64 asid, .int .u64 (ppn : Int)] 141)).alloc (.cells #[.bool false, .bool false, .bool false, .bool false, .bool false, .bool false, .bool false, .bool false, .int .i64 0, .int .u64 0, .int .i64 0, .int .u64 0] 41)) (w.heap.size + 1) [.bool false, .bool false, .bool false, .bool false, .bool false, .bool false, .bool false, .bool false, .int .i64 0, .int .u64 0, .int .i64 0, .int .u64 0] 41 := Blk.nextn (w.alloc (.cells #[.bool true, .int .i64 asid, .int .u64 (ppn : Int)] 141)) (w.heap.size + 1) [.bool false, .bool false, .bool false, .bool false, .bool false, .bool false, .bool false, .bool false, .int .i64 0, .int .u64 0, .int .i64 0, .int .u64 0] 41 (by simp)
    have nls : Below w.heap.size w w := (Below.refl w.heap.size w)
    have nl0 := nls.alloc nls.size (.cells #[.bool true, .int .i64 asid, .int .u64 (ppn : Int)] 141)
    have nl1 := nl0.alloc nl0.size (.cells #[.bool false, .bool false, .bool false, .bool false, .bool false, .bool false, .bool false, .bool false, .int .i64 0, .int .u64 0, .int .i64 0, .int .u64 0] 41)
    have nl : Below w.heap.size w ((w.alloc (.cells #[.bool true, .int .i64 asid, .int .u64 (ppn : Int)] 141)).alloc (.cells #[.bool false, .bool false, .bool false, .bool false, .bool false, .bool false, .bool false, .bool false, .int .i64 0, .int .u64 0, .int .i64 0, .int .u64 0] 41)) := nl1; clear nls nl0 nl1
    obtain ⟨B1_1, hB1⟩ : ∃ B, B = w.heap.size + 1 := ⟨_, rfl⟩
    obtain ⟨B1_0, hB0⟩ : ∃ B, B = w.heap.size := ⟨_, rfl⟩
    obtain ⟨W1, hW⟩ : ∃ W, W = ((w.alloc (.cells #[.bool true, .int .i64 asid, .int .u64 (ppn : Int)] 141)).alloc (.cells #[.bool false, .bool false, .bool false, .bool false, .bool false, .bool false, .bool false, .bool false, .int .i64 0, .int .u64 0, .int .i64 0, .int .u64 0] 41)) := ⟨_, rfl⟩
    rw [← hW] at nl nb0 nb1
    rw [← hB1] at nb1
    rw [← hB0] at nb0
    rw [← hW]
    try rw [← hB1]
    try rw [← hB0]
    have K1_0 := Lib.hid nb0
    have G1_0 : Hid (w.heap.size ≤ B1_0) := Lib.hid (by have := (Nat.le_refl w.heap.size); omega)
    have K1_1 := Lib.hid nb1
    have G1_1 : Hid (w.heap.size ≤ B1_1) := Lib.hid (by have := (Nat.le_refl w.heap.size); omega)
    have y1_0_1 : B1_0 ≠ B1_1 := by omega
    have Y1_0_1 := Lib.hid y1_0_1; clear y1_0_1
    have L1 := Lib.hid nl
    clear nl hW nb0 hB0 nb1 hB1
    refine wp_scope_jumps 0 (fun _ _ => False) (fun _ _ => 0) rfl ?_ (fun _ _ h => h.elim)
    have m0_0 := K1_0.out.c0
    have m0_1 := K1_0.out.c1
    have m0_2 := K1_0.out.c2
    have mlt0 : B1_0 < W1.heap.size := K1_0.out.lt
    go_wp2_with fail
    clear m0_0 m0_1 m0_2 mlt0
    refine (HC.out _).mono ?_
    rintro e w2 ⟨rfl, hb⟩
    have L2 := Lib.hid (L1.out.trans (hb.mono L1.out.size))
    have K2_0 := Lib.hid (K1_0.out.below hb K1_0.out.lt)
    have K2_1 := Lib.hid (K1_1.out.below hb K1_1.out.lt)
    clear hb K1_0 K1_1
    have m1_0 := K2_1.out.c0
    have m1_1 := K2_1.out.c1
    have m1_2 := K2_1.out.c2
    have m1_3 := K2_1.out.c3
    have m1_4 := K2_1.out.c4
    have m1_5 := K2_1.out.c5
    have m1_6 := K2_1.out.c6
    have m1_7 := K2_1.out.c7
    have m1_8 := K2_1.out.c8
    have m1_9 := K2_1.out.c9
    have m1_10 := K2_1.out.c10
    have m1_11 := K2_1.out.c11
    have mlt1 : B1_1 < w2.heap.size := K2_1.out.lt
    have mf1 : ∀ o, w2.frozen? ⟨B1_1, o, none⟩ = false := fun o => K2_1.out.free o
    go_wp2
    try simp only [Exit.jump]
    clear m1_0 m1_1 m1_2 m1_3 m1_4 m1_5 m1_6 m1_7 m1_8 m1_9 m1_10 m1_11 mlt1 mf1
    obtain ⟨W3, hW3⟩ : ∃ W9, W9 = ((((((((((((w2.setCell ⟨B1_1, 0, none⟩ (.bool false)).setCell ⟨B1_1, 1, none⟩ (.bool false)).setCell ⟨B1_1, 2, none⟩ (.bool false)).setCell ⟨B1_1, 3, none⟩ (.bool false)).setCell ⟨B1_1, 4, none⟩ (.bool false)).setCell ⟨B1_1, 5, none⟩ (.bool false)).setCell ⟨B1_1, 6, none⟩ (.bool false)).setCell ⟨B1_1, 7, none⟩ (.bool false)).setCell ⟨B1_1, 8, none⟩ (.int .i64 0)).setCell ⟨B1_1, 9, none⟩ (.int .u64 0)).setCell ⟨B1_1, 10, none⟩ (.int .i64 0)).setCell ⟨B1_1, 11, none⟩ (.int .u64 0)) := ⟨_, rfl⟩
    rw [← hW3]
    have b3 : Blk W3 B1_1 [.bool false, .bool false, .bool false, .bool false, .bool false, .bool false, .bool false, .bool false, .int .i64 0, .int .u64 0, .int .i64 0, .int .u64 0] 41 := hW3 ▸ ((((((((((((K2_1.out.set 0 (.bool false)).set 1 (.bool false)).set 2 (.bool false)).set 3 (.bool false)).set 4 (.bool false)).set 5 (.bool false)).set 6 (.bool false)).set 7 (.bool false)).set 8 (.int .i64 0)).set 9 (.int .u64 0)).set 10 (.int .i64 0)).set 11 (.int .u64 0))
    have l3 : Below w.heap.size w W3 := hW3 ▸ (Below.setCell (Below.setCell (Below.setCell (Below.setCell (Below.setCell (Below.setCell (Below.setCell (Below.setCell (Below.setCell (Below.setCell (Below.setCell (Below.setCell L2.out G1_1.out _) G1_1.out _) G1_1.out _) G1_1.out _) G1_1.out _) G1_1.out _) G1_1.out _) G1_1.out _) G1_1.out _) G1_1.out _) G1_1.out _) G1_1.out _)
    clear hW3
    have r0 := b3.c0
    have r1 := b3.c1
    have r2 := b3.c2
    have r3 := b3.c3
    have r4 := b3.c4
    have r5 := b3.c5
    have r6 := b3.c6
    have r7 := b3.c7
    have r8 := b3.c8
    have r9 := b3.c9
    have r10 := b3.c10
    have r11 := b3.c11
    have Q3 := Lib.hid b3; have QL := Lib.hid l3; clear b3 l3
    refine bodyPost_ret (v := .tuple #[.agg #[.bool false, .bool false, .bool false, .bool false, .bool false, .bool false, .bool false, .bool false, .int .i64 0, .int .u64 0, .int .i64 0, .int .u64 0], .int .i64 51]) (by simp [results, Tryz.results71, go_sem, r0, r1, r2, r3, r4, r5, r6, r7, r8, r9, r10, r11]) rfl ⟨rfl, QL.out⟩
  rw [if_pos rfl]
  obtain ⟨Z, hZ⟩ : ∃ Z, fnd fr (Mw C) va (2 + 1) ppn = Z := ⟨_, rfl⟩
  rw [hZ]
  go_enter Tryz.func71, Tryz.ntmps71
  go_wp2_with fail
  have nb0 := Blk.new w [.bool true, .int .i64 asid, .int .u64 (ppn : Int)] 141
  replace nb0 := nb0.alloc (.cells #[.bool false, .bool false, .bool false, .bool false, .bool false, .bool false, .bool false, .bool false, .int .i64 0, .int .u64 0, .int .i64 0, .int .u64 0] 41)
  have nb1 : Blk ((w.alloc (.cells #[.bool true, .int .i64 asid, .int .u64 (ppn : Int)] 141)).alloc (.cells #[.bool false, .bool false, .bool false, .bool false, .bool false, .bool false, .bool false, .bool false, .int .i64 0, .int .u64 0, .int .i64 0, .int .u64 0] 41)) (w.heap.size + 1) [.bool false, .bool false, .bool false, .bool false, .bool false, .bool false, .bool false, .bool false, .int .i64 0, .int .u64 0, .int .i64 0, .int .u64 0] 41 := Blk.nextn (w.alloc (.cells #[.bool true, .int .i64 asid, .int .u64 (ppn : Int)] 141)) (w.heap.size + 1) [.bool false, .bool false, .bool false, .bool false, .bool false, .bool false, .bool false, .bool false, .int .i64 0, .int .u64 0, .int .i64 0, .int .u64 0] 41 (by simp)
  have nls : Below w.heap.size w w := (Below.refl w.heap.size w)
  have nl0 := nls.alloc nls.size (.cells #[.bool true, .int .i64 asid, .int .u64 (ppn : Int)] 141)
  have nl1 := nl0.alloc nl0.size (.cells #[.bool false, .bool false, .bool false, .bool false, .bool false, .bool false, .bool false, .bool false, .int .i64 0, .int .u64 0, .int .i64 0, .int .u64 0] 41)
  have nl : Below w.heap.size w ((w.alloc (.cells #[.bool true, .int .i64 asid, .int .u64 (ppn : Int)] 141)).alloc (.cells #[.bool false, .bool false, .bool false, .bool false, .bool false, .bool false, .bool false, .bool false, .int .i64 0, .int .u64 0, .int .i64 0, .int .u64 0] 41)) := nl1; clear nls nl0 nl1
  obtain ⟨B1_1, hB1⟩ : ∃ B, B = w.heap.size + 1 := ⟨_, rfl⟩
  obtain ⟨B1_0, hB0⟩ : ∃ B, B = w.heap.size := ⟨_, rfl⟩
  obtain ⟨W1, hW⟩ : ∃ W, W = ((w.alloc (.cells #[.bool true, .int .i64 asid, .int .u64 (ppn : Int)] 141)).alloc (.cells #[.bool false, .bool false, .bool false, .bool false, .bool false, .bool false, .bool false, .bool false, .int .i64 0, .int .u64 0, .int .i64 0, .int .u64 0] 41)) := ⟨_, rfl⟩
  rw [← hW] at nl nb0 nb1
  rw [← hB1] at nb1
  rw [← hB0] at nb0
  rw [← hW]
  try rw [← hB1]
  try rw [← hB0]
  have K1_0 := Lib.hid nb0
  have G1_0 : Hid (w.heap.size ≤ B1_0) := Lib.hid (by have := (Nat.le_refl w.heap.size); omega)
  have K1_1 := Lib.hid nb1
  have G1_1 : Hid (w.heap.size ≤ B1_1) := Lib.hid (by have := (Nat.le_refl w.heap.size); omega)
  have y1_0_1 : B1_0 ≠ B1_1 := by omega
  have Y1_0_1 := Lib.hid y1_0_1; clear y1_0_1
  have L1 := Lib.hid nl
  clear nl hW nb0 hB0 nb1 hB1
  refine wp_scope_jumps 0 (fun a' w' => ∃ (k t : Nat) (u10 u11 u12 u13 u14 u15 u16 u17 u18 u19 u20 u21 u22 u23 u24 u25 u26 u27 u28 u29 u30 u31 u32 u33 u34 u35 u36 u37 u38 u39 u40 u41 u42 u43 u44 u45 u46 u47 u48 : Value), a' = { tmps := #[.pointer (some ⟨mp, 0, none⟩), .agg #[.bool true, .int .i64 asid, .int .u64 (ppn : Int)], .int .u64 va, undef, .pointer (some ⟨B1_0, 0, none⟩), undef, .pointer (some ⟨B1_1, 0, none⟩), .int .i64 0, .int .u64 t, .int .i64 k, u10, u11, u12, u13, u14, u15, u16, u17, u18, u19, u20, u21, u22, u23, u24, u25, u26, u27, u28, u29, u30, u31, u32, u33, u34, u35, u36, u37, u38, u39, u40, u41, u42, u43, u44, u45, u46, u47, u48], defers := [] } ∧ k < 3 ∧ t < 18446744073709551616 ∧ fnd fr (Mw C) va (k + 1) t = Z ∧ Blk w' B1_1 [.bool false, .bool false, .bool false, .bool false, .bool false, .bool false, .bool false, .bool false, .int .i64 0, .int .u64 0, .int .i64 0, .int .u64 0] 41 ∧ Below w.heap.size w w')
    (fun a' _ => (intOf (a'.tmps.getD 9 undef)).toNat) rfl ?_ ?_
  · have q0 := fnd_eq (fr := fr) (M := Mw C) (va := va) (l := 2) (t := ppn)
    have h2 : ∀ w', Below w.heap.size w w' → Calls Tryz.prog 96 #[.pointer (some ⟨mp, 0, none⟩), .int .u64 ppn, .int .u64 va, .int .i64 2] w' _ := fun w' hb => entry_any mp fr n ppn va 2 C F w' (HM.out.below hb) ht hv hk
    have p1 := ent_ppn (fr := fr) (M := Mw C) (va := va) (l := 2) (t := ppn)
    have p2 := ent_lv (fr := fr) (M := Mw C) (va := va) (l := 2) (t := ppn)
    have p3 := ent_two (fr := fr) (M := Mw C) (va := va) (l := 2) (t := ppn)
    generalize ent fr (Mw C) va 2 ppn = E0 at *
    obtain ⟨f, er⟩ := E0
    dsimp only at *
    have h3 := fun w => leads_any f w
    have h4 := fun w => ispage_any f w (by omega)
    have p4 := ledn_lv (f := f)
    generalize ledn f = A at *
    generalize pag f = B at *
    obtain ⟨⟨v, r, x1, x, u, g, a, d, rsw, pn⟩, lv, pl⟩ := f
    unfold lfv at *
    dsimp only at *
    rw [hZ] at q0
    have e1 : er ≠ 0 → Z = (zl, er) := fun h => by rw [q0, if_pos h]
    have e2 : er = 0 → A = true → fnd fr (Mw C) va 2 pn = Z := fun h h' => by rw [q0, if_neg (by omega), if_pos h']
    have e3 : er = 0 → A = false → B = true → Z = (⟨⟨v, r, x1, x, u, g, a, d, rsw, pn⟩, lv, pl⟩, 0) := fun h h' h2 => by rw [q0, if_neg (by omega), h', h2]; rfl
    have e4 : er = 0 → A = false → B = false → Z = (zl, 51) := fun h h' h2 => by rw [q0, if_neg (by omega), h', h2]; rfl
    have b1 : pn < 18446744073709551616 := by omega
    have H2 := Lib.hid h2; have H3 := Lib.hid h3; have H4 := Lib.hid h4; have E1 := Lib.hid e1; have E2 := Lib.hid e2; have E3 := Lib.hid e3; have E4 := Lib.hid e4; have P2 := Lib.hid p2; have P4 := Lib.hid p4; clear h2 h3 h4 q0 e1 e2 e3 e4 p1 p2 p4 hZ
    have m0_0 := K1_0.out.c0
    have m0_1 := K1_0.out.c1
    have m0_2 := K1_0.out.c2
    have mlt0 : B1_0 < W1.heap.size := K1_0.out.lt
    go_wp2_with fail
    clear m0_0 m0_1 m0_2 mlt0
    refine (HC.out _).mono ?_
    rintro e w2 ⟨rfl, hb⟩
    have L2 := Lib.hid (L1.out.trans (hb.mono L1.out.size))
    have K2_0 := Lib.hid (K1_0.out.below hb K1_0.out.lt)
    have K2_1 := Lib.hid (K1_1.out.below hb K1_1.out.lt)
    clear hb K1_0 K1_1
    have m0_0 := K2_0.out.c0
    have m0_1 := K2_0.out.c1
    have m0_2 := K2_0.out.c2
    have mlt0 : B1_0 < w2.heap.size := K2_0.out.lt
    go_upto_region 8 with (fail)
    go_step3
    clear m0_0 m0_1 m0_2 mlt0
    go_wp2_with fail
    refine (H2.out _ L2.out).mono ?_
    rintro e w3 ⟨rfl, hb⟩
    have L3 := Lib.hid (L2.out.trans (hb.mono L2.out.size))
    have K3_0 := Lib.hid (K2_0.out.below hb K2_0.out.lt)
    have K3_1 := Lib.hid (K2_1.out.below hb K2_1.out.lt)
    clear hb K2_0 K2_1
    rcases p3 with rfl | rfl | rfl
    · go_upto_region 9 with (fail)
      have nb0 := Blk.new w3 [.bool v, .bool r, .bool x1, .bool x, .bool u, .bool g, .bool a, .bool d, .int .i64 rsw, .int .u64 (pn : Int), .int .i64 (lv : Int), .int .u64 (pl : Int)] 41
      have nls : Below w.heap.size w w3 := L3.out
      have nl0 := nls.alloc nls.size (.cells #[.bool v, .bool r, .bool x1, .bool x, .bool u, .bool g, .bool a, .bool d, .int .i64 rsw, .int .u64 (pn : Int), .int .i64 (lv : Int), .int .u64 (pl : Int)] 41)
      have nl : Below w.heap.size w (w3.alloc (.cells #[.bool v, .bool r, .bool x1, .bool x, .bool u, .bool g, .bool a, .bool d, .int .i64 rsw, .int .u64 (pn : Int), .int .i64 (lv : Int), .int .u64 (pl : Int)] 41)) := nl0; clear nls nl0
      have o0 := (K3_0.out.alloc (.cells #[.bool v, .bool r, .bool x1, .bool x, .bool u, .bool g, .bool a, .bool d, .int .i64 rsw, .int .u64 (pn : Int), .int .i64 (lv : Int), .int .u64 (pl : Int)] 41))
      have d4_0 : B1_0 < w3.heap.size := K3_0.out.lt
      have o1 := (K3_1.out.alloc (.cells #[.bool v, .bool r, .bool x1, .bool x, .bool u, .bool g, .bool a, .bool d, .int .i64 rsw, .int .u64 (pn : Int), .int .i64 (lv : Int), .int .u64 (pl : Int)] 41))
      have d4_1 : B1_1 < w3.heap.size := K3_1.out.lt
      obtain ⟨B4, hB0⟩ : ∃ B, B = w3.heap.size := ⟨_, rfl⟩
      obtain ⟨W4, hW⟩ : ∃ W, W = (w3.alloc (.cells #[.bool v, .bool r, .bool x1, .bool x, .bool u, .bool g, .bool a, .bool d, .int .i64 rsw, .int .u64 (pn : Int), .int .i64 (lv : Int), .int .u64 (pl : Int)] 41)) := ⟨_, rfl⟩
      rw [← hW] at nl nb0 o0 o1
      rw [← hB0] at nb0
      rw [← hW]
      try rw [← hB0]
      have K4_0 := Lib.hid o0
      have K4_1 := Lib.hid o1
      have K4_2 := Lib.hid nb0
      have G4 : Hid (w.heap.size ≤ B4) := Lib.hid (by have := L3.out.size; omega)
      have x4_0_0 : B1_0 ≠ B4 := by omega
      have x4_1_0 : B1_1 ≠ B4 := by omega
      have X4_0_0 := Lib.hid x4_0_0; clear x4_0_0
      have X4_1_0 := Lib.hid x4_1_0; clear x4_1_0
      have L4 := Lib.hid nl
      clear nl hW nb0 hB0 o0 d4_0 o1 d4_1 K3_0 K3_1
      have m2_0 := K4_2.out.c0
      have m2_1 := K4_2.out.c1
      have m2_2 := K4_2.out.c2
      have m2_3 := K4_2.out.c3
      have m2_4 := K4_2.out.c4
      have m2_5 := K4_2.out.c5
      have m2_6 := K4_2.out.c6
      have m2_7 := K4_2.out.c7
      have m2_8 := K4_2.out.c8
      have m2_9 := K4_2.out.c9
      have m2_10 := K4_2.out.c10
      have m2_11 := K4_2.out.c11
      have mlt2 : B4 < W4.heap.size := K4_2.out.lt
      go_wp2_with fail
      clear m2_0 m2_1 m2_2 m2_3 m2_4 m2_5 m2_6 m2_7 m2_8 m2_9 m2_10 m2_11 mlt2
      refine (H3.out _).mono ?_
      rintro e w5 ⟨rfl, hb⟩
      have L5 := Lib.hid (L4.out.trans (hb.mono L4.out.size))
      have K5_0 := Lib.hid (K4_0.out.below hb K4_0.out.lt)
      have K5_1 := Lib.hid (K4_1.out.below hb K4_1.out.lt)
      have K5_2 := Lib.hid (K4_2.out.below hb K4_2.out.lt)
      clear hb K4_0 K4_1 K4_2
      cases A
      · have m2_0 := K5_2.out.c0
        have m2_1 := K5_2.out.c1
        have m2_2 := K5_2.out.c2
        have m2_3 := K5_2.out.c3
        have m2_4 := K5_2.out.c4
        have m2_5 := K5_2.out.c5
        have m2_6 := K5_2.out.c6
        have m2_7 := K5_2.out.c7
        have m2_8 := K5_2.out.c8
        have m2_9 := K5_2.out.c9
        have m2_10 := K5_2.out.c10
        have m2_11 := K5_2.out.c11
        have mlt2 : B4 < w5.heap.size := K5_2.out.lt
        go_wp2_with fail
        clear m2_0 m2_1 m2_2 m2_3 m2_4 m2_5 m2_6 m2_7 m2_8 m2_9 m2_10 m2_11 mlt2
        refine (H4.out _).mono ?_
        rintro e w6 ⟨rfl, hb⟩
        have L6 := Lib.hid (L5.out.trans (hb.mono L5.out.size))
        have K6_0 := Lib.hid (K5_0.out.below hb K5_0.out.lt)
        have K6_1 := Lib.hid (K5_1.out.below hb K5_1.out.lt)
        have K6_2 := Lib.hid (K5_2.out.below hb K5_2.out.lt)
        clear hb K5_0 K5_1 K5_2
        cases B
        · obtain rfl := E4.out (by trivial) (by trivial) (by trivial)
          have m1_0 := K6_1.out.c0
          have m1_1 := K6_1.out.c1
          have m1_2 := K6_1.out.c2
          have m1_3 := K6_1.out.c3
          have m1_4 := K6_1.out.c4
          have m1_5 := K6_1.out.c5
          have m1_6 := K6_1.out.c6
          have m1_7 := K6_1.out.c7
          have m1_8 := K6_1.out.c8
          have m1_9 := K6_1.out.c9
          have m1_10 := K6_1.out.c10
          have m1_11 := K6_1.out.c11
          have mlt1 : B1_1 < w6.heap.size := K6_1.out.lt
          have mf1 : ∀ o, w6.frozen? ⟨B1_1, o, none⟩ = false := fun o => K6_1.out.free o
          go_wp2
          try simp only [Exit.jump]
          clear m1_0 m1_1 m1_2 m1_3 m1_4 m1_5 m1_6 m1_7 m1_8 m1_9 m1_10 m1_11 mlt1 mf1
          obtain ⟨W3, hW3⟩ : ∃ W9, W9 = ((((((((((((w6.setCell ⟨B1_1, 0, none⟩ (.bool false)).setCell ⟨B1_1, 1, none⟩ (.bool false)).setCell ⟨B1_1, 2, none⟩ (.bool false)).setCell ⟨B1_1, 3, none⟩ (.bool false)).setCell ⟨B1_1, 4, none⟩ (.bool false)).setCell ⟨B1_1, 5, none⟩ (.bool false)).setCell ⟨B1_1, 6, none⟩ (.bool false)).setCell ⟨B1_1, 7, none⟩ (.bool false)).setCell ⟨B1_1, 8, none⟩ (.int .i64 0)).setCell ⟨B1_1, 9, none⟩ (.int .u64 0)).setCell ⟨B1_1, 10, none⟩ (.int .i64 0)).setCell ⟨B1_1, 11, none⟩ (.int .u64 0)) := ⟨_, rfl⟩
          rw [← hW3]
          have b3 : Blk W3 B1_1 [.bool false, .bool false, .bool false, .bool false, .bool false, .bool false, .bool false, .bool false, .int .i64 0, .int .u64 0, .int .i64 0, .int .u64 0] 41 := hW3 ▸ ((((((((((((K6_1.out.set 0 (.bool false)).set 1 (.bool false)).set 2 (.bool false)).set 3 (.bool false)).set 4 (.bool false)).set 5 (.bool false)).set 6 (.bool false)).set 7 (.bool false)).set 8 (.int .i64 0)).set 9 (.int .u64 0)).set 10 (.int .i64 0)).set 11 (.int .u64 0))
          have l3 : Below w.heap.size w W3 := hW3 ▸ (Below.setCell (Below.setCell (Below.setCell (Below.setCell (Below.setCell (Below.setCell (Below.setCell (Below.setCell (Below.setCell (Below.setCell (Below.setCell (Below.setCell L6.out G1_1.out _) G1_1.out _) G1_1.out _) G1_1.out _) G1_1.out _) G1_1.out _) G1_1.out _) G1_1.out _) G1_1.out _) G1_1.out _) G1_1.out _) G1_1.out _)
          clear hW3
          have r0 := b3.c0
          have r1 := b3.c1
          have r2 := b3.c2
          have r3 := b3.c3
          have r4 := b3.c4
          have r5 := b3.c5
          have r6 := b3.c6
          have r7 := b3.c7
          have r8 := b3.c8
          have r9 := b3.c9
          have r10 := b3.c10
          have r11 := b3.c11
          have Q3 := Lib.hid b3; have QL := Lib.hid l3; clear b3 l3
          refine bodyPost_ret (v := .tuple #[.agg #[.bool false, .bool false, .bool false, .bool false, .bool false, .bool false, .bool false, .bool false, .int .i64 0, .int .u64 0, .int .i64 0, .int .u64 0], .int .i64 51]) (by simp [results, Tryz.results71, go_sem, r0, r1, r2, r3, r4, r5, r6, r7, r8, r9, r10, r11]) rfl ⟨rfl, QL.out⟩
        · obtain rfl := E3.out (by trivial) (by trivial) (by trivial)
          have m2_0 := K6_2.out.c0
          have m2_1 := K6_2.out.c1
          have m2_2 := K6_2.out.c2
          have m2_3 := K6_2.out.c3
          have m2_4 := K6_2.out.c4
          have m2_5 := K6_2.out.c5
          have m2_6 := K6_2.out.c6
          have m2_7 := K6_2.out.c7
          have m2_8 := K6_2.out.c8
          have m2_9 := K6_2.out.c9
          have m2_10 := K6_2.out.c10
          have m2_11 := K6_2.out.c11
          have mlt2 : B4 < w6.heap.size := K6_2.out.lt
          have m1_0 := K6_1.out.c0
          have m1_1 := K6_1.out.c1
          have m1_2 := K6_1.out.c2
          have m1_3 := K6_1.out.c3
          have m1_4 := K6_1.out.c4
          have m1_5 := K6_1.out.c5
          have m1_6 := K6_1.out.c6
          have m1_7 := K6_1.out.c7
          have m1_8 := K6_1.out.c8
          have m1_9 := K6_1.out.c9
          have m1_10 := K6_1.out.c10
          have m1_11 := K6_1.out.c11
          have mlt1 : B1_1 < w6.heap.size := K6_1.out.lt
          have mf1 : ∀ o, w6.frozen? ⟨B1_1, o, none⟩ = false := fun o => K6_1.out.free o
          go_wp2
          try simp only [Exit.jump]
          clear m2_0 m2_1 m2_2 m2_3 m2_4 m2_5 m2_6 m2_7 m2_8 m2_9 m2_10 m2_11 mlt2 m1_0 m1_1 m1_2 m1_3 m1_4 m1_5 m1_6 m1_7 m1_8 m1_9 m1_10 m1_11 mlt1 mf1
          obtain ⟨W3, hW3⟩ : ∃ W9, W9 = ((((((((((((w6.setCell ⟨B1_1, 0, none⟩ (.bool v)).setCell ⟨B1_1, 1, none⟩ (.bool r)).setCell ⟨B1_1, 2, none⟩ (.bool x1)).setCell ⟨B1_1, 3, none⟩ (.bool x)).setCell ⟨B1_1, 4, none⟩ (.bool u)).setCell ⟨B1_1, 5, none⟩ (.bool g)).setCell ⟨B1_1, 6, none⟩ (.bool a)).setCell ⟨B1_1, 7, none⟩ (.bool d)).setCell ⟨B1_1, 8, none⟩ (.int .i64 rsw)).setCell ⟨B1_1, 9, none⟩ (.int .u64 (pn : Int))).setCell ⟨B1_1, 10, none⟩ (.int .i64 (lv : Int))).setCell ⟨B1_1, 11, none⟩ (.int .u64 (pl : Int))) := ⟨_, rfl⟩
          rw [← hW3]
          have b3 : Blk W3 B1_1 [.bool v, .bool r, .bool x1, .bool x, .bool u, .bool g, .bool a, .bool d, .int .i64 rsw, .int .u64 (pn : Int), .int .i64 (lv : Int), .int .u64 (pl : Int)] 41 := hW3 ▸ ((((((((((((K6_1.out.set 0 (.bool v)).set 1 (.bool r)).set 2 (.bool x1)).set 3 (.bool x)).set 4 (.bool u)).set 5 (.bool g)).set 6 (.bool a)).set 7 (.bool d)).set 8 (.int .i64 rsw)).set 9 (.int .u64 (pn : Int))).set 10 (.int .i64 (lv : Int))).set 11 (.int .u64 (pl : Int)))
          have l3 : Below w.heap.size w W3 := hW3 ▸ (Below.setCell (Below.setCell (Below.setCell (Below.setCell (Below.setCell (Below.setCell (Below.setCell (Below.setCell (Below.setCell (Below.setCell (Below.setCell (Below.setCell L6.out G1_1.out _) G1_1.out _) G1_1.out _) G1_1.out _) G1_1.out _) G1_1.out _) G1_1.out _) G1_1.out _) G1_1.out _) G1_1.out _) G1_1.out _) G1_1.out _)
          clear hW3
          have r0 := b3.c0
          have r1 := b3.c1
          have r2 := b3.c2
          have r3 := b3.c3
          have r4 := b3.c4
          have r5 := b3.c5
          have r6 := b3.c6
          have r7 := b3.c7
          have r8 := b3.c8
          have r9 := b3.c9
          have r10 := b3.c10
          have r11 := b3.c11
          have Q3 := Lib.hid b3; have QL := Lib.hid l3; clear b3 l3
          refine bodyPost_ret (v := .tuple #[.agg #[.bool v, .bool r, .bool x1, .bool x, .bool u, .bool g, .bool a, .bool d, .int .i64 rsw, .int .u64 (pn : Int), .int .i64 (lv : Int), .int .u64 (pl : Int)], .int .i64 0]) (by simp [results, Tryz.results71, go_sem, r0, r1, r2, r3, r4, r5, r6, r7, r8, r9, r10, r11]) rfl ⟨rfl, QL.out⟩
      · have hz := E2.out (by trivial) (by trivial)
        have HZ := Lib.hid hz; clear hz
        have m2_0 := K5_2.out.c0
        have m2_1 := K5_2.out.c1
        have m2_2 := K5_2.out.c2
        have m2_3 := K5_2.out.c3
        have m2_4 := K5_2.out.c4
        have m2_5 := K5_2.out.c5
        have m2_6 := K5_2.out.c6
        have m2_7 := K5_2.out.c7
        have m2_8 := K5_2.out.c8
        have m2_9 := K5_2.out.c9
        have m2_10 := K5_2.out.c10
        have m2_11 := K5_2.out.c11
        have mlt2 : B4 < w5.heap.size := K5_2.out.lt
        go_wp2
        clear m2_0 m2_1 m2_2 m2_3 m2_4 m2_5 m2_6 m2_7 m2_8 m2_9 m2_10 m2_11 mlt2
        go_step3
        exact ⟨rfl, 1, pn, _, _, _, _, _, _, _, _, _, _, _, _, _, _, _, _, _, _, _, _, _, _, _, _, _, _, _, _, _, _, _, _, _, _, _, _, _, _, _, rfl, by omega, b1, HZ.out, K5_1.out, L5.out⟩
    · obtain rfl := E1.out (by decide)
      go_upto_region 9 with (fail)
      have nb0 := Blk.new w3 [.bool v, .bool r, .bool x1, .bool x, .bool u, .bool g, .bool a, .bool d, .int .i64 rsw, .int .u64 (pn : Int), .int .i64 (lv : Int), .int .u64 (pl : Int)] 41
      have nls : Below w.heap.size w w3 := L3.out
      have nl0 := nls.alloc nls.size (.cells #[.bool v, .bool r, .bool x1, .bool x, .bool u, .bool g, .bool a, .bool d, .int .i64 rsw, .int .u64 (pn : Int), .int .i64 (lv : Int), .int .u64 (pl : Int)] 41)
      have nl : Below w.heap.size w (w3.alloc (.cells #[.bool v, .bool r, .bool x1, .bool x, .bool u, .bool g, .bool a, .bool d, .int .i64 rsw, .int .u64 (pn : Int), .int .i64 (lv : Int), .int .u64 (pl : Int)] 41)) := nl0; clear nls nl0
      have o0 := (K3_0.out.alloc (.cells #[.bool v, .bool r, .bool x1, .bool x, .bool u, .bool g, .bool a, .bool d, .int .i64 rsw, .int .u64 (pn : Int), .int .i64 (lv : Int), .int .u64 (pl : Int)] 41))
      have d7_0 : B1_0 < w3.heap.size := K3_0.out.lt
      have o1 := (K3_1.out.alloc (.cells #[.bool v, .bool r, .bool x1, .bool x, .bool u, .bool g, .bool a, .bool d, .int .i64 rsw, .int .u64 (pn : Int), .int .i64 (lv : Int), .int .u64 (pl : Int)] 41))
      have d7_1 : B1_1 < w3.heap.size := K3_1.out.lt
      obtain ⟨B7, hB0⟩ : ∃ B, B = w3.heap.size := ⟨_, rfl⟩
      obtain ⟨W7, hW⟩ : ∃ W, W = (w3.alloc (.cells #[.bool v, .bool r, .bool x1, .bool x, .bool u, .bool g, .bool a, .bool d, .int .i64 rsw, .int .u64 (pn : Int), .int .i64 (lv : Int), .int .u64 (pl : Int)] 41)) := ⟨_, rfl⟩
      rw [← hW] at nl nb0 o0 o1
      rw [← hB0] at nb0
      rw [← hW]
      try rw [← hB0]
      have K7_0 := Lib.hid o0
      have K7_1 := Lib.hid o1
      have K7_2 := Lib.hid nb0
      have G7 : Hid (w.heap.size ≤ B7) := Lib.hid (by have := L3.out.size; omega)
      have x7_0_0 : B1_0 ≠ B7 := by omega
      have x7_1_0 : B1_1 ≠ B7 := by omega
      have X7_0_0 := Lib.hid x7_0_0; clear x7_0_0
      have X7_1_0 := Lib.hid x7_1_0; clear x7_1_0
      have L7 := Lib.hid nl
      clear nl hW nb0 hB0 o0 d7_0 o1 d7_1 K3_0 K3_1
      have m1_0 := K7_1.out.c0
      have m1_1 := K7_1.out.c1
      have m1_2 := K7_1.out.c2
      have m1_3 := K7_1.out.c3
      have m1_4 := K7_1.out.c4
      have m1_5 := K7_1.out.c5
      have m1_6 := K7_1.out.c6
      have m1_7 := K7_1.out.c7
      have m1_8 := K7_1.out.c8
      have m1_9 := K7_1.out.c9
      have m1_10 := K7_1.out.c10
      have m1_11 := K7_1.out.c11
      have mlt1 : B1_1 < W7.heap.size := K7_1.out.lt
      have mf1 : ∀ o, W7.frozen? ⟨B1_1, o, none⟩ = false := fun o => K7_1.out.free o
      go_wp2
      try simp only [Exit.jump]
      clear m1_0 m1_1 m1_2 m1_3 m1_4 m1_5 m1_6 m1_7 m1_8 m1_9 m1_10 m1_11 mlt1 mf1
      obtain ⟨W3, hW3⟩ : ∃ W9, W9 = ((((((((((((W7.setCell ⟨B1_1, 0, none⟩ (.bool false)).setCell ⟨B1_1, 1, none⟩ (.bool false)).setCell ⟨B1_1, 2, none⟩ (.bool false)).setCell ⟨B1_1, 3, none⟩ (.bool false)).setCell ⟨B1_1, 4, none⟩ (.bool false)).setCell ⟨B1_1, 5, none⟩ (.bool false)).setCell ⟨B1_1, 6, none⟩ (.bool false)).setCell ⟨B1_1, 7, none⟩ (.bool false)).setCell ⟨B1_1, 8, none⟩ (.int .i64 0)).setCell ⟨B1_1, 9, none⟩ (.int .u64 0)).setCell ⟨B1_1, 10, none⟩ (.int .i64 0)).setCell ⟨B1_1, 11, none⟩ (.int .u64 0)) := ⟨_, rfl⟩
      rw [← hW3]
      have b3 : Blk W3 B1_1 [.bool false, .bool false, .bool false, .bool false, .bool false, .bool false, .bool false, .bool false, .int .i64 0, .int .u64 0, .int .i64 0, .int .u64 0] 41 := hW3 ▸ ((((((((((((K7_1.out.set 0 (.bool false)).set 1 (.bool false)).set 2 (.bool false)).set 3 (.bool false)).set 4 (.bool false)).set 5 (.bool false)).set 6 (.bool false)).set 7 (.bool false)).set 8 (.int .i64 0)).set 9 (.int .u64 0)).set 10 (.int .i64 0)).set 11 (.int .u64 0))
      have l3 : Below w.heap.size w W3 := hW3 ▸ (Below.setCell (Below.setCell (Below.setCell (Below.setCell (Below.setCell (Below.setCell (Below.setCell (Below.setCell (Below.setCell (Below.setCell (Below.setCell (Below.setCell L7.out G1_1.out _) G1_1.out _) G1_1.out _) G1_1.out _) G1_1.out _) G1_1.out _) G1_1.out _) G1_1.out _) G1_1.out _) G1_1.out _) G1_1.out _) G1_1.out _)
      clear hW3
      have r0 := b3.c0
      have r1 := b3.c1
      have r2 := b3.c2
      have r3 := b3.c3
      have r4 := b3.c4
      have r5 := b3.c5
      have r6 := b3.c6
      have r7 := b3.c7
      have r8 := b3.c8
      have r9 := b3.c9
      have r10 := b3.c10
      have r11 := b3.c11
      have Q3 := Lib.hid b3; have QL := Lib.hid l3; clear b3 l3
      refine bodyPost_ret (v := .tuple #[.agg #[.bool false, .bool false, .bool false, .bool false, .bool false, .bool false, .bool false, .bool false, .int .i64 0, .int .u64 0, .int .i64 0, .int .u64 0], .int .i64 51]) (by simp [results, Tryz.results71, go_sem, r0, r1, r2, r3, r4, r5, r6, r7, r8, r9, r10, r11]) rfl ⟨rfl, QL.out⟩
    · obtain rfl := E1.out (by decide)
      go_upto_region 9 with (fail)
      have nb0 := Blk.new w3 [.bool v, .bool r, .bool x1, .bool x, .bool u, .bool g, .bool a, .bool d, .int .i64 rsw, .int .u64 (pn : Int), .int .i64 (lv : Int), .int .u64 (pl : Int)] 41
      have nls : Below w.heap.size w w3 := L3.out
      have nl0 := nls.alloc nls.size (.cells #[.bool v, .bool r, .bool x1, .bool x, .bool u, .bool g, .bool a, .bool d, .int .i64 rsw, .int .u64 (pn : Int), .int .i64 (lv : Int), .int .u64 (pl : Int)] 41)
      have nl : Below w.heap.size w (w3.alloc (.cells #[.bool v, .bool r, .bool x1, .bool x, .bool u, .bool g, .bool a, .bool d, .int .i64 rsw, .int .u64 (pn : Int), .int .i64 (lv : Int), .int .u64 (pl : Int)] 41)) := nl0; clear nls nl0
      have o0 := (K3_0.out.alloc (.cells #[.bool v, .bool r, .bool x1, .bool x, .bool u, .bool g, .bool a, .bool d, .int .i64 rsw, .int .u64 (pn : Int), .int .i64 (lv : Int), .int .u64 (pl : Int)] 41))
      have d8_0 : B1_0 < w3.heap.size := K3_0.out.lt
      have o1 := (K3_1.out.alloc (.cells #[.bool v, .bool r, .bool x1, .bool x, .bool u, .bool g, .bool a, .bool d, .int .i64 rsw, .int .u64 (pn : Int), .int .i64 (lv : Int), .int .u64 (pl : Int)] 41))
      have d8_1 : B1_1 < w3.heap.size := K3_1.out.lt
      obtain ⟨B8, hB0⟩ : ∃ B, B = w3.heap.size := ⟨_, rfl⟩
      obtain ⟨W8, hW⟩ : ∃ W, W = (w3.alloc (.cells #[.bool v, .bool r, .bool x1, .bool x, .bool u, .bool g, .bool a, .bool d, .int .i64 rsw, .int .u64 (pn : Int), .int .i64 (lv : Int), .int .u64 (pl : Int)] 41)) := ⟨_, rfl⟩
      rw [← hW] at nl nb0 o0 o1
      rw [← hB0] at nb0
      rw [← hW]
      try rw [← hB0]
      have K8_0 := Lib.hid o0
      have K8_1 := Lib.hid o1
      have K8_2 := Lib.hid nb0
      have G8 : Hid (w.heap.size ≤ B8) := Lib.hid (by have := L3.out.size; omega)
      have x8_0_0 : B1_0 ≠ B8 := by omega
      have x8_1_0 : B1_1 ≠ B8 := by omega
      have X8_0_0 := Lib.hid x8_0_0; clear x8_0_0
      have X8_1_0 := Lib.hid x8_1_0; clear x8_1_0
      have L8 := Lib.hid nl
      clear nl hW nb0 hB0 o0 d8_0 o1 d8_1 K3_0 K3_1
      have m1_0 := K8_1.out.c0
      have m1_1 := K8_1.out.c1
      have m1_2 := K8_1.out.c2
      have m1_3 := K8_1.out.c3
      have m1_4 := K8_1.out.c4
      have m1_5 := K8_1.out.c5
      have m1_6 := K8_1.out.c6
      have m1_7 := K8_1.out.c7
      have m1_8 := K8_1.out.c8
      have m1_9 := K8_1.out.c9
      have m1_10 := K8_1.out.c10
      have m1_11 := K8_1.out.c11
      have mlt1 : B1_1 < W8.heap.size := K8_1.out.lt
      have mf1 : ∀ o, W8.frozen? ⟨B1_1, o, none⟩ = false := fun o => K8_1.out.free o
      go_wp2
      try simp only [Exit.jump]
      clear m1_0 m1_1 m1_2 m1_3 m1_4 m1_5 m1_6 m1_7 m1_8 m1_9 m1_10 m1_11 mlt1 mf1
      obtain ⟨W3, hW3⟩ : ∃ W9, W9 = ((((((((((((W8.setCell ⟨B1_1, 0, none⟩ (.bool false)).setCell ⟨B1_1, 1, none⟩ (.bool false)).setCell ⟨B1_1, 2, none⟩ (.bool false)).setCell ⟨B1_1, 3, none⟩ (.bool false)).setCell ⟨B1_1, 4, none⟩ (.bool false)).setCell ⟨B1_1, 5, none⟩ (.bool false)).setCell ⟨B1_1, 6, none⟩ (.bool false)).setCell ⟨B1_1, 7, none⟩ (.bool false)).setCell ⟨B1_1, 8, none⟩ (.int .i64 0)).setCell ⟨B1_1, 9, none⟩ (.int .u64 0)).setCell ⟨B1_1, 10, none⟩ (.int .i64 0)).setCell ⟨B1_1, 11, none⟩ (.int .u64 0)) := ⟨_, rfl⟩
      rw [← hW3]
      have b3 : Blk W3 B1_1 [.bool false, .bool false, .bool false, .bool false, .bool false, .bool false, .bool false, .bool false, .int .i64 0, .int .u64 0, .int .i64 0, .int .u64 0] 41 := hW3 ▸ ((((((((((((K8_1.out.set 0 (.bool false)).set 1 (.bool false)).set 2 (.bool false)).set 3 (.bool false)).set 4 (.bool false)).set 5 (.bool false)).set 6 (.bool false)).set 7 (.bool false)).set 8 (.int .i64 0)).set 9 (.int .u64 0)).set 10 (.int .i64 0)).set 11 (.int .u64 0))
      have l3 : Below w.heap.size w W3 := hW3 ▸ (Below.setCell (Below.setCell (Below.setCell (Below.setCell (Below.setCell (Below.setCell (Below.setCell (Below.setCell (Below.setCell (Below.setCell (Below.setCell (Below.setCell L8.out G1_1.out _) G1_1.out _) G1_1.out _) G1_1.out _) G1_1.out _) G1_1.out _) G1_1.out _) G1_1.out _) G1_1.out _) G1_1.out _) G1_1.out _) G1_1.out _)
      clear hW3
      have r0 := b3.c0
      have r1 := b3.c1
      have r2 := b3.c2
      have r3 := b3.c3
      have r4 := b3.c4
      have r5 := b3.c5
      have r6 := b3.c6
      have r7 := b3.c7
      have r8 := b3.c8
      have r9 := b3.c9
      have r10 := b3.c10
      have r11 := b3.c11
      have Q3 := Lib.hid b3; have QL := Lib.hid l3; clear b3 l3
      refine bodyPost_ret (v := .tuple #[.agg #[.bool false, .bool false, .bool false, .bool false, .bool false, .bool false, .bool false, .bool false, .int .i64 0, .int .u64 0, .int .i64 0, .int .u64 0], .int .i64 61]) (by simp [results, Tryz.results71, go_sem, r0, r1, r2, r3, r4, r5, r6, r7, r8, r9, r10, r11]) rfl ⟨rfl, QL.out⟩
  · rintro a' wr ⟨k, t, u10, u11, u12, u13, u14, u15, u16, u17, u18, u19, u20, u21, u22, u23, u24, u25, u26, u27, u28, u29, u30, u31, u32, u33, u34, u35, u36, u37, u38, u39, u40, u41, u42, u43, u44, u45, u46, u47, u48, rfl, hk, ht, hZ, hP, hB⟩
    have HP := Lib.hid hP; have HB := Lib.hid hB; clear hP hB
    have q0 := fnd_eq (fr := fr) (M := Mw C) (va := va) (l := k) (t := t)
    have h2 : ∀ w', Below w.heap.size w w' → Calls Tryz.prog 96 #[.pointer (some ⟨mp, 0, none⟩), .int .u64 t, .int .u64 va, .int .i64 k] w' _ := fun w' hb => entry_any mp fr n t va k C F w' (HM.out.below hb) ht hv hk
    have p1 := ent_ppn (fr := fr) (M := Mw C) (va := va) (l := k) (t := t)
    have p2 := ent_lv (fr := fr) (M := Mw C) (va := va) (l := k) (t := t)
    have p3 := ent_two (fr := fr) (M := Mw C) (va := va) (l := k) (t := t)
    generalize ent fr (Mw C) va k t = E0 at *
    obtain ⟨f, er⟩ := E0
    dsimp only at *
    have h3 := fun w => leads_any f w
    have h4 := fun w => ispage_any f w (by omega)
    have p4 := ledn_lv (f := f)
    generalize ledn f = A at *
    generalize pag f = B at *
    obtain ⟨⟨v, r, x1, x, u, g, a, d, rsw, pn⟩, lv, pl⟩ := f
    unfold lfv at *
    dsimp only at *
    rw [hZ] at q0
    have e1 : er ≠ 0 → Z = (zl, er) := fun h => by rw [q0, if_pos h]
    have e2 : er = 0 → A = true → fnd fr (Mw C) va k pn = Z := fun h h' => by rw [q0, if_neg (by omega), if_pos h']
    have e3 : er = 0 → A = false → B = true → Z = (⟨⟨v, r, x1, x, u, g, a, d, rsw, pn⟩, lv, pl⟩, 0) := fun h h' h2 => by rw [q0, if_neg (by omega), h', h2]; rfl
    have e4 : er = 0 → A = false → B = false → Z = (zl, 51) := fun h h' h2 => by rw [q0, if_neg (by omega), h', h2]; rfl
    have b1 : pn < 18446744073709551616 := by omega
    have H2 := Lib.hid h2; have H3 := Lib.hid h3; have H4 := Lib.hid h4; have E1 := Lib.hid e1; have E2 := Lib.hid e2; have E3 := Lib.hid e3; have E4 := Lib.hid e4; have P2 := Lib.hid p2; have P4 := Lib.hid p4; clear h2 h3 h4 q0 e1 e2 e3 e4 p1 p2 p4 hZ
    go_wp2_with fail
    refine (H2.out _ HB.out).mono ?_
    rintro e w9 ⟨rfl, hb⟩
    have L9 := Lib.hid (HB.out.trans (hb.mono HB.out.size))
    have K9_0 := Lib.hid (HP.out.below hb HP.out.lt)
    clear hb HP
    rcases p3 with rfl | rfl | rfl
    · go_upto_region 9 with (fail)
      have nb0 := Blk.new w9 [.bool v, .bool r, .bool x1, .bool x, .bool u, .bool g, .bool a, .bool d, .int .i64 rsw, .int .u64 (pn : Int), .int .i64 (lv : Int), .int .u64 (pl : Int)] 41
      have nls : Below w.heap.size w w9 := L9.out
      have nl0 := nls.alloc nls.size (.cells #[.bool v, .bool r, .bool x1, .bool x, .bool u, .bool g, .bool a, .bool d, .int .i64 rsw, .int .u64 (pn : Int), .int .i64 (lv : Int), .int .u64 (pl : Int)] 41)
      have nl : Below w.heap.size w (w9.alloc (.cells #[.bool v, .bool r, .bool x1, .bool x, .bool u, .bool g, .bool a, .bool d, .int .i64 rsw, .int .u64 (pn : Int), .int .i64 (lv : Int), .int .u64 (pl : Int)] 41)) := nl0; clear nls nl0
      have o0 := (K9_0.out.alloc (.cells #[.bool v, .bool r, .bool x1, .bool x, .bool u, .bool g, .bool a, .bool d, .int .i64 rsw, .int .u64 (pn : Int), .int .i64 (lv : Int), .int .u64 (pl : Int)] 41))
      have d10_0 : B1_1 < w9.heap.size := K9_0.out.lt
      obtain ⟨B10, hB0⟩ : ∃ B, B = w9.heap.size := ⟨_, rfl⟩
      obtain ⟨W10, hW⟩ : ∃ W, W = (w9.alloc (.cells #[.bool v, .bool r, .bool x1, .bool x, .bool u, .bool g, .bool a, .bool d, .int .i64 rsw, .int .u64 (pn : Int), .int .i64 (lv : Int), .int .u64 (pl : Int)] 41)) := ⟨_, rfl⟩
      rw [← hW] at nl nb0 o0
      rw [← hB0] at nb0
      rw [← hW]
      try rw [← hB0]
      have K10_0 := Lib.hid o0
      have K10_1 := Lib.hid nb0
      have G10 : Hid (w.heap.size ≤ B10) := Lib.hid (by have := L9.out.size; omega)
      have x10_0_0 : B1_1 ≠ B10 := by omega
      have X10_0_0 := Lib.hid x10_0_0; clear x10_0_0
      have L10 := Lib.hid nl
      clear nl hW nb0 hB0 o0 d10_0 K9_0
      have m1_0 := K10_1.out.c0
      have m1_1 := K10_1.out.c1
      have m1_2 := K10_1.out.c2
      have m1_3 := K10_1.out.c3
      have m1_4 := K10_1.out.c4
      have m1_5 := K10_1.out.c5
      have m1_6 := K10_1.out.c6
      have m1_7 := K10_1.out.c7
      have m1_8 := K10_1.out.c8
      have m1_9 := K10_1.out.c9
      have m1_10 := K10_1.out.c10
      have m1_11 := K10_1.out.c11
      have mlt1 : B10 < W10.heap.size := K10_1.out.lt
      go_wp2_with fail
      clear m1_0 m1_1 m1_2 m1_3 m1_4 m1_5 m1_6 m1_7 m1_8 m1_9 m1_10 m1_11 mlt1
      refine (H3.out _).mono ?_
      rintro e w11 ⟨rfl, hb⟩
      have L11 := Lib.hid (L10.out.trans (hb.mono L10.out.size))
      have K11_0 := Lib.hid (K10_0.out.below hb K10_0.out.lt)
      have K11_1 := Lib.hid (K10_1.out.below hb K10_1.out.lt)
      clear hb K10_0 K10_1
      cases A
      · have m1_0 := K11_1.out.c0
        have m1_1 := K11_1.out.c1
        have m1_2 := K11_1.out.c2
        have m1_3 := K11_1.out.c3
        have m1_4 := K11_1.out.c4
        have m1_5 := K11_1.out.c5
        have m1_6 := K11_1.out.c6
        have m1_7 := K11_1.out.c7
        have m1_8 := K11_1.out.c8
        have m1_9 := K11_1.out.c9
        have m1_10 := K11_1.out.c10
        have m1_11 := K11_1.out.c11
        have mlt1 : B10 < w11.heap.size := K11_1.out.lt
        go_wp2_with fail
        clear m1_0 m1_1 m1_2 m1_3 m1_4 m1_5 m1_6 m1_7 m1_8 m1_9 m1_10 m1_11 mlt1
        refine (H4.out _).mono ?_
        rintro e w12 ⟨rfl, hb⟩
        have L12 := Lib.hid (L11.out.trans (hb.mono L11.out.size))
        have K12_0 := Lib.hid (K11_0.out.below hb K11_0.out.lt)
        have K12_1 := Lib.hid (K11_1.out.below hb K11_1.out.lt)
        clear hb K11_0 K11_1
        cases B
        · obtain rfl := E4.out (by trivial) (by trivial) (by trivial)
          have m0_0 := K12_0.out.c0
          have m0_1 := K12_0.out.c1
          have m0_2 := K12_0.out.c2
          have m0_3 := K12_0.out.c3
          have m0_4 := K12_0.out.c4
          have m0_5 := K12_0.out.c5
          have m0_6 := K12_0.out.c6
          have m0_7 := K12_0.out.c7
          have m0_8 := K12_0.out.c8
          have m0_9 := K12_0.out.c9
          have m0_10 := K12_0.out.c10
          have m0_11 := K12_0.out.c11
          have mlt0 : B1_1 < w12.heap.size := K12_0.out.lt
          have mf0 : ∀ o, w12.frozen? ⟨B1_1, o, none⟩ = false := fun o => K12_0.out.free o
          go_wp2
          try simp only [Exit.jump]
          clear m0_0 m0_1 m0_2 m0_3 m0_4 m0_5 m0_6 m0_7 m0_8 m0_9 m0_10 m0_11 mlt0 mf0
          obtain ⟨W3, hW3⟩ : ∃ W9, W9 = ((((((((((((w12.setCell ⟨B1_1, 0, none⟩ (.bool false)).setCell ⟨B1_1, 1, none⟩ (.bool false)).setCell ⟨B1_1, 2, none⟩ (.bool false)).setCell ⟨B1_1, 3, none⟩ (.bool false)).setCell ⟨B1_1, 4, none⟩ (.bool false)).setCell ⟨B1_1, 5, none⟩ (.bool false)).setCell ⟨B1_1, 6, none⟩ (.bool false)).setCell ⟨B1_1, 7, none⟩ (.bool false)).setCell ⟨B1_1, 8, none⟩ (.int .i64 0)).setCell ⟨B1_1, 9, none⟩ (.int .u64 0)).setCell ⟨B1_1, 10, none⟩ (.int .i64 0)).setCell ⟨B1_1, 11, none⟩ (.int .u64 0)) := ⟨_, rfl⟩
          rw [← hW3]
          have b3 : Blk W3 B1_1 [.bool false, .bool false, .bool false, .bool false, .bool false, .bool false, .bool false, .bool false, .int .i64 0, .int .u64 0, .int .i64 0, .int .u64 0] 41 := hW3 ▸ ((((((((((((K12_0.out.set 0 (.bool false)).set 1 (.bool false)).set 2 (.bool false)).set 3 (.bool false)).set 4 (.bool false)).set 5 (.bool false)).set 6 (.bool false)).set 7 (.bool false)).set 8 (.int .i64 0)).set 9 (.int .u64 0)).set 10 (.int .i64 0)).set 11 (.int .u64 0))
          have l3 : Below w.heap.size w W3 := hW3 ▸ (Below.setCell (Below.setCell (Below.setCell (Below.setCell (Below.setCell (Below.setCell (Below.setCell (Below.setCell (Below.setCell (Below.setCell (Below.setCell (Below.setCell L12.out G1_1.out _) G1_1.out _) G1_1.out _) G1_1.out _) G1_1.out _) G1_1.out _) G1_1.out _) G1_1.out _) G1_1.out _) G1_1.out _) G1_1.out _) G1_1.out _)
          clear hW3
          have r0 := b3.c0
          have r1 := b3.c1
          have r2 := b3.c2
          have r3 := b3.c3
          have r4 := b3.c4
          have r5 := b3.c5
          have r6 := b3.c6
          have r7 := b3.c7
          have r8 := b3.c8
          have r9 := b3.c9
          have r10 := b3.c10
          have r11 := b3.c11
          have Q3 := Lib.hid b3; have QL := Lib.hid l3; clear b3 l3
          refine bodyPost_ret (v := .tuple #[.agg #[.bool false, .bool false, .bool false, .bool false, .bool false, .bool false, .bool false, .bool false, .int .i64 0, .int .u64 0, .int .i64 0, .int .u64 0], .int .i64 51]) (by simp [results, Tryz.results71, go_sem, r0, r1, r2, r3, r4, r5, r6, r7, r8, r9, r10, r11]) rfl ⟨rfl, QL.out⟩
        · obtain rfl := E3.out (by trivial) (by trivial) (by trivial)
          have m1_0 := K12_1.out.c0
          have m1_1 := K12_1.out.c1
          have m1_2 := K12_1.out.c2
          have m1_3 := K12_1.out.c3
          have m1_4 := K12_1.out.c4
          have m1_5 := K12_1.out.c5
          have m1_6 := K12_1.out.c6
          have m1_7 := K12_1.out.c7
          have m1_8 := K12_1.out.c8
          have m1_9 := K12_1.out.c9
          have m1_10 := K12_1.out.c10
          have m1_11 := K12_1.out.c11
          have mlt1 : B10 < w12.heap.size := K12_1.out.lt
          have m0_0 := K12_0.out.c0
          have m0_1 := K12_0.out.c1
          have m0_2 := K12_0.out.c2
          have m0_3 := K12_0.out.c3
          have m0_4 := K12_0.out.c4
          have m0_5 := K12_0.out.c5
          have m0_6 := K12_0.out.c6
          have m0_7 := K12_0.out.c7
          have m0_8 := K12_0.out.c8
          have m0_9 := K12_0.out.c9
          have m0_10 := K12_0.out.c10
          have m0_11 := K12_0.out.c11
          have mlt0 : B1_1 < w12.heap.size := K12_0.out.lt
          have mf0 : ∀ o, w12.frozen? ⟨B1_1, o, none⟩ = false := fun o => K12_0.out.free o
          go_wp2
          try simp only [Exit.jump]
          clear m1_0 m1_1 m1_2 m1_3 m1_4 m1_5 m1_6 m1_7 m1_8 m1_9 m1_10 m1_11 mlt1 m0_0 m0_1 m0_2 m0_3 m0_4 m0_5 m0_6 m0_7 m0_8 m0_9 m0_10 m0_11 mlt0 mf0
          obtain ⟨W3, hW3⟩ : ∃ W9, W9 = ((((((((((((w12.setCell ⟨B1_1, 0, none⟩ (.bool v)).setCell ⟨B1_1, 1, none⟩ (.bool r)).setCell ⟨B1_1, 2, none⟩ (.bool x1)).setCell ⟨B1_1, 3, none⟩ (.bool x)).setCell ⟨B1_1, 4, none⟩ (.bool u)).setCell ⟨B1_1, 5, none⟩ (.bool g)).setCell ⟨B1_1, 6, none⟩ (.bool a)).setCell ⟨B1_1, 7, none⟩ (.bool d)).setCell ⟨B1_1, 8, none⟩ (.int .i64 rsw)).setCell ⟨B1_1, 9, none⟩ (.int .u64 (pn : Int))).setCell ⟨B1_1, 10, none⟩ (.int .i64 (lv : Int))).setCell ⟨B1_1, 11, none⟩ (.int .u64 (pl : Int))) := ⟨_, rfl⟩
          rw [← hW3]
          have b3 : Blk W3 B1_1 [.bool v, .bool r, .bool x1, .bool x, .bool u, .bool g, .bool a, .bool d, .int .i64 rsw, .int .u64 (pn : Int), .int .i64 (lv : Int), .int .u64 (pl : Int)] 41 := hW3 ▸ ((((((((((((K12_0.out.set 0 (.bool v)).set 1 (.bool r)).set 2 (.bool x1)).set 3 (.bool x)).set 4 (.bool u)).set 5 (.bool g)).set 6 (.bool a)).set 7 (.bool d)).set 8 (.int .i64 rsw)).set 9 (.int .u64 (pn : Int))).set 10 (.int .i64 (lv : Int))).set 11 (.int .u64 (pl : Int)))
          have l3 : Below w.heap.size w W3 := hW3 ▸ (Below.setCell (Below.setCell (Below.setCell (Below.setCell (Below.setCell (Below.setCell (Below.setCell (Below.setCell (Below.setCell (Below.setCell (Below.setCell (Below.setCell L12.out G1_1.out _) G1_1.out _) G1_1.out _) G1_1.out _) G1_1.out _) G1_1.out _) G1_1.out _) G1_1.out _) G1_1.out _) G1_1.out _) G1_1.out _) G1_1.out _)
          clear hW3
          have r0 := b3.c0
          have r1 := b3.c1
          have r2 := b3.c2
          have r3 := b3.c3
          have r4 := b3.c4
          have r5 := b3.c5
          have r6 := b3.c6
          have r7 := b3.c7
          have r8 := b3.c8
          have r9 := b3.c9
          have r10 := b3.c10
          have r11 := b3.c11
          have Q3 := Lib.hid b3; have QL := Lib.hid l3; clear b3 l3
          refine bodyPost_ret (v := .tuple #[.agg #[.bool v, .bool r, .bool x1, .bool x, .bool u, .bool g, .bool a, .bool d, .int .i64 rsw, .int .u64 (pn : Int), .int .i64 (lv : Int), .int .u64 (pl : Int)], .int .i64 0]) (by simp [results, Tryz.results71, go_sem, r0, r1, r2, r3, r4, r5, r6, r7, r8, r9, r10, r11]) rfl ⟨rfl, QL.out⟩
      · have hz := E2.out (by trivial) (by trivial)
        obtain ⟨j, rfl⟩ : ∃ j, k = j + 1 := ⟨k - 1, by have := P2.out; have := P4.out (by trivial); omega⟩
        have HZ := Lib.hid hz; clear hz
        have m1_0 := K11_1.out.c0
        have m1_1 := K11_1.out.c1
        have m1_2 := K11_1.out.c2
        have m1_3 := K11_1.out.c3
        have m1_4 := K11_1.out.c4
        have m1_5 := K11_1.out.c5
        have m1_6 := K11_1.out.c6
        have m1_7 := K11_1.out.c7
        have m1_8 := K11_1.out.c8
        have m1_9 := K11_1.out.c9
        have m1_10 := K11_1.out.c10
        have m1_11 := K11_1.out.c11
        have mlt1 : B10 < w11.heap.size := K11_1.out.lt
        go_wp2
        clear m1_0 m1_1 m1_2 m1_3 m1_4 m1_5 m1_6 m1_7 m1_8 m1_9 m1_10 m1_11 mlt1
        go_step3
        refine ⟨rfl, ⟨j, pn, _, _, _, _, _, _, _, _, _, _, _, _, _, _, _, _, _, _, _, _, _, _, _, _, _, _, _, _, _, _, _, _, _, _, _, _, _, _, _, rfl, by omega, b1, HZ.out, K11_0.out, L11.out⟩, ?_⟩
        simp [intOf]
    · obtain rfl := E1.out (by decide)
      go_upto_region 9 with (fail)
      have nb0 := Blk.new w9 [.bool v, .bool r, .bool x1, .bool x, .bool u, .bool g, .bool a, .bool d, .int .i64 rsw, .int .u64 (pn : Int), .int .i64 (lv : Int), .int .u64 (pl : Int)] 41
      have nls : Below w.heap.size w w9 := L9.out
      have nl0 := nls.alloc nls.size (.cells #[.bool v, .bool r, .bool x1, .bool x, .bool u, .bool g, .bool a, .bool d, .int .i64 rsw, .int .u64 (pn : Int), .int .i64 (lv : Int), .int .u64 (pl : Int)] 41)
      have nl : Below w.heap.size w (w9.alloc (.cells #[.bool v, .bool r, .bool x1, .bool x, .bool u, .bool g, .bool a, .bool d, .int .i64 rsw, .int .u64 (pn : Int), .int .i64 (lv : Int), .int .u64 (pl : Int)] 41)) := nl0; clear nls nl0
      have o0 := (K9_0.out.alloc (.cells #[.bool v, .bool r, .bool x1, .bool x, .bool u, .bool g, .bool a, .bool d, .int .i64 rsw, .int .u64 (pn : Int), .int .i64 (lv : Int), .int .u64 (pl : Int)] 41))
      have d13_0 : B1_1 < w9.heap.size := K9_0.out.lt
      obtain ⟨B13, hB0⟩ : ∃ B, B = w9.heap.size := ⟨_, rfl⟩
      obtain ⟨W13, hW⟩ : ∃ W, W = (w9.alloc (.cells #[.bool v, .bool r, .bool x1, .bool x, .bool u, .bool g, .bool a, .bool d, .int .i64 rsw, .int .u64 (pn : Int), .int .i64 (lv : Int), .int .u64 (pl : Int)] 41)) := ⟨_, rfl⟩
      rw [← hW] at nl nb0 o0
      rw [← hB0] at nb0
      rw [← hW]
      try rw [← hB0]
      have K13_0 := Lib.hid o0
      have K13_1 := Lib.hid nb0
      have G13 : Hid (w.heap.size ≤ B13) := Lib.hid (by have := L9.out.size; omega)
      have x13_0_0 : B1_1 ≠ B13 := by omega
      have X13_0_0 := Lib.hid x13_0_0; clear x13_0_0
      have L13 := Lib.hid nl
      clear nl hW nb0 hB0 o0 d13_0 K9_0
      have m0_0 := K13_0.out.c0
      have m0_1 := K13_0.out.c1
      have m0_2 := K13_0.out.c2
      have m0_3 := K13_0.out.c3
      have m0_4 := K13_0.out.c4
      have m0_5 := K13_0.out.c5
      have m0_6 := K13_0.out.c6
      have m0_7 := K13_0.out.c7
      have m0_8 := K13_0.out.c8
      have m0_9 := K13_0.out.c9
      have m0_10 := K13_0.out.c10
      have m0_11 := K13_0.out.c11
      have mlt0 : B1_1 < W13.heap.size := K13_0.out.lt
      have mf0 : ∀ o, W13.frozen? ⟨B1_1, o, none⟩ = false := fun o => K13_0.out.free o
      go_wp2
      try simp only [Exit.jump]
      clear m0_0 m0_1 m0_2 m0_3 m0_4 m0_5 m0_6 m0_7 m0_8 m0_9 m0_10 m0_11 mlt0 mf0
      obtain ⟨W3, hW3⟩ : ∃ W9, W9 = ((((((((((((W13.setCell ⟨B1_1, 0, none⟩ (.bool false)).setCell ⟨B1_1, 1, none⟩ (.bool false)).setCell ⟨B1_1, 2, none⟩ (.bool false)).setCell ⟨B1_1, 3, none⟩ (.bool false)).setCell ⟨B1_1, 4, none⟩ (.bool false)).setCell ⟨B1_1, 5, none⟩ (.bool false)).setCell ⟨B1_1, 6, none⟩ (.bool false)).setCell ⟨B1_1, 7, none⟩ (.bool false)).setCell ⟨B1_1, 8, none⟩ (.int .i64 0)).setCell ⟨B1_1, 9, none⟩ (.int .u64 0)).setCell ⟨B1_1, 10, none⟩ (.int .i64 0)).setCell ⟨B1_1, 11, none⟩ (.int .u64 0)) := ⟨_, rfl⟩
      rw [← hW3]
      have b3 : Blk W3 B1_1 [.bool false, .bool false, .bool false, .bool false, .bool false, .bool false, .bool false, .bool false, .int .i64 0, .int .u64 0, .int .i64 0, .int .u64 0] 41 := hW3 ▸ ((((((((((((K13_0.out.set 0 (.bool false)).set 1 (.bool false)).set 2 (.bool false)).set 3 (.bool false)).set 4 (.bool false)).set 5 (.bool false)).set 6 (.bool false)).set 7 (.bool false)).set 8 (.int .i64 0)).set 9 (.int .u64 0)).set 10 (.int .i64 0)).set 11 (.int .u64 0))
      have l3 : Below w.heap.size w W3 := hW3 ▸ (Below.setCell (Below.setCell (Below.setCell (Below.setCell (Below.setCell (Below.setCell (Below.setCell (Below.setCell (Below.setCell (Below.setCell (Below.setCell (Below.setCell L13.out G1_1.out _) G1_1.out _) G1_1.out _) G1_1.out _) G1_1.out _) G1_1.out _) G1_1.out _) G1_1.out _) G1_1.out _) G1_1.out _) G1_1.out _) G1_1.out _)
      clear hW3
      have r0 := b3.c0
      have r1 := b3.c1
      have r2 := b3.c2
      have r3 := b3.c3
      have r4 := b3.c4
      have r5 := b3.c5
      have r6 := b3.c6
      have r7 := b3.c7
      have r8 := b3.c8
      have r9 := b3.c9
      have r10 := b3.c10
      have r11 := b3.c11
      have Q3 := Lib.hid b3; have QL := Lib.hid l3; clear b3 l3
      refine bodyPost_ret (v := .tuple #[.agg #[.bool false, .bool false, .bool false, .bool false, .bool false, .bool false, .bool false, .bool false, .int .i64 0, .int .u64 0, .int .i64 0, .int .u64 0], .int .i64 51]) (by simp [results, Tryz.results71, go_sem, r0, r1, r2, r3, r4, r5, r6, r7, r8, r9, r10, r11]) rfl ⟨rfl, QL.out⟩
    · obtain rfl := E1.out (by decide)
      go_upto_region 9 with (fail)
      have nb0 := Blk.new w9 [.bool v, .bool r, .bool x1, .bool x, .bool u, .bool g, .bool a, .bool d, .int .i64 rsw, .int .u64 (pn : Int), .int .i64 (lv : Int), .int .u64 (pl : Int)] 41
      have nls : Below w.heap.size w w9 := L9.out
      have nl0 := nls.alloc nls.size (.cells #[.bool v, .bool r, .bool x1, .bool x, .bool u, .bool g, .bool a, .bool d, .int .i64 rsw, .int .u64 (pn : Int), .int .i64 (lv : Int), .int .u64 (pl : Int)] 41)
      have nl : Below w.heap.size w (w9.alloc (.cells #[.bool v, .bool r, .bool x1, .bool x, .bool u, .bool g, .bool a, .bool d, .int .i64 rsw, .int .u64 (pn : Int), .int .i64 (lv : Int), .int .u64 (pl : Int)] 41)) := nl0; clear nls nl0
      have o0 := (K9_0.out.alloc (.cells #[.bool v, .bool r, .bool x1, .bool x, .bool u, .bool g, .bool a, .bool d, .int .i64 rsw, .int .u64 (pn : Int), .int .i64 (lv : Int), .int .u64 (pl : Int)] 41))
      have d14_0 : B1_1 < w9.heap.size := K9_0.out.lt
      obtain ⟨B14, hB0⟩ : ∃ B, B = w9.heap.size := ⟨_, rfl⟩
      obtain ⟨W14, hW⟩ : ∃ W, W = (w9.alloc (.cells #[.bool v, .bool r, .bool x1, .bool x, .bool u, .bool g, .bool a, .bool d, .int .i64 rsw, .int .u64 (pn : Int), .int .i64 (lv : Int), .int .u64 (pl : Int)] 41)) := ⟨_, rfl⟩
      rw [← hW] at nl nb0 o0
      rw [← hB0] at nb0
      rw [← hW]
      try rw [← hB0]
      have K14_0 := Lib.hid o0
      have K14_1 := Lib.hid nb0
      have G14 : Hid (w.heap.size ≤ B14) := Lib.hid (by have := L9.out.size; omega)
      have x14_0_0 : B1_1 ≠ B14 := by omega
      have X14_0_0 := Lib.hid x14_0_0; clear x14_0_0
      have L14 := Lib.hid nl
      clear nl hW nb0 hB0 o0 d14_0 K9_0
      have m0_0 := K14_0.out.c0
      have m0_1 := K14_0.out.c1
      have m0_2 := K14_0.out.c2
      have m0_3 := K14_0.out.c3
      have m0_4 := K14_0.out.c4
      have m0_5 := K14_0.out.c5
      have m0_6 := K14_0.out.c6
      have m0_7 := K14_0.out.c7
      have m0_8 := K14_0.out.c8
      have m0_9 := K14_0.out.c9
      have m0_10 := K14_0.out.c10
      have m0_11 := K14_0.out.c11
      have mlt0 : B1_1 < W14.heap.size := K14_0.out.lt
      have mf0 : ∀ o, W14.frozen? ⟨B1_1, o, none⟩ = false := fun o => K14_0.out.free o
      go_wp2
      try simp only [Exit.jump]
      clear m0_0 m0_1 m0_2 m0_3 m0_4 m0_5 m0_6 m0_7 m0_8 m0_9 m0_10 m0_11 mlt0 mf0
      obtain ⟨W3, hW3⟩ : ∃ W9, W9 = ((((((((((((W14.setCell ⟨B1_1, 0, none⟩ (.bool false)).setCell ⟨B1_1, 1, none⟩ (.bool false)).setCell ⟨B1_1, 2, none⟩ (.bool false)).setCell ⟨B1_1, 3, none⟩ (.bool false)).setCell ⟨B1_1, 4, none⟩ (.bool false)).setCell ⟨B1_1, 5, none⟩ (.bool false)).setCell ⟨B1_1, 6, none⟩ (.bool false)).setCell ⟨B1_1, 7, none⟩ (.bool false)).setCell ⟨B1_1, 8, none⟩ (.int .i64 0)).setCell ⟨B1_1, 9, none⟩ (.int .u64 0)).setCell ⟨B1_1, 10, none⟩ (.int .i64 0)).setCell ⟨B1_1, 11, none⟩ (.int .u64 0)) := ⟨_, rfl⟩
      rw [← hW3]
      have b3 : Blk W3 B1_1 [.bool false, .bool false, .bool false, .bool false, .bool false, .bool false, .bool false, .bool false, .int .i64 0, .int .u64 0, .int .i64 0, .int .u64 0] 41 := hW3 ▸ ((((((((((((K14_0.out.set 0 (.bool false)).set 1 (.bool false)).set 2 (.bool false)).set 3 (.bool false)).set 4 (.bool false)).set 5 (.bool false)).set 6 (.bool false)).set 7 (.bool false)).set 8 (.int .i64 0)).set 9 (.int .u64 0)).set 10 (.int .i64 0)).set 11 (.int .u64 0))
      have l3 : Below w.heap.size w W3 := hW3 ▸ (Below.setCell (Below.setCell (Below.setCell (Below.setCell (Below.setCell (Below.setCell (Below.setCell (Below.setCell (Below.setCell (Below.setCell (Below.setCell (Below.setCell L14.out G1_1.out _) G1_1.out _) G1_1.out _) G1_1.out _) G1_1.out _) G1_1.out _) G1_1.out _) G1_1.out _) G1_1.out _) G1_1.out _) G1_1.out _) G1_1.out _)
      clear hW3
      have r0 := b3.c0
      have r1 := b3.c1
      have r2 := b3.c2
      have r3 := b3.c3
      have r4 := b3.c4
      have r5 := b3.c5
      have r6 := b3.c6
      have r7 := b3.c7
      have r8 := b3.c8
      have r9 := b3.c9
      have r10 := b3.c10
      have r11 := b3.c11
      have Q3 := Lib.hid b3; have QL := Lib.hid l3; clear b3 l3
      refine bodyPost_ret (v := .tuple #[.agg #[.bool false, .bool false, .bool false, .bool false, .bool false, .bool false, .bool false, .bool false, .int .i64 0, .int .u64 0, .int .i64 0, .int .u64 0], .int .i64 61]) (by simp [results, Tryz.results71, go_sem, r0, r1, r2, r3, r4, r5, r6, r7, r8, r9, r10, r11]) rfl ⟨rfl, QL.out⟩
end Go.Proofs.YtgnjbjbgfhjakaaGreat
