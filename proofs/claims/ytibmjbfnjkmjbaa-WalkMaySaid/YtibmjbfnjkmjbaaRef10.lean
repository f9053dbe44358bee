/-
  What the document's answer for layer 10 gives: contracts over the translation. Each says its own conditions.
-/
import Derived.Test.YtibmjbfnjkmjbaaWalkP10
import Derived.Test.YtibmjbfnjkmjbaaRef08
import Derived.Test.YtibmjbfnjkmjbaaRef09
import Derived.Deep.LoopGhost
namespace Go.Proofs.Ytibmjbfnjkmjbaa
open Go.RowKit
set_option linter.unusedVariables false
set_option linter.unusedSimpArgs false
attribute [local go_sem] setCell_drewN alloc_drewN

theorem rright_any (e : Ent) (w : World) : Calls Try.prog 25 #[pv e] w fun r w' => r = .returned (.bool (e.v && (e.r || !e.w))) ∧ Below w.heap.size w w' := by
  obtain ⟨v, r, x1, x, u, g, a, d, rsw, ppn⟩ := e
  unfold pv
  cases v <;> cases r
  all_goals
    go_enter Try.func25, Try.ntmps25
    go_wp2
    go_ret
    refine ⟨rfl, ?_⟩
    repeat (first | (with_reducible refine Below.setCell ?_ ?ybel _; case ybel => (first | omega | (simp <;> omega))) | (with_reducible refine Below.alloc ?_ ?ybel _; case ybel => (first | omega | (simp <;> omega))) | (with_reducible refine below_drewNsB ?_ _) | (with_reducible refine below_drewNs ?_ _) | (with_reducible refine Below.drew ?_) | (with_reducible exact Below.refl _ _))
theorem RefM.below {w w' : World} {rm fr : Nat} {v : Value} {L : List (Nat × Int)} (h : RefM w rm fr v L) (hb : Below w.heap.size w w') : RefM w' rm fr v L :=
  h.chg (Chg.of_below (F := no) hb) (fun h => h) (fun _ _ h => h)
theorem rat_eq (t va l : Nat) : (t : Int) % 4503599627370496 * 4096 + 8 * ((fld va (12 + 9 * l) 9 : Nat) : Int) = ((atN t va l : Nat) : Int) := by
  unfold atN
  omega
set_option maxRecDepth 100000 in
set_option maxHeartbeats 8000000 in
theorem rfind_any (rm fr va : Nat) (S : Stp) (vv : Value) (C : Nat → List Int) (L : List (Nat × Int)) (w : World) (hM : RefM w rm fr vv L) (hA : Agree C L) (hw : ∀ a, wordC C a 8 = (Mw C a : Nat) ∧ Mw C a < 18446744073709551616) (hfr : fr ≤ 1048576) (hv : va < 18446744073709551616) (hs : S.ppn < 18446744073709551616) :
    Calls Try.prog 9 #[.pointer (some ⟨rm, 0, none⟩), sv S, .int .u64 va] w fun r w' => r = .returned (.tuple #[lfv (findW fr (Mw C) S va).1, .int .i64 ((findW fr (Mw C) S va).2 : Nat)]) ∧ Below w.heap.size w w' := by
  obtain ⟨on, asid, ppn⟩ := S
  have HM := Lib.hid hM; clear hM
  have h1 := fun w => Calls.belowD (rcan_any va w hv)
  have HC := Lib.hid h1; clear h1
  dsimp only at hs
  unfold findW sv
  dsimp only
  cases on
  · rw [if_neg (by decide)]
    go_enter Try.func9, Try.ntmps9
    go_upto_region 1 with (fail)
    have nb0 : Blk (w.alloc (.cells #[.bool false, .int .i64 asid, .int .u64 (ppn : Int)] 25)) (w.heap.size) [.bool false, .int .i64 asid, .int .u64 (ppn : Int)] 25 := Blk.new w [.bool false, .int .i64 asid, .int .u64 (ppn : Int)] 25
    replace nb0 := nb0.alloc (.cells #[.bool false, .bool false, .bool false, .bool false, .bool false, .bool false, .bool false, .bool false, .int .i64 0, .int .u64 0, .int .i64 0, .int .u64 0] 34)
    have nb1 : Blk ((w.alloc (.cells #[.bool false, .int .i64 asid, .int .u64 (ppn : Int)] 25)).alloc (.cells #[.bool false, .bool false, .bool false, .bool false, .bool false, .bool false, .bool false, .bool false, .int .i64 0, .int .u64 0, .int .i64 0, .int .u64 0] 34)) (w.heap.size + 1) [.bool false, .bool false, .bool false, .bool false, .bool false, .bool false, .bool false, .bool false, .int .i64 0, .int .u64 0, .int .i64 0, .int .u64 0] 34 := Blk.nextn (w.alloc (.cells #[.bool false, .int .i64 asid, .int .u64 (ppn : Int)] 25)) (w.heap.size + 1) [.bool false, .bool false, .bool false, .bool false, .bool false, .bool false, .bool false, .bool false, .int .i64 0, .int .u64 0, .int .i64 0, .int .u64 0] 34 (by simp)
    have nls : Below w.heap.size w w := (Below.refl w.heap.size w)
    have nl0 := nls.alloc nls.size (.cells #[.bool false, .int .i64 asid, .int .u64 (ppn : Int)] 25)
    have nl1 := nl0.alloc nl0.size (.cells #[.bool false, .bool false, .bool false, .bool false, .bool false, .bool false, .bool false, .bool false, .int .i64 0, .int .u64 0, .int .i64 0, .int .u64 0] 34)
    have nl : Below w.heap.size w ((w.alloc (.cells #[.bool false, .int .i64 asid, .int .u64 (ppn : Int)] 25)).alloc (.cells #[.bool false, .bool false, .bool false, .bool false, .bool false, .bool false, .bool false, .bool false, .int .i64 0, .int .u64 0, .int .i64 0, .int .u64 0] 34)) := nl1; clear nls nl0 nl1
    obtain ⟨B1_1, hB1⟩ : ∃ B, B = w.heap.size + 1 := ⟨_, rfl⟩
    obtain ⟨B1_0, hB0⟩ : ∃ B, B = w.heap.size := ⟨_, rfl⟩
    obtain ⟨W1, hW⟩ : ∃ W, W = ((w.alloc (.cells #[.bool false, .int .i64 asid, .int .u64 (ppn : Int)] 25)).alloc (.cells #[.bool false, .bool false, .bool false, .bool false, .bool false, .bool false, .bool false, .bool false, .int .i64 0, .int .u64 0, .int .i64 0, .int .u64 0] 34)) := ⟨_, rfl⟩
    rw [← hW] at nl nb0 nb1
    rw [← hB1] at nb1
    rw [← hB0] at nb0
    rw [← hW]
    try rw [← hB1]
    try rw [← hB0]
    have K1_0 := Lib.hid nb0
    have G1_0 : Hid (w.heap.size ≤ B1_0) := Lib.hid (by have := (Nat.le_refl w.heap.size); omega)
    have K1_1 := Lib.hid nb1
    have G1_1 : Hid (w.heap.size ≤ B1_1) := Lib.hid (by have := (Nat.le_refl w.heap.size); omega)
    have y1_0_1 : B1_0 ≠ B1_1 := by omega
    have Y1_0_1 := Lib.hid y1_0_1; clear y1_0_1
    have L1 := Lib.hid nl
    clear nl hW nb0 hB0 nb1 hB1
    have m0_0 : W1.cell? ⟨B1_0, 0, none⟩ = some _ := K1_0.out.cell 0
    have m0_1 : W1.cell? ⟨B1_0, 1, none⟩ = some _ := K1_0.out.cell 1
    have m0_2 : W1.cell? ⟨B1_0, 2, none⟩ = some _ := K1_0.out.cell 2
    have mlt0 : B1_0 < W1.heap.size := K1_0.out.lt
    have m1_0 : W1.cell? ⟨B1_1, 0, none⟩ = some _ := K1_1.out.cell 0
    have m1_1 : W1.cell? ⟨B1_1, 1, none⟩ = some _ := K1_1.out.cell 1
    have m1_2 : W1.cell? ⟨B1_1, 2, none⟩ = some _ := K1_1.out.cell 2
    have m1_3 : W1.cell? ⟨B1_1, 3, none⟩ = some _ := K1_1.out.cell 3
    have m1_4 : W1.cell? ⟨B1_1, 4, none⟩ = some _ := K1_1.out.cell 4
    have m1_5 : W1.cell? ⟨B1_1, 5, none⟩ = some _ := K1_1.out.cell 5
    have m1_6 : W1.cell? ⟨B1_1, 6, none⟩ = some _ := K1_1.out.cell 6
    have m1_7 : W1.cell? ⟨B1_1, 7, none⟩ = some _ := K1_1.out.cell 7
    have m1_8 : W1.cell? ⟨B1_1, 8, none⟩ = some _ := K1_1.out.cell 8
    have m1_9 : W1.cell? ⟨B1_1, 9, none⟩ = some _ := K1_1.out.cell 9
    have m1_10 : W1.cell? ⟨B1_1, 10, none⟩ = some _ := K1_1.out.cell 10
    have m1_11 : W1.cell? ⟨B1_1, 11, none⟩ = some _ := K1_1.out.cell 11
    have mlt1 : B1_1 < W1.heap.size := K1_1.out.lt
    have mf1 : ∀ o, W1.frozen? ⟨B1_1, o, none⟩ = false := fun o => K1_1.out.free o
    go_wp2
    clear m0_0 m0_1 m0_2 mlt0 m1_0 m1_1 m1_2 m1_3 m1_4 m1_5 m1_6 m1_7 m1_8 m1_9 m1_10 m1_11 mlt1 mf1
    obtain ⟨W3, hW3⟩ : ∃ W9, W9 = ((((((((((((W1.setCell ⟨B1_1, 0, none⟩ (.bool false)).setCell ⟨B1_1, 1, none⟩ (.bool false)).setCell ⟨B1_1, 2, none⟩ (.bool false)).setCell ⟨B1_1, 3, none⟩ (.bool false)).setCell ⟨B1_1, 4, none⟩ (.bool false)).setCell ⟨B1_1, 5, none⟩ (.bool false)).setCell ⟨B1_1, 6, none⟩ (.bool false)).setCell ⟨B1_1, 7, none⟩ (.bool false)).setCell ⟨B1_1, 8, none⟩ (.int .i64 0)).setCell ⟨B1_1, 9, none⟩ (.int .u64 0)).setCell ⟨B1_1, 10, none⟩ (.int .i64 0)).setCell ⟨B1_1, 11, none⟩ (.int .u64 0)) := ⟨_, rfl⟩
    rw [← hW3]
    have b3 : Blk W3 B1_1 [.bool false, .bool false, .bool false, .bool false, .bool false, .bool false, .bool false, .bool false, .int .i64 0, .int .u64 0, .int .i64 0, .int .u64 0] 34 := hW3 ▸ ((((((((((((K1_1.out.set 0 (.bool false)).set 1 (.bool false)).set 2 (.bool false)).set 3 (.bool false)).set 4 (.bool false)).set 5 (.bool false)).set 6 (.bool false)).set 7 (.bool false)).set 8 (.int .i64 0)).set 9 (.int .u64 0)).set 10 (.int .i64 0)).set 11 (.int .u64 0))
    have l3 : Below w.heap.size w W3 := hW3 ▸ (Below.setCell (Below.setCell (Below.setCell (Below.setCell (Below.setCell (Below.setCell (Below.setCell (Below.setCell (Below.setCell (Below.setCell (Below.setCell (Below.setCell L1.out G1_1.out _) G1_1.out _) G1_1.out _) G1_1.out _) G1_1.out _) G1_1.out _) G1_1.out _) G1_1.out _) G1_1.out _) G1_1.out _) G1_1.out _) G1_1.out _)
    clear hW3
    have r0 : W3.cell? ⟨B1_1, 0, none⟩ = some _ := b3.cell 0
    have r1 : W3.cell? ⟨B1_1, 1, none⟩ = some _ := b3.cell 1
    have r2 : W3.cell? ⟨B1_1, 2, none⟩ = some _ := b3.cell 2
    have r3 : W3.cell? ⟨B1_1, 3, none⟩ = some _ := b3.cell 3
    have r4 : W3.cell? ⟨B1_1, 4, none⟩ = some _ := b3.cell 4
    have r5 : W3.cell? ⟨B1_1, 5, none⟩ = some _ := b3.cell 5
    have r6 : W3.cell? ⟨B1_1, 6, none⟩ = some _ := b3.cell 6
    have r7 : W3.cell? ⟨B1_1, 7, none⟩ = some _ := b3.cell 7
    have r8 : W3.cell? ⟨B1_1, 8, none⟩ = some _ := b3.cell 8
    have r9 : W3.cell? ⟨B1_1, 9, none⟩ = some _ := b3.cell 9
    have r10 : W3.cell? ⟨B1_1, 10, none⟩ = some _ := b3.cell 10
    have r11 : W3.cell? ⟨B1_1, 11, none⟩ = some _ := b3.cell 11
    have Q3 := Lib.hid b3; have QL := Lib.hid l3; clear b3 l3
    refine bodyPost_ret (v := .tuple #[.agg #[.bool false, .bool false, .bool false, .bool false, .bool false, .bool false, .bool false, .bool false, .int .i64 0, .int .u64 0, .int .i64 0, .int .u64 0], .int .i64 2]) (by simp [results, Try.results9, go_sem, r0, r1, r2, r3, r4, r5, r6, r7, r8, r9, r10, r11]) rfl ⟨rfl, QL.out⟩
  rw [if_pos rfl]
  generalize canN va = cv at HC ⊢
  cases cv
  · rw [if_neg (by decide)]
    go_enter Try.func9, Try.ntmps9
    go_upto_region 1 with (fail)
    have nb0 : Blk (w.alloc (.cells #[.bool true, .int .i64 asid, .int .u64 (ppn : Int)] 25)) (w.heap.size) [.bool true, .int .i64 asid, .int .u64 (ppn : Int)] 25 := Blk.new w [.bool true, .int .i64 asid, .int .u64 (ppn : Int)] 25
    replace nb0 := nb0.alloc (.cells #[.bool false, .bool false, .bool false, .bool false, .bool false, .bool false, .bool false, .bool false, .int .i64 0, .int .u64 0, .int .i64 0, .int .u64 0] 34)
    have nb1 : Blk ((w.alloc (.cells #[.bool true, .int .i64 asid, .int .u64 (ppn : Int)] 25)).alloc (.cells #[.bool false, .bool false, .bool false, .bool false, .bool false, .bool false, .bool false, .bool false, .int .i64 0, .int .u64 0, .int .i64 0, .int .u64 0] 34)) (w.heap.size + 1) [.bool false, .bool false, .bool false, .bool false, .bool false, .bool false, .bool false, .bool false, .int .i64 0, .int .u64 0, .int .i64 0, .int .u64 0] 34 := Blk.nextn (w.alloc (.cells #[.bool true, .int .i64 asid, .int .u64 (ppn : Int)] 25)) (w.heap.size + 1) [.bool false, .bool false, .bool false, .bool false, .bool false, .bool false, .bool false, .bool false, .int .i64 0, .int .u64 0, .int .i64 0, .int .u64 0] 34 (by simp)
    have nls : Below w.heap.size w w := (Below.refl w.heap.size w)
    have nl0 := nls.alloc nls.size (.cells #[.bool true, .int .i64 asid, .int .u64 (ppn : Int)] 25)
    have nl1 := nl0.alloc nl0.size (.cells #[.bool false, .bool false, .bool false, .bool false, .bool false, .bool false, .bool false, .bool false, .int .i64 0, .int .u64 0, .int .i64 0, .int .u64 0] 34)
    have nl : Below w.heap.size w ((w.alloc (.cells #[.bool true, .int .i64 asid, .int .u64 (ppn : Int)] 25)).alloc (.cells #[.bool false, .bool false, .bool false, .bool false, .bool false, .bool false, .bool false, .bool false, .int .i64 0, .int .u64 0, .int .i64 0, .int .u64 0] 34)) := nl1; clear nls nl0 nl1
    obtain ⟨B1_1, hB1⟩ : ∃ B, B = w.heap.size + 1 := ⟨_, rfl⟩
    obtain ⟨B1_0, hB0⟩ : ∃ B, B = w.heap.size := ⟨_, rfl⟩
    obtain ⟨W1, hW⟩ : ∃ W, W = ((w.alloc (.cells #[.bool true, .int .i64 asid, .int .u64 (ppn : Int)] 25)).alloc (.cells #[.bool false, .bool false, .bool false, .bool false, .bool false, .bool false, .bool false, .bool false, .int .i64 0, .int .u64 0, .int .i64 0, .int .u64 0] 34)) := ⟨_, rfl⟩
    rw [← hW] at nl nb0 nb1
    rw [← hB1] at nb1
    rw [← hB0] at nb0
    rw [← hW]
    try rw [← hB1]
    try rw [← hB0]
    have K1_0 := Lib.hid nb0
    have G1_0 : Hid (w.heap.size ≤ B1_0) := Lib.hid (by have := (Nat.le_refl w.heap.size); omega)
    have K1_1 := Lib.hid nb1
    have G1_1 : Hid (w.heap.size ≤ B1_1) := Lib.hid (by have := (Nat.le_refl w.heap.size); omega)
    have y1_0_1 : B1_0 ≠ B1_1 := by omega
    have Y1_0_1 := Lib.hid y1_0_1; clear y1_0_1
    have L1 := Lib.hid nl
    clear nl hW nb0 hB0 nb1 hB1
    have m0_0 : W1.cell? ⟨B1_0, 0, none⟩ = some _ := K1_0.out.cell 0
    have m0_1 : W1.cell? ⟨B1_0, 1, none⟩ = some _ := K1_0.out.cell 1
    have m0_2 : W1.cell? ⟨B1_0, 2, none⟩ = some _ := K1_0.out.cell 2
    have mlt0 : B1_0 < W1.heap.size := K1_0.out.lt
    go_wp2_with fail
    clear m0_0 m0_1 m0_2 mlt0
    refine (HC.out _).mono ?_
    rintro e w2 ⟨rfl, hb⟩
    have L2 := Lib.hid (L1.out.trans (hb.mono L1.out.size))
    have K2_0 := Lib.hid (K1_0.out.below hb K1_0.out.lt)
    have K2_1 := Lib.hid (K1_1.out.below hb K1_1.out.lt)
    clear hb K1_0 K1_1
    have m1_0 : w2.cell? ⟨B1_1, 0, none⟩ = some _ := K2_1.out.cell 0
    have m1_1 : w2.cell? ⟨B1_1, 1, none⟩ = some _ := K2_1.out.cell 1
    have m1_2 : w2.cell? ⟨B1_1, 2, none⟩ = some _ := K2_1.out.cell 2
    have m1_3 : w2.cell? ⟨B1_1, 3, none⟩ = some _ := K2_1.out.cell 3
    have m1_4 : w2.cell? ⟨B1_1, 4, none⟩ = some _ := K2_1.out.cell 4
    have m1_5 : w2.cell? ⟨B1_1, 5, none⟩ = some _ := K2_1.out.cell 5
    have m1_6 : w2.cell? ⟨B1_1, 6, none⟩ = some _ := K2_1.out.cell 6
    have m1_7 : w2.cell? ⟨B1_1, 7, none⟩ = some _ := K2_1.out.cell 7
    have m1_8 : w2.cell? ⟨B1_1, 8, none⟩ = some _ := K2_1.out.cell 8
    have m1_9 : w2.cell? ⟨B1_1, 9, none⟩ = some _ := K2_1.out.cell 9
    have m1_10 : w2.cell? ⟨B1_1, 10, none⟩ = some _ := K2_1.out.cell 10
    have m1_11 : w2.cell? ⟨B1_1, 11, none⟩ = some _ := K2_1.out.cell 11
    have mlt1 : B1_1 < w2.heap.size := K2_1.out.lt
    have mf1 : ∀ o, w2.frozen? ⟨B1_1, o, none⟩ = false := fun o => K2_1.out.free o
    go_wp2
    clear m1_0 m1_1 m1_2 m1_3 m1_4 m1_5 m1_6 m1_7 m1_8 m1_9 m1_10 m1_11 mlt1 mf1
    obtain ⟨W3, hW3⟩ : ∃ W9, W9 = ((((((((((((w2.setCell ⟨B1_1, 0, none⟩ (.bool false)).setCell ⟨B1_1, 1, none⟩ (.bool false)).setCell ⟨B1_1, 2, none⟩ (.bool false)).setCell ⟨B1_1, 3, none⟩ (.bool false)).setCell ⟨B1_1, 4, none⟩ (.bool false)).setCell ⟨B1_1, 5, none⟩ (.bool false)).setCell ⟨B1_1, 6, none⟩ (.bool false)).setCell ⟨B1_1, 7, none⟩ (.bool false)).setCell ⟨B1_1, 8, none⟩ (.int .i64 0)).setCell ⟨B1_1, 9, none⟩ (.int .u64 0)).setCell ⟨B1_1, 10, none⟩ (.int .i64 0)).setCell ⟨B1_1, 11, none⟩ (.int .u64 0)) := ⟨_, rfl⟩
    rw [← hW3]
    have b3 : Blk W3 B1_1 [.bool false, .bool false, .bool false, .bool false, .bool false, .bool false, .bool false, .bool false, .int .i64 0, .int .u64 0, .int .i64 0, .int .u64 0] 34 := hW3 ▸ ((((((((((((K2_1.out.set 0 (.bool false)).set 1 (.bool false)).set 2 (.bool false)).set 3 (.bool false)).set 4 (.bool false)).set 5 (.bool false)).set 6 (.bool false)).set 7 (.bool false)).set 8 (.int .i64 0)).set 9 (.int .u64 0)).set 10 (.int .i64 0)).set 11 (.int .u64 0))
    have l3 : Below w.heap.size w W3 := hW3 ▸ (Below.setCell (Below.setCell (Below.setCell (Below.setCell (Below.setCell (Below.setCell (Below.setCell (Below.setCell (Below.setCell (Below.setCell (Below.setCell (Below.setCell L2.out G1_1.out _) G1_1.out _) G1_1.out _) G1_1.out _) G1_1.out _) G1_1.out _) G1_1.out _) G1_1.out _) G1_1.out _) G1_1.out _) G1_1.out _) G1_1.out _)
    clear hW3
    have r0 : W3.cell? ⟨B1_1, 0, none⟩ = some _ := b3.cell 0
    have r1 : W3.cell? ⟨B1_1, 1, none⟩ = some _ := b3.cell 1
    have r2 : W3.cell? ⟨B1_1, 2, none⟩ = some _ := b3.cell 2
    have r3 : W3.cell? ⟨B1_1, 3, none⟩ = some _ := b3.cell 3
    have r4 : W3.cell? ⟨B1_1, 4, none⟩ = some _ := b3.cell 4
    have r5 : W3.cell? ⟨B1_1, 5, none⟩ = some _ := b3.cell 5
    have r6 : W3.cell? ⟨B1_1, 6, none⟩ = some _ := b3.cell 6
    have r7 : W3.cell? ⟨B1_1, 7, none⟩ = some _ := b3.cell 7
    have r8 : W3.cell? ⟨B1_1, 8, none⟩ = some _ := b3.cell 8
    have r9 : W3.cell? ⟨B1_1, 9, none⟩ = some _ := b3.cell 9
    have r10 : W3.cell? ⟨B1_1, 10, none⟩ = some _ := b3.cell 10
    have r11 : W3.cell? ⟨B1_1, 11, none⟩ = some _ := b3.cell 11
    have Q3 := Lib.hid b3; have QL := Lib.hid l3; clear b3 l3
    refine bodyPost_ret (v := .tuple #[.agg #[.bool false, .bool false, .bool false, .bool false, .bool false, .bool false, .bool false, .bool false, .int .i64 0, .int .u64 0, .int .i64 0, .int .u64 0], .int .i64 51]) (by simp [results, Try.results9, go_sem, r0, r1, r2, r3, r4, r5, r6, r7, r8, r9, r10, r11]) rfl ⟨rfl, QL.out⟩
  rw [if_pos rfl]
  obtain ⟨Z, hZ⟩ : ∃ Z, fnd fr (Mw C) va (2 + 1) ppn = Z := ⟨_, rfl⟩
  rw [hZ]
  have HZ := Lib.hid hZ; clear hZ
  go_enter Try.func9, Try.ntmps9
  go_upto_region 1 with (fail)
  have nb0 : Blk (w.alloc (.cells #[.bool true, .int .i64 asid, .int .u64 (ppn : Int)] 25)) (w.heap.size) [.bool true, .int .i64 asid, .int .u64 (ppn : Int)] 25 := Blk.new w [.bool true, .int .i64 asid, .int .u64 (ppn : Int)] 25
  replace nb0 := nb0.alloc (.cells #[.bool false, .bool false, .bool false, .bool false, .bool false, .bool false, .bool false, .bool false, .int .i64 0, .int .u64 0, .int .i64 0, .int .u64 0] 34)
  have nb1 : Blk ((w.alloc (.cells #[.bool true, .int .i64 asid, .int .u64 (ppn : Int)] 25)).alloc (.cells #[.bool false, .bool false, .bool false, .bool false, .bool false, .bool false, .bool false, .bool false, .int .i64 0, .int .u64 0, .int .i64 0, .int .u64 0] 34)) (w.heap.size + 1) [.bool false, .bool false, .bool false, .bool false, .bool false, .bool false, .bool false, .bool false, .int .i64 0, .int .u64 0, .int .i64 0, .int .u64 0] 34 := Blk.nextn (w.alloc (.cells #[.bool true, .int .i64 asid, .int .u64 (ppn : Int)] 25)) (w.heap.size + 1) [.bool false, .bool false, .bool false, .bool false, .bool false, .bool false, .bool false, .bool false, .int .i64 0, .int .u64 0, .int .i64 0, .int .u64 0] 34 (by simp)
  have nls : Below w.heap.size w w := (Below.refl w.heap.size w)
  have nl0 := nls.alloc nls.size (.cells #[.bool true, .int .i64 asid, .int .u64 (ppn : Int)] 25)
  have nl1 := nl0.alloc nl0.size (.cells #[.bool false, .bool false, .bool false, .bool false, .bool false, .bool false, .bool false, .bool false, .int .i64 0, .int .u64 0, .int .i64 0, .int .u64 0] 34)
  have nl : Below w.heap.size w ((w.alloc (.cells #[.bool true, .int .i64 asid, .int .u64 (ppn : Int)] 25)).alloc (.cells #[.bool false, .bool false, .bool false, .bool false, .bool false, .bool false, .bool false, .bool false, .int .i64 0, .int .u64 0, .int .i64 0, .int .u64 0] 34)) := nl1; clear nls nl0 nl1
  obtain ⟨B1_1, hB1⟩ : ∃ B, B = w.heap.size + 1 := ⟨_, rfl⟩
  obtain ⟨B1_0, hB0⟩ : ∃ B, B = w.heap.size := ⟨_, rfl⟩
  obtain ⟨W1, hW⟩ : ∃ W, W = ((w.alloc (.cells #[.bool true, .int .i64 asid, .int .u64 (ppn : Int)] 25)).alloc (.cells #[.bool false, .bool false, .bool false, .bool false, .bool false, .bool false, .bool false, .bool false, .int .i64 0, .int .u64 0, .int .i64 0, .int .u64 0] 34)) := ⟨_, rfl⟩
  rw [← hW] at nl nb0 nb1
  rw [← hB1] at nb1
  rw [← hB0] at nb0
  rw [← hW]
  try rw [← hB1]
  try rw [← hB0]
  have K1_0 := Lib.hid nb0
  have G1_0 : Hid (w.heap.size ≤ B1_0) := Lib.hid (by have := (Nat.le_refl w.heap.size); omega)
  have K1_1 := Lib.hid nb1
  have G1_1 : Hid (w.heap.size ≤ B1_1) := Lib.hid (by have := (Nat.le_refl w.heap.size); omega)
  have y1_0_1 : B1_0 ≠ B1_1 := by omega
  have Y1_0_1 := Lib.hid y1_0_1; clear y1_0_1
  have L1 := Lib.hid nl
  clear nl hW nb0 hB0 nb1 hB1
  have m0_0 : W1.cell? ⟨B1_0, 0, none⟩ = some _ := K1_0.out.cell 0
  have m0_1 : W1.cell? ⟨B1_0, 1, none⟩ = some _ := K1_0.out.cell 1
  have m0_2 : W1.cell? ⟨B1_0, 2, none⟩ = some _ := K1_0.out.cell 2
  have mlt0 : B1_0 < W1.heap.size := K1_0.out.lt
  go_wp2_with fail
  clear m0_0 m0_1 m0_2 mlt0
  refine (HC.out _).mono ?_
  rintro e w2 ⟨rfl, hb⟩
  have L2 := Lib.hid (L1.out.trans (hb.mono L1.out.size))
  have K2_0 := Lib.hid (K1_0.out.below hb K1_0.out.lt)
  have K2_1 := Lib.hid (K1_1.out.below hb K1_1.out.lt)
  clear hb K1_0 K1_1
  have m0_0 : w2.cell? ⟨B1_0, 0, none⟩ = some _ := K2_0.out.cell 0
  have m0_1 : w2.cell? ⟨B1_0, 1, none⟩ = some _ := K2_0.out.cell 1
  have m0_2 : w2.cell? ⟨B1_0, 2, none⟩ = some _ := K2_0.out.cell 2
  have mlt0 : B1_0 < w2.heap.size := K2_0.out.lt
  go_wp2_with fail
  clear m0_0 m0_1 m0_2 mlt0
  go_loopw [8, 9] (fun tv lv wr => ∃ (k t : Nat) (i : Int), i = (k : Int) - 1 ∧ k ≤ 3 ∧ t < 18446744073709551616 ∧ tv = .int .u64 t ∧ lv = .int .i64 i ∧ fnd fr (Mw C) va k t = Z ∧ Blk wr B1_1 [.bool false, .bool false, .bool false, .bool false, .bool false, .bool false, .bool false, .bool false, .int .i64 0, .int .u64 0, .int .i64 0, .int .u64 0] 34 ∧ Below w.heap.size w wr) (fun _ lv _ => (intOf lv + 1).toNat)
  case atStart => exact ⟨3, ppn, 2, by omega, by omega, hs, rfl, rfl, HZ.out, K2_1.out, L2.out⟩
  case round =>
    obtain ⟨k, t, i, hi, hk, ht, rfl, rfl, hz, hP, hB⟩ := hrel
    have HP := Lib.hid hP; have HB := Lib.hid hB; have HQ := Lib.hid hz; clear hP hB hz
    rcases k with _ | j
    · obtain rfl : i = -1 := by omega
      have hz : Z = (zl, 51) := by rw [← HQ.out]; rfl
      obtain rfl := hz
      clear hi
      have m0_0 : wr.cell? ⟨B1_1, 0, none⟩ = some _ := HP.out.cell 0
      have m0_1 : wr.cell? ⟨B1_1, 1, none⟩ = some _ := HP.out.cell 1
      have m0_2 : wr.cell? ⟨B1_1, 2, none⟩ = some _ := HP.out.cell 2
      have m0_3 : wr.cell? ⟨B1_1, 3, none⟩ = some _ := HP.out.cell 3
      have m0_4 : wr.cell? ⟨B1_1, 4, none⟩ = some _ := HP.out.cell 4
      have m0_5 : wr.cell? ⟨B1_1, 5, none⟩ = some _ := HP.out.cell 5
      have m0_6 : wr.cell? ⟨B1_1, 6, none⟩ = some _ := HP.out.cell 6
      have m0_7 : wr.cell? ⟨B1_1, 7, none⟩ = some _ := HP.out.cell 7
      have m0_8 : wr.cell? ⟨B1_1, 8, none⟩ = some _ := HP.out.cell 8
      have m0_9 : wr.cell? ⟨B1_1, 9, none⟩ = some _ := HP.out.cell 9
      have m0_10 : wr.cell? ⟨B1_1, 10, none⟩ = some _ := HP.out.cell 10
      have m0_11 : wr.cell? ⟨B1_1, 11, none⟩ = some _ := HP.out.cell 11
      have mlt0 : B1_1 < wr.heap.size := HP.out.lt
      have mf0 : ∀ o, wr.frozen? ⟨B1_1, o, none⟩ = false := fun o => HP.out.free o
      go_wp2
      clear m0_0 m0_1 m0_2 m0_3 m0_4 m0_5 m0_6 m0_7 m0_8 m0_9 m0_10 m0_11 mlt0 mf0
      obtain ⟨W3, hW3⟩ : ∃ W9, W9 = ((((((((((((wr.setCell ⟨B1_1, 0, none⟩ (.bool false)).setCell ⟨B1_1, 1, none⟩ (.bool false)).setCell ⟨B1_1, 2, none⟩ (.bool false)).setCell ⟨B1_1, 3, none⟩ (.bool false)).setCell ⟨B1_1, 4, none⟩ (.bool false)).setCell ⟨B1_1, 5, none⟩ (.bool false)).setCell ⟨B1_1, 6, none⟩ (.bool false)).setCell ⟨B1_1, 7, none⟩ (.bool false)).setCell ⟨B1_1, 8, none⟩ (.int .i64 0)).setCell ⟨B1_1, 9, none⟩ (.int .u64 0)).setCell ⟨B1_1, 10, none⟩ (.int .i64 0)).setCell ⟨B1_1, 11, none⟩ (.int .u64 0)) := ⟨_, rfl⟩
      rw [← hW3]
      have b3 : Blk W3 B1_1 [.bool false, .bool false, .bool false, .bool false, .bool false, .bool false, .bool false, .bool false, .int .i64 0, .int .u64 0, .int .i64 0, .int .u64 0] 34 := hW3 ▸ ((((((((((((HP.out.set 0 (.bool false)).set 1 (.bool false)).set 2 (.bool false)).set 3 (.bool false)).set 4 (.bool false)).set 5 (.bool false)).set 6 (.bool false)).set 7 (.bool false)).set 8 (.int .i64 0)).set 9 (.int .u64 0)).set 10 (.int .i64 0)).set 11 (.int .u64 0))
      have l3 : Below w.heap.size w W3 := hW3 ▸ (Below.setCell (Below.setCell (Below.setCell (Below.setCell (Below.setCell (Below.setCell (Below.setCell (Below.setCell (Below.setCell (Below.setCell (Below.setCell (Below.setCell HB.out G1_1.out _) G1_1.out _) G1_1.out _) G1_1.out _) G1_1.out _) G1_1.out _) G1_1.out _) G1_1.out _) G1_1.out _) G1_1.out _) G1_1.out _) G1_1.out _)
      clear hW3
      have r0 : W3.cell? ⟨B1_1, 0, none⟩ = some _ := b3.cell 0
      have r1 : W3.cell? ⟨B1_1, 1, none⟩ = some _ := b3.cell 1
      have r2 : W3.cell? ⟨B1_1, 2, none⟩ = some _ := b3.cell 2
      have r3 : W3.cell? ⟨B1_1, 3, none⟩ = some _ := b3.cell 3
      have r4 : W3.cell? ⟨B1_1, 4, none⟩ = some _ := b3.cell 4
      have r5 : W3.cell? ⟨B1_1, 5, none⟩ = some _ := b3.cell 5
      have r6 : W3.cell? ⟨B1_1, 6, none⟩ = some _ := b3.cell 6
      have r7 : W3.cell? ⟨B1_1, 7, none⟩ = some _ := b3.cell 7
      have r8 : W3.cell? ⟨B1_1, 8, none⟩ = some _ := b3.cell 8
      have r9 : W3.cell? ⟨B1_1, 9, none⟩ = some _ := b3.cell 9
      have r10 : W3.cell? ⟨B1_1, 10, none⟩ = some _ := b3.cell 10
      have r11 : W3.cell? ⟨B1_1, 11, none⟩ = some _ := b3.cell 11
      have Q3 := Lib.hid b3; have QL := Lib.hid l3; clear b3 l3
      refine bodyPost_ret (v := .tuple #[.agg #[.bool false, .bool false, .bool false, .bool false, .bool false, .bool false, .bool false, .bool false, .int .i64 0, .int .u64 0, .int .i64 0, .int .u64 0], .int .i64 51]) (by simp [results, Try.results9, go_sem, r0, r1, r2, r3, r4, r5, r6, r7, r8, r9, r10, r11]) rfl ⟨rfl, QL.out⟩
    · obtain rfl : i = (j : Int) := by omega
      clear hi
      have hj : j < 3 := by omega
      have h1 := fun w => Calls.belowD (rindex_yes va j w hv hj)
      have ea := rat_eq t va j
      have la := atN_lt t va j
      have a8 := atN_8 t va j
      have f9 := fld9 va j
      have h2 : ∀ w', Below w.heap.size w w' → Calls Try.prog 23 #[.pointer (some ⟨rm, 0, none⟩), .int .u64 (atN t va j : Nat), .int .i64 8] w' fun e w'' => e = .returned (.tuple #[.int .u64 (ldV fr C (atN t va j) 8), .int .i64 (errL fr (atN t va j) 8)]) ∧ Below w'.heap.size w' w'' :=
        fun w' hb => (rload_any rm fr (atN t va j) 8 vv C L w' (HM.out.below hb) hA (by omega) hfr).mono fun _ _ ⟨a, b⟩ => ⟨a, b.none⟩
      have hw' := hw (atN t va j)
      have q1 := fnd_bound (fr := fr) (va := va) (l := j) (t := t) (M := Mw C)
      have q2 := fnd_bad (fr := fr) (va := va) (l := j) (t := t) (M := Mw C)
      have q3 := fnd_leaf (fr := fr) (va := va) (l := j) (t := t) (M := Mw C)
      have q4 := fnd_dead (fr := fr) (va := va) (l := j) (t := t) (M := Mw C)
      have q5 := fnd_on (fr := fr) (va := va) (l := j) (t := t) (M := Mw C)
      rw [HQ.out] at q1 q2 q3 q4 q5
      have e0 : ldV fr C (atN t va j) 8 = if fr ≤ atN t va j / 4096 then 0 else ((Mw C (atN t va j) : Nat) : Int) := by
        unfold ldV
        rw [errL_8 _ _ a8]
        by_cases hb : fr ≤ atN t va j / 4096
        · rw [if_pos hb, if_pos hb, if_neg (by decide)]
        · rw [if_neg hb, if_neg hb, if_pos rfl]; exact hw'.1
      rw [errL_8 _ _ a8, e0] at h2
      have h3 := fun w => rget_any (Mw C (atN t va j)) w hw'.2
      have h4 := fun w => rright_any (entW (Mw C (atN t va j))) w
      have pn1 := entW_ppn (Mw C (atN t va j))
      have wl := hw'.2
      have h5 := fun w => rspan_yes j w hj
      have m1 := mult_eq (p := (entW (Mw C (atN t va j))).ppn) hj
      have sp : 0 < 2 ^ (12 + 9 * j) ∧ 2 ^ (12 + 9 * j) ≤ 9223372036854775808 := pow_b (by omega)
      unfold okE lea at *
      generalize fld va (12 + 9 * j) 9 = I at *
      generalize atN t va j = A at *
      generalize Mw C A = M at *
      generalize decide (M < 18014398509481984) = D at *
      generalize ((entW M).v && ((entW M).r || !(entW M).w)) = R at *
      generalize entW M = E at *
      generalize 2 ^ (12 + 9 * j) = S at *
      generalize hU : 2 ^ (9 * j) = U at *
      obtain ⟨v, r, x1, x, u, g, a, d, rsw, pn⟩ := E
      unfold pv at *
      dsimp only at *
      clear hw' e0 a8 HQ
      have H1 := Lib.hid h1; have H2 := Lib.hid h2; have H3 := Lib.hid h3; have H4 := Lib.hid h4; have H5 := Lib.hid h5; clear h1 h2 h3 h4 h5
      have Q1 := Lib.hid q1; have Q2 := Lib.hid q2; have Q3 := Lib.hid q3; have Q4 := Lib.hid q4; have Q5 := Lib.hid q5; have M1 := Lib.hid m1; clear q1 q2 q3 q4 q5 m1
      go_wp2_with fail
      refine (H1.out _).mono ?_
      rintro e w3 ⟨rfl, hb⟩
      have L3 := Lib.hid (HB.out.trans (hb.mono HB.out.size))
      have K3_0 := Lib.hid (HP.out.below hb HP.out.lt)
      clear hb HP
      go_wp2_with fail
      refine (H2.out _ L3.out).mono ?_
      rintro e w4 ⟨rfl, hb⟩
      have L4 := Lib.hid (L3.out.trans (hb.mono L3.out.size))
      have K4_0 := Lib.hid (K3_0.out.below hb K3_0.out.lt)
      clear hb K3_0
      by_cases hb : fr ≤ A / 4096
      · rw [if_pos hb, if_pos hb]
        obtain rfl := Q1.out hb
        clear hb
        have m0_0 : w4.cell? ⟨B1_1, 0, none⟩ = some _ := K4_0.out.cell 0
        have m0_1 : w4.cell? ⟨B1_1, 1, none⟩ = some _ := K4_0.out.cell 1
        have m0_2 : w4.cell? ⟨B1_1, 2, none⟩ = some _ := K4_0.out.cell 2
        have m0_3 : w4.cell? ⟨B1_1, 3, none⟩ = some _ := K4_0.out.cell 3
        have m0_4 : w4.cell? ⟨B1_1, 4, none⟩ = some _ := K4_0.out.cell 4
        have m0_5 : w4.cell? ⟨B1_1, 5, none⟩ = some _ := K4_0.out.cell 5
        have m0_6 : w4.cell? ⟨B1_1, 6, none⟩ = some _ := K4_0.out.cell 6
        have m0_7 : w4.cell? ⟨B1_1, 7, none⟩ = some _ := K4_0.out.cell 7
        have m0_8 : w4.cell? ⟨B1_1, 8, none⟩ = some _ := K4_0.out.cell 8
        have m0_9 : w4.cell? ⟨B1_1, 9, none⟩ = some _ := K4_0.out.cell 9
        have m0_10 : w4.cell? ⟨B1_1, 10, none⟩ = some _ := K4_0.out.cell 10
        have m0_11 : w4.cell? ⟨B1_1, 11, none⟩ = some _ := K4_0.out.cell 11
        have mlt0 : B1_1 < w4.heap.size := K4_0.out.lt
        have mf0 : ∀ o, w4.frozen? ⟨B1_1, o, none⟩ = false := fun o => K4_0.out.free o
        go_wp2
        clear m0_0 m0_1 m0_2 m0_3 m0_4 m0_5 m0_6 m0_7 m0_8 m0_9 m0_10 m0_11 mlt0 mf0
        obtain ⟨W3, hW3⟩ : ∃ W9, W9 = ((((((((((((w4.setCell ⟨B1_1, 0, none⟩ (.bool false)).setCell ⟨B1_1, 1, none⟩ (.bool false)).setCell ⟨B1_1, 2, none⟩ (.bool false)).setCell ⟨B1_1, 3, none⟩ (.bool false)).setCell ⟨B1_1, 4, none⟩ (.bool false)).setCell ⟨B1_1, 5, none⟩ (.bool false)).setCell ⟨B1_1, 6, none⟩ (.bool false)).setCell ⟨B1_1, 7, none⟩ (.bool false)).setCell ⟨B1_1, 8, none⟩ (.int .i64 0)).setCell ⟨B1_1, 9, none⟩ (.int .u64 0)).setCell ⟨B1_1, 10, none⟩ (.int .i64 0)).setCell ⟨B1_1, 11, none⟩ (.int .u64 0)) := ⟨_, rfl⟩
        rw [← hW3]
        have b3 : Blk W3 B1_1 [.bool false, .bool false, .bool false, .bool false, .bool false, .bool false, .bool false, .bool false, .int .i64 0, .int .u64 0, .int .i64 0, .int .u64 0] 34 := hW3 ▸ ((((((((((((K4_0.out.set 0 (.bool false)).set 1 (.bool false)).set 2 (.bool false)).set 3 (.bool false)).set 4 (.bool false)).set 5 (.bool false)).set 6 (.bool false)).set 7 (.bool false)).set 8 (.int .i64 0)).set 9 (.int .u64 0)).set 10 (.int .i64 0)).set 11 (.int .u64 0))
        have l3 : Below w.heap.size w W3 := hW3 ▸ (Below.setCell (Below.setCell (Below.setCell (Below.setCell (Below.setCell (Below.setCell (Below.setCell (Below.setCell (Below.setCell (Below.setCell (Below.setCell (Below.setCell L4.out G1_1.out _) G1_1.out _) G1_1.out _) G1_1.out _) G1_1.out _) G1_1.out _) G1_1.out _) G1_1.out _) G1_1.out _) G1_1.out _) G1_1.out _) G1_1.out _)
        clear hW3
        have r0 : W3.cell? ⟨B1_1, 0, none⟩ = some _ := b3.cell 0
        have r1 : W3.cell? ⟨B1_1, 1, none⟩ = some _ := b3.cell 1
        have r2 : W3.cell? ⟨B1_1, 2, none⟩ = some _ := b3.cell 2
        have r3 : W3.cell? ⟨B1_1, 3, none⟩ = some _ := b3.cell 3
        have r4 : W3.cell? ⟨B1_1, 4, none⟩ = some _ := b3.cell 4
        have r5 : W3.cell? ⟨B1_1, 5, none⟩ = some _ := b3.cell 5
        have r6 : W3.cell? ⟨B1_1, 6, none⟩ = some _ := b3.cell 6
        have r7 : W3.cell? ⟨B1_1, 7, none⟩ = some _ := b3.cell 7
        have r8 : W3.cell? ⟨B1_1, 8, none⟩ = some _ := b3.cell 8
        have r9 : W3.cell? ⟨B1_1, 9, none⟩ = some _ := b3.cell 9
        have r10 : W3.cell? ⟨B1_1, 10, none⟩ = some _ := b3.cell 10
        have r11 : W3.cell? ⟨B1_1, 11, none⟩ = some _ := b3.cell 11
        have Q3 := Lib.hid b3; have QL := Lib.hid l3; clear b3 l3
        refine bodyPost_ret (v := .tuple #[.agg #[.bool false, .bool false, .bool false, .bool false, .bool false, .bool false, .bool false, .bool false, .int .i64 0, .int .u64 0, .int .i64 0, .int .u64 0], .int .i64 61]) (by simp [results, Try.results9, go_sem, r0, r1, r2, r3, r4, r5, r6, r7, r8, r9, r10, r11]) rfl ⟨rfl, QL.out⟩
      rw [if_neg hb, if_neg hb]
      have q2 := Q2.out hb; have q3 := Q3.out hb; have q4 := Q4.out hb; have q5 := Q5.out hb; clear Q1 Q2 Q3 Q4 Q5 hb
      have Q2 := Lib.hid q2; have Q3 := Lib.hid q3; have Q4 := Lib.hid q4; have Q5 := Lib.hid q5; clear q2 q3 q4 q5
      go_wp2_with fail
      refine (H3.out _).mono ?_
      rintro e w5 ⟨rfl, hb⟩
      have L5 := Lib.hid (L4.out.trans (hb.mono L4.out.size))
      have K5_0 := Lib.hid (K4_0.out.below hb K4_0.out.lt)
      clear hb K4_0
      go_upto_region 14 with (fail)
      have nb0 : Blk (w5.alloc (.cells #[.bool v, .bool r, .bool x1, .bool x, .bool u, .bool g, .bool a, .bool d, .int .i64 rsw, .int .u64 (pn : Int)] 32)) (w5.heap.size) [.bool v, .bool r, .bool x1, .bool x, .bool u, .bool g, .bool a, .bool d, .int .i64 rsw, .int .u64 (pn : Int)] 32 := Blk.new w5 [.bool v, .bool r, .bool x1, .bool x, .bool u, .bool g, .bool a, .bool d, .int .i64 rsw, .int .u64 (pn : Int)] 32
      have nls : Below w.heap.size w w5 := L5.out
      have nl0 := nls.alloc nls.size (.cells #[.bool v, .bool r, .bool x1, .bool x, .bool u, .bool g, .bool a, .bool d, .int .i64 rsw, .int .u64 (pn : Int)] 32)
      have nl : Below w.heap.size w (w5.alloc (.cells #[.bool v, .bool r, .bool x1, .bool x, .bool u, .bool g, .bool a, .bool d, .int .i64 rsw, .int .u64 (pn : Int)] 32)) := nl0; clear nls nl0
      have o0 : Blk (w5.alloc (.cells #[.bool v, .bool r, .bool x1, .bool x, .bool u, .bool g, .bool a, .bool d, .int .i64 rsw, .int .u64 (pn : Int)] 32)) B1_1 [.bool false, .bool false, .bool false, .bool false, .bool false, .bool false, .bool false, .bool false, .int .i64 0, .int .u64 0, .int .i64 0, .int .u64 0] 34 := (K5_0.out.alloc (.cells #[.bool v, .bool r, .bool x1, .bool x, .bool u, .bool g, .bool a, .bool d, .int .i64 rsw, .int .u64 (pn : Int)] 32))
      have d6_0 : B1_1 < w5.heap.size := K5_0.out.lt
      obtain ⟨B6, hB0⟩ : ∃ B, B = w5.heap.size := ⟨_, rfl⟩
      obtain ⟨W6, hW⟩ : ∃ W, W = (w5.alloc (.cells #[.bool v, .bool r, .bool x1, .bool x, .bool u, .bool g, .bool a, .bool d, .int .i64 rsw, .int .u64 (pn : Int)] 32)) := ⟨_, rfl⟩
      rw [← hW] at nl nb0 o0
      rw [← hB0] at nb0
      rw [← hW]
      try rw [← hB0]
      have K6_0 := Lib.hid o0
      have K6_1 := Lib.hid nb0
      have G6 : Hid (w.heap.size ≤ B6) := Lib.hid (by have := L5.out.size; omega)
      have x6_0_0 : B1_1 ≠ B6 := by omega
      have X6_0_0 := Lib.hid x6_0_0; clear x6_0_0
      have L6 := Lib.hid nl
      clear nl hW nb0 hB0 o0 d6_0 K5_0
      cases D
      · obtain rfl := Q2.out (by trivial)
        have m0_0 : W6.cell? ⟨B1_1, 0, none⟩ = some _ := K6_0.out.cell 0
        have m0_1 : W6.cell? ⟨B1_1, 1, none⟩ = some _ := K6_0.out.cell 1
        have m0_2 : W6.cell? ⟨B1_1, 2, none⟩ = some _ := K6_0.out.cell 2
        have m0_3 : W6.cell? ⟨B1_1, 3, none⟩ = some _ := K6_0.out.cell 3
        have m0_4 : W6.cell? ⟨B1_1, 4, none⟩ = some _ := K6_0.out.cell 4
        have m0_5 : W6.cell? ⟨B1_1, 5, none⟩ = some _ := K6_0.out.cell 5
        have m0_6 : W6.cell? ⟨B1_1, 6, none⟩ = some _ := K6_0.out.cell 6
        have m0_7 : W6.cell? ⟨B1_1, 7, none⟩ = some _ := K6_0.out.cell 7
        have m0_8 : W6.cell? ⟨B1_1, 8, none⟩ = some _ := K6_0.out.cell 8
        have m0_9 : W6.cell? ⟨B1_1, 9, none⟩ = some _ := K6_0.out.cell 9
        have m0_10 : W6.cell? ⟨B1_1, 10, none⟩ = some _ := K6_0.out.cell 10
        have m0_11 : W6.cell? ⟨B1_1, 11, none⟩ = some _ := K6_0.out.cell 11
        have mlt0 : B1_1 < W6.heap.size := K6_0.out.lt
        have mf0 : ∀ o, W6.frozen? ⟨B1_1, o, none⟩ = false := fun o => K6_0.out.free o
        go_wp2
        clear m0_0 m0_1 m0_2 m0_3 m0_4 m0_5 m0_6 m0_7 m0_8 m0_9 m0_10 m0_11 mlt0 mf0
        obtain ⟨W3, hW3⟩ : ∃ W9, W9 = ((((((((((((W6.setCell ⟨B1_1, 0, none⟩ (.bool false)).setCell ⟨B1_1, 1, none⟩ (.bool false)).setCell ⟨B1_1, 2, none⟩ (.bool false)).setCell ⟨B1_1, 3, none⟩ (.bool false)).setCell ⟨B1_1, 4, none⟩ (.bool false)).setCell ⟨B1_1, 5, none⟩ (.bool false)).setCell ⟨B1_1, 6, none⟩ (.bool false)).setCell ⟨B1_1, 7, none⟩ (.bool false)).setCell ⟨B1_1, 8, none⟩ (.int .i64 0)).setCell ⟨B1_1, 9, none⟩ (.int .u64 0)).setCell ⟨B1_1, 10, none⟩ (.int .i64 0)).setCell ⟨B1_1, 11, none⟩ (.int .u64 0)) := ⟨_, rfl⟩
        rw [← hW3]
        have b3 : Blk W3 B1_1 [.bool false, .bool false, .bool false, .bool false, .bool false, .bool false, .bool false, .bool false, .int .i64 0, .int .u64 0, .int .i64 0, .int .u64 0] 34 := hW3 ▸ ((((((((((((K6_0.out.set 0 (.bool false)).set 1 (.bool false)).set 2 (.bool false)).set 3 (.bool false)).set 4 (.bool false)).set 5 (.bool false)).set 6 (.bool false)).set 7 (.bool false)).set 8 (.int .i64 0)).set 9 (.int .u64 0)).set 10 (.int .i64 0)).set 11 (.int .u64 0))
        have l3 : Below w.heap.size w W3 := hW3 ▸ (Below.setCell (Below.setCell (Below.setCell (Below.setCell (Below.setCell (Below.setCell (Below.setCell (Below.setCell (Below.setCell (Below.setCell (Below.setCell (Below.setCell L6.out G1_1.out _) G1_1.out _) G1_1.out _) G1_1.out _) G1_1.out _) G1_1.out _) G1_1.out _) G1_1.out _) G1_1.out _) G1_1.out _) G1_1.out _) G1_1.out _)
        clear hW3
        have r0 : W3.cell? ⟨B1_1, 0, none⟩ = some _ := b3.cell 0
        have r1 : W3.cell? ⟨B1_1, 1, none⟩ = some _ := b3.cell 1
        have r2 : W3.cell? ⟨B1_1, 2, none⟩ = some _ := b3.cell 2
        have r3 : W3.cell? ⟨B1_1, 3, none⟩ = some _ := b3.cell 3
        have r4 : W3.cell? ⟨B1_1, 4, none⟩ = some _ := b3.cell 4
        have r5 : W3.cell? ⟨B1_1, 5, none⟩ = some _ := b3.cell 5
        have r6 : W3.cell? ⟨B1_1, 6, none⟩ = some _ := b3.cell 6
        have r7 : W3.cell? ⟨B1_1, 7, none⟩ = some _ := b3.cell 7
        have r8 : W3.cell? ⟨B1_1, 8, none⟩ = some _ := b3.cell 8
        have r9 : W3.cell? ⟨B1_1, 9, none⟩ = some _ := b3.cell 9
        have r10 : W3.cell? ⟨B1_1, 10, none⟩ = some _ := b3.cell 10
        have r11 : W3.cell? ⟨B1_1, 11, none⟩ = some _ := b3.cell 11
        have Q3 := Lib.hid b3; have QL := Lib.hid l3; clear b3 l3
        refine bodyPost_ret (v := .tuple #[.agg #[.bool false, .bool false, .bool false, .bool false, .bool false, .bool false, .bool false, .bool false, .int .i64 0, .int .u64 0, .int .i64 0, .int .u64 0], .int .i64 51]) (by simp [results, Try.results9, go_sem, r0, r1, r2, r3, r4, r5, r6, r7, r8, r9, r10, r11]) rfl ⟨rfl, QL.out⟩
      have m1_0 : W6.cell? ⟨B6, 0, none⟩ = some _ := K6_1.out.cell 0
      have m1_1 : W6.cell? ⟨B6, 1, none⟩ = some _ := K6_1.out.cell 1
      have m1_2 : W6.cell? ⟨B6, 2, none⟩ = some _ := K6_1.out.cell 2
      have m1_3 : W6.cell? ⟨B6, 3, none⟩ = some _ := K6_1.out.cell 3
      have m1_4 : W6.cell? ⟨B6, 4, none⟩ = some _ := K6_1.out.cell 4
      have m1_5 : W6.cell? ⟨B6, 5, none⟩ = some _ := K6_1.out.cell 5
      have m1_6 : W6.cell? ⟨B6, 6, none⟩ = some _ := K6_1.out.cell 6
      have m1_7 : W6.cell? ⟨B6, 7, none⟩ = some _ := K6_1.out.cell 7
      have m1_8 : W6.cell? ⟨B6, 8, none⟩ = some _ := K6_1.out.cell 8
      have m1_9 : W6.cell? ⟨B6, 9, none⟩ = some _ := K6_1.out.cell 9
      have mlt1 : B6 < W6.heap.size := K6_1.out.lt
      go_wp2_with fail
      clear m1_0 m1_1 m1_2 m1_3 m1_4 m1_5 m1_6 m1_7 m1_8 m1_9 mlt1
      refine (H4.out _).mono ?_
      rintro e w7 ⟨rfl, hb⟩
      have L7 := Lib.hid (L6.out.trans (hb.mono L6.out.size))
      have K7_0 := Lib.hid (K6_0.out.below hb K6_0.out.lt)
      have K7_1 := Lib.hid (K6_1.out.below hb K6_1.out.lt)
      clear hb K6_0 K6_1
      cases R
      · obtain rfl := Q2.out (by trivial)
        have m0_0 : w7.cell? ⟨B1_1, 0, none⟩ = some _ := K7_0.out.cell 0
        have m0_1 : w7.cell? ⟨B1_1, 1, none⟩ = some _ := K7_0.out.cell 1
        have m0_2 : w7.cell? ⟨B1_1, 2, none⟩ = some _ := K7_0.out.cell 2
        have m0_3 : w7.cell? ⟨B1_1, 3, none⟩ = some _ := K7_0.out.cell 3
        have m0_4 : w7.cell? ⟨B1_1, 4, none⟩ = some _ := K7_0.out.cell 4
        have m0_5 : w7.cell? ⟨B1_1, 5, none⟩ = some _ := K7_0.out.cell 5
        have m0_6 : w7.cell? ⟨B1_1, 6, none⟩ = some _ := K7_0.out.cell 6
        have m0_7 : w7.cell? ⟨B1_1, 7, none⟩ = some _ := K7_0.out.cell 7
        have m0_8 : w7.cell? ⟨B1_1, 8, none⟩ = some _ := K7_0.out.cell 8
        have m0_9 : w7.cell? ⟨B1_1, 9, none⟩ = some _ := K7_0.out.cell 9
        have m0_10 : w7.cell? ⟨B1_1, 10, none⟩ = some _ := K7_0.out.cell 10
        have m0_11 : w7.cell? ⟨B1_1, 11, none⟩ = some _ := K7_0.out.cell 11
        have mlt0 : B1_1 < w7.heap.size := K7_0.out.lt
        have mf0 : ∀ o, w7.frozen? ⟨B1_1, o, none⟩ = false := fun o => K7_0.out.free o
        go_wp2
        clear m0_0 m0_1 m0_2 m0_3 m0_4 m0_5 m0_6 m0_7 m0_8 m0_9 m0_10 m0_11 mlt0 mf0
        obtain ⟨W3, hW3⟩ : ∃ W9, W9 = ((((((((((((w7.setCell ⟨B1_1, 0, none⟩ (.bool false)).setCell ⟨B1_1, 1, none⟩ (.bool false)).setCell ⟨B1_1, 2, none⟩ (.bool false)).setCell ⟨B1_1, 3, none⟩ (.bool false)).setCell ⟨B1_1, 4, none⟩ (.bool false)).setCell ⟨B1_1, 5, none⟩ (.bool false)).setCell ⟨B1_1, 6, none⟩ (.bool false)).setCell ⟨B1_1, 7, none⟩ (.bool false)).setCell ⟨B1_1, 8, none⟩ (.int .i64 0)).setCell ⟨B1_1, 9, none⟩ (.int .u64 0)).setCell ⟨B1_1, 10, none⟩ (.int .i64 0)).setCell ⟨B1_1, 11, none⟩ (.int .u64 0)) := ⟨_, rfl⟩
        rw [← hW3]
        have b3 : Blk W3 B1_1 [.bool false, .bool false, .bool false, .bool false, .bool false, .bool false, .bool false, .bool false, .int .i64 0, .int .u64 0, .int .i64 0, .int .u64 0] 34 := hW3 ▸ ((((((((((((K7_0.out.set 0 (.bool false)).set 1 (.bool false)).set 2 (.bool false)).set 3 (.bool false)).set 4 (.bool false)).set 5 (.bool false)).set 6 (.bool false)).set 7 (.bool false)).set 8 (.int .i64 0)).set 9 (.int .u64 0)).set 10 (.int .i64 0)).set 11 (.int .u64 0))
        have l3 : Below w.heap.size w W3 := hW3 ▸ (Below.setCell (Below.setCell (Below.setCell (Below.setCell (Below.setCell (Below.setCell (Below.setCell (Below.setCell (Below.setCell (Below.setCell (Below.setCell (Below.setCell L7.out G1_1.out _) G1_1.out _) G1_1.out _) G1_1.out _) G1_1.out _) G1_1.out _) G1_1.out _) G1_1.out _) G1_1.out _) G1_1.out _) G1_1.out _) G1_1.out _)
        clear hW3
        have r0 : W3.cell? ⟨B1_1, 0, none⟩ = some _ := b3.cell 0
        have r1 : W3.cell? ⟨B1_1, 1, none⟩ = some _ := b3.cell 1
        have r2 : W3.cell? ⟨B1_1, 2, none⟩ = some _ := b3.cell 2
        have r3 : W3.cell? ⟨B1_1, 3, none⟩ = some _ := b3.cell 3
        have r4 : W3.cell? ⟨B1_1, 4, none⟩ = some _ := b3.cell 4
        have r5 : W3.cell? ⟨B1_1, 5, none⟩ = some _ := b3.cell 5
        have r6 : W3.cell? ⟨B1_1, 6, none⟩ = some _ := b3.cell 6
        have r7 : W3.cell? ⟨B1_1, 7, none⟩ = some _ := b3.cell 7
        have r8 : W3.cell? ⟨B1_1, 8, none⟩ = some _ := b3.cell 8
        have r9 : W3.cell? ⟨B1_1, 9, none⟩ = some _ := b3.cell 9
        have r10 : W3.cell? ⟨B1_1, 10, none⟩ = some _ := b3.cell 10
        have r11 : W3.cell? ⟨B1_1, 11, none⟩ = some _ := b3.cell 11
        have Q3 := Lib.hid b3; have QL := Lib.hid l3; clear b3 l3
        refine bodyPost_ret (v := .tuple #[.agg #[.bool false, .bool false, .bool false, .bool false, .bool false, .bool false, .bool false, .bool false, .int .i64 0, .int .u64 0, .int .i64 0, .int .u64 0], .int .i64 51]) (by simp [results, Try.results9, go_sem, r0, r1, r2, r3, r4, r5, r6, r7, r8, r9, r10, r11]) rfl ⟨rfl, QL.out⟩
      by_cases hx : (r || x) = true
      · have q3 := Q3.out (by trivial) hx
        have HQ3 := Lib.hid q3; clear q3
        have hrx : r = true ∨ (r = false ∧ x = true) := by cases r <;> simp_all
        clear hx
        have mm : ∀ b, (((pn : Int) * 4096 % (S : Int)) != 0) = b → (b = false ↔ pn % U = 0) := fun b h => by
          rw [← h, show (pn : Int) * 4096 % (S : Int) = ((pn * 4096 % S : Nat) : Int) from by simp]
          have := M1.out
          rw [← this]
          simp only [bne_eq_false_iff_eq]
          omega
        obtain ⟨mb, hmb⟩ : ∃ b, (((pn : Int) * 4096 % (S : Int)) != 0) = b := ⟨_, rfl⟩
        have hmq := mm mb hmb
        clear mm
        have HMQ := Lib.hid hmq; clear hmq
        have hS : (S : Int) ≠ 0 := by omega
        rcases hrx with rfl | ⟨rfl, rfl⟩
        · have m1_0 : w7.cell? ⟨B6, 0, none⟩ = some _ := K7_1.out.cell 0
          have m1_1 : w7.cell? ⟨B6, 1, none⟩ = some _ := K7_1.out.cell 1
          have m1_2 : w7.cell? ⟨B6, 2, none⟩ = some _ := K7_1.out.cell 2
          have m1_3 : w7.cell? ⟨B6, 3, none⟩ = some _ := K7_1.out.cell 3
          have m1_4 : w7.cell? ⟨B6, 4, none⟩ = some _ := K7_1.out.cell 4
          have m1_5 : w7.cell? ⟨B6, 5, none⟩ = some _ := K7_1.out.cell 5
          have m1_6 : w7.cell? ⟨B6, 6, none⟩ = some _ := K7_1.out.cell 6
          have m1_7 : w7.cell? ⟨B6, 7, none⟩ = some _ := K7_1.out.cell 7
          have m1_8 : w7.cell? ⟨B6, 8, none⟩ = some _ := K7_1.out.cell 8
          have m1_9 : w7.cell? ⟨B6, 9, none⟩ = some _ := K7_1.out.cell 9
          have mlt1 : B6 < w7.heap.size := K7_1.out.lt
          go_upto_region 17 with (fail)
          clear m1_0 m1_1 m1_2 m1_3 m1_4 m1_5 m1_6 m1_7 m1_8 m1_9 mlt1
          have m1_0 : w7.cell? ⟨B6, 0, none⟩ = some _ := K7_1.out.cell 0
          have m1_1 : w7.cell? ⟨B6, 1, none⟩ = some _ := K7_1.out.cell 1
          have m1_2 : w7.cell? ⟨B6, 2, none⟩ = some _ := K7_1.out.cell 2
          have m1_3 : w7.cell? ⟨B6, 3, none⟩ = some _ := K7_1.out.cell 3
          have m1_4 : w7.cell? ⟨B6, 4, none⟩ = some _ := K7_1.out.cell 4
          have m1_5 : w7.cell? ⟨B6, 5, none⟩ = some _ := K7_1.out.cell 5
          have m1_6 : w7.cell? ⟨B6, 6, none⟩ = some _ := K7_1.out.cell 6
          have m1_7 : w7.cell? ⟨B6, 7, none⟩ = some _ := K7_1.out.cell 7
          have m1_8 : w7.cell? ⟨B6, 8, none⟩ = some _ := K7_1.out.cell 8
          have m1_9 : w7.cell? ⟨B6, 9, none⟩ = some _ := K7_1.out.cell 9
          have mlt1 : B6 < w7.heap.size := K7_1.out.lt
          go_quiet ((go_at_call 26; with_reducible exact quiet_same (H5.out _)))
          clear m1_0 m1_1 m1_2 m1_3 m1_4 m1_5 m1_6 m1_7 m1_8 m1_9 mlt1
          obtain ⟨w8, hW9⟩ : ∃ W9, W9 = w7.drewN nq := ⟨_, rfl⟩
          rw [← hW9]
          have L8 : Hid (Below w.heap.size w w8) := Lib.hid (hW9 ▸ below_drewNs L7.out nq)
          have K8_0 : Hid (Blk w8 B1_1 [.bool false, .bool false, .bool false, .bool false, .bool false, .bool false, .bool false, .bool false, .int .i64 0, .int .u64 0, .int .i64 0, .int .u64 0] 34) := Lib.hid (hW9 ▸ Blk.drewN K7_0.out nq)
          have K8_1 : Hid (Blk w8 B6 [.bool v, .bool true, .bool x1, .bool x, .bool u, .bool g, .bool a, .bool d, .int .i64 rsw, .int .u64 (pn : Int)] 32) := Lib.hid (hW9 ▸ Blk.drewN K7_1.out nq)
          clear hW9 K7_0 K7_1
          cases mb
          · have hz := HQ3.out
            rw [if_pos (HMQ.out.1 rfl)] at hz
            obtain rfl := hz
            have m1_0 : w8.cell? ⟨B6, 0, none⟩ = some _ := K8_1.out.cell 0
            have m1_1 : w8.cell? ⟨B6, 1, none⟩ = some _ := K8_1.out.cell 1
            have m1_2 : w8.cell? ⟨B6, 2, none⟩ = some _ := K8_1.out.cell 2
            have m1_3 : w8.cell? ⟨B6, 3, none⟩ = some _ := K8_1.out.cell 3
            have m1_4 : w8.cell? ⟨B6, 4, none⟩ = some _ := K8_1.out.cell 4
            have m1_5 : w8.cell? ⟨B6, 5, none⟩ = some _ := K8_1.out.cell 5
            have m1_6 : w8.cell? ⟨B6, 6, none⟩ = some _ := K8_1.out.cell 6
            have m1_7 : w8.cell? ⟨B6, 7, none⟩ = some _ := K8_1.out.cell 7
            have m1_8 : w8.cell? ⟨B6, 8, none⟩ = some _ := K8_1.out.cell 8
            have m1_9 : w8.cell? ⟨B6, 9, none⟩ = some _ := K8_1.out.cell 9
            have mlt1 : B6 < w8.heap.size := K8_1.out.lt
            have m0_0 : w8.cell? ⟨B1_1, 0, none⟩ = some _ := K8_0.out.cell 0
            have m0_1 : w8.cell? ⟨B1_1, 1, none⟩ = some _ := K8_0.out.cell 1
            have m0_2 : w8.cell? ⟨B1_1, 2, none⟩ = some _ := K8_0.out.cell 2
            have m0_3 : w8.cell? ⟨B1_1, 3, none⟩ = some _ := K8_0.out.cell 3
            have m0_4 : w8.cell? ⟨B1_1, 4, none⟩ = some _ := K8_0.out.cell 4
            have m0_5 : w8.cell? ⟨B1_1, 5, none⟩ = some _ := K8_0.out.cell 5
            have m0_6 : w8.cell? ⟨B1_1, 6, none⟩ = some _ := K8_0.out.cell 6
            have m0_7 : w8.cell? ⟨B1_1, 7, none⟩ = some _ := K8_0.out.cell 7
            have m0_8 : w8.cell? ⟨B1_1, 8, none⟩ = some _ := K8_0.out.cell 8
            have m0_9 : w8.cell? ⟨B1_1, 9, none⟩ = some _ := K8_0.out.cell 9
            have m0_10 : w8.cell? ⟨B1_1, 10, none⟩ = some _ := K8_0.out.cell 10
            have m0_11 : w8.cell? ⟨B1_1, 11, none⟩ = some _ := K8_0.out.cell 11
            have mlt0 : B1_1 < w8.heap.size := K8_0.out.lt
            have mf0 : ∀ o, w8.frozen? ⟨B1_1, o, none⟩ = false := fun o => K8_0.out.free o
            go_wp2
            clear m1_0 m1_1 m1_2 m1_3 m1_4 m1_5 m1_6 m1_7 m1_8 m1_9 mlt1 m0_0 m0_1 m0_2 m0_3 m0_4 m0_5 m0_6 m0_7 m0_8 m0_9 m0_10 m0_11 mlt0 mf0
            obtain ⟨W3, hW3⟩ : ∃ W9, W9 = ((((((((((((w8.setCell ⟨B1_1, 0, none⟩ (.bool v)).setCell ⟨B1_1, 1, none⟩ (.bool true)).setCell ⟨B1_1, 2, none⟩ (.bool x1)).setCell ⟨B1_1, 3, none⟩ (.bool x)).setCell ⟨B1_1, 4, none⟩ (.bool u)).setCell ⟨B1_1, 5, none⟩ (.bool g)).setCell ⟨B1_1, 6, none⟩ (.bool a)).setCell ⟨B1_1, 7, none⟩ (.bool d)).setCell ⟨B1_1, 8, none⟩ (.int .i64 rsw)).setCell ⟨B1_1, 9, none⟩ (.int .u64 (pn : Int))).setCell ⟨B1_1, 10, none⟩ (.int .i64 (j : Int))).setCell ⟨B1_1, 11, none⟩ (.int .u64 (A : Int))) := ⟨_, rfl⟩
            rw [← hW3]
            have b3 : Blk W3 B1_1 [.bool v, .bool true, .bool x1, .bool x, .bool u, .bool g, .bool a, .bool d, .int .i64 rsw, .int .u64 (pn : Int), .int .i64 (j : Int), .int .u64 (A : Int)] 34 := hW3 ▸ ((((((((((((K8_0.out.set 0 (.bool v)).set 1 (.bool true)).set 2 (.bool x1)).set 3 (.bool x)).set 4 (.bool u)).set 5 (.bool g)).set 6 (.bool a)).set 7 (.bool d)).set 8 (.int .i64 rsw)).set 9 (.int .u64 (pn : Int))).set 10 (.int .i64 (j : Int))).set 11 (.int .u64 (A : Int)))
            have l3 : Below w.heap.size w W3 := hW3 ▸ (Below.setCell (Below.setCell (Below.setCell (Below.setCell (Below.setCell (Below.setCell (Below.setCell (Below.setCell (Below.setCell (Below.setCell (Below.setCell (Below.setCell L8.out G1_1.out _) G1_1.out _) G1_1.out _) G1_1.out _) G1_1.out _) G1_1.out _) G1_1.out _) G1_1.out _) G1_1.out _) G1_1.out _) G1_1.out _) G1_1.out _)
            clear hW3
            have r0 : W3.cell? ⟨B1_1, 0, none⟩ = some _ := b3.cell 0
            have r1 : W3.cell? ⟨B1_1, 1, none⟩ = some _ := b3.cell 1
            have r2 : W3.cell? ⟨B1_1, 2, none⟩ = some _ := b3.cell 2
            have r3 : W3.cell? ⟨B1_1, 3, none⟩ = some _ := b3.cell 3
            have r4 : W3.cell? ⟨B1_1, 4, none⟩ = some _ := b3.cell 4
            have r5 : W3.cell? ⟨B1_1, 5, none⟩ = some _ := b3.cell 5
            have r6 : W3.cell? ⟨B1_1, 6, none⟩ = some _ := b3.cell 6
            have r7 : W3.cell? ⟨B1_1, 7, none⟩ = some _ := b3.cell 7
            have r8 : W3.cell? ⟨B1_1, 8, none⟩ = some _ := b3.cell 8
            have r9 : W3.cell? ⟨B1_1, 9, none⟩ = some _ := b3.cell 9
            have r10 : W3.cell? ⟨B1_1, 10, none⟩ = some _ := b3.cell 10
            have r11 : W3.cell? ⟨B1_1, 11, none⟩ = some _ := b3.cell 11
            have Q3 := Lib.hid b3; have QL := Lib.hid l3; clear b3 l3
            refine bodyPost_ret (v := .tuple #[.agg #[.bool v, .bool true, .bool x1, .bool x, .bool u, .bool g, .bool a, .bool d, .int .i64 rsw, .int .u64 (pn : Int), .int .i64 (j : Int), .int .u64 (A : Int)], .int .i64 0]) (by simp [results, Try.results9, go_sem, r0, r1, r2, r3, r4, r5, r6, r7, r8, r9, r10, r11]) rfl ⟨rfl, QL.out⟩
          · have hz := HQ3.out
            rw [if_neg (fun h => by have := HMQ.out.2 h; cases this)] at hz
            obtain rfl := hz
            have m0_0 : w8.cell? ⟨B1_1, 0, none⟩ = some _ := K8_0.out.cell 0
            have m0_1 : w8.cell? ⟨B1_1, 1, none⟩ = some _ := K8_0.out.cell 1
            have m0_2 : w8.cell? ⟨B1_1, 2, none⟩ = some _ := K8_0.out.cell 2
            have m0_3 : w8.cell? ⟨B1_1, 3, none⟩ = some _ := K8_0.out.cell 3
            have m0_4 : w8.cell? ⟨B1_1, 4, none⟩ = some _ := K8_0.out.cell 4
            have m0_5 : w8.cell? ⟨B1_1, 5, none⟩ = some _ := K8_0.out.cell 5
            have m0_6 : w8.cell? ⟨B1_1, 6, none⟩ = some _ := K8_0.out.cell 6
            have m0_7 : w8.cell? ⟨B1_1, 7, none⟩ = some _ := K8_0.out.cell 7
            have m0_8 : w8.cell? ⟨B1_1, 8, none⟩ = some _ := K8_0.out.cell 8
            have m0_9 : w8.cell? ⟨B1_1, 9, none⟩ = some _ := K8_0.out.cell 9
            have m0_10 : w8.cell? ⟨B1_1, 10, none⟩ = some _ := K8_0.out.cell 10
            have m0_11 : w8.cell? ⟨B1_1, 11, none⟩ = some _ := K8_0.out.cell 11
            have mlt0 : B1_1 < w8.heap.size := K8_0.out.lt
            have mf0 : ∀ o, w8.frozen? ⟨B1_1, o, none⟩ = false := fun o => K8_0.out.free o
            go_wp2
            clear m0_0 m0_1 m0_2 m0_3 m0_4 m0_5 m0_6 m0_7 m0_8 m0_9 m0_10 m0_11 mlt0 mf0
            obtain ⟨W3, hW3⟩ : ∃ W9, W9 = ((((((((((((w8.setCell ⟨B1_1, 0, none⟩ (.bool false)).setCell ⟨B1_1, 1, none⟩ (.bool false)).setCell ⟨B1_1, 2, none⟩ (.bool false)).setCell ⟨B1_1, 3, none⟩ (.bool false)).setCell ⟨B1_1, 4, none⟩ (.bool false)).setCell ⟨B1_1, 5, none⟩ (.bool false)).setCell ⟨B1_1, 6, none⟩ (.bool false)).setCell ⟨B1_1, 7, none⟩ (.bool false)).setCell ⟨B1_1, 8, none⟩ (.int .i64 0)).setCell ⟨B1_1, 9, none⟩ (.int .u64 0)).setCell ⟨B1_1, 10, none⟩ (.int .i64 0)).setCell ⟨B1_1, 11, none⟩ (.int .u64 0)) := ⟨_, rfl⟩
            rw [← hW3]
            have b3 : Blk W3 B1_1 [.bool false, .bool false, .bool false, .bool false, .bool false, .bool false, .bool false, .bool false, .int .i64 0, .int .u64 0, .int .i64 0, .int .u64 0] 34 := hW3 ▸ ((((((((((((K8_0.out.set 0 (.bool false)).set 1 (.bool false)).set 2 (.bool false)).set 3 (.bool false)).set 4 (.bool false)).set 5 (.bool false)).set 6 (.bool false)).set 7 (.bool false)).set 8 (.int .i64 0)).set 9 (.int .u64 0)).set 10 (.int .i64 0)).set 11 (.int .u64 0))
            have l3 : Below w.heap.size w W3 := hW3 ▸ (Below.setCell (Below.setCell (Below.setCell (Below.setCell (Below.setCell (Below.setCell (Below.setCell (Below.setCell (Below.setCell (Below.setCell (Below.setCell (Below.setCell L8.out G1_1.out _) G1_1.out _) G1_1.out _) G1_1.out _) G1_1.out _) G1_1.out _) G1_1.out _) G1_1.out _) G1_1.out _) G1_1.out _) G1_1.out _) G1_1.out _)
            clear hW3
            have r0 : W3.cell? ⟨B1_1, 0, none⟩ = some _ := b3.cell 0
            have r1 : W3.cell? ⟨B1_1, 1, none⟩ = some _ := b3.cell 1
            have r2 : W3.cell? ⟨B1_1, 2, none⟩ = some _ := b3.cell 2
            have r3 : W3.cell? ⟨B1_1, 3, none⟩ = some _ := b3.cell 3
            have r4 : W3.cell? ⟨B1_1, 4, none⟩ = some _ := b3.cell 4
            have r5 : W3.cell? ⟨B1_1, 5, none⟩ = some _ := b3.cell 5
            have r6 : W3.cell? ⟨B1_1, 6, none⟩ = some _ := b3.cell 6
            have r7 : W3.cell? ⟨B1_1, 7, none⟩ = some _ := b3.cell 7
            have r8 : W3.cell? ⟨B1_1, 8, none⟩ = some _ := b3.cell 8
            have r9 : W3.cell? ⟨B1_1, 9, none⟩ = some _ := b3.cell 9
            have r10 : W3.cell? ⟨B1_1, 10, none⟩ = some _ := b3.cell 10
            have r11 : W3.cell? ⟨B1_1, 11, none⟩ = some _ := b3.cell 11
            have Q3 := Lib.hid b3; have QL := Lib.hid l3; clear b3 l3
            refine bodyPost_ret (v := .tuple #[.agg #[.bool false, .bool false, .bool false, .bool false, .bool false, .bool false, .bool false, .bool false, .int .i64 0, .int .u64 0, .int .i64 0, .int .u64 0], .int .i64 51]) (by simp [results, Try.results9, go_sem, r0, r1, r2, r3, r4, r5, r6, r7, r8, r9, r10, r11]) rfl ⟨rfl, QL.out⟩
        · have m1_0 : w7.cell? ⟨B6, 0, none⟩ = some _ := K7_1.out.cell 0
          have m1_1 : w7.cell? ⟨B6, 1, none⟩ = some _ := K7_1.out.cell 1
          have m1_2 : w7.cell? ⟨B6, 2, none⟩ = some _ := K7_1.out.cell 2
          have m1_3 : w7.cell? ⟨B6, 3, none⟩ = some _ := K7_1.out.cell 3
          have m1_4 : w7.cell? ⟨B6, 4, none⟩ = some _ := K7_1.out.cell 4
          have m1_5 : w7.cell? ⟨B6, 5, none⟩ = some _ := K7_1.out.cell 5
          have m1_6 : w7.cell? ⟨B6, 6, none⟩ = some _ := K7_1.out.cell 6
          have m1_7 : w7.cell? ⟨B6, 7, none⟩ = some _ := K7_1.out.cell 7
          have m1_8 : w7.cell? ⟨B6, 8, none⟩ = some _ := K7_1.out.cell 8
          have m1_9 : w7.cell? ⟨B6, 9, none⟩ = some _ := K7_1.out.cell 9
          have mlt1 : B6 < w7.heap.size := K7_1.out.lt
          go_upto_region 17 with (fail)
          clear m1_0 m1_1 m1_2 m1_3 m1_4 m1_5 m1_6 m1_7 m1_8 m1_9 mlt1
          have m1_0 : w7.cell? ⟨B6, 0, none⟩ = some _ := K7_1.out.cell 0
          have m1_1 : w7.cell? ⟨B6, 1, none⟩ = some _ := K7_1.out.cell 1
          have m1_2 : w7.cell? ⟨B6, 2, none⟩ = some _ := K7_1.out.cell 2
          have m1_3 : w7.cell? ⟨B6, 3, none⟩ = some _ := K7_1.out.cell 3
          have m1_4 : w7.cell? ⟨B6, 4, none⟩ = some _ := K7_1.out.cell 4
          have m1_5 : w7.cell? ⟨B6, 5, none⟩ = some _ := K7_1.out.cell 5
          have m1_6 : w7.cell? ⟨B6, 6, none⟩ = some _ := K7_1.out.cell 6
          have m1_7 : w7.cell? ⟨B6, 7, none⟩ = some _ := K7_1.out.cell 7
          have m1_8 : w7.cell? ⟨B6, 8, none⟩ = some _ := K7_1.out.cell 8
          have m1_9 : w7.cell? ⟨B6, 9, none⟩ = some _ := K7_1.out.cell 9
          have mlt1 : B6 < w7.heap.size := K7_1.out.lt
          go_quiet ((go_at_call 26; with_reducible exact quiet_same (H5.out _)))
          clear m1_0 m1_1 m1_2 m1_3 m1_4 m1_5 m1_6 m1_7 m1_8 m1_9 mlt1
          obtain ⟨w9, hW9⟩ : ∃ W9, W9 = w7.drewN nq := ⟨_, rfl⟩
          rw [← hW9]
          have L9 : Hid (Below w.heap.size w w9) := Lib.hid (hW9 ▸ below_drewNs L7.out nq)
          have K9_0 : Hid (Blk w9 B1_1 [.bool false, .bool false, .bool false, .bool false, .bool false, .bool false, .bool false, .bool false, .int .i64 0, .int .u64 0, .int .i64 0, .int .u64 0] 34) := Lib.hid (hW9 ▸ Blk.drewN K7_0.out nq)
          have K9_1 : Hid (Blk w9 B6 [.bool v, .bool false, .bool x1, .bool true, .bool u, .bool g, .bool a, .bool d, .int .i64 rsw, .int .u64 (pn : Int)] 32) := Lib.hid (hW9 ▸ Blk.drewN K7_1.out nq)
          clear hW9 K7_0 K7_1
          cases mb
          · have hz := HQ3.out
            rw [if_pos (HMQ.out.1 rfl)] at hz
            obtain rfl := hz
            have m1_0 : w9.cell? ⟨B6, 0, none⟩ = some _ := K9_1.out.cell 0
            have m1_1 : w9.cell? ⟨B6, 1, none⟩ = some _ := K9_1.out.cell 1
            have m1_2 : w9.cell? ⟨B6, 2, none⟩ = some _ := K9_1.out.cell 2
            have m1_3 : w9.cell? ⟨B6, 3, none⟩ = some _ := K9_1.out.cell 3
            have m1_4 : w9.cell? ⟨B6, 4, none⟩ = some _ := K9_1.out.cell 4
            have m1_5 : w9.cell? ⟨B6, 5, none⟩ = some _ := K9_1.out.cell 5
            have m1_6 : w9.cell? ⟨B6, 6, none⟩ = some _ := K9_1.out.cell 6
            have m1_7 : w9.cell? ⟨B6, 7, none⟩ = some _ := K9_1.out.cell 7
            have m1_8 : w9.cell? ⟨B6, 8, none⟩ = some _ := K9_1.out.cell 8
            have m1_9 : w9.cell? ⟨B6, 9, none⟩ = some _ := K9_1.out.cell 9
            have mlt1 : B6 < w9.heap.size := K9_1.out.lt
            have m0_0 : w9.cell? ⟨B1_1, 0, none⟩ = some _ := K9_0.out.cell 0
            have m0_1 : w9.cell? ⟨B1_1, 1, none⟩ = some _ := K9_0.out.cell 1
            have m0_2 : w9.cell? ⟨B1_1, 2, none⟩ = some _ := K9_0.out.cell 2
            have m0_3 : w9.cell? ⟨B1_1, 3, none⟩ = some _ := K9_0.out.cell 3
            have m0_4 : w9.cell? ⟨B1_1, 4, none⟩ = some _ := K9_0.out.cell 4
            have m0_5 : w9.cell? ⟨B1_1, 5, none⟩ = some _ := K9_0.out.cell 5
            have m0_6 : w9.cell? ⟨B1_1, 6, none⟩ = some _ := K9_0.out.cell 6
            have m0_7 : w9.cell? ⟨B1_1, 7, none⟩ = some _ := K9_0.out.cell 7
            have m0_8 : w9.cell? ⟨B1_1, 8, none⟩ = some _ := K9_0.out.cell 8
            have m0_9 : w9.cell? ⟨B1_1, 9, none⟩ = some _ := K9_0.out.cell 9
            have m0_10 : w9.cell? ⟨B1_1, 10, none⟩ = some _ := K9_0.out.cell 10
            have m0_11 : w9.cell? ⟨B1_1, 11, none⟩ = some _ := K9_0.out.cell 11
            have mlt0 : B1_1 < w9.heap.size := K9_0.out.lt
            have mf0 : ∀ o, w9.frozen? ⟨B1_1, o, none⟩ = false := fun o => K9_0.out.free o
            go_wp2
            clear m1_0 m1_1 m1_2 m1_3 m1_4 m1_5 m1_6 m1_7 m1_8 m1_9 mlt1 m0_0 m0_1 m0_2 m0_3 m0_4 m0_5 m0_6 m0_7 m0_8 m0_9 m0_10 m0_11 mlt0 mf0
            obtain ⟨W3, hW3⟩ : ∃ W9, W9 = ((((((((((((w9.setCell ⟨B1_1, 0, none⟩ (.bool v)).setCell ⟨B1_1, 1, none⟩ (.bool false)).setCell ⟨B1_1, 2, none⟩ (.bool x1)).setCell ⟨B1_1, 3, none⟩ (.bool true)).setCell ⟨B1_1, 4, none⟩ (.bool u)).setCell ⟨B1_1, 5, none⟩ (.bool g)).setCell ⟨B1_1, 6, none⟩ (.bool a)).setCell ⟨B1_1, 7, none⟩ (.bool d)).setCell ⟨B1_1, 8, none⟩ (.int .i64 rsw)).setCell ⟨B1_1, 9, none⟩ (.int .u64 (pn : Int))).setCell ⟨B1_1, 10, none⟩ (.int .i64 (j : Int))).setCell ⟨B1_1, 11, none⟩ (.int .u64 (A : Int))) := ⟨_, rfl⟩
            rw [← hW3]
            have b3 : Blk W3 B1_1 [.bool v, .bool false, .bool x1, .bool true, .bool u, .bool g, .bool a, .bool d, .int .i64 rsw, .int .u64 (pn : Int), .int .i64 (j : Int), .int .u64 (A : Int)] 34 := hW3 ▸ ((((((((((((K9_0.out.set 0 (.bool v)).set 1 (.bool false)).set 2 (.bool x1)).set 3 (.bool true)).set 4 (.bool u)).set 5 (.bool g)).set 6 (.bool a)).set 7 (.bool d)).set 8 (.int .i64 rsw)).set 9 (.int .u64 (pn : Int))).set 10 (.int .i64 (j : Int))).set 11 (.int .u64 (A : Int)))
            have l3 : Below w.heap.size w W3 := hW3 ▸ (Below.setCell (Below.setCell (Below.setCell (Below.setCell (Below.setCell (Below.setCell (Below.setCell (Below.setCell (Below.setCell (Below.setCell (Below.setCell (Below.setCell L9.out G1_1.out _) G1_1.out _) G1_1.out _) G1_1.out _) G1_1.out _) G1_1.out _) G1_1.out _) G1_1.out _) G1_1.out _) G1_1.out _) G1_1.out _) G1_1.out _)
            clear hW3
            have r0 : W3.cell? ⟨B1_1, 0, none⟩ = some _ := b3.cell 0
            have r1 : W3.cell? ⟨B1_1, 1, none⟩ = some _ := b3.cell 1
            have r2 : W3.cell? ⟨B1_1, 2, none⟩ = some _ := b3.cell 2
            have r3 : W3.cell? ⟨B1_1, 3, none⟩ = some _ := b3.cell 3
            have r4 : W3.cell? ⟨B1_1, 4, none⟩ = some _ := b3.cell 4
            have r5 : W3.cell? ⟨B1_1, 5, none⟩ = some _ := b3.cell 5
            have r6 : W3.cell? ⟨B1_1, 6, none⟩ = some _ := b3.cell 6
            have r7 : W3.cell? ⟨B1_1, 7, none⟩ = some _ := b3.cell 7
            have r8 : W3.cell? ⟨B1_1, 8, none⟩ = some _ := b3.cell 8
            have r9 : W3.cell? ⟨B1_1, 9, none⟩ = some _ := b3.cell 9
            have r10 : W3.cell? ⟨B1_1, 10, none⟩ = some _ := b3.cell 10
            have r11 : W3.cell? ⟨B1_1, 11, none⟩ = some _ := b3.cell 11
            have Q3 := Lib.hid b3; have QL := Lib.hid l3; clear b3 l3
            refine bodyPost_ret (v := .tuple #[.agg #[.bool v, .bool false, .bool x1, .bool true, .bool u, .bool g, .bool a, .bool d, .int .i64 rsw, .int .u64 (pn : Int), .int .i64 (j : Int), .int .u64 (A : Int)], .int .i64 0]) (by simp [results, Try.results9, go_sem, r0, r1, r2, r3, r4, r5, r6, r7, r8, r9, r10, r11]) rfl ⟨rfl, QL.out⟩
          · have hz := HQ3.out
            rw [if_neg (fun h => by have := HMQ.out.2 h; cases this)] at hz
            obtain rfl := hz
            have m0_0 : w9.cell? ⟨B1_1, 0, none⟩ = some _ := K9_0.out.cell 0
            have m0_1 : w9.cell? ⟨B1_1, 1, none⟩ = some _ := K9_0.out.cell 1
            have m0_2 : w9.cell? ⟨B1_1, 2, none⟩ = some _ := K9_0.out.cell 2
            have m0_3 : w9.cell? ⟨B1_1, 3, none⟩ = some _ := K9_0.out.cell 3
            have m0_4 : w9.cell? ⟨B1_1, 4, none⟩ = some _ := K9_0.out.cell 4
            have m0_5 : w9.cell? ⟨B1_1, 5, none⟩ = some _ := K9_0.out.cell 5
            have m0_6 : w9.cell? ⟨B1_1, 6, none⟩ = some _ := K9_0.out.cell 6
            have m0_7 : w9.cell? ⟨B1_1, 7, none⟩ = some _ := K9_0.out.cell 7
            have m0_8 : w9.cell? ⟨B1_1, 8, none⟩ = some _ := K9_0.out.cell 8
            have m0_9 : w9.cell? ⟨B1_1, 9, none⟩ = some _ := K9_0.out.cell 9
            have m0_10 : w9.cell? ⟨B1_1, 10, none⟩ = some _ := K9_0.out.cell 10
            have m0_11 : w9.cell? ⟨B1_1, 11, none⟩ = some _ := K9_0.out.cell 11
            have mlt0 : B1_1 < w9.heap.size := K9_0.out.lt
            have mf0 : ∀ o, w9.frozen? ⟨B1_1, o, none⟩ = false := fun o => K9_0.out.free o
            go_wp2
            clear m0_0 m0_1 m0_2 m0_3 m0_4 m0_5 m0_6 m0_7 m0_8 m0_9 m0_10 m0_11 mlt0 mf0
            obtain ⟨W3, hW3⟩ : ∃ W9, W9 = ((((((((((((w9.setCell ⟨B1_1, 0, none⟩ (.bool false)).setCell ⟨B1_1, 1, none⟩ (.bool false)).setCell ⟨B1_1, 2, none⟩ (.bool false)).setCell ⟨B1_1, 3, none⟩ (.bool false)).setCell ⟨B1_1, 4, none⟩ (.bool false)).setCell ⟨B1_1, 5, none⟩ (.bool false)).setCell ⟨B1_1, 6, none⟩ (.bool false)).setCell ⟨B1_1, 7, none⟩ (.bool false)).setCell ⟨B1_1, 8, none⟩ (.int .i64 0)).setCell ⟨B1_1, 9, none⟩ (.int .u64 0)).setCell ⟨B1_1, 10, none⟩ (.int .i64 0)).setCell ⟨B1_1, 11, none⟩ (.int .u64 0)) := ⟨_, rfl⟩
            rw [← hW3]
            have b3 : Blk W3 B1_1 [.bool false, .bool false, .bool false, .bool false, .bool false, .bool false, .bool false, .bool false, .int .i64 0, .int .u64 0, .int .i64 0, .int .u64 0] 34 := hW3 ▸ ((((((((((((K9_0.out.set 0 (.bool false)).set 1 (.bool false)).set 2 (.bool false)).set 3 (.bool false)).set 4 (.bool false)).set 5 (.bool false)).set 6 (.bool false)).set 7 (.bool false)).set 8 (.int .i64 0)).set 9 (.int .u64 0)).set 10 (.int .i64 0)).set 11 (.int .u64 0))
            have l3 : Below w.heap.size w W3 := hW3 ▸ (Below.setCell (Below.setCell (Below.setCell (Below.setCell (Below.setCell (Below.setCell (Below.setCell (Below.setCell (Below.setCell (Below.setCell (Below.setCell (Below.setCell L9.out G1_1.out _) G1_1.out _) G1_1.out _) G1_1.out _) G1_1.out _) G1_1.out _) G1_1.out _) G1_1.out _) G1_1.out _) G1_1.out _) G1_1.out _) G1_1.out _)
            clear hW3
            have r0 : W3.cell? ⟨B1_1, 0, none⟩ = some _ := b3.cell 0
            have r1 : W3.cell? ⟨B1_1, 1, none⟩ = some _ := b3.cell 1
            have r2 : W3.cell? ⟨B1_1, 2, none⟩ = some _ := b3.cell 2
            have r3 : W3.cell? ⟨B1_1, 3, none⟩ = some _ := b3.cell 3
            have r4 : W3.cell? ⟨B1_1, 4, none⟩ = some _ := b3.cell 4
            have r5 : W3.cell? ⟨B1_1, 5, none⟩ = some _ := b3.cell 5
            have r6 : W3.cell? ⟨B1_1, 6, none⟩ = some _ := b3.cell 6
            have r7 : W3.cell? ⟨B1_1, 7, none⟩ = some _ := b3.cell 7
            have r8 : W3.cell? ⟨B1_1, 8, none⟩ = some _ := b3.cell 8
            have r9 : W3.cell? ⟨B1_1, 9, none⟩ = some _ := b3.cell 9
            have r10 : W3.cell? ⟨B1_1, 10, none⟩ = some _ := b3.cell 10
            have r11 : W3.cell? ⟨B1_1, 11, none⟩ = some _ := b3.cell 11
            have Q3 := Lib.hid b3; have QL := Lib.hid l3; clear b3 l3
            refine bodyPost_ret (v := .tuple #[.agg #[.bool false, .bool false, .bool false, .bool false, .bool false, .bool false, .bool false, .bool false, .int .i64 0, .int .u64 0, .int .i64 0, .int .u64 0], .int .i64 51]) (by simp [results, Try.results9, go_sem, r0, r1, r2, r3, r4, r5, r6, r7, r8, r9, r10, r11]) rfl ⟨rfl, QL.out⟩
      have hr : r = false := by cases r <;> simp_all
      have hx' : x = false := by cases x <;> simp_all
      subst hr hx'
      clear hx
      have q4 := Q4.out (by trivial) (by trivial)
      have q5 := Q5.out (by trivial) (by trivial)
      have HQ4 := Lib.hid q4; have HQ5 := Lib.hid q5; clear q4 q5
      by_cases hd : (u || a || d) = true
      · obtain rfl := HQ4.out hd
        have h3 : u = true ∨ (u = false ∧ a = true) ∨ (u = false ∧ a = false ∧ d = true) := by cases u <;> cases a <;> cases d <;> simp_all
        clear hd
        rcases h3 with rfl | ⟨rfl, rfl⟩ | ⟨rfl, rfl, rfl⟩
        all_goals
          have m1_0 : w7.cell? ⟨B6, 0, none⟩ = some _ := K7_1.out.cell 0
          have m1_1 : w7.cell? ⟨B6, 1, none⟩ = some _ := K7_1.out.cell 1
          have m1_2 : w7.cell? ⟨B6, 2, none⟩ = some _ := K7_1.out.cell 2
          have m1_3 : w7.cell? ⟨B6, 3, none⟩ = some _ := K7_1.out.cell 3
          have m1_4 : w7.cell? ⟨B6, 4, none⟩ = some _ := K7_1.out.cell 4
          have m1_5 : w7.cell? ⟨B6, 5, none⟩ = some _ := K7_1.out.cell 5
          have m1_6 : w7.cell? ⟨B6, 6, none⟩ = some _ := K7_1.out.cell 6
          have m1_7 : w7.cell? ⟨B6, 7, none⟩ = some _ := K7_1.out.cell 7
          have m1_8 : w7.cell? ⟨B6, 8, none⟩ = some _ := K7_1.out.cell 8
          have m1_9 : w7.cell? ⟨B6, 9, none⟩ = some _ := K7_1.out.cell 9
          have mlt1 : B6 < w7.heap.size := K7_1.out.lt
          have m0_0 : w7.cell? ⟨B1_1, 0, none⟩ = some _ := K7_0.out.cell 0
          have m0_1 : w7.cell? ⟨B1_1, 1, none⟩ = some _ := K7_0.out.cell 1
          have m0_2 : w7.cell? ⟨B1_1, 2, none⟩ = some _ := K7_0.out.cell 2
          have m0_3 : w7.cell? ⟨B1_1, 3, none⟩ = some _ := K7_0.out.cell 3
          have m0_4 : w7.cell? ⟨B1_1, 4, none⟩ = some _ := K7_0.out.cell 4
          have m0_5 : w7.cell? ⟨B1_1, 5, none⟩ = some _ := K7_0.out.cell 5
          have m0_6 : w7.cell? ⟨B1_1, 6, none⟩ = some _ := K7_0.out.cell 6
          have m0_7 : w7.cell? ⟨B1_1, 7, none⟩ = some _ := K7_0.out.cell 7
          have m0_8 : w7.cell? ⟨B1_1, 8, none⟩ = some _ := K7_0.out.cell 8
          have m0_9 : w7.cell? ⟨B1_1, 9, none⟩ = some _ := K7_0.out.cell 9
          have m0_10 : w7.cell? ⟨B1_1, 10, none⟩ = some _ := K7_0.out.cell 10
          have m0_11 : w7.cell? ⟨B1_1, 11, none⟩ = some _ := K7_0.out.cell 11
          have mlt0 : B1_1 < w7.heap.size := K7_0.out.lt
          have mf0 : ∀ o, w7.frozen? ⟨B1_1, o, none⟩ = false := fun o => K7_0.out.free o
          go_wp2
          clear m1_0 m1_1 m1_2 m1_3 m1_4 m1_5 m1_6 m1_7 m1_8 m1_9 mlt1 m0_0 m0_1 m0_2 m0_3 m0_4 m0_5 m0_6 m0_7 m0_8 m0_9 m0_10 m0_11 mlt0 mf0
          obtain ⟨W3, hW3⟩ : ∃ W9, W9 = ((((((((((((w7.setCell ⟨B1_1, 0, none⟩ (.bool false)).setCell ⟨B1_1, 1, none⟩ (.bool false)).setCell ⟨B1_1, 2, none⟩ (.bool false)).setCell ⟨B1_1, 3, none⟩ (.bool false)).setCell ⟨B1_1, 4, none⟩ (.bool false)).setCell ⟨B1_1, 5, none⟩ (.bool false)).setCell ⟨B1_1, 6, none⟩ (.bool false)).setCell ⟨B1_1, 7, none⟩ (.bool false)).setCell ⟨B1_1, 8, none⟩ (.int .i64 0)).setCell ⟨B1_1, 9, none⟩ (.int .u64 0)).setCell ⟨B1_1, 10, none⟩ (.int .i64 0)).setCell ⟨B1_1, 11, none⟩ (.int .u64 0)) := ⟨_, rfl⟩
          rw [← hW3]
          have b3 : Blk W3 B1_1 [.bool false, .bool false, .bool false, .bool false, .bool false, .bool false, .bool false, .bool false, .int .i64 0, .int .u64 0, .int .i64 0, .int .u64 0] 34 := hW3 ▸ ((((((((((((K7_0.out.set 0 (.bool false)).set 1 (.bool false)).set 2 (.bool false)).set 3 (.bool false)).set 4 (.bool false)).set 5 (.bool false)).set 6 (.bool false)).set 7 (.bool false)).set 8 (.int .i64 0)).set 9 (.int .u64 0)).set 10 (.int .i64 0)).set 11 (.int .u64 0))
          have l3 : Below w.heap.size w W3 := hW3 ▸ (Below.setCell (Below.setCell (Below.setCell (Below.setCell (Below.setCell (Below.setCell (Below.setCell (Below.setCell (Below.setCell (Below.setCell (Below.setCell (Below.setCell L7.out G1_1.out _) G1_1.out _) G1_1.out _) G1_1.out _) G1_1.out _) G1_1.out _) G1_1.out _) G1_1.out _) G1_1.out _) G1_1.out _) G1_1.out _) G1_1.out _)
          clear hW3
          have r0 : W3.cell? ⟨B1_1, 0, none⟩ = some _ := b3.cell 0
          have r1 : W3.cell? ⟨B1_1, 1, none⟩ = some _ := b3.cell 1
          have r2 : W3.cell? ⟨B1_1, 2, none⟩ = some _ := b3.cell 2
          have r3 : W3.cell? ⟨B1_1, 3, none⟩ = some _ := b3.cell 3
          have r4 : W3.cell? ⟨B1_1, 4, none⟩ = some _ := b3.cell 4
          have r5 : W3.cell? ⟨B1_1, 5, none⟩ = some _ := b3.cell 5
          have r6 : W3.cell? ⟨B1_1, 6, none⟩ = some _ := b3.cell 6
          have r7 : W3.cell? ⟨B1_1, 7, none⟩ = some _ := b3.cell 7
          have r8 : W3.cell? ⟨B1_1, 8, none⟩ = some _ := b3.cell 8
          have r9 : W3.cell? ⟨B1_1, 9, none⟩ = some _ := b3.cell 9
          have r10 : W3.cell? ⟨B1_1, 10, none⟩ = some _ := b3.cell 10
          have r11 : W3.cell? ⟨B1_1, 11, none⟩ = some _ := b3.cell 11
          have Q3 := Lib.hid b3; have QL := Lib.hid l3; clear b3 l3
          refine bodyPost_ret (v := .tuple #[.agg #[.bool false, .bool false, .bool false, .bool false, .bool false, .bool false, .bool false, .bool false, .int .i64 0, .int .u64 0, .int .i64 0, .int .u64 0], .int .i64 51]) (by simp [results, Try.results9, go_sem, r0, r1, r2, r3, r4, r5, r6, r7, r8, r9, r10, r11]) rfl ⟨rfl, QL.out⟩
      · have hz := HQ5.out (by simpa using hd)
        have h3 : u = false ∧ a = false ∧ d = false := by cases u <;> cases a <;> cases d <;> simp_all
        obtain ⟨rfl, rfl, rfl⟩ := h3
        have HZ5 := Lib.hid hz; have PN1 := Lib.hid pn1; clear hd hz ea la f9 wl sp hU pn1
        have m1_0 : w7.cell? ⟨B6, 0, none⟩ = some _ := K7_1.out.cell 0
        have m1_1 : w7.cell? ⟨B6, 1, none⟩ = some _ := K7_1.out.cell 1
        have m1_2 : w7.cell? ⟨B6, 2, none⟩ = some _ := K7_1.out.cell 2
        have m1_3 : w7.cell? ⟨B6, 3, none⟩ = some _ := K7_1.out.cell 3
        have m1_4 : w7.cell? ⟨B6, 4, none⟩ = some _ := K7_1.out.cell 4
        have m1_5 : w7.cell? ⟨B6, 5, none⟩ = some _ := K7_1.out.cell 5
        have m1_6 : w7.cell? ⟨B6, 6, none⟩ = some _ := K7_1.out.cell 6
        have m1_7 : w7.cell? ⟨B6, 7, none⟩ = some _ := K7_1.out.cell 7
        have m1_8 : w7.cell? ⟨B6, 8, none⟩ = some _ := K7_1.out.cell 8
        have m1_9 : w7.cell? ⟨B6, 9, none⟩ = some _ := K7_1.out.cell 9
        have mlt1 : B6 < w7.heap.size := K7_1.out.lt
        go_wp2
        clear m1_0 m1_1 m1_2 m1_3 m1_4 m1_5 m1_6 m1_7 m1_8 m1_9 mlt1
        go_roundw
        case rel => exact ⟨j, pn, (j : Int) - 1, rfl, by omega, by have := PN1.out; omega, rfl, by go_num, HZ5.out.symm, K7_0.out, L7.out⟩
        case measure => simp [intOf] <;> omega
end Go.Proofs.Ytibmjbfnjkmjbaa
