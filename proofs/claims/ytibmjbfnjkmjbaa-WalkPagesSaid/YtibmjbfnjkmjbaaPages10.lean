/-
  The statement WalkPages: its walk over the translation. No conditions but that the arguments are of their types.
-/
import Derived.Test.YtibmjbfnjkmjbaaLaw10
import Derived.Laws.StructEq
import Derived.Deep.Cut
import Derived.Deep.QuietTactic
import Derived.BigQuiet
namespace Go.Proofs.Ytibmjbfnjkmjbaa
open Go.RowKit
set_option linter.unusedVariables false
set_option linter.unusedSimpArgs false
attribute [local go_sem] setCell_drewN alloc_drewN

theorem load_u64 {w : World} {b k : Nat} {c : Value} (h : w.cell? ⟨b, k, none⟩ = some c) : (Instr.loadAt 23 (.pointer (some ⟨b, k, none⟩))).run Try.prog w = .ok c w := by
  go_simp
theorem yield_u64 {w : World} {b k : Nat} {c : Value} (a : Act) (o : Oper) (x : Operand) (ho : o.op = .load 23 x) (hx : a.eval x = .pointer (some ⟨b, k, none⟩)) (h : w.cell? ⟨b, k, none⟩ = some c) :
    (execOp a.eval o).run Try.prog w = .ok (.value c) w := by
  have e := load_u64 h
  obtain ⟨op, _, _, _, _, _⟩ := o
  dsimp only at ho
  subst ho
  unfold execOp
  simp only [hx]
  simp [e]
theorem page_b (va other s : Nat) (hs : s = 4096 ∨ s = 2097152 ∨ s = 1073741824) (hv : va < 18446744073709551616) : ∃ b : Nat, (va : Int) - (va : Int) % (s : Int) + (other : Int) % (s : Int) = (b : Int) ∧ b < 18446744073709551616 ∧ b / s = va / s := by
  rcases hs with rfl | rfl | rfl
  · exact ⟨va - va % 4096 + other % 4096, by omega, by omega, by omega⟩
  · exact ⟨va - va % 2097152 + other % 2097152, by omega, by omega, by omega⟩
  · exact ⟨va - va % 1073741824 + other % 1073741824, by omega, by omega, by omega⟩
theorem join_diff (pn va b s : Nat) (h : b / s = va / s) : (joinN pn b s : Int) - (joinN pn va s : Int) = (b : Int) - (va : Int) := by
  have h1 := Nat.div_add_mod b s
  have h2 := Nat.div_add_mod va s
  rw [h] at h1
  unfold joinN
  generalize s * (va / s) = Q at *
  omega
set_option maxHeartbeats 8000000 in
theorem pages_walk (A : Option Addr) (len cap : Nat) (ws : List (Nat × Nat)) (va other : Nat) (w : World) (hW : IsWords w A len ws) (hl : len ≤ 9223372036854775807) (hv : va < 18446744073709551616) (ho : other < 18446744073709551616) :
    Calls Try.prog 5 #[.slice A len cap, .int .u64 va, .int .u64 other] w fun e w' => e = .returned (.bool true) ∧ Below w.heap.size w w' := by
  have h0 := fun w' (hb : Below w.heap.size w w') => laid_any 6 A len cap ws w' (by omega) (by omega) (hW.below hb) hl
  have H0 := Lib.hid h0; clear h0 hW
  go_enter Try.func5, Try.ntmps5
  go_wp2_with fail
  refine (first_any _).mono ?_
  rintro e w1 ⟨rfl, hb⟩
  have L1 := Lib.hid ((Below.refl w.heap.size w).trans (hb.mono (Nat.le_refl w.heap.size)))
  clear hb
  go_wp2_with fail
  refine (H0.out _ L1.out).mono ?_
  rintro e w2 ⟨mp, rm, F, vv, C, kk, rfl, hT, hb⟩
  have L2 := Lib.hid (L1.out.trans (hb.mono L1.out.size))
  clear hb
  have TT := Lib.hid hT; clear hT
  have hf := fun w' (hb : Below w2.heap.size w2 w') => wfind_any mp 6 kk va ⟨true, 0, 0⟩ C F w' (TT.out.mem.below hb) hv (by decide)
  have hp := fun b => findW_page (fr := 6) (M := Mw C) (va := va) (b := b) ⟨true, 0, 0⟩
  have hg := fun b w' (hb : Below w2.heap.size w2 w') => wfind_any mp 6 kk b ⟨true, 0, 0⟩ C F w' (TT.out.mem.below hb)
  have hi := findW_is (fr := 6) (M := Mw C) (va := va) ⟨true, 0, 0⟩
  have HG := Lib.hid hg; clear hg
  obtain ⟨Z, hZ⟩ : ∃ Z, findW 6 (Mw C) ⟨true, 0, 0⟩ va = Z := ⟨_, rfl⟩
  rw [hZ] at hi
  simp only [hZ] at hf hp
  have HZ := Lib.hid hZ; clear hZ
  obtain ⟨f, er⟩ := Z
  dsimp only at *
  rcases hi with ⟨rfl, hlv, hpn, hp8, hpl⟩ | ⟨her, rfl⟩
  · obtain ⟨⟨v, r, x1, x, u, g, a, d, rsw, pn⟩, lv, pl⟩ := f
    dsimp only at *
    have h3 : lv = 0 ∨ lv = 1 ∨ lv = 2 := by omega
    clear hlv
    rcases h3 with rfl | rfl | rfl
    · obtain ⟨b, hb0, hb1, hb2⟩ := page_b va other 4096 (by omega) hv
      have hq := hp b rfl hb2
      have hg : ∀ w', Below w2.heap.size w2 w' → Calls Try.prog 8 #[.pointer (some ⟨mp, 0, none⟩), .agg #[.bool true, .int .i64 0, .int .u64 0], .int .u64 b ] w' fun qq w'' => qq = .returned (.tuple #[.agg #[.bool v, .bool r, .bool x1, .bool x, .bool u, .bool g, .bool a, .bool d, .int .i64 rsw, .int .u64 (pn : Int), .int .i64 0, .int .u64 (pl : Int)], .int .i64 0]) ∧ Below w'.heap.size w' w'' := fun w' hb => (by have h := HG.out b w' hb hb1 (by decide); rw [hq] at h; exact h)
      have hff : ∀ w', Below w2.heap.size w2 w' → Calls Try.prog 8 #[.pointer (some ⟨mp, 0, none⟩), .agg #[.bool true, .int .i64 0, .int .u64 0], .int .u64 va ] w' fun qq w'' => qq = .returned (.tuple #[.agg #[.bool v, .bool r, .bool x1, .bool x, .bool u, .bool g, .bool a, .bool d, .int .i64 rsw, .int .u64 (pn : Int), .int .i64 0, .int .u64 (pl : Int)], .int .i64 0]) ∧ Below w'.heap.size w' w'' := hf
      have p1 : ∀ w, Calls Try.prog 10 #[.agg #[.bool v, .bool r, .bool x1, .bool x, .bool u, .bool g, .bool a, .bool d, .int .i64 rsw, .int .u64 (pn : Int), .int .i64 0, .int .u64 (pl : Int)], .int .u64 b] w fun qq w' => qq = .returned (.int .u64 (joinN pn b 4096 : Nat)) ∧ Below w.heap.size w w' := fun w => place_any ⟨⟨v, r, x1, x, u, g, a, d, rsw, pn⟩, 0, pl⟩ b w (by dsimp only; omega) hb1 (by simp)
      have p2 : ∀ w, Calls Try.prog 10 #[.agg #[.bool v, .bool r, .bool x1, .bool x, .bool u, .bool g, .bool a, .bool d, .int .i64 rsw, .int .u64 (pn : Int), .int .i64 0, .int .u64 (pl : Int)], .int .u64 va] w fun qq w' => qq = .returned (.int .u64 (joinN pn va 4096 : Nat)) ∧ Below w.heap.size w w' := fun w => place_any ⟨⟨v, r, x1, x, u, g, a, d, rsw, pn⟩, 0, pl⟩ va w (by dsimp only; omega) hv (by simp)
      have hd := join_diff pn va b 4096 hb2
      generalize joinN pn b 4096 = J2 at *
      generalize joinN pn va 4096 = J1 at *
      obtain ⟨D, hD⟩ : ∃ D, IntKind.u64.wrap ((b : Int) - (va : Int)) = D := ⟨_, rfl⟩
      have hD2 : IntKind.u64.wrap ((J2 : Int) - (J1 : Int)) = D := by rw [hd]; exact hD
      have c1 : (pl : Int).tmod 8 = 0 := by rw [Int.tmod_eq_emod_of_nonneg (by omega)]; omega
      have c2 : (pl : Int) < 24576 := by omega
      replace hb0 : (va : Int) - (va : Int) % 4096 + (other : Int) % 4096 = (b : Int) := hb0
      have GG := Lib.hid hg; have FF := Lib.hid hff; have P1 := Lib.hid p1; have P2 := Lib.hid p2; have D1 := Lib.hid hD; have D2 := Lib.hid hD2; have CC1 := Lib.hid c1; have CC2 := Lib.hid c2; have HB0 := Lib.hid hb0
      clear hg hff p1 p2 hD hD2 c1 c2 hb0 hb2 hq hd hp8 hpl hpn hf hp HG HZ
      go_upto_region 5 with (fail)
      have nb0 : Blk (w2.alloc (.cells #[.bool true, .int .i64 0, .int .u64 0] 25)) (w2.heap.size) [.bool true, .int .i64 0, .int .u64 0] 25 := Blk.new w2 [.bool true, .int .i64 0, .int .u64 0] 25
      have nls : Below w2.heap.size w2 w2 := (Below.refl w2.heap.size w2)
      have nl0 := nls.alloc nls.size (.cells #[.bool true, .int .i64 0, .int .u64 0] 25)
      have nl : Below w2.heap.size w2 (w2.alloc (.cells #[.bool true, .int .i64 0, .int .u64 0] 25)) := nl0; clear nls nl0
      obtain ⟨B3, hB0⟩ : ∃ B, B = w2.heap.size := ⟨_, rfl⟩
      obtain ⟨W3, hW⟩ : ∃ W, W = (w2.alloc (.cells #[.bool true, .int .i64 0, .int .u64 0] 25)) := ⟨_, rfl⟩
      rw [← hW] at nl nb0
      rw [← hB0] at nb0
      rw [← hW]
      try rw [← hB0]
      have K3_0 := Lib.hid nb0
      have G3 : Hid (w2.heap.size ≤ B3) := Lib.hid (by have := (Nat.le_refl w2.heap.size); omega)
      have L3 := Lib.hid nl
      clear nl hW nb0 hB0
      have m0_0 : W3.cell? ⟨B3, 0, none⟩ = some _ := K3_0.out.cell 0
      have m0_1 : W3.cell? ⟨B3, 1, none⟩ = some _ := K3_0.out.cell 1
      have m0_2 : W3.cell? ⟨B3, 2, none⟩ = some _ := K3_0.out.cell 2
      have mlt0 : B3 < W3.heap.size := K3_0.out.lt
      go_wp2_with fail
      clear m0_0 m0_1 m0_2 mlt0
      refine (FF.out _ L3.out).mono ?_
      rintro e w4 ⟨rfl, hb⟩
      have L4 := Lib.hid (L3.out.trans (hb.mono L3.out.size))
      have K4_0 := Lib.hid (K3_0.out.below hb K3_0.out.lt)
      clear hb K3_0
      go_upto_region 6 with (fail)
      have nb0 : Blk (w4.alloc (.cells #[.bool v, .bool r, .bool x1, .bool x, .bool u, .bool g, .bool a, .bool d, .int .i64 rsw, .int .u64 (pn : Int), .int .i64 0, .int .u64 (pl : Int)] 34)) (w4.heap.size) [.bool v, .bool r, .bool x1, .bool x, .bool u, .bool g, .bool a, .bool d, .int .i64 rsw, .int .u64 (pn : Int), .int .i64 0, .int .u64 (pl : Int)] 34 := Blk.new w4 [.bool v, .bool r, .bool x1, .bool x, .bool u, .bool g, .bool a, .bool d, .int .i64 rsw, .int .u64 (pn : Int), .int .i64 0, .int .u64 (pl : Int)] 34
      have nls : Below w2.heap.size w2 w4 := L4.out
      have nl0 := nls.alloc nls.size (.cells #[.bool v, .bool r, .bool x1, .bool x, .bool u, .bool g, .bool a, .bool d, .int .i64 rsw, .int .u64 (pn : Int), .int .i64 0, .int .u64 (pl : Int)] 34)
      have nl : Below w2.heap.size w2 (w4.alloc (.cells #[.bool v, .bool r, .bool x1, .bool x, .bool u, .bool g, .bool a, .bool d, .int .i64 rsw, .int .u64 (pn : Int), .int .i64 0, .int .u64 (pl : Int)] 34)) := nl0; clear nls nl0
      have o0 : Blk (w4.alloc (.cells #[.bool v, .bool r, .bool x1, .bool x, .bool u, .bool g, .bool a, .bool d, .int .i64 rsw, .int .u64 (pn : Int), .int .i64 0, .int .u64 (pl : Int)] 34)) B3 [.bool true, .int .i64 0, .int .u64 0] 25 := (K4_0.out.alloc (.cells #[.bool v, .bool r, .bool x1, .bool x, .bool u, .bool g, .bool a, .bool d, .int .i64 rsw, .int .u64 (pn : Int), .int .i64 0, .int .u64 (pl : Int)] 34))
      have d5_0 : B3 < w4.heap.size := K4_0.out.lt
      obtain ⟨B5, hB0⟩ : ∃ B, B = w4.heap.size := ⟨_, rfl⟩
      obtain ⟨W5, hW⟩ : ∃ W, W = (w4.alloc (.cells #[.bool v, .bool r, .bool x1, .bool x, .bool u, .bool g, .bool a, .bool d, .int .i64 rsw, .int .u64 (pn : Int), .int .i64 0, .int .u64 (pl : Int)] 34)) := ⟨_, rfl⟩
      rw [← hW] at nl nb0 o0
      rw [← hB0] at nb0
      rw [← hW]
      try rw [← hB0]
      have K5_0 := Lib.hid o0
      have K5_1 := Lib.hid nb0
      have G5 : Hid (w2.heap.size ≤ B5) := Lib.hid (by have := L4.out.size; omega)
      have x5_0_0 : B3 ≠ B5 := by omega
      have X5_0_0 := Lib.hid x5_0_0; clear x5_0_0
      have L5 := Lib.hid nl
      clear nl hW nb0 hB0 o0 d5_0 K4_0
      have m1_0 : W5.cell? ⟨B5, 0, none⟩ = some _ := K5_1.out.cell 0
      have m1_1 : W5.cell? ⟨B5, 1, none⟩ = some _ := K5_1.out.cell 1
      have m1_2 : W5.cell? ⟨B5, 2, none⟩ = some _ := K5_1.out.cell 2
      have m1_3 : W5.cell? ⟨B5, 3, none⟩ = some _ := K5_1.out.cell 3
      have m1_4 : W5.cell? ⟨B5, 4, none⟩ = some _ := K5_1.out.cell 4
      have m1_5 : W5.cell? ⟨B5, 5, none⟩ = some _ := K5_1.out.cell 5
      have m1_6 : W5.cell? ⟨B5, 6, none⟩ = some _ := K5_1.out.cell 6
      have m1_7 : W5.cell? ⟨B5, 7, none⟩ = some _ := K5_1.out.cell 7
      have m1_8 : W5.cell? ⟨B5, 8, none⟩ = some _ := K5_1.out.cell 8
      have m1_9 : W5.cell? ⟨B5, 9, none⟩ = some _ := K5_1.out.cell 9
      have m1_10 : W5.cell? ⟨B5, 10, none⟩ = some _ := K5_1.out.cell 10
      have m1_11 : W5.cell? ⟨B5, 11, none⟩ = some _ := K5_1.out.cell 11
      have mlt1 : B5 < W5.heap.size := K5_1.out.lt
      go_upto_region 11 with (fail)
      clear m1_0 m1_1 m1_2 m1_3 m1_4 m1_5 m1_6 m1_7 m1_8 m1_9 m1_10 m1_11 mlt1
      have hb0 := HB0.out
      go_quiet (fail)
      obtain ⟨w6, hW9⟩ : ∃ W9, W9 = W5.drewN nq := ⟨_, rfl⟩
      rw [← hW9]
      have L6 : Hid (Below w2.heap.size w2 w6) := Lib.hid (hW9 ▸ below_drewNs L5.out nq)
      have K6_0 : Hid (Blk w6 B3 [.bool true, .int .i64 0, .int .u64 0] 25) := Lib.hid (hW9 ▸ Blk.drewN K5_0.out nq)
      have K6_1 : Hid (Blk w6 B5 [.bool v, .bool r, .bool x1, .bool x, .bool u, .bool g, .bool a, .bool d, .int .i64 rsw, .int .u64 (pn : Int), .int .i64 0, .int .u64 (pl : Int)] 34) := Lib.hid (hW9 ▸ Blk.drewN K5_1.out nq)
      clear hW9 K5_0 K5_1
      have m0_0 : w6.cell? ⟨B3, 0, none⟩ = some _ := K6_0.out.cell 0
      have m0_1 : w6.cell? ⟨B3, 1, none⟩ = some _ := K6_0.out.cell 1
      have m0_2 : w6.cell? ⟨B3, 2, none⟩ = some _ := K6_0.out.cell 2
      have mlt0 : B3 < w6.heap.size := K6_0.out.lt
      go_wp2_with fail
      clear m0_0 m0_1 m0_2 mlt0
      refine (GG.out _ L6.out).mono ?_
      rintro e w7 ⟨rfl, hb⟩
      have L7 := Lib.hid (L6.out.trans (hb.mono L6.out.size))
      have K7_0 := Lib.hid (K6_0.out.below hb K6_0.out.lt)
      have K7_1 := Lib.hid (K6_1.out.below hb K6_1.out.lt)
      clear hb K6_0 K6_1
      go_upto_region 13 with (fail)
      have nb0 : Blk (w7.alloc (.cells #[.bool v, .bool r, .bool x1, .bool x, .bool u, .bool g, .bool a, .bool d, .int .i64 rsw, .int .u64 (pn : Int), .int .i64 0, .int .u64 (pl : Int)] 34)) (w7.heap.size) [.bool v, .bool r, .bool x1, .bool x, .bool u, .bool g, .bool a, .bool d, .int .i64 rsw, .int .u64 (pn : Int), .int .i64 0, .int .u64 (pl : Int)] 34 := Blk.new w7 [.bool v, .bool r, .bool x1, .bool x, .bool u, .bool g, .bool a, .bool d, .int .i64 rsw, .int .u64 (pn : Int), .int .i64 0, .int .u64 (pl : Int)] 34
      have nls : Below w2.heap.size w2 w7 := L7.out
      have nl0 := nls.alloc nls.size (.cells #[.bool v, .bool r, .bool x1, .bool x, .bool u, .bool g, .bool a, .bool d, .int .i64 rsw, .int .u64 (pn : Int), .int .i64 0, .int .u64 (pl : Int)] 34)
      have nl : Below w2.heap.size w2 (w7.alloc (.cells #[.bool v, .bool r, .bool x1, .bool x, .bool u, .bool g, .bool a, .bool d, .int .i64 rsw, .int .u64 (pn : Int), .int .i64 0, .int .u64 (pl : Int)] 34)) := nl0; clear nls nl0
      have o0 : Blk (w7.alloc (.cells #[.bool v, .bool r, .bool x1, .bool x, .bool u, .bool g, .bool a, .bool d, .int .i64 rsw, .int .u64 (pn : Int), .int .i64 0, .int .u64 (pl : Int)] 34)) B3 [.bool true, .int .i64 0, .int .u64 0] 25 := (K7_0.out.alloc (.cells #[.bool v, .bool r, .bool x1, .bool x, .bool u, .bool g, .bool a, .bool d, .int .i64 rsw, .int .u64 (pn : Int), .int .i64 0, .int .u64 (pl : Int)] 34))
      have d8_0 : B3 < w7.heap.size := K7_0.out.lt
      have o1 : Blk (w7.alloc (.cells #[.bool v, .bool r, .bool x1, .bool x, .bool u, .bool g, .bool a, .bool d, .int .i64 rsw, .int .u64 (pn : Int), .int .i64 0, .int .u64 (pl : Int)] 34)) B5 [.bool v, .bool r, .bool x1, .bool x, .bool u, .bool g, .bool a, .bool d, .int .i64 rsw, .int .u64 (pn : Int), .int .i64 0, .int .u64 (pl : Int)] 34 := (K7_1.out.alloc (.cells #[.bool v, .bool r, .bool x1, .bool x, .bool u, .bool g, .bool a, .bool d, .int .i64 rsw, .int .u64 (pn : Int), .int .i64 0, .int .u64 (pl : Int)] 34))
      have d8_1 : B5 < w7.heap.size := K7_1.out.lt
      obtain ⟨B8, hB0⟩ : ∃ B, B = w7.heap.size := ⟨_, rfl⟩
      obtain ⟨W8, hW⟩ : ∃ W, W = (w7.alloc (.cells #[.bool v, .bool r, .bool x1, .bool x, .bool u, .bool g, .bool a, .bool d, .int .i64 rsw, .int .u64 (pn : Int), .int .i64 0, .int .u64 (pl : Int)] 34)) := ⟨_, rfl⟩
      rw [← hW] at nl nb0 o0 o1
      rw [← hB0] at nb0
      rw [← hW]
      try rw [← hB0]
      have K8_0 := Lib.hid o0
      have K8_1 := Lib.hid o1
      have K8_2 := Lib.hid nb0
      have G8 : Hid (w2.heap.size ≤ B8) := Lib.hid (by have := L7.out.size; omega)
      have x8_0_0 : B3 ≠ B8 := by omega
      have x8_1_0 : B5 ≠ B8 := by omega
      have X8_0_0 := Lib.hid x8_0_0; clear x8_0_0
      have X8_1_0 := Lib.hid x8_1_0; clear x8_1_0
      have L8 := Lib.hid nl
      clear nl hW nb0 hB0 o0 d8_0 o1 d8_1 K7_0 K7_1
      have hD1 := D1.out; have hD2 := D2.out; have hc1 := CC1.out; have hc2 := CC2.out; clear D1 D2 CC1 CC2
      refine wp_region_held_drew (S := fun w' => Blk w' B5 [.bool v, .bool r, .bool x1, .bool x, .bool u, .bool g, .bool a, .bool d, .int .i64 rsw, .int .u64 (pn : Int), .int .i64 0, .int .u64 (pl : Int)] 34 ∧ Blk w' B8 [.bool v, .bool r, .bool x1, .bool x, .bool u, .bool g, .bool a, .bool d, .int .i64 rsw, .int .u64 (pn : Int), .int .i64 0, .int .u64 (pl : Int)] 34) (by kernel_rfl) ⟨K8_1.out, K8_2.out⟩ (fun hHeld => ?_)
      simp only [List.size_toArray, List.length_cons, List.length_nil, Nat.reduceAdd]
      rw [show Array.replicate 32 false = [false, false, false, false, false, false, false, false, false, false, false, false, false, false, false, false, false, false, false, false, false, false, false, false, false, false, false, false, false, false, false, false].toArray from rfl]
      refine wpAnyH_take (i := 0) (v := ?_) rfl (by kernel_rfl) (by kernel_rfl) (by kernel_rfl) (fun _ _ _ h => h) (Or.inl ⟨by rfl, ?yldq⟩) (by assumption) ?_
      case yldq => (intro w hSw; (try dsimp only at hSw); go_simp; try with_reducible rfl)
      try simp only [Act.put, List.setIfInBounds_toArray, List.set_cons_zero, List.set_cons_succ, List.getElem_toArray, List.getElem_cons_succ, List.getElem_cons_zero]
      refine wpAnyH_take (i := 1) (v := ?_) rfl (by kernel_rfl) (by kernel_rfl) (by kernel_rfl) (fun _ _ _ h => h) (Or.inl ⟨by rfl, ?yldq⟩) (by assumption) ?_
      case yldq => (intro w hSw; (try dsimp only at hSw); go_simp; try with_reducible rfl)
      try simp only [Act.put, List.setIfInBounds_toArray, List.set_cons_zero, List.set_cons_succ, List.getElem_toArray, List.getElem_cons_succ, List.getElem_cons_zero]
      refine wpAnyH_take (i := 2) (v := ?_) rfl (by kernel_rfl) (by kernel_rfl) (by kernel_rfl) (fun _ _ _ h => h) (Or.inl ⟨by rfl, ?yldq⟩) (by assumption) ?_
      case yldq => (intro w hSw; (try dsimp only at hSw); go_simp; try with_reducible rfl)
      try simp only [Act.put, List.setIfInBounds_toArray, List.set_cons_zero, List.set_cons_succ, List.getElem_toArray, List.getElem_cons_succ, List.getElem_cons_zero]
      refine wpAnyH_take (i := 3) (v := _) rfl (by kernel_rfl) (by kernel_rfl) (by kernel_rfl) (fun _ _ _ h => h) (Or.inl ⟨by rfl, fun w hSw => yield_leaf _ _ _ rfl rfl hSw.2⟩) (by assumption) ?_
      try simp only [Act.put, List.setIfInBounds_toArray, List.set_cons_zero, List.set_cons_succ, List.getElem_toArray, List.getElem_cons_succ, List.getElem_cons_zero]
      refine wpAnyH_take (i := 4) (v := _) rfl (by kernel_rfl) (by kernel_rfl) (by kernel_rfl) (fun _ _ _ h => h) (Or.inl ⟨by rfl, fun w hSw => yield_leaf _ _ _ rfl rfl hSw.1⟩) (by assumption) ?_
      try simp only [Act.put, List.setIfInBounds_toArray, List.set_cons_zero, List.set_cons_succ, List.getElem_toArray, List.getElem_cons_succ, List.getElem_cons_zero]
      refine wpAnyH_take (i := 5) (v := ?_) rfl (by kernel_rfl) (by kernel_rfl) (by kernel_rfl) (fun _ _ _ h => h) (Or.inl ⟨by rfl, ?yldq⟩) (by assumption) ?_
      case yldq => (intro w hSw; (try dsimp only at hSw); go_simp; try with_reducible rfl)
      try simp only [Act.put, List.setIfInBounds_toArray, List.set_cons_zero, List.set_cons_succ, List.getElem_toArray, List.getElem_cons_succ, List.getElem_cons_zero]
      refine wpAnyH_take (i := 6) (v := ?_) rfl (by kernel_rfl) (by kernel_rfl) (by kernel_rfl) (fun _ _ _ h => h) (Or.inl ⟨by rfl, ?yldq⟩) (by assumption) ?_
      case yldq => (intro w hSw; (try dsimp only at hSw); go_simp; try with_reducible rfl)
      try simp only [Act.put, List.setIfInBounds_toArray, List.set_cons_zero, List.set_cons_succ, List.getElem_toArray, List.getElem_cons_succ, List.getElem_cons_zero]
      refine wpAnyH_take (i := 7) (v := ?_) rfl (by kernel_rfl) (by kernel_rfl) (by kernel_rfl) (fun _ _ _ h => h) (Or.inl ⟨by rfl, ?yldq⟩) (by assumption) ?_
      case yldq => (intro w hSw; (try dsimp only at hSw); go_simp; try with_reducible rfl)
      try simp only [Act.put, List.setIfInBounds_toArray, List.set_cons_zero, List.set_cons_succ, List.getElem_toArray, List.getElem_cons_succ, List.getElem_cons_zero]
      refine wpAnyH_take (i := 8) (v := _) rfl (by kernel_rfl) (by kernel_rfl) (by kernel_rfl) (fun _ _ _ h => h) (Or.inl ⟨by rfl, fun w hSw => yield_leaf _ _ _ rfl rfl hSw.2⟩) (by assumption) ?_
      try simp only [Act.put, List.setIfInBounds_toArray, List.set_cons_zero, List.set_cons_succ, List.getElem_toArray, List.getElem_cons_succ, List.getElem_cons_zero]
      refine wpAnyH_take (i := 9) (v := ?_) rfl (by kernel_rfl) (by kernel_rfl) (by kernel_rfl) (fun _ _ _ h => h) (Or.inl ⟨by rfl, ?yldq⟩) (by assumption) ?_
      case yldq => (intro w hSw; (try dsimp only at hSw); go_simp; try with_reducible rfl)
      try simp only [Act.put, List.setIfInBounds_toArray, List.set_cons_zero, List.set_cons_succ, List.getElem_toArray, List.getElem_cons_succ, List.getElem_cons_zero]
      refine wpAnyH_take (i := 11) (v := _) rfl (by kernel_rfl) (by kernel_rfl) (by kernel_rfl) (fun _ _ _ h => h) (Or.inl ⟨by rfl, fun w hSw => yield_leaf _ _ _ rfl rfl hSw.1⟩) (by assumption) ?_
      try simp only [Act.put, List.setIfInBounds_toArray, List.set_cons_zero, List.set_cons_succ, List.getElem_toArray, List.getElem_cons_succ, List.getElem_cons_zero]
      refine wpAnyH_take (i := 12) (v := ?_) rfl (by kernel_rfl) (by kernel_rfl) (by kernel_rfl) (fun _ _ _ h => h) (Or.inl ⟨by rfl, ?yldq⟩) (by assumption) ?_
      case yldq => (intro w hSw; (try dsimp only at hSw); go_simp; try with_reducible rfl)
      try simp only [Act.put, List.setIfInBounds_toArray, List.set_cons_zero, List.set_cons_succ, List.getElem_toArray, List.getElem_cons_succ, List.getElem_cons_zero]
      refine wpAnyH_take (i := 15) (v := ?_) rfl (by kernel_rfl) (by kernel_rfl) (by kernel_rfl) (fun _ _ _ h => h) (Or.inl ⟨by rfl, ?yldq⟩) (by assumption) ?_
      case yldq => (intro w hSw; (try dsimp only at hSw); go_simp; try with_reducible rfl)
      try simp only [Act.put, List.setIfInBounds_toArray, List.set_cons_zero, List.set_cons_succ, List.getElem_toArray, List.getElem_cons_succ, List.getElem_cons_zero]
      refine wpAnyH_take (i := 16) (v := ?_) rfl (by kernel_rfl) (by kernel_rfl) (by kernel_rfl) (fun _ _ _ h => h) (Or.inl ⟨by rfl, ?yldq⟩) (by assumption) ?_
      case yldq => (intro w hSw; (try dsimp only at hSw); go_simp; try with_reducible rfl)
      try simp only [Act.put, List.setIfInBounds_toArray, List.set_cons_zero, List.set_cons_succ, List.getElem_toArray, List.getElem_cons_succ, List.getElem_cons_zero]
      refine wpAnyH_take (i := 17) (v := ?_) rfl (by kernel_rfl) (by kernel_rfl) (by kernel_rfl) (fun _ _ _ h => h) (Or.inl ⟨by rfl, ?yldq⟩) (by assumption) ?_
      case yldq => (intro w hSw; (try dsimp only at hSw); go_simp; try with_reducible rfl)
      try simp only [Act.put, List.setIfInBounds_toArray, List.set_cons_zero, List.set_cons_succ, List.getElem_toArray, List.getElem_cons_succ, List.getElem_cons_zero]
      refine wpAnyH_ready (rs := [10]) (by kernel_rfl) (by simp) ?_
      refine AllReadyH.cons rfl (fun K hK => ?_) AllReadyH.nil
      go_simp
      refine (P1.out _).mono ?_
      rintro e w9 ⟨rfl, hb⟩
      have L9 := Lib.hid ((L8.out.drew).trans (hb.mono L8.out.size))
      have K9_0 := Lib.hid ((Blk.drewN K8_1.out 1).below hb K8_1.out.lt)
      have K9_1 := Lib.hid ((Blk.drewN K8_2.out 1).below hb K8_2.out.lt)
      clear hb K8_1 K8_2
      refine hK.out _ _ ⟨K9_0.out, K9_1.out⟩ (fun hS10 => ?_)
      clear hK K
      refine wpAnyH_ready (rs := [13]) (by kernel_rfl) (by simp) ?_
      refine AllReadyH.cons rfl (fun K hK => ?_) AllReadyH.nil
      go_simp
      refine (P2.out _).mono ?_
      rintro e w10 ⟨rfl, hb⟩
      have L10 := Lib.hid (L9.out.trans (hb.mono L9.out.size))
      have K10_0 := Lib.hid (K9_0.out.below hb K9_0.out.lt)
      have K10_1 := Lib.hid (K9_1.out.below hb K9_1.out.lt)
      clear hb K9_0 K9_1
      refine hK.out _ _ ⟨K10_0.out, K10_1.out⟩ (fun hS13 => ?_)
      clear hK K
      refine wpAnyH_take (i := 14) (v := ?_) rfl (by kernel_rfl) (by kernel_rfl) (by kernel_rfl) (fun _ _ _ h => h) (Or.inl ⟨by rfl, ?yldq⟩) (by assumption) ?_
      case yldq => (intro w hSw; (try dsimp only at hSw); go_simp; try with_reducible rfl)
      try simp only [Act.put, List.setIfInBounds_toArray, List.set_cons_zero, List.set_cons_succ, List.getElem_toArray, List.getElem_cons_succ, List.getElem_cons_zero]
      refine wpAnyH_take (i := 18) (v := ?_) rfl (by kernel_rfl) (by kernel_rfl) (by kernel_rfl) (fun _ _ _ h => h) (Or.inl ⟨by rfl, ?yldq⟩) (by assumption) ?_
      case yldq => (intro w hSw; (try dsimp only at hSw); go_simp; try with_reducible rfl)
      try simp only [Act.put, List.setIfInBounds_toArray, List.set_cons_zero, List.set_cons_succ, List.getElem_toArray, List.getElem_cons_succ, List.getElem_cons_zero]
      refine wpAnyH_take (i := 19) (v := ?_) rfl (by kernel_rfl) (by kernel_rfl) (by kernel_rfl) (fun _ _ _ h => h) (Or.inl ⟨by rfl, ?yldq⟩) (by assumption) ?_
      case yldq => (intro w hSw; (try dsimp only at hSw); go_simp; try with_reducible rfl)
      try simp only [Act.put, List.setIfInBounds_toArray, List.set_cons_zero, List.set_cons_succ, List.getElem_toArray, List.getElem_cons_succ, List.getElem_cons_zero]
      refine wpAnyH_take (i := 20) (v := ?_) rfl (by kernel_rfl) (by kernel_rfl) (by kernel_rfl) (fun _ _ _ h => h) (Or.inl ⟨by rfl, ?yldq⟩) (by assumption) ?_
      case yldq => (intro w hSw; (try dsimp only at hSw); go_simp; try with_reducible rfl)
      try simp only [Act.put, List.setIfInBounds_toArray, List.set_cons_zero, List.set_cons_succ, List.getElem_toArray, List.getElem_cons_succ, List.getElem_cons_zero]
      refine wpAnyH_take (i := 21) (v := ?_) rfl (by kernel_rfl) (by kernel_rfl) (by kernel_rfl) (fun _ _ _ h => h) (Or.inl ⟨by rfl, ?yldq⟩) (by assumption) ?_
      case yldq => (intro w hSw; (try dsimp only at hSw); go_simp; try with_reducible rfl)
      try simp only [Act.put, List.setIfInBounds_toArray, List.set_cons_zero, List.set_cons_succ, List.getElem_toArray, List.getElem_cons_succ, List.getElem_cons_zero]
      refine wpAnyH_take (i := 22) (v := _) rfl (by kernel_rfl) (by kernel_rfl) (by kernel_rfl) (fun _ _ _ h => h) (Or.inl ⟨by rfl, fun w hSw => yield_u64 _ _ _ rfl rfl (hSw.1.cell 11)⟩) (by assumption) ?_
      try simp only [Act.put, List.setIfInBounds_toArray, List.set_cons_zero, List.set_cons_succ, List.getElem_toArray, List.getElem_cons_succ, List.getElem_cons_zero]
      refine wpAnyH_take (i := 23) (v := ?_) rfl (by kernel_rfl) (by kernel_rfl) (by kernel_rfl) (fun _ _ _ h => h) (Or.inl ⟨by rfl, ?yldq⟩) (by assumption) ?_
      case yldq => (intro w hSw; (try dsimp only at hSw); go_simp; try with_reducible rfl)
      try simp only [Act.put, List.setIfInBounds_toArray, List.set_cons_zero, List.set_cons_succ, List.getElem_toArray, List.getElem_cons_succ, List.getElem_cons_zero]
      refine wpAnyH_take (i := 24) (v := ?_) rfl (by kernel_rfl) (by kernel_rfl) (by kernel_rfl) (fun _ _ _ h => h) (Or.inl ⟨by rfl, ?yldq⟩) (by assumption) ?_
      case yldq => (intro w hSw; (try dsimp only at hSw); go_simp; try with_reducible rfl)
      try simp only [Act.put, List.setIfInBounds_toArray, List.set_cons_zero, List.set_cons_succ, List.getElem_toArray, List.getElem_cons_succ, List.getElem_cons_zero]
      refine wpAnyH_take (i := 25) (v := ?_) rfl (by kernel_rfl) (by kernel_rfl) (by kernel_rfl) (fun _ _ _ h => h) (Or.inl ⟨by rfl, ?yldq⟩) (by assumption) ?_
      case yldq => (intro w hSw; (try dsimp only at hSw); go_simp; try with_reducible rfl)
      try simp only [Act.put, List.setIfInBounds_toArray, List.set_cons_zero, List.set_cons_succ, List.getElem_toArray, List.getElem_cons_succ, List.getElem_cons_zero]
      refine wpAnyH_take (i := 26) (v := ?_) rfl (by kernel_rfl) (by kernel_rfl) (by kernel_rfl) (fun _ _ _ h => h) (Or.inl ⟨by rfl, ?yldq⟩) (by assumption) ?_
      case yldq => (intro w hSw; (try dsimp only at hSw); go_simp; try with_reducible rfl)
      try simp only [Act.put, List.setIfInBounds_toArray, List.set_cons_zero, List.set_cons_succ, List.getElem_toArray, List.getElem_cons_succ, List.getElem_cons_zero]
      refine wpAnyH_take (i := 27) (v := ?_) rfl (by kernel_rfl) (by kernel_rfl) (by kernel_rfl) (fun _ _ _ h => h) (Or.inl ⟨by rfl, ?yldq⟩) (by assumption) ?_
      case yldq => (intro w hSw; (try dsimp only at hSw); go_simp; try with_reducible rfl)
      try simp only [Act.put, List.setIfInBounds_toArray, List.set_cons_zero, List.set_cons_succ, List.getElem_toArray, List.getElem_cons_succ, List.getElem_cons_zero]
      refine wpAnyH_take (i := 28) (v := _) rfl (by kernel_rfl) (by kernel_rfl) (by kernel_rfl) (fun _ _ _ h => h) (Or.inl ⟨by rfl, fun w hSw => yield_u64 _ _ _ rfl rfl (hSw.1.cell 11)⟩) (by assumption) ?_
      try simp only [Act.put, List.setIfInBounds_toArray, List.set_cons_zero, List.set_cons_succ, List.getElem_toArray, List.getElem_cons_succ, List.getElem_cons_zero]
      refine wpAnyH_take (i := 29) (v := ?_) rfl (by kernel_rfl) (by kernel_rfl) (by kernel_rfl) (fun _ _ _ h => h) (Or.inl ⟨by rfl, ?yldq⟩) (by assumption) ?_
      case yldq => (intro w hSw; (try dsimp only at hSw); go_simp; try with_reducible rfl)
      try simp only [Act.put, List.setIfInBounds_toArray, List.set_cons_zero, List.set_cons_succ, List.getElem_toArray, List.getElem_cons_succ, List.getElem_cons_zero]
      refine wpAnyH_take (i := 30) (v := ?_) rfl (by kernel_rfl) (by kernel_rfl) (by kernel_rfl) (fun _ _ _ h => h) (Or.inl ⟨by rfl, ?yldq⟩) (by assumption) ?_
      case yldq => (intro w hSw; (try dsimp only at hSw); go_simp; try with_reducible rfl)
      try simp only [Act.put, List.setIfInBounds_toArray, List.set_cons_zero, List.set_cons_succ, List.getElem_toArray, List.getElem_cons_succ, List.getElem_cons_zero]
      refine wpAnyH_take (i := 31) (v := ?_) rfl (by kernel_rfl) (by kernel_rfl) (by kernel_rfl) (fun _ _ _ h => h) (Or.inl ⟨by rfl, ?yldq⟩) (by assumption) ?_
      case yldq => (intro w hSw; (try dsimp only at hSw); go_simp; try with_reducible rfl)
      try simp only [Act.put, List.setIfInBounds_toArray, List.set_cons_zero, List.set_cons_succ, List.getElem_toArray, List.getElem_cons_succ, List.getElem_cons_zero]
      refine wpAnyH_done (by kernel_rfl) ?_ _
      go_wp2
      go_ret
      exact ⟨rfl, L2.out.trans (L10.out.mono L2.out.size)⟩
    · obtain ⟨b, hb0, hb1, hb2⟩ := page_b va other 2097152 (by omega) hv
      have hq := hp b rfl hb2
      have hg : ∀ w', Below w2.heap.size w2 w' → Calls Try.prog 8 #[.pointer (some ⟨mp, 0, none⟩), .agg #[.bool true, .int .i64 0, .int .u64 0], .int .u64 b ] w' fun qq w'' => qq = .returned (.tuple #[.agg #[.bool v, .bool r, .bool x1, .bool x, .bool u, .bool g, .bool a, .bool d, .int .i64 rsw, .int .u64 (pn : Int), .int .i64 1, .int .u64 (pl : Int)], .int .i64 0]) ∧ Below w'.heap.size w' w'' := fun w' hb => (by have h := HG.out b w' hb hb1 (by decide); rw [hq] at h; exact h)
      have hff : ∀ w', Below w2.heap.size w2 w' → Calls Try.prog 8 #[.pointer (some ⟨mp, 0, none⟩), .agg #[.bool true, .int .i64 0, .int .u64 0], .int .u64 va ] w' fun qq w'' => qq = .returned (.tuple #[.agg #[.bool v, .bool r, .bool x1, .bool x, .bool u, .bool g, .bool a, .bool d, .int .i64 rsw, .int .u64 (pn : Int), .int .i64 1, .int .u64 (pl : Int)], .int .i64 0]) ∧ Below w'.heap.size w' w'' := hf
      have p1 : ∀ w, Calls Try.prog 10 #[.agg #[.bool v, .bool r, .bool x1, .bool x, .bool u, .bool g, .bool a, .bool d, .int .i64 rsw, .int .u64 (pn : Int), .int .i64 1, .int .u64 (pl : Int)], .int .u64 b] w fun qq w' => qq = .returned (.int .u64 (joinN pn b 2097152 : Nat)) ∧ Below w.heap.size w w' := fun w => place_any ⟨⟨v, r, x1, x, u, g, a, d, rsw, pn⟩, 1, pl⟩ b w (by dsimp only; omega) hb1 (by simp)
      have p2 : ∀ w, Calls Try.prog 10 #[.agg #[.bool v, .bool r, .bool x1, .bool x, .bool u, .bool g, .bool a, .bool d, .int .i64 rsw, .int .u64 (pn : Int), .int .i64 1, .int .u64 (pl : Int)], .int .u64 va] w fun qq w' => qq = .returned (.int .u64 (joinN pn va 2097152 : Nat)) ∧ Below w.heap.size w w' := fun w => place_any ⟨⟨v, r, x1, x, u, g, a, d, rsw, pn⟩, 1, pl⟩ va w (by dsimp only; omega) hv (by simp)
      have hd := join_diff pn va b 2097152 hb2
      generalize joinN pn b 2097152 = J2 at *
      generalize joinN pn va 2097152 = J1 at *
      obtain ⟨D, hD⟩ : ∃ D, IntKind.u64.wrap ((b : Int) - (va : Int)) = D := ⟨_, rfl⟩
      have hD2 : IntKind.u64.wrap ((J2 : Int) - (J1 : Int)) = D := by rw [hd]; exact hD
      have c1 : (pl : Int).tmod 8 = 0 := by rw [Int.tmod_eq_emod_of_nonneg (by omega)]; omega
      have c2 : (pl : Int) < 24576 := by omega
      replace hb0 : (va : Int) - (va : Int) % 2097152 + (other : Int) % 2097152 = (b : Int) := hb0
      have GG := Lib.hid hg; have FF := Lib.hid hff; have P1 := Lib.hid p1; have P2 := Lib.hid p2; have D1 := Lib.hid hD; have D2 := Lib.hid hD2; have CC1 := Lib.hid c1; have CC2 := Lib.hid c2; have HB0 := Lib.hid hb0
      clear hg hff p1 p2 hD hD2 c1 c2 hb0 hb2 hq hd hp8 hpl hpn hf hp HG HZ
      go_upto_region 5 with (fail)
      have nb0 : Blk (w2.alloc (.cells #[.bool true, .int .i64 0, .int .u64 0] 25)) (w2.heap.size) [.bool true, .int .i64 0, .int .u64 0] 25 := Blk.new w2 [.bool true, .int .i64 0, .int .u64 0] 25
      have nls : Below w2.heap.size w2 w2 := (Below.refl w2.heap.size w2)
      have nl0 := nls.alloc nls.size (.cells #[.bool true, .int .i64 0, .int .u64 0] 25)
      have nl : Below w2.heap.size w2 (w2.alloc (.cells #[.bool true, .int .i64 0, .int .u64 0] 25)) := nl0; clear nls nl0
      obtain ⟨B11, hB0⟩ : ∃ B, B = w2.heap.size := ⟨_, rfl⟩
      obtain ⟨W11, hW⟩ : ∃ W, W = (w2.alloc (.cells #[.bool true, .int .i64 0, .int .u64 0] 25)) := ⟨_, rfl⟩
      rw [← hW] at nl nb0
      rw [← hB0] at nb0
      rw [← hW]
      try rw [← hB0]
      have K11_0 := Lib.hid nb0
      have G11 : Hid (w2.heap.size ≤ B11) := Lib.hid (by have := (Nat.le_refl w2.heap.size); omega)
      have L11 := Lib.hid nl
      clear nl hW nb0 hB0
      have m0_0 : W11.cell? ⟨B11, 0, none⟩ = some _ := K11_0.out.cell 0
      have m0_1 : W11.cell? ⟨B11, 1, none⟩ = some _ := K11_0.out.cell 1
      have m0_2 : W11.cell? ⟨B11, 2, none⟩ = some _ := K11_0.out.cell 2
      have mlt0 : B11 < W11.heap.size := K11_0.out.lt
      go_wp2_with fail
      clear m0_0 m0_1 m0_2 mlt0
      refine (FF.out _ L11.out).mono ?_
      rintro e w12 ⟨rfl, hb⟩
      have L12 := Lib.hid (L11.out.trans (hb.mono L11.out.size))
      have K12_0 := Lib.hid (K11_0.out.below hb K11_0.out.lt)
      clear hb K11_0
      go_upto_region 6 with (fail)
      have nb0 : Blk (w12.alloc (.cells #[.bool v, .bool r, .bool x1, .bool x, .bool u, .bool g, .bool a, .bool d, .int .i64 rsw, .int .u64 (pn : Int), .int .i64 1, .int .u64 (pl : Int)] 34)) (w12.heap.size) [.bool v, .bool r, .bool x1, .bool x, .bool u, .bool g, .bool a, .bool d, .int .i64 rsw, .int .u64 (pn : Int), .int .i64 1, .int .u64 (pl : Int)] 34 := Blk.new w12 [.bool v, .bool r, .bool x1, .bool x, .bool u, .bool g, .bool a, .bool d, .int .i64 rsw, .int .u64 (pn : Int), .int .i64 1, .int .u64 (pl : Int)] 34
      have nls : Below w2.heap.size w2 w12 := L12.out
      have nl0 := nls.alloc nls.size (.cells #[.bool v, .bool r, .bool x1, .bool x, .bool u, .bool g, .bool a, .bool d, .int .i64 rsw, .int .u64 (pn : Int), .int .i64 1, .int .u64 (pl : Int)] 34)
      have nl : Below w2.heap.size w2 (w12.alloc (.cells #[.bool v, .bool r, .bool x1, .bool x, .bool u, .bool g, .bool a, .bool d, .int .i64 rsw, .int .u64 (pn : Int), .int .i64 1, .int .u64 (pl : Int)] 34)) := nl0; clear nls nl0
      have o0 : Blk (w12.alloc (.cells #[.bool v, .bool r, .bool x1, .bool x, .bool u, .bool g, .bool a, .bool d, .int .i64 rsw, .int .u64 (pn : Int), .int .i64 1, .int .u64 (pl : Int)] 34)) B11 [.bool true, .int .i64 0, .int .u64 0] 25 := (K12_0.out.alloc (.cells #[.bool v, .bool r, .bool x1, .bool x, .bool u, .bool g, .bool a, .bool d, .int .i64 rsw, .int .u64 (pn : Int), .int .i64 1, .int .u64 (pl : Int)] 34))
      have d13_0 : B11 < w12.heap.size := K12_0.out.lt
      obtain ⟨B13, hB0⟩ : ∃ B, B = w12.heap.size := ⟨_, rfl⟩
      obtain ⟨W13, hW⟩ : ∃ W, W = (w12.alloc (.cells #[.bool v, .bool r, .bool x1, .bool x, .bool u, .bool g, .bool a, .bool d, .int .i64 rsw, .int .u64 (pn : Int), .int .i64 1, .int .u64 (pl : Int)] 34)) := ⟨_, rfl⟩
      rw [← hW] at nl nb0 o0
      rw [← hB0] at nb0
      rw [← hW]
      try rw [← hB0]
      have K13_0 := Lib.hid o0
      have K13_1 := Lib.hid nb0
      have G13 : Hid (w2.heap.size ≤ B13) := Lib.hid (by have := L12.out.size; omega)
      have x13_0_0 : B11 ≠ B13 := by omega
      have X13_0_0 := Lib.hid x13_0_0; clear x13_0_0
      have L13 := Lib.hid nl
      clear nl hW nb0 hB0 o0 d13_0 K12_0
      have m1_0 : W13.cell? ⟨B13, 0, none⟩ = some _ := K13_1.out.cell 0
      have m1_1 : W13.cell? ⟨B13, 1, none⟩ = some _ := K13_1.out.cell 1
      have m1_2 : W13.cell? ⟨B13, 2, none⟩ = some _ := K13_1.out.cell 2
      have m1_3 : W13.cell? ⟨B13, 3, none⟩ = some _ := K13_1.out.cell 3
      have m1_4 : W13.cell? ⟨B13, 4, none⟩ = some _ := K13_1.out.cell 4
      have m1_5 : W13.cell? ⟨B13, 5, none⟩ = some _ := K13_1.out.cell 5
      have m1_6 : W13.cell? ⟨B13, 6, none⟩ = some _ := K13_1.out.cell 6
      have m1_7 : W13.cell? ⟨B13, 7, none⟩ = some _ := K13_1.out.cell 7
      have m1_8 : W13.cell? ⟨B13, 8, none⟩ = some _ := K13_1.out.cell 8
      have m1_9 : W13.cell? ⟨B13, 9, none⟩ = some _ := K13_1.out.cell 9
      have m1_10 : W13.cell? ⟨B13, 10, none⟩ = some _ := K13_1.out.cell 10
      have m1_11 : W13.cell? ⟨B13, 11, none⟩ = some _ := K13_1.out.cell 11
      have mlt1 : B13 < W13.heap.size := K13_1.out.lt
      go_upto_region 11 with (fail)
      clear m1_0 m1_1 m1_2 m1_3 m1_4 m1_5 m1_6 m1_7 m1_8 m1_9 m1_10 m1_11 mlt1
      have hb0 := HB0.out
      go_quiet (fail)
      obtain ⟨w14, hW9⟩ : ∃ W9, W9 = W13.drewN nq := ⟨_, rfl⟩
      rw [← hW9]
      have L14 : Hid (Below w2.heap.size w2 w14) := Lib.hid (hW9 ▸ below_drewNs L13.out nq)
      have K14_0 : Hid (Blk w14 B11 [.bool true, .int .i64 0, .int .u64 0] 25) := Lib.hid (hW9 ▸ Blk.drewN K13_0.out nq)
      have K14_1 : Hid (Blk w14 B13 [.bool v, .bool r, .bool x1, .bool x, .bool u, .bool g, .bool a, .bool d, .int .i64 rsw, .int .u64 (pn : Int), .int .i64 1, .int .u64 (pl : Int)] 34) := Lib.hid (hW9 ▸ Blk.drewN K13_1.out nq)
      clear hW9 K13_0 K13_1
      have m0_0 : w14.cell? ⟨B11, 0, none⟩ = some _ := K14_0.out.cell 0
      have m0_1 : w14.cell? ⟨B11, 1, none⟩ = some _ := K14_0.out.cell 1
      have m0_2 : w14.cell? ⟨B11, 2, none⟩ = some _ := K14_0.out.cell 2
      have mlt0 : B11 < w14.heap.size := K14_0.out.lt
      go_wp2_with fail
      clear m0_0 m0_1 m0_2 mlt0
      refine (GG.out _ L14.out).mono ?_
      rintro e w15 ⟨rfl, hb⟩
      have L15 := Lib.hid (L14.out.trans (hb.mono L14.out.size))
      have K15_0 := Lib.hid (K14_0.out.below hb K14_0.out.lt)
      have K15_1 := Lib.hid (K14_1.out.below hb K14_1.out.lt)
      clear hb K14_0 K14_1
      go_upto_region 13 with (fail)
      have nb0 : Blk (w15.alloc (.cells #[.bool v, .bool r, .bool x1, .bool x, .bool u, .bool g, .bool a, .bool d, .int .i64 rsw, .int .u64 (pn : Int), .int .i64 1, .int .u64 (pl : Int)] 34)) (w15.heap.size) [.bool v, .bool r, .bool x1, .bool x, .bool u, .bool g, .bool a, .bool d, .int .i64 rsw, .int .u64 (pn : Int), .int .i64 1, .int .u64 (pl : Int)] 34 := Blk.new w15 [.bool v, .bool r, .bool x1, .bool x, .bool u, .bool g, .bool a, .bool d, .int .i64 rsw, .int .u64 (pn : Int), .int .i64 1, .int .u64 (pl : Int)] 34
      have nls : Below w2.heap.size w2 w15 := L15.out
      have nl0 := nls.alloc nls.size (.cells #[.bool v, .bool r, .bool x1, .bool x, .bool u, .bool g, .bool a, .bool d, .int .i64 rsw, .int .u64 (pn : Int), .int .i64 1, .int .u64 (pl : Int)] 34)
      have nl : Below w2.heap.size w2 (w15.alloc (.cells #[.bool v, .bool r, .bool x1, .bool x, .bool u, .bool g, .bool a, .bool d, .int .i64 rsw, .int .u64 (pn : Int), .int .i64 1, .int .u64 (pl : Int)] 34)) := nl0; clear nls nl0
      have o0 : Blk (w15.alloc (.cells #[.bool v, .bool r, .bool x1, .bool x, .bool u, .bool g, .bool a, .bool d, .int .i64 rsw, .int .u64 (pn : Int), .int .i64 1, .int .u64 (pl : Int)] 34)) B11 [.bool true, .int .i64 0, .int .u64 0] 25 := (K15_0.out.alloc (.cells #[.bool v, .bool r, .bool x1, .bool x, .bool u, .bool g, .bool a, .bool d, .int .i64 rsw, .int .u64 (pn : Int), .int .i64 1, .int .u64 (pl : Int)] 34))
      have d16_0 : B11 < w15.heap.size := K15_0.out.lt
      have o1 : Blk (w15.alloc (.cells #[.bool v, .bool r, .bool x1, .bool x, .bool u, .bool g, .bool a, .bool d, .int .i64 rsw, .int .u64 (pn : Int), .int .i64 1, .int .u64 (pl : Int)] 34)) B13 [.bool v, .bool r, .bool x1, .bool x, .bool u, .bool g, .bool a, .bool d, .int .i64 rsw, .int .u64 (pn : Int), .int .i64 1, .int .u64 (pl : Int)] 34 := (K15_1.out.alloc (.cells #[.bool v, .bool r, .bool x1, .bool x, .bool u, .bool g, .bool a, .bool d, .int .i64 rsw, .int .u64 (pn : Int), .int .i64 1, .int .u64 (pl : Int)] 34))
      have d16_1 : B13 < w15.heap.size := K15_1.out.lt
      obtain ⟨B16, hB0⟩ : ∃ B, B = w15.heap.size := ⟨_, rfl⟩
      obtain ⟨W16, hW⟩ : ∃ W, W = (w15.alloc (.cells #[.bool v, .bool r, .bool x1, .bool x, .bool u, .bool g, .bool a, .bool d, .int .i64 rsw, .int .u64 (pn : Int), .int .i64 1, .int .u64 (pl : Int)] 34)) := ⟨_, rfl⟩
      rw [← hW] at nl nb0 o0 o1
      rw [← hB0] at nb0
      rw [← hW]
      try rw [← hB0]
      have K16_0 := Lib.hid o0
      have K16_1 := Lib.hid o1
      have K16_2 := Lib.hid nb0
      have G16 : Hid (w2.heap.size ≤ B16) := Lib.hid (by have := L15.out.size; omega)
      have x16_0_0 : B11 ≠ B16 := by omega
      have x16_1_0 : B13 ≠ B16 := by omega
      have X16_0_0 := Lib.hid x16_0_0; clear x16_0_0
      have X16_1_0 := Lib.hid x16_1_0; clear x16_1_0
      have L16 := Lib.hid nl
      clear nl hW nb0 hB0 o0 d16_0 o1 d16_1 K15_0 K15_1
      have hD1 := D1.out; have hD2 := D2.out; have hc1 := CC1.out; have hc2 := CC2.out; clear D1 D2 CC1 CC2
      refine wp_region_held_drew (S := fun w' => Blk w' B13 [.bool v, .bool r, .bool x1, .bool x, .bool u, .bool g, .bool a, .bool d, .int .i64 rsw, .int .u64 (pn : Int), .int .i64 1, .int .u64 (pl : Int)] 34 ∧ Blk w' B16 [.bool v, .bool r, .bool x1, .bool x, .bool u, .bool g, .bool a, .bool d, .int .i64 rsw, .int .u64 (pn : Int), .int .i64 1, .int .u64 (pl : Int)] 34) (by kernel_rfl) ⟨K16_1.out, K16_2.out⟩ (fun hHeld => ?_)
      simp only [List.size_toArray, List.length_cons, List.length_nil, Nat.reduceAdd]
      rw [show Array.replicate 32 false = [false, false, false, false, false, false, false, false, false, false, false, false, false, false, false, false, false, false, false, false, false, false, false, false, false, false, false, false, false, false, false, false].toArray from rfl]
      refine wpAnyH_take (i := 0) (v := ?_) rfl (by kernel_rfl) (by kernel_rfl) (by kernel_rfl) (fun _ _ _ h => h) (Or.inl ⟨by rfl, ?yldq⟩) (by assumption) ?_
      case yldq => (intro w hSw; (try dsimp only at hSw); go_simp; try with_reducible rfl)
      try simp only [Act.put, List.setIfInBounds_toArray, List.set_cons_zero, List.set_cons_succ, List.getElem_toArray, List.getElem_cons_succ, List.getElem_cons_zero]
      refine wpAnyH_take (i := 1) (v := ?_) rfl (by kernel_rfl) (by kernel_rfl) (by kernel_rfl) (fun _ _ _ h => h) (Or.inl ⟨by rfl, ?yldq⟩) (by assumption) ?_
      case yldq => (intro w hSw; (try dsimp only at hSw); go_simp; try with_reducible rfl)
      try simp only [Act.put, List.setIfInBounds_toArray, List.set_cons_zero, List.set_cons_succ, List.getElem_toArray, List.getElem_cons_succ, List.getElem_cons_zero]
      refine wpAnyH_take (i := 2) (v := ?_) rfl (by kernel_rfl) (by kernel_rfl) (by kernel_rfl) (fun _ _ _ h => h) (Or.inl ⟨by rfl, ?yldq⟩) (by assumption) ?_
      case yldq => (intro w hSw; (try dsimp only at hSw); go_simp; try with_reducible rfl)
      try simp only [Act.put, List.setIfInBounds_toArray, List.set_cons_zero, List.set_cons_succ, List.getElem_toArray, List.getElem_cons_succ, List.getElem_cons_zero]
      refine wpAnyH_take (i := 3) (v := _) rfl (by kernel_rfl) (by kernel_rfl) (by kernel_rfl) (fun _ _ _ h => h) (Or.inl ⟨by rfl, fun w hSw => yield_leaf _ _ _ rfl rfl hSw.2⟩) (by assumption) ?_
      try simp only [Act.put, List.setIfInBounds_toArray, List.set_cons_zero, List.set_cons_succ, List.getElem_toArray, List.getElem_cons_succ, List.getElem_cons_zero]
      refine wpAnyH_take (i := 4) (v := _) rfl (by kernel_rfl) (by kernel_rfl) (by kernel_rfl) (fun _ _ _ h => h) (Or.inl ⟨by rfl, fun w hSw => yield_leaf _ _ _ rfl rfl hSw.1⟩) (by assumption) ?_
      try simp only [Act.put, List.setIfInBounds_toArray, List.set_cons_zero, List.set_cons_succ, List.getElem_toArray, List.getElem_cons_succ, List.getElem_cons_zero]
      refine wpAnyH_take (i := 5) (v := ?_) rfl (by kernel_rfl) (by kernel_rfl) (by kernel_rfl) (fun _ _ _ h => h) (Or.inl ⟨by rfl, ?yldq⟩) (by assumption) ?_
      case yldq => (intro w hSw; (try dsimp only at hSw); go_simp; try with_reducible rfl)
      try simp only [Act.put, List.setIfInBounds_toArray, List.set_cons_zero, List.set_cons_succ, List.getElem_toArray, List.getElem_cons_succ, List.getElem_cons_zero]
      refine wpAnyH_take (i := 6) (v := ?_) rfl (by kernel_rfl) (by kernel_rfl) (by kernel_rfl) (fun _ _ _ h => h) (Or.inl ⟨by rfl, ?yldq⟩) (by assumption) ?_
      case yldq => (intro w hSw; (try dsimp only at hSw); go_simp; try with_reducible rfl)
      try simp only [Act.put, List.setIfInBounds_toArray, List.set_cons_zero, List.set_cons_succ, List.getElem_toArray, List.getElem_cons_succ, List.getElem_cons_zero]
      refine wpAnyH_take (i := 7) (v := ?_) rfl (by kernel_rfl) (by kernel_rfl) (by kernel_rfl) (fun _ _ _ h => h) (Or.inl ⟨by rfl, ?yldq⟩) (by assumption) ?_
      case yldq => (intro w hSw; (try dsimp only at hSw); go_simp; try with_reducible rfl)
      try simp only [Act.put, List.setIfInBounds_toArray, List.set_cons_zero, List.set_cons_succ, List.getElem_toArray, List.getElem_cons_succ, List.getElem_cons_zero]
      refine wpAnyH_take (i := 8) (v := _) rfl (by kernel_rfl) (by kernel_rfl) (by kernel_rfl) (fun _ _ _ h => h) (Or.inl ⟨by rfl, fun w hSw => yield_leaf _ _ _ rfl rfl hSw.2⟩) (by assumption) ?_
      try simp only [Act.put, List.setIfInBounds_toArray, List.set_cons_zero, List.set_cons_succ, List.getElem_toArray, List.getElem_cons_succ, List.getElem_cons_zero]
      refine wpAnyH_take (i := 9) (v := ?_) rfl (by kernel_rfl) (by kernel_rfl) (by kernel_rfl) (fun _ _ _ h => h) (Or.inl ⟨by rfl, ?yldq⟩) (by assumption) ?_
      case yldq => (intro w hSw; (try dsimp only at hSw); go_simp; try with_reducible rfl)
      try simp only [Act.put, List.setIfInBounds_toArray, List.set_cons_zero, List.set_cons_succ, List.getElem_toArray, List.getElem_cons_succ, List.getElem_cons_zero]
      refine wpAnyH_take (i := 11) (v := _) rfl (by kernel_rfl) (by kernel_rfl) (by kernel_rfl) (fun _ _ _ h => h) (Or.inl ⟨by rfl, fun w hSw => yield_leaf _ _ _ rfl rfl hSw.1⟩) (by assumption) ?_
      try simp only [Act.put, List.setIfInBounds_toArray, List.set_cons_zero, List.set_cons_succ, List.getElem_toArray, List.getElem_cons_succ, List.getElem_cons_zero]
      refine wpAnyH_take (i := 12) (v := ?_) rfl (by kernel_rfl) (by kernel_rfl) (by kernel_rfl) (fun _ _ _ h => h) (Or.inl ⟨by rfl, ?yldq⟩) (by assumption) ?_
      case yldq => (intro w hSw; (try dsimp only at hSw); go_simp; try with_reducible rfl)
      try simp only [Act.put, List.setIfInBounds_toArray, List.set_cons_zero, List.set_cons_succ, List.getElem_toArray, List.getElem_cons_succ, List.getElem_cons_zero]
      refine wpAnyH_take (i := 15) (v := ?_) rfl (by kernel_rfl) (by kernel_rfl) (by kernel_rfl) (fun _ _ _ h => h) (Or.inl ⟨by rfl, ?yldq⟩) (by assumption) ?_
      case yldq => (intro w hSw; (try dsimp only at hSw); go_simp; try with_reducible rfl)
      try simp only [Act.put, List.setIfInBounds_toArray, List.set_cons_zero, List.set_cons_succ, List.getElem_toArray, List.getElem_cons_succ, List.getElem_cons_zero]
      refine wpAnyH_take (i := 16) (v := ?_) rfl (by kernel_rfl) (by kernel_rfl) (by kernel_rfl) (fun _ _ _ h => h) (Or.inl ⟨by rfl, ?yldq⟩) (by assumption) ?_
      case yldq => (intro w hSw; (try dsimp only at hSw); go_simp; try with_reducible rfl)
      try simp only [Act.put, List.setIfInBounds_toArray, List.set_cons_zero, List.set_cons_succ, List.getElem_toArray, List.getElem_cons_succ, List.getElem_cons_zero]
      refine wpAnyH_take (i := 17) (v := ?_) rfl (by kernel_rfl) (by kernel_rfl) (by kernel_rfl) (fun _ _ _ h => h) (Or.inl ⟨by rfl, ?yldq⟩) (by assumption) ?_
      case yldq => (intro w hSw; (try dsimp only at hSw); go_simp; try with_reducible rfl)
      try simp only [Act.put, List.setIfInBounds_toArray, List.set_cons_zero, List.set_cons_succ, List.getElem_toArray, List.getElem_cons_succ, List.getElem_cons_zero]
      refine wpAnyH_ready (rs := [10]) (by kernel_rfl) (by simp) ?_
      refine AllReadyH.cons rfl (fun K hK => ?_) AllReadyH.nil
      go_simp
      refine (P1.out _).mono ?_
      rintro e w17 ⟨rfl, hb⟩
      have L17 := Lib.hid ((L16.out.drew).trans (hb.mono L16.out.size))
      have K17_0 := Lib.hid ((Blk.drewN K16_1.out 1).below hb K16_1.out.lt)
      have K17_1 := Lib.hid ((Blk.drewN K16_2.out 1).below hb K16_2.out.lt)
      clear hb K16_1 K16_2
      refine hK.out _ _ ⟨K17_0.out, K17_1.out⟩ (fun hS10 => ?_)
      clear hK K
      refine wpAnyH_ready (rs := [13]) (by kernel_rfl) (by simp) ?_
      refine AllReadyH.cons rfl (fun K hK => ?_) AllReadyH.nil
      go_simp
      refine (P2.out _).mono ?_
      rintro e w18 ⟨rfl, hb⟩
      have L18 := Lib.hid (L17.out.trans (hb.mono L17.out.size))
      have K18_0 := Lib.hid (K17_0.out.below hb K17_0.out.lt)
      have K18_1 := Lib.hid (K17_1.out.below hb K17_1.out.lt)
      clear hb K17_0 K17_1
      refine hK.out _ _ ⟨K18_0.out, K18_1.out⟩ (fun hS13 => ?_)
      clear hK K
      refine wpAnyH_take (i := 14) (v := ?_) rfl (by kernel_rfl) (by kernel_rfl) (by kernel_rfl) (fun _ _ _ h => h) (Or.inl ⟨by rfl, ?yldq⟩) (by assumption) ?_
      case yldq => (intro w hSw; (try dsimp only at hSw); go_simp; try with_reducible rfl)
      try simp only [Act.put, List.setIfInBounds_toArray, List.set_cons_zero, List.set_cons_succ, List.getElem_toArray, List.getElem_cons_succ, List.getElem_cons_zero]
      refine wpAnyH_take (i := 18) (v := ?_) rfl (by kernel_rfl) (by kernel_rfl) (by kernel_rfl) (fun _ _ _ h => h) (Or.inl ⟨by rfl, ?yldq⟩) (by assumption) ?_
      case yldq => (intro w hSw; (try dsimp only at hSw); go_simp; try with_reducible rfl)
      try simp only [Act.put, List.setIfInBounds_toArray, List.set_cons_zero, List.set_cons_succ, List.getElem_toArray, List.getElem_cons_succ, List.getElem_cons_zero]
      refine wpAnyH_take (i := 19) (v := ?_) rfl (by kernel_rfl) (by kernel_rfl) (by kernel_rfl) (fun _ _ _ h => h) (Or.inl ⟨by rfl, ?yldq⟩) (by assumption) ?_
      case yldq => (intro w hSw; (try dsimp only at hSw); go_simp; try with_reducible rfl)
      try simp only [Act.put, List.setIfInBounds_toArray, List.set_cons_zero, List.set_cons_succ, List.getElem_toArray, List.getElem_cons_succ, List.getElem_cons_zero]
      refine wpAnyH_take (i := 20) (v := ?_) rfl (by kernel_rfl) (by kernel_rfl) (by kernel_rfl) (fun _ _ _ h => h) (Or.inl ⟨by rfl, ?yldq⟩) (by assumption) ?_
      case yldq => (intro w hSw; (try dsimp only at hSw); go_simp; try with_reducible rfl)
      try simp only [Act.put, List.setIfInBounds_toArray, List.set_cons_zero, List.set_cons_succ, List.getElem_toArray, List.getElem_cons_succ, List.getElem_cons_zero]
      refine wpAnyH_take (i := 21) (v := ?_) rfl (by kernel_rfl) (by kernel_rfl) (by kernel_rfl) (fun _ _ _ h => h) (Or.inl ⟨by rfl, ?yldq⟩) (by assumption) ?_
      case yldq => (intro w hSw; (try dsimp only at hSw); go_simp; try with_reducible rfl)
      try simp only [Act.put, List.setIfInBounds_toArray, List.set_cons_zero, List.set_cons_succ, List.getElem_toArray, List.getElem_cons_succ, List.getElem_cons_zero]
      refine wpAnyH_take (i := 22) (v := _) rfl (by kernel_rfl) (by kernel_rfl) (by kernel_rfl) (fun _ _ _ h => h) (Or.inl ⟨by rfl, fun w hSw => yield_u64 _ _ _ rfl rfl (hSw.1.cell 11)⟩) (by assumption) ?_
      try simp only [Act.put, List.setIfInBounds_toArray, List.set_cons_zero, List.set_cons_succ, List.getElem_toArray, List.getElem_cons_succ, List.getElem_cons_zero]
      refine wpAnyH_take (i := 23) (v := ?_) rfl (by kernel_rfl) (by kernel_rfl) (by kernel_rfl) (fun _ _ _ h => h) (Or.inl ⟨by rfl, ?yldq⟩) (by assumption) ?_
      case yldq => (intro w hSw; (try dsimp only at hSw); go_simp; try with_reducible rfl)
      try simp only [Act.put, List.setIfInBounds_toArray, List.set_cons_zero, List.set_cons_succ, List.getElem_toArray, List.getElem_cons_succ, List.getElem_cons_zero]
      refine wpAnyH_take (i := 24) (v := ?_) rfl (by kernel_rfl) (by kernel_rfl) (by kernel_rfl) (fun _ _ _ h => h) (Or.inl ⟨by rfl, ?yldq⟩) (by assumption) ?_
      case yldq => (intro w hSw; (try dsimp only at hSw); go_simp; try with_reducible rfl)
      try simp only [Act.put, List.setIfInBounds_toArray, List.set_cons_zero, List.set_cons_succ, List.getElem_toArray, List.getElem_cons_succ, List.getElem_cons_zero]
      refine wpAnyH_take (i := 25) (v := ?_) rfl (by kernel_rfl) (by kernel_rfl) (by kernel_rfl) (fun _ _ _ h => h) (Or.inl ⟨by rfl, ?yldq⟩) (by assumption) ?_
      case yldq => (intro w hSw; (try dsimp only at hSw); go_simp; try with_reducible rfl)
      try simp only [Act.put, List.setIfInBounds_toArray, List.set_cons_zero, List.set_cons_succ, List.getElem_toArray, List.getElem_cons_succ, List.getElem_cons_zero]
      refine wpAnyH_take (i := 26) (v := ?_) rfl (by kernel_rfl) (by kernel_rfl) (by kernel_rfl) (fun _ _ _ h => h) (Or.inl ⟨by rfl, ?yldq⟩) (by assumption) ?_
      case yldq => (intro w hSw; (try dsimp only at hSw); go_simp; try with_reducible rfl)
      try simp only [Act.put, List.setIfInBounds_toArray, List.set_cons_zero, List.set_cons_succ, List.getElem_toArray, List.getElem_cons_succ, List.getElem_cons_zero]
      refine wpAnyH_take (i := 27) (v := ?_) rfl (by kernel_rfl) (by kernel_rfl) (by kernel_rfl) (fun _ _ _ h => h) (Or.inl ⟨by rfl, ?yldq⟩) (by assumption) ?_
      case yldq => (intro w hSw; (try dsimp only at hSw); go_simp; try with_reducible rfl)
      try simp only [Act.put, List.setIfInBounds_toArray, List.set_cons_zero, List.set_cons_succ, List.getElem_toArray, List.getElem_cons_succ, List.getElem_cons_zero]
      refine wpAnyH_take (i := 28) (v := _) rfl (by kernel_rfl) (by kernel_rfl) (by kernel_rfl) (fun _ _ _ h => h) (Or.inl ⟨by rfl, fun w hSw => yield_u64 _ _ _ rfl rfl (hSw.1.cell 11)⟩) (by assumption) ?_
      try simp only [Act.put, List.setIfInBounds_toArray, List.set_cons_zero, List.set_cons_succ, List.getElem_toArray, List.getElem_cons_succ, List.getElem_cons_zero]
      refine wpAnyH_take (i := 29) (v := ?_) rfl (by kernel_rfl) (by kernel_rfl) (by kernel_rfl) (fun _ _ _ h => h) (Or.inl ⟨by rfl, ?yldq⟩) (by assumption) ?_
      case yldq => (intro w hSw; (try dsimp only at hSw); go_simp; try with_reducible rfl)
      try simp only [Act.put, List.setIfInBounds_toArray, List.set_cons_zero, List.set_cons_succ, List.getElem_toArray, List.getElem_cons_succ, List.getElem_cons_zero]
      refine wpAnyH_take (i := 30) (v := ?_) rfl (by kernel_rfl) (by kernel_rfl) (by kernel_rfl) (fun _ _ _ h => h) (Or.inl ⟨by rfl, ?yldq⟩) (by assumption) ?_
      case yldq => (intro w hSw; (try dsimp only at hSw); go_simp; try with_reducible rfl)
      try simp only [Act.put, List.setIfInBounds_toArray, List.set_cons_zero, List.set_cons_succ, List.getElem_toArray, List.getElem_cons_succ, List.getElem_cons_zero]
      refine wpAnyH_take (i := 31) (v := ?_) rfl (by kernel_rfl) (by kernel_rfl) (by kernel_rfl) (fun _ _ _ h => h) (Or.inl ⟨by rfl, ?yldq⟩) (by assumption) ?_
      case yldq => (intro w hSw; (try dsimp only at hSw); go_simp; try with_reducible rfl)
      try simp only [Act.put, List.setIfInBounds_toArray, List.set_cons_zero, List.set_cons_succ, List.getElem_toArray, List.getElem_cons_succ, List.getElem_cons_zero]
      refine wpAnyH_done (by kernel_rfl) ?_ _
      go_wp2
      go_ret
      exact ⟨rfl, L2.out.trans (L18.out.mono L2.out.size)⟩
    · obtain ⟨b, hb0, hb1, hb2⟩ := page_b va other 1073741824 (by omega) hv
      have hq := hp b rfl hb2
      have hg : ∀ w', Below w2.heap.size w2 w' → Calls Try.prog 8 #[.pointer (some ⟨mp, 0, none⟩), .agg #[.bool true, .int .i64 0, .int .u64 0], .int .u64 b ] w' fun qq w'' => qq = .returned (.tuple #[.agg #[.bool v, .bool r, .bool x1, .bool x, .bool u, .bool g, .bool a, .bool d, .int .i64 rsw, .int .u64 (pn : Int), .int .i64 2, .int .u64 (pl : Int)], .int .i64 0]) ∧ Below w'.heap.size w' w'' := fun w' hb => (by have h := HG.out b w' hb hb1 (by decide); rw [hq] at h; exact h)
      have hff : ∀ w', Below w2.heap.size w2 w' → Calls Try.prog 8 #[.pointer (some ⟨mp, 0, none⟩), .agg #[.bool true, .int .i64 0, .int .u64 0], .int .u64 va ] w' fun qq w'' => qq = .returned (.tuple #[.agg #[.bool v, .bool r, .bool x1, .bool x, .bool u, .bool g, .bool a, .bool d, .int .i64 rsw, .int .u64 (pn : Int), .int .i64 2, .int .u64 (pl : Int)], .int .i64 0]) ∧ Below w'.heap.size w' w'' := hf
      have p1 : ∀ w, Calls Try.prog 10 #[.agg #[.bool v, .bool r, .bool x1, .bool x, .bool u, .bool g, .bool a, .bool d, .int .i64 rsw, .int .u64 (pn : Int), .int .i64 2, .int .u64 (pl : Int)], .int .u64 b] w fun qq w' => qq = .returned (.int .u64 (joinN pn b 1073741824 : Nat)) ∧ Below w.heap.size w w' := fun w => place_any ⟨⟨v, r, x1, x, u, g, a, d, rsw, pn⟩, 2, pl⟩ b w (by dsimp only; omega) hb1 (by simp)
      have p2 : ∀ w, Calls Try.prog 10 #[.agg #[.bool v, .bool r, .bool x1, .bool x, .bool u, .bool g, .bool a, .bool d, .int .i64 rsw, .int .u64 (pn : Int), .int .i64 2, .int .u64 (pl : Int)], .int .u64 va] w fun qq w' => qq = .returned (.int .u64 (joinN pn va 1073741824 : Nat)) ∧ Below w.heap.size w w' := fun w => place_any ⟨⟨v, r, x1, x, u, g, a, d, rsw, pn⟩, 2, pl⟩ va w (by dsimp only; omega) hv (by simp)
      have hd := join_diff pn va b 1073741824 hb2
      generalize joinN pn b 1073741824 = J2 at *
      generalize joinN pn va 1073741824 = J1 at *
      obtain ⟨D, hD⟩ : ∃ D, IntKind.u64.wrap ((b : Int) - (va : Int)) = D := ⟨_, rfl⟩
      have hD2 : IntKind.u64.wrap ((J2 : Int) - (J1 : Int)) = D := by rw [hd]; exact hD
      have c1 : (pl : Int).tmod 8 = 0 := by rw [Int.tmod_eq_emod_of_nonneg (by omega)]; omega
      have c2 : (pl : Int) < 24576 := by omega
      replace hb0 : (va : Int) - (va : Int) % 1073741824 + (other : Int) % 1073741824 = (b : Int) := hb0
      have GG := Lib.hid hg; have FF := Lib.hid hff; have P1 := Lib.hid p1; have P2 := Lib.hid p2; have D1 := Lib.hid hD; have D2 := Lib.hid hD2; have CC1 := Lib.hid c1; have CC2 := Lib.hid c2; have HB0 := Lib.hid hb0
      clear hg hff p1 p2 hD hD2 c1 c2 hb0 hb2 hq hd hp8 hpl hpn hf hp HG HZ
      go_upto_region 5 with (fail)
      have nb0 : Blk (w2.alloc (.cells #[.bool true, .int .i64 0, .int .u64 0] 25)) (w2.heap.size) [.bool true, .int .i64 0, .int .u64 0] 25 := Blk.new w2 [.bool true, .int .i64 0, .int .u64 0] 25
      have nls : Below w2.heap.size w2 w2 := (Below.refl w2.heap.size w2)
      have nl0 := nls.alloc nls.size (.cells #[.bool true, .int .i64 0, .int .u64 0] 25)
      have nl : Below w2.heap.size w2 (w2.alloc (.cells #[.bool true, .int .i64 0, .int .u64 0] 25)) := nl0; clear nls nl0
      obtain ⟨B19, hB0⟩ : ∃ B, B = w2.heap.size := ⟨_, rfl⟩
      obtain ⟨W19, hW⟩ : ∃ W, W = (w2.alloc (.cells #[.bool true, .int .i64 0, .int .u64 0] 25)) := ⟨_, rfl⟩
      rw [← hW] at nl nb0
      rw [← hB0] at nb0
      rw [← hW]
      try rw [← hB0]
      have K19_0 := Lib.hid nb0
      have G19 : Hid (w2.heap.size ≤ B19) := Lib.hid (by have := (Nat.le_refl w2.heap.size); omega)
      have L19 := Lib.hid nl
      clear nl hW nb0 hB0
      have m0_0 : W19.cell? ⟨B19, 0, none⟩ = some _ := K19_0.out.cell 0
      have m0_1 : W19.cell? ⟨B19, 1, none⟩ = some _ := K19_0.out.cell 1
      have m0_2 : W19.cell? ⟨B19, 2, none⟩ = some _ := K19_0.out.cell 2
      have mlt0 : B19 < W19.heap.size := K19_0.out.lt
      go_wp2_with fail
      clear m0_0 m0_1 m0_2 mlt0
      refine (FF.out _ L19.out).mono ?_
      rintro e w20 ⟨rfl, hb⟩
      have L20 := Lib.hid (L19.out.trans (hb.mono L19.out.size))
      have K20_0 := Lib.hid (K19_0.out.below hb K19_0.out.lt)
      clear hb K19_0
      go_upto_region 6 with (fail)
      have nb0 : Blk (w20.alloc (.cells #[.bool v, .bool r, .bool x1, .bool x, .bool u, .bool g, .bool a, .bool d, .int .i64 rsw, .int .u64 (pn : Int), .int .i64 2, .int .u64 (pl : Int)] 34)) (w20.heap.size) [.bool v, .bool r, .bool x1, .bool x, .bool u, .bool g, .bool a, .bool d, .int .i64 rsw, .int .u64 (pn : Int), .int .i64 2, .int .u64 (pl : Int)] 34 := Blk.new w20 [.bool v, .bool r, .bool x1, .bool x, .bool u, .bool g, .bool a, .bool d, .int .i64 rsw, .int .u64 (pn : Int), .int .i64 2, .int .u64 (pl : Int)] 34
      have nls : Below w2.heap.size w2 w20 := L20.out
      have nl0 := nls.alloc nls.size (.cells #[.bool v, .bool r, .bool x1, .bool x, .bool u, .bool g, .bool a, .bool d, .int .i64 rsw, .int .u64 (pn : Int), .int .i64 2, .int .u64 (pl : Int)] 34)
      have nl : Below w2.heap.size w2 (w20.alloc (.cells #[.bool v, .bool r, .bool x1, .bool x, .bool u, .bool g, .bool a, .bool d, .int .i64 rsw, .int .u64 (pn : Int), .int .i64 2, .int .u64 (pl : Int)] 34)) := nl0; clear nls nl0
      have o0 : Blk (w20.alloc (.cells #[.bool v, .bool r, .bool x1, .bool x, .bool u, .bool g, .bool a, .bool d, .int .i64 rsw, .int .u64 (pn : Int), .int .i64 2, .int .u64 (pl : Int)] 34)) B19 [.bool true, .int .i64 0, .int .u64 0] 25 := (K20_0.out.alloc (.cells #[.bool v, .bool r, .bool x1, .bool x, .bool u, .bool g, .bool a, .bool d, .int .i64 rsw, .int .u64 (pn : Int), .int .i64 2, .int .u64 (pl : Int)] 34))
      have d21_0 : B19 < w20.heap.size := K20_0.out.lt
      obtain ⟨B21, hB0⟩ : ∃ B, B = w20.heap.size := ⟨_, rfl⟩
      obtain ⟨W21, hW⟩ : ∃ W, W = (w20.alloc (.cells #[.bool v, .bool r, .bool x1, .bool x, .bool u, .bool g, .bool a, .bool d, .int .i64 rsw, .int .u64 (pn : Int), .int .i64 2, .int .u64 (pl : Int)] 34)) := ⟨_, rfl⟩
      rw [← hW] at nl nb0 o0
      rw [← hB0] at nb0
      rw [← hW]
      try rw [← hB0]
      have K21_0 := Lib.hid o0
      have K21_1 := Lib.hid nb0
      have G21 : Hid (w2.heap.size ≤ B21) := Lib.hid (by have := L20.out.size; omega)
      have x21_0_0 : B19 ≠ B21 := by omega
      have X21_0_0 := Lib.hid x21_0_0; clear x21_0_0
      have L21 := Lib.hid nl
      clear nl hW nb0 hB0 o0 d21_0 K20_0
      have m1_0 : W21.cell? ⟨B21, 0, none⟩ = some _ := K21_1.out.cell 0
      have m1_1 : W21.cell? ⟨B21, 1, none⟩ = some _ := K21_1.out.cell 1
      have m1_2 : W21.cell? ⟨B21, 2, none⟩ = some _ := K21_1.out.cell 2
      have m1_3 : W21.cell? ⟨B21, 3, none⟩ = some _ := K21_1.out.cell 3
      have m1_4 : W21.cell? ⟨B21, 4, none⟩ = some _ := K21_1.out.cell 4
      have m1_5 : W21.cell? ⟨B21, 5, none⟩ = some _ := K21_1.out.cell 5
      have m1_6 : W21.cell? ⟨B21, 6, none⟩ = some _ := K21_1.out.cell 6
      have m1_7 : W21.cell? ⟨B21, 7, none⟩ = some _ := K21_1.out.cell 7
      have m1_8 : W21.cell? ⟨B21, 8, none⟩ = some _ := K21_1.out.cell 8
      have m1_9 : W21.cell? ⟨B21, 9, none⟩ = some _ := K21_1.out.cell 9
      have m1_10 : W21.cell? ⟨B21, 10, none⟩ = some _ := K21_1.out.cell 10
      have m1_11 : W21.cell? ⟨B21, 11, none⟩ = some _ := K21_1.out.cell 11
      have mlt1 : B21 < W21.heap.size := K21_1.out.lt
      go_upto_region 11 with (fail)
      clear m1_0 m1_1 m1_2 m1_3 m1_4 m1_5 m1_6 m1_7 m1_8 m1_9 m1_10 m1_11 mlt1
      have hb0 := HB0.out
      go_quiet (fail)
      obtain ⟨w22, hW9⟩ : ∃ W9, W9 = W21.drewN nq := ⟨_, rfl⟩
      rw [← hW9]
      have L22 : Hid (Below w2.heap.size w2 w22) := Lib.hid (hW9 ▸ below_drewNs L21.out nq)
      have K22_0 : Hid (Blk w22 B19 [.bool true, .int .i64 0, .int .u64 0] 25) := Lib.hid (hW9 ▸ Blk.drewN K21_0.out nq)
      have K22_1 : Hid (Blk w22 B21 [.bool v, .bool r, .bool x1, .bool x, .bool u, .bool g, .bool a, .bool d, .int .i64 rsw, .int .u64 (pn : Int), .int .i64 2, .int .u64 (pl : Int)] 34) := Lib.hid (hW9 ▸ Blk.drewN K21_1.out nq)
      clear hW9 K21_0 K21_1
      have m0_0 : w22.cell? ⟨B19, 0, none⟩ = some _ := K22_0.out.cell 0
      have m0_1 : w22.cell? ⟨B19, 1, none⟩ = some _ := K22_0.out.cell 1
      have m0_2 : w22.cell? ⟨B19, 2, none⟩ = some _ := K22_0.out.cell 2
      have mlt0 : B19 < w22.heap.size := K22_0.out.lt
      go_wp2_with fail
      clear m0_0 m0_1 m0_2 mlt0
      refine (GG.out _ L22.out).mono ?_
      rintro e w23 ⟨rfl, hb⟩
      have L23 := Lib.hid (L22.out.trans (hb.mono L22.out.size))
      have K23_0 := Lib.hid (K22_0.out.below hb K22_0.out.lt)
      have K23_1 := Lib.hid (K22_1.out.below hb K22_1.out.lt)
      clear hb K22_0 K22_1
      go_upto_region 13 with (fail)
      have nb0 : Blk (w23.alloc (.cells #[.bool v, .bool r, .bool x1, .bool x, .bool u, .bool g, .bool a, .bool d, .int .i64 rsw, .int .u64 (pn : Int), .int .i64 2, .int .u64 (pl : Int)] 34)) (w23.heap.size) [.bool v, .bool r, .bool x1, .bool x, .bool u, .bool g, .bool a, .bool d, .int .i64 rsw, .int .u64 (pn : Int), .int .i64 2, .int .u64 (pl : Int)] 34 := Blk.new w23 [.bool v, .bool r, .bool x1, .bool x, .bool u, .bool g, .bool a, .bool d, .int .i64 rsw, .int .u64 (pn : Int), .int .i64 2, .int .u64 (pl : Int)] 34
      have nls : Below w2.heap.size w2 w23 := L23.out
      have nl0 := nls.alloc nls.size (.cells #[.bool v, .bool r, .bool x1, .bool x, .bool u, .bool g, .bool a, .bool d, .int .i64 rsw, .int .u64 (pn : Int), .int .i64 2, .int .u64 (pl : Int)] 34)
      have nl : Below w2.heap.size w2 (w23.alloc (.cells #[.bool v, .bool r, .bool x1, .bool x, .bool u, .bool g, .bool a, .bool d, .int .i64 rsw, .int .u64 (pn : Int), .int .i64 2, .int .u64 (pl : Int)] 34)) := nl0; clear nls nl0
      have o0 : Blk (w23.alloc (.cells #[.bool v, .bool r, .bool x1, .bool x, .bool u, .bool g, .bool a, .bool d, .int .i64 rsw, .int .u64 (pn : Int), .int .i64 2, .int .u64 (pl : Int)] 34)) B19 [.bool true, .int .i64 0, .int .u64 0] 25 := (K23_0.out.alloc (.cells #[.bool v, .bool r, .bool x1, .bool x, .bool u, .bool g, .bool a, .bool d, .int .i64 rsw, .int .u64 (pn : Int), .int .i64 2, .int .u64 (pl : Int)] 34))
      have d24_0 : B19 < w23.heap.size := K23_0.out.lt
      have o1 : Blk (w23.alloc (.cells #[.bool v, .bool r, .bool x1, .bool x, .bool u, .bool g, .bool a, .bool d, .int .i64 rsw, .int .u64 (pn : Int), .int .i64 2, .int .u64 (pl : Int)] 34)) B21 [.bool v, .bool r, .bool x1, .bool x, .bool u, .bool g, .bool a, .bool d, .int .i64 rsw, .int .u64 (pn : Int), .int .i64 2, .int .u64 (pl : Int)] 34 := (K23_1.out.alloc (.cells #[.bool v, .bool r, .bool x1, .bool x, .bool u, .bool g, .bool a, .bool d, .int .i64 rsw, .int .u64 (pn : Int), .int .i64 2, .int .u64 (pl : Int)] 34))
      have d24_1 : B21 < w23.heap.size := K23_1.out.lt
      obtain ⟨B24, hB0⟩ : ∃ B, B = w23.heap.size := ⟨_, rfl⟩
      obtain ⟨W24, hW⟩ : ∃ W, W = (w23.alloc (.cells #[.bool v, .bool r, .bool x1, .bool x, .bool u, .bool g, .bool a, .bool d, .int .i64 rsw, .int .u64 (pn : Int), .int .i64 2, .int .u64 (pl : Int)] 34)) := ⟨_, rfl⟩
      rw [← hW] at nl nb0 o0 o1
      rw [← hB0] at nb0
      rw [← hW]
      try rw [← hB0]
      have K24_0 := Lib.hid o0
      have K24_1 := Lib.hid o1
      have K24_2 := Lib.hid nb0
      have G24 : Hid (w2.heap.size ≤ B24) := Lib.hid (by have := L23.out.size; omega)
      have x24_0_0 : B19 ≠ B24 := by omega
      have x24_1_0 : B21 ≠ B24 := by omega
      have X24_0_0 := Lib.hid x24_0_0; clear x24_0_0
      have X24_1_0 := Lib.hid x24_1_0; clear x24_1_0
      have L24 := Lib.hid nl
      clear nl hW nb0 hB0 o0 d24_0 o1 d24_1 K23_0 K23_1
      have hD1 := D1.out; have hD2 := D2.out; have hc1 := CC1.out; have hc2 := CC2.out; clear D1 D2 CC1 CC2
      refine wp_region_held_drew (S := fun w' => Blk w' B21 [.bool v, .bool r, .bool x1, .bool x, .bool u, .bool g, .bool a, .bool d, .int .i64 rsw, .int .u64 (pn : Int), .int .i64 2, .int .u64 (pl : Int)] 34 ∧ Blk w' B24 [.bool v, .bool r, .bool x1, .bool x, .bool u, .bool g, .bool a, .bool d, .int .i64 rsw, .int .u64 (pn : Int), .int .i64 2, .int .u64 (pl : Int)] 34) (by kernel_rfl) ⟨K24_1.out, K24_2.out⟩ (fun hHeld => ?_)
      simp only [List.size_toArray, List.length_cons, List.length_nil, Nat.reduceAdd]
      rw [show Array.replicate 32 false = [false, false, false, false, false, false, false, false, false, false, false, false, false, false, false, false, false, false, false, false, false, false, false, false, false, false, false, false, false, false, false, false].toArray from rfl]
      refine wpAnyH_take (i := 0) (v := ?_) rfl (by kernel_rfl) (by kernel_rfl) (by kernel_rfl) (fun _ _ _ h => h) (Or.inl ⟨by rfl, ?yldq⟩) (by assumption) ?_
      case yldq => (intro w hSw; (try dsimp only at hSw); go_simp; try with_reducible rfl)
      try simp only [Act.put, List.setIfInBounds_toArray, List.set_cons_zero, List.set_cons_succ, List.getElem_toArray, List.getElem_cons_succ, List.getElem_cons_zero]
      refine wpAnyH_take (i := 1) (v := ?_) rfl (by kernel_rfl) (by kernel_rfl) (by kernel_rfl) (fun _ _ _ h => h) (Or.inl ⟨by rfl, ?yldq⟩) (by assumption) ?_
      case yldq => (intro w hSw; (try dsimp only at hSw); go_simp; try with_reducible rfl)
      try simp only [Act.put, List.setIfInBounds_toArray, List.set_cons_zero, List.set_cons_succ, List.getElem_toArray, List.getElem_cons_succ, List.getElem_cons_zero]
      refine wpAnyH_take (i := 2) (v := ?_) rfl (by kernel_rfl) (by kernel_rfl) (by kernel_rfl) (fun _ _ _ h => h) (Or.inl ⟨by rfl, ?yldq⟩) (by assumption) ?_
      case yldq => (intro w hSw; (try dsimp only at hSw); go_simp; try with_reducible rfl)
      try simp only [Act.put, List.setIfInBounds_toArray, List.set_cons_zero, List.set_cons_succ, List.getElem_toArray, List.getElem_cons_succ, List.getElem_cons_zero]
      refine wpAnyH_take (i := 3) (v := _) rfl (by kernel_rfl) (by kernel_rfl) (by kernel_rfl) (fun _ _ _ h => h) (Or.inl ⟨by rfl, fun w hSw => yield_leaf _ _ _ rfl rfl hSw.2⟩) (by assumption) ?_
      try simp only [Act.put, List.setIfInBounds_toArray, List.set_cons_zero, List.set_cons_succ, List.getElem_toArray, List.getElem_cons_succ, List.getElem_cons_zero]
      refine wpAnyH_take (i := 4) (v := _) rfl (by kernel_rfl) (by kernel_rfl) (by kernel_rfl) (fun _ _ _ h => h) (Or.inl ⟨by rfl, fun w hSw => yield_leaf _ _ _ rfl rfl hSw.1⟩) (by assumption) ?_
      try simp only [Act.put, List.setIfInBounds_toArray, List.set_cons_zero, List.set_cons_succ, List.getElem_toArray, List.getElem_cons_succ, List.getElem_cons_zero]
      refine wpAnyH_take (i := 5) (v := ?_) rfl (by kernel_rfl) (by kernel_rfl) (by kernel_rfl) (fun _ _ _ h => h) (Or.inl ⟨by rfl, ?yldq⟩) (by assumption) ?_
      case yldq => (intro w hSw; (try dsimp only at hSw); go_simp; try with_reducible rfl)
      try simp only [Act.put, List.setIfInBounds_toArray, List.set_cons_zero, List.set_cons_succ, List.getElem_toArray, List.getElem_cons_succ, List.getElem_cons_zero]
      refine wpAnyH_take (i := 6) (v := ?_) rfl (by kernel_rfl) (by kernel_rfl) (by kernel_rfl) (fun _ _ _ h => h) (Or.inl ⟨by rfl, ?yldq⟩) (by assumption) ?_
      case yldq => (intro w hSw; (try dsimp only at hSw); go_simp; try with_reducible rfl)
      try simp only [Act.put, List.setIfInBounds_toArray, List.set_cons_zero, List.set_cons_succ, List.getElem_toArray, List.getElem_cons_succ, List.getElem_cons_zero]
      refine wpAnyH_take (i := 7) (v := ?_) rfl (by kernel_rfl) (by kernel_rfl) (by kernel_rfl) (fun _ _ _ h => h) (Or.inl ⟨by rfl, ?yldq⟩) (by assumption) ?_
      case yldq => (intro w hSw; (try dsimp only at hSw); go_simp; try with_reducible rfl)
      try simp only [Act.put, List.setIfInBounds_toArray, List.set_cons_zero, List.set_cons_succ, List.getElem_toArray, List.getElem_cons_succ, List.getElem_cons_zero]
      refine wpAnyH_take (i := 8) (v := _) rfl (by kernel_rfl) (by kernel_rfl) (by kernel_rfl) (fun _ _ _ h => h) (Or.inl ⟨by rfl, fun w hSw => yield_leaf _ _ _ rfl rfl hSw.2⟩) (by assumption) ?_
      try simp only [Act.put, List.setIfInBounds_toArray, List.set_cons_zero, List.set_cons_succ, List.getElem_toArray, List.getElem_cons_succ, List.getElem_cons_zero]
      refine wpAnyH_take (i := 9) (v := ?_) rfl (by kernel_rfl) (by kernel_rfl) (by kernel_rfl) (fun _ _ _ h => h) (Or.inl ⟨by rfl, ?yldq⟩) (by assumption) ?_
      case yldq => (intro w hSw; (try dsimp only at hSw); go_simp; try with_reducible rfl)
      try simp only [Act.put, List.setIfInBounds_toArray, List.set_cons_zero, List.set_cons_succ, List.getElem_toArray, List.getElem_cons_succ, List.getElem_cons_zero]
      refine wpAnyH_take (i := 11) (v := _) rfl (by kernel_rfl) (by kernel_rfl) (by kernel_rfl) (fun _ _ _ h => h) (Or.inl ⟨by rfl, fun w hSw => yield_leaf _ _ _ rfl rfl hSw.1⟩) (by assumption) ?_
      try simp only [Act.put, List.setIfInBounds_toArray, List.set_cons_zero, List.set_cons_succ, List.getElem_toArray, List.getElem_cons_succ, List.getElem_cons_zero]
      refine wpAnyH_take (i := 12) (v := ?_) rfl (by kernel_rfl) (by kernel_rfl) (by kernel_rfl) (fun _ _ _ h => h) (Or.inl ⟨by rfl, ?yldq⟩) (by assumption) ?_
      case yldq => (intro w hSw; (try dsimp only at hSw); go_simp; try with_reducible rfl)
      try simp only [Act.put, List.setIfInBounds_toArray, List.set_cons_zero, List.set_cons_succ, List.getElem_toArray, List.getElem_cons_succ, List.getElem_cons_zero]
      refine wpAnyH_take (i := 15) (v := ?_) rfl (by kernel_rfl) (by kernel_rfl) (by kernel_rfl) (fun _ _ _ h => h) (Or.inl ⟨by rfl, ?yldq⟩) (by assumption) ?_
      case yldq => (intro w hSw; (try dsimp only at hSw); go_simp; try with_reducible rfl)
      try simp only [Act.put, List.setIfInBounds_toArray, List.set_cons_zero, List.set_cons_succ, List.getElem_toArray, List.getElem_cons_succ, List.getElem_cons_zero]
      refine wpAnyH_take (i := 16) (v := ?_) rfl (by kernel_rfl) (by kernel_rfl) (by kernel_rfl) (fun _ _ _ h => h) (Or.inl ⟨by rfl, ?yldq⟩) (by assumption) ?_
      case yldq => (intro w hSw; (try dsimp only at hSw); go_simp; try with_reducible rfl)
      try simp only [Act.put, List.setIfInBounds_toArray, List.set_cons_zero, List.set_cons_succ, List.getElem_toArray, List.getElem_cons_succ, List.getElem_cons_zero]
      refine wpAnyH_take (i := 17) (v := ?_) rfl (by kernel_rfl) (by kernel_rfl) (by kernel_rfl) (fun _ _ _ h => h) (Or.inl ⟨by rfl, ?yldq⟩) (by assumption) ?_
      case yldq => (intro w hSw; (try dsimp only at hSw); go_simp; try with_reducible rfl)
      try simp only [Act.put, List.setIfInBounds_toArray, List.set_cons_zero, List.set_cons_succ, List.getElem_toArray, List.getElem_cons_succ, List.getElem_cons_zero]
      refine wpAnyH_ready (rs := [10]) (by kernel_rfl) (by simp) ?_
      refine AllReadyH.cons rfl (fun K hK => ?_) AllReadyH.nil
      go_simp
      refine (P1.out _).mono ?_
      rintro e w25 ⟨rfl, hb⟩
      have L25 := Lib.hid ((L24.out.drew).trans (hb.mono L24.out.size))
      have K25_0 := Lib.hid ((Blk.drewN K24_1.out 1).below hb K24_1.out.lt)
      have K25_1 := Lib.hid ((Blk.drewN K24_2.out 1).below hb K24_2.out.lt)
      clear hb K24_1 K24_2
      refine hK.out _ _ ⟨K25_0.out, K25_1.out⟩ (fun hS10 => ?_)
      clear hK K
      refine wpAnyH_ready (rs := [13]) (by kernel_rfl) (by simp) ?_
      refine AllReadyH.cons rfl (fun K hK => ?_) AllReadyH.nil
      go_simp
      refine (P2.out _).mono ?_
      rintro e w26 ⟨rfl, hb⟩
      have L26 := Lib.hid (L25.out.trans (hb.mono L25.out.size))
      have K26_0 := Lib.hid (K25_0.out.below hb K25_0.out.lt)
      have K26_1 := Lib.hid (K25_1.out.below hb K25_1.out.lt)
      clear hb K25_0 K25_1
      refine hK.out _ _ ⟨K26_0.out, K26_1.out⟩ (fun hS13 => ?_)
      clear hK K
      refine wpAnyH_take (i := 14) (v := ?_) rfl (by kernel_rfl) (by kernel_rfl) (by kernel_rfl) (fun _ _ _ h => h) (Or.inl ⟨by rfl, ?yldq⟩) (by assumption) ?_
      case yldq => (intro w hSw; (try dsimp only at hSw); go_simp; try with_reducible rfl)
      try simp only [Act.put, List.setIfInBounds_toArray, List.set_cons_zero, List.set_cons_succ, List.getElem_toArray, List.getElem_cons_succ, List.getElem_cons_zero]
      refine wpAnyH_take (i := 18) (v := ?_) rfl (by kernel_rfl) (by kernel_rfl) (by kernel_rfl) (fun _ _ _ h => h) (Or.inl ⟨by rfl, ?yldq⟩) (by assumption) ?_
      case yldq => (intro w hSw; (try dsimp only at hSw); go_simp; try with_reducible rfl)
      try simp only [Act.put, List.setIfInBounds_toArray, List.set_cons_zero, List.set_cons_succ, List.getElem_toArray, List.getElem_cons_succ, List.getElem_cons_zero]
      refine wpAnyH_take (i := 19) (v := ?_) rfl (by kernel_rfl) (by kernel_rfl) (by kernel_rfl) (fun _ _ _ h => h) (Or.inl ⟨by rfl, ?yldq⟩) (by assumption) ?_
      case yldq => (intro w hSw; (try dsimp only at hSw); go_simp; try with_reducible rfl)
      try simp only [Act.put, List.setIfInBounds_toArray, List.set_cons_zero, List.set_cons_succ, List.getElem_toArray, List.getElem_cons_succ, List.getElem_cons_zero]
      refine wpAnyH_take (i := 20) (v := ?_) rfl (by kernel_rfl) (by kernel_rfl) (by kernel_rfl) (fun _ _ _ h => h) (Or.inl ⟨by rfl, ?yldq⟩) (by assumption) ?_
      case yldq => (intro w hSw; (try dsimp only at hSw); go_simp; try with_reducible rfl)
      try simp only [Act.put, List.setIfInBounds_toArray, List.set_cons_zero, List.set_cons_succ, List.getElem_toArray, List.getElem_cons_succ, List.getElem_cons_zero]
      refine wpAnyH_take (i := 21) (v := ?_) rfl (by kernel_rfl) (by kernel_rfl) (by kernel_rfl) (fun _ _ _ h => h) (Or.inl ⟨by rfl, ?yldq⟩) (by assumption) ?_
      case yldq => (intro w hSw; (try dsimp only at hSw); go_simp; try with_reducible rfl)
      try simp only [Act.put, List.setIfInBounds_toArray, List.set_cons_zero, List.set_cons_succ, List.getElem_toArray, List.getElem_cons_succ, List.getElem_cons_zero]
      refine wpAnyH_take (i := 22) (v := _) rfl (by kernel_rfl) (by kernel_rfl) (by kernel_rfl) (fun _ _ _ h => h) (Or.inl ⟨by rfl, fun w hSw => yield_u64 _ _ _ rfl rfl (hSw.1.cell 11)⟩) (by assumption) ?_
      try simp only [Act.put, List.setIfInBounds_toArray, List.set_cons_zero, List.set_cons_succ, List.getElem_toArray, List.getElem_cons_succ, List.getElem_cons_zero]
      refine wpAnyH_take (i := 23) (v := ?_) rfl (by kernel_rfl) (by kernel_rfl) (by kernel_rfl) (fun _ _ _ h => h) (Or.inl ⟨by rfl, ?yldq⟩) (by assumption) ?_
      case yldq => (intro w hSw; (try dsimp only at hSw); go_simp; try with_reducible rfl)
      try simp only [Act.put, List.setIfInBounds_toArray, List.set_cons_zero, List.set_cons_succ, List.getElem_toArray, List.getElem_cons_succ, List.getElem_cons_zero]
      refine wpAnyH_take (i := 24) (v := ?_) rfl (by kernel_rfl) (by kernel_rfl) (by kernel_rfl) (fun _ _ _ h => h) (Or.inl ⟨by rfl, ?yldq⟩) (by assumption) ?_
      case yldq => (intro w hSw; (try dsimp only at hSw); go_simp; try with_reducible rfl)
      try simp only [Act.put, List.setIfInBounds_toArray, List.set_cons_zero, List.set_cons_succ, List.getElem_toArray, List.getElem_cons_succ, List.getElem_cons_zero]
      refine wpAnyH_take (i := 25) (v := ?_) rfl (by kernel_rfl) (by kernel_rfl) (by kernel_rfl) (fun _ _ _ h => h) (Or.inl ⟨by rfl, ?yldq⟩) (by assumption) ?_
      case yldq => (intro w hSw; (try dsimp only at hSw); go_simp; try with_reducible rfl)
      try simp only [Act.put, List.setIfInBounds_toArray, List.set_cons_zero, List.set_cons_succ, List.getElem_toArray, List.getElem_cons_succ, List.getElem_cons_zero]
      refine wpAnyH_take (i := 26) (v := ?_) rfl (by kernel_rfl) (by kernel_rfl) (by kernel_rfl) (fun _ _ _ h => h) (Or.inl ⟨by rfl, ?yldq⟩) (by assumption) ?_
      case yldq => (intro w hSw; (try dsimp only at hSw); go_simp; try with_reducible rfl)
      try simp only [Act.put, List.setIfInBounds_toArray, List.set_cons_zero, List.set_cons_succ, List.getElem_toArray, List.getElem_cons_succ, List.getElem_cons_zero]
      refine wpAnyH_take (i := 27) (v := ?_) rfl (by kernel_rfl) (by kernel_rfl) (by kernel_rfl) (fun _ _ _ h => h) (Or.inl ⟨by rfl, ?yldq⟩) (by assumption) ?_
      case yldq => (intro w hSw; (try dsimp only at hSw); go_simp; try with_reducible rfl)
      try simp only [Act.put, List.setIfInBounds_toArray, List.set_cons_zero, List.set_cons_succ, List.getElem_toArray, List.getElem_cons_succ, List.getElem_cons_zero]
      refine wpAnyH_take (i := 28) (v := _) rfl (by kernel_rfl) (by kernel_rfl) (by kernel_rfl) (fun _ _ _ h => h) (Or.inl ⟨by rfl, fun w hSw => yield_u64 _ _ _ rfl rfl (hSw.1.cell 11)⟩) (by assumption) ?_
      try simp only [Act.put, List.setIfInBounds_toArray, List.set_cons_zero, List.set_cons_succ, List.getElem_toArray, List.getElem_cons_succ, List.getElem_cons_zero]
      refine wpAnyH_take (i := 29) (v := ?_) rfl (by kernel_rfl) (by kernel_rfl) (by kernel_rfl) (fun _ _ _ h => h) (Or.inl ⟨by rfl, ?yldq⟩) (by assumption) ?_
      case yldq => (intro w hSw; (try dsimp only at hSw); go_simp; try with_reducible rfl)
      try simp only [Act.put, List.setIfInBounds_toArray, List.set_cons_zero, List.set_cons_succ, List.getElem_toArray, List.getElem_cons_succ, List.getElem_cons_zero]
      refine wpAnyH_take (i := 30) (v := ?_) rfl (by kernel_rfl) (by kernel_rfl) (by kernel_rfl) (fun _ _ _ h => h) (Or.inl ⟨by rfl, ?yldq⟩) (by assumption) ?_
      case yldq => (intro w hSw; (try dsimp only at hSw); go_simp; try with_reducible rfl)
      try simp only [Act.put, List.setIfInBounds_toArray, List.set_cons_zero, List.set_cons_succ, List.getElem_toArray, List.getElem_cons_succ, List.getElem_cons_zero]
      refine wpAnyH_take (i := 31) (v := ?_) rfl (by kernel_rfl) (by kernel_rfl) (by kernel_rfl) (fun _ _ _ h => h) (Or.inl ⟨by rfl, ?yldq⟩) (by assumption) ?_
      case yldq => (intro w hSw; (try dsimp only at hSw); go_simp; try with_reducible rfl)
      try simp only [Act.put, List.setIfInBounds_toArray, List.set_cons_zero, List.set_cons_succ, List.getElem_toArray, List.getElem_cons_succ, List.getElem_cons_zero]
      refine wpAnyH_done (by kernel_rfl) ?_ _
      go_wp2
      go_ret
      exact ⟨rfl, L2.out.trans (L26.out.mono L2.out.size)⟩
  · have f0 : ((er : Int) != 0) = true := by simp; omega
    have hff : ∀ w', Below w2.heap.size w2 w' → Calls Try.prog 8 #[.pointer (some ⟨mp, 0, none⟩), .agg #[.bool true, .int .i64 0, .int .u64 0], .int .u64 va ] w' fun qq w'' => qq = .returned (.tuple #[.agg #[.bool false, .bool false, .bool false, .bool false, .bool false, .bool false, .bool false, .bool false, .int .i64 0, .int .u64 0, .int .i64 0, .int .u64 0], .int .i64 (er : Nat)]) ∧ Below w'.heap.size w' w'' := hf
    have FF := Lib.hid hff; clear hff hf hp HG HZ her
    go_upto_region 5 with (fail)
    have nb0 : Blk (w2.alloc (.cells #[.bool true, .int .i64 0, .int .u64 0] 25)) (w2.heap.size) [.bool true, .int .i64 0, .int .u64 0] 25 := Blk.new w2 [.bool true, .int .i64 0, .int .u64 0] 25
    have nls : Below w2.heap.size w2 w2 := (Below.refl w2.heap.size w2)
    have nl0 := nls.alloc nls.size (.cells #[.bool true, .int .i64 0, .int .u64 0] 25)
    have nl : Below w2.heap.size w2 (w2.alloc (.cells #[.bool true, .int .i64 0, .int .u64 0] 25)) := nl0; clear nls nl0
    obtain ⟨B27, hB0⟩ : ∃ B, B = w2.heap.size := ⟨_, rfl⟩
    obtain ⟨W27, hW⟩ : ∃ W, W = (w2.alloc (.cells #[.bool true, .int .i64 0, .int .u64 0] 25)) := ⟨_, rfl⟩
    rw [← hW] at nl nb0
    rw [← hB0] at nb0
    rw [← hW]
    try rw [← hB0]
    have K27_0 := Lib.hid nb0
    have G27 : Hid (w2.heap.size ≤ B27) := Lib.hid (by have := (Nat.le_refl w2.heap.size); omega)
    have L27 := Lib.hid nl
    clear nl hW nb0 hB0
    have m0_0 : W27.cell? ⟨B27, 0, none⟩ = some _ := K27_0.out.cell 0
    have m0_1 : W27.cell? ⟨B27, 1, none⟩ = some _ := K27_0.out.cell 1
    have m0_2 : W27.cell? ⟨B27, 2, none⟩ = some _ := K27_0.out.cell 2
    have mlt0 : B27 < W27.heap.size := K27_0.out.lt
    go_wp2_with fail
    clear m0_0 m0_1 m0_2 mlt0
    refine (FF.out _ L27.out).mono ?_
    rintro e w28 ⟨rfl, hb⟩
    have L28 := Lib.hid (L27.out.trans (hb.mono L27.out.size))
    have K28_0 := Lib.hid (K27_0.out.below hb K27_0.out.lt)
    clear hb K27_0
    go_upto_region 6 with (fail)
    have nb0 : Blk (w28.alloc (.cells #[.bool false, .bool false, .bool false, .bool false, .bool false, .bool false, .bool false, .bool false, .int .i64 0, .int .u64 0, .int .i64 0, .int .u64 0] 34)) (w28.heap.size) [.bool false, .bool false, .bool false, .bool false, .bool false, .bool false, .bool false, .bool false, .int .i64 0, .int .u64 0, .int .i64 0, .int .u64 0] 34 := Blk.new w28 [.bool false, .bool false, .bool false, .bool false, .bool false, .bool false, .bool false, .bool false, .int .i64 0, .int .u64 0, .int .i64 0, .int .u64 0] 34
    have nls : Below w2.heap.size w2 w28 := L28.out
    have nl0 := nls.alloc nls.size (.cells #[.bool false, .bool false, .bool false, .bool false, .bool false, .bool false, .bool false, .bool false, .int .i64 0, .int .u64 0, .int .i64 0, .int .u64 0] 34)
    have nl : Below w2.heap.size w2 (w28.alloc (.cells #[.bool false, .bool false, .bool false, .bool false, .bool false, .bool false, .bool false, .bool false, .int .i64 0, .int .u64 0, .int .i64 0, .int .u64 0] 34)) := nl0; clear nls nl0
    have o0 : Blk (w28.alloc (.cells #[.bool false, .bool false, .bool false, .bool false, .bool false, .bool false, .bool false, .bool false, .int .i64 0, .int .u64 0, .int .i64 0, .int .u64 0] 34)) B27 [.bool true, .int .i64 0, .int .u64 0] 25 := (K28_0.out.alloc (.cells #[.bool false, .bool false, .bool false, .bool false, .bool false, .bool false, .bool false, .bool false, .int .i64 0, .int .u64 0, .int .i64 0, .int .u64 0] 34))
    have d29_0 : B27 < w28.heap.size := K28_0.out.lt
    obtain ⟨B29, hB0⟩ : ∃ B, B = w28.heap.size := ⟨_, rfl⟩
    obtain ⟨W29, hW⟩ : ∃ W, W = (w28.alloc (.cells #[.bool false, .bool false, .bool false, .bool false, .bool false, .bool false, .bool false, .bool false, .int .i64 0, .int .u64 0, .int .i64 0, .int .u64 0] 34)) := ⟨_, rfl⟩
    rw [← hW] at nl nb0 o0
    rw [← hB0] at nb0
    rw [← hW]
    try rw [← hB0]
    have K29_0 := Lib.hid o0
    have K29_1 := Lib.hid nb0
    have G29 : Hid (w2.heap.size ≤ B29) := Lib.hid (by have := L28.out.size; omega)
    have x29_0_0 : B27 ≠ B29 := by omega
    have X29_0_0 := Lib.hid x29_0_0; clear x29_0_0
    have L29 := Lib.hid nl
    clear nl hW nb0 hB0 o0 d29_0 K28_0
    have m1_0 : W29.cell? ⟨B29, 0, none⟩ = some _ := K29_1.out.cell 0
    have m1_1 : W29.cell? ⟨B29, 1, none⟩ = some _ := K29_1.out.cell 1
    have m1_2 : W29.cell? ⟨B29, 2, none⟩ = some _ := K29_1.out.cell 2
    have m1_3 : W29.cell? ⟨B29, 3, none⟩ = some _ := K29_1.out.cell 3
    have m1_4 : W29.cell? ⟨B29, 4, none⟩ = some _ := K29_1.out.cell 4
    have m1_5 : W29.cell? ⟨B29, 5, none⟩ = some _ := K29_1.out.cell 5
    have m1_6 : W29.cell? ⟨B29, 6, none⟩ = some _ := K29_1.out.cell 6
    have m1_7 : W29.cell? ⟨B29, 7, none⟩ = some _ := K29_1.out.cell 7
    have m1_8 : W29.cell? ⟨B29, 8, none⟩ = some _ := K29_1.out.cell 8
    have m1_9 : W29.cell? ⟨B29, 9, none⟩ = some _ := K29_1.out.cell 9
    have m1_10 : W29.cell? ⟨B29, 10, none⟩ = some _ := K29_1.out.cell 10
    have m1_11 : W29.cell? ⟨B29, 11, none⟩ = some _ := K29_1.out.cell 11
    have mlt1 : B29 < W29.heap.size := K29_1.out.lt
    go_wp2
    clear m1_0 m1_1 m1_2 m1_3 m1_4 m1_5 m1_6 m1_7 m1_8 m1_9 m1_10 m1_11 mlt1
    go_ret
    exact ⟨rfl, L2.out.trans (L29.out.mono L2.out.size)⟩
end Go.Proofs.Ytibmjbfnjkmjbaa
