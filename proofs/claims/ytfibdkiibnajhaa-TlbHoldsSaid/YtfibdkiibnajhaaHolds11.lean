/-
  What TlbHolds answers: the walk over the contracts.
-/
import Derived.Test.YtfibdkiibnajhaaLaw11
import Derived.Test.YtfibdkiibnajhaaOne11
namespace Go.Proofs.Ytfibdkiibnajhaa
open Go.RowKit
set_option linter.unusedVariables false
set_option linter.unusedSimpArgs false
attribute [local go_sem] setCell_drewN alloc_drewN

section
variable {w : World} {b sp : Nat} {g : Nat → Nat} {va oth lv pl ppn I : Nat} {a rsw pk : Int} {v r x1 x u g9 a9 d : Bool}
theorem hold_0 (w : World) : Calls Try.prog 5 #[.int .i64 4, .int .i64 2] w fun e w' => ∃ b sp g, e = .returned (.tuple #[.pointer (some ⟨b, 0, none⟩), .int .i64 0]) ∧ Buf w' b sp g 4 2 (fun _ _ => zw) ∧ (∀ k, FpT b sp g 4 k → w.heap.size ≤ k) ∧ Below w.heap.size w w' :=
  new_yes 4 2 w rfl
theorem hold_1 (h : Buf w b sp g 4 2 (fun _ _ => zw)) (hv : va < 18446744073709551616) : Calls Try.prog 6 #[.pointer (some ⟨b, 0, none⟩), .int .u64 va, .int .i64 a] w fun r w' => r = .returned (.tuple #[.agg #[.bool false, .bool false, .bool false, .bool false, .bool false, .bool false, .bool false, .bool false, .int .i64 0, .int .u64 0, .int .i64 0, .int .u64 0], .bool false]) ∧ Below w.heap.size w w' := by
  have h := find_any b sp g 4 2 _ va a w h hv
  rw [fnd_zero] at h
  exact h
theorem hold_2 (h : Buf w b sp g 4 2 (fun _ _ => zw)) (hv : va < 18446744073709551616) (hl : lv < 3) (hp : -9223372036854775808 ≤ pk ∧ pk < 9223372036854775808) :
    Calls Try.prog 7 #[.pointer (some ⟨b, 0, none⟩), .int .u64 va, .int .i64 a, .agg #[.bool v, .bool r, .bool x1, .bool x, .bool u, .bool g9, .bool a9, .bool d, .int .i64 rsw, .int .u64 (ppn : Int), .int .i64 (lv : Int), .int .u64 (pl : Int)], .int .i64 pk] w fun q w' => q = .returned (.bool true) ∧ Buf w' b sp g 4 2 (one1 (numN va lv % 4) ⟨true, a, numN va lv, ⟨⟨v, r, x1, x, u, g9, a9, d, rsw, ppn⟩, lv, pl⟩⟩) ∧ Chg (FpT b sp g 4) w w' := by
  have h := fill_yes b sp g 4 2 _ va a pk ⟨v, r, x1, x, u, g9, a9, d, rsw, ppn⟩ lv pl w h hl hv hp
  rw [fil_one] at h
  exact h
theorem cov_in (hl : lv < 3) (hI : I = inP va oth lv) : covW ⟨true, a, numN va lv, ⟨⟨v, r, x1, x, u, g9, a9, d, rsw, ppn⟩, lv, pl⟩⟩ I = true := by
  unfold covW
  dsimp only
  rw [hI, inP_num _ _ _ hl, beq_self_eq_true]
theorem s_in (hl : lv < 3) (hI : I = inP va oth lv) : numN va lv % 4 = numN I lv % 4 := by rw [hI, inP_num _ _ _ hl]
theorem hold_3 (h : Buf w b sp g 4 2 (one1 (numN va lv % 4) ⟨true, a, numN va lv, ⟨⟨v, r, x1, x, u, g9, a9, d, rsw, ppn⟩, lv, pl⟩⟩)) (hi : I < 18446744073709551616) (hl : lv < 3) (hI : I = inP va oth lv) : Calls Try.prog 6 #[.pointer (some ⟨b, 0, none⟩), .int .u64 I, .int .i64 a] w fun q w' => q = .returned (.tuple #[.agg #[.bool v, .bool r, .bool x1, .bool x, .bool u, .bool g9, .bool a9, .bool d, .int .i64 rsw, .int .u64 (ppn : Int), .int .i64 (lv : Int), .int .u64 (pl : Int)], .bool true]) ∧ Below w.heap.size w w' := by
  have h := find_any b sp g 4 2 _ I a w h hi
  have hm : matW ⟨true, a, numN va lv, ⟨⟨v, r, x1, x, u, g9, a9, d, rsw, ppn⟩, lv, pl⟩⟩ I a = true := by unfold matW; rw [cov_in hl hI]; simp
  have e := fnd_one_yes ⟨true, a, numN va lv, ⟨⟨v, r, x1, x, u, g9, a9, d, rsw, ppn⟩, lv, pl⟩⟩ I a hm hl
  dsimp only at e
  rw [← s_in hl hI] at e
  rw [e] at h
  exact h
theorem hold_4t (h : Buf w b sp g 4 2 (one1 (numN va lv % 4) ⟨true, a, numN va lv, ⟨⟨v, r, x1, x, u, true, a9, d, rsw, ppn⟩, lv, pl⟩⟩)) (hi : I < 18446744073709551616) (hl : lv < 3) (hI : I = inP va oth lv) : Calls Try.prog 6 #[.pointer (some ⟨b, 0, none⟩), .int .u64 I, .int .i64 (bits .xor .i64 a 1)] w fun q w' => q = .returned (.tuple #[.agg #[.bool v, .bool r, .bool x1, .bool x, .bool u, .bool true, .bool a9, .bool d, .int .i64 rsw, .int .u64 (ppn : Int), .int .i64 (lv : Int), .int .u64 (pl : Int)], .bool true]) ∧ Below w.heap.size w w' := by
  have h := find_any b sp g 4 2 _ I (bits .xor .i64 a 1) w h hi
  have hm : matW ⟨true, a, numN va lv, ⟨⟨v, r, x1, x, u, true, a9, d, rsw, ppn⟩, lv, pl⟩⟩ I (bits .xor .i64 a 1) = true := by unfold matW; rw [cov_in hl hI]; simp
  have e := fnd_one_yes ⟨true, a, numN va lv, ⟨⟨v, r, x1, x, u, true, a9, d, rsw, ppn⟩, lv, pl⟩⟩ I (bits .xor .i64 a 1) hm hl
  dsimp only at e
  rw [← s_in hl hI] at e
  rw [e] at h
  exact h
theorem hold_4f (h : Buf w b sp g 4 2 (one1 (numN va lv % 4) ⟨true, a, numN va lv, ⟨⟨v, r, x1, x, u, false, a9, d, rsw, ppn⟩, lv, pl⟩⟩)) (hi : I < 18446744073709551616) : Calls Try.prog 6 #[.pointer (some ⟨b, 0, none⟩), .int .u64 I, .int .i64 (bits .xor .i64 a 1)] w fun q w' => q = .returned (.tuple #[.agg #[.bool false, .bool false, .bool false, .bool false, .bool false, .bool false, .bool false, .bool false, .int .i64 0, .int .u64 0, .int .i64 0, .int .u64 0], .bool false]) ∧ Below w.heap.size w w' := by
  have h := find_any b sp g 4 2 _ I (bits .xor .i64 a 1) w h hi
  have hm : matW ⟨true, a, numN va lv, ⟨⟨v, r, x1, x, u, false, a9, d, rsw, ppn⟩, lv, pl⟩⟩ I (bits .xor .i64 a 1) = false := by unfold matW; simp [Ne.symm (xor_ne a)]
  rw [fnd_one_no _ _ _ _ hm] at h
  exact h
theorem s_lt (p : Nat) : p % 4 < 4 := Nat.mod_lt _ (by decide)
theorem hold_5 {q1 q2 : Nat} (h : Buf w b sp g 4 2 (one1 (numN va lv % 4) ⟨true, a, numN va lv, ⟨⟨v, r, x1, x, u, g9, a9, d, rsw, ppn⟩, lv, pl⟩⟩)) (hi : I < 18446744073709551616) (h1 : Blk w q1 [.int .u64 (I : Int)] 22) (n1 : ¬ FpT b sp g 4 q1) (h2 : Blk w q2 [.int .i64 (bits .xor .i64 a 1)] 3) (n2 : ¬ FpT b sp g 4 q2) :
    Calls Try.prog 8 #[.pointer (some ⟨b, 0, none⟩), .slice (some ⟨q1, 0, none⟩) 1 1, .slice (some ⟨q2, 0, none⟩) 1 1] w fun q w' => q = .returned (.int .i64 0) ∧ Buf w' b sp g 4 2 (one1 (numN va lv % 4) ⟨true, a, numN va lv, ⟨⟨v, r, x1, x, u, g9, a9, d, rsw, ppn⟩, lv, pl⟩⟩) ∧ Chg (FpT b sp g 4) w w' := by
  have h := fence_any b sp g 4 2 _ (some I) (some (bits .xor .i64 a 1)) (.slice (some ⟨q1, 0, none⟩) 1 1) (.slice (some ⟨q2, 0, none⟩) 1 1) w h (fun k hk => by injection hk with hk; subst hk; exact hi) ⟨q1, 0, 1, 1, rfl, by decide, h1.cell 0, n1⟩ ⟨q2, 0, 1, 1, rfl, by decide, h2.cell 0, n2⟩
  have hg : goes ⟨true, a, numN va lv, ⟨⟨v, r, x1, x, u, g9, a9, d, rsw, ppn⟩, lv, pl⟩⟩ (some I) (some (bits .xor .i64 a 1)) = false := by unfold goes fenW; simp [Ne.symm (xor_ne a)]
  rw [cnt_one (fun z => goes z (some I) (some (bits .xor .i64 a 1))) _ _ (goesZ _ _) (s_lt _), fen_one_no _ _ _ _ hg, hg] at h
  exact h
theorem hold_6 {q1 : Nat} (h : Buf w b sp g 4 2 (one1 (numN va lv % 4) ⟨true, a, numN va lv, ⟨⟨v, r, x1, x, u, g9, a9, d, rsw, ppn⟩, lv, pl⟩⟩)) (hi : I < 18446744073709551616) (hl : lv < 3) (hI : I = inP va oth lv) (h1 : Blk w q1 [.int .u64 (I : Int)] 22) (n1 : ¬ FpT b sp g 4 q1) :
    Calls Try.prog 8 #[.pointer (some ⟨b, 0, none⟩), .slice (some ⟨q1, 0, none⟩) 1 1, .slice none 0 0] w fun q w' => q = .returned (.int .i64 1) ∧ Buf w' b sp g 4 2 (fun _ _ => zw) ∧ Chg (FpT b sp g 4) w w' := by
  have h := fence_any b sp g 4 2 _ (some I) none (.slice (some ⟨q1, 0, none⟩) 1 1) (.slice none 0 0) w h (fun k hk => by injection hk with hk; subst hk; exact hi) ⟨q1, 0, 1, 1, rfl, by decide, h1.cell 0, n1⟩ ⟨none, 0, rfl⟩
  have hg : goes ⟨true, a, numN va lv, ⟨⟨v, r, x1, x, u, g9, a9, d, rsw, ppn⟩, lv, pl⟩⟩ (some I) none = true := by unfold goes fenW; dsimp only; rw [cov_in hl hI]; rfl
  rw [cnt_one (fun z => goes z (some I) none) _ _ (goesZ _ _) (s_lt _), fen_one_yes _ _ _ _ hg, hg] at h
  exact h
theorem hold_8 (h : Buf w b sp g 4 2 (fun _ _ => zw)) : Calls Try.prog 9 #[.pointer (some ⟨b, 0, none⟩)] w fun q w' => q = .returned (.int .i64 0) ∧ Below w.heap.size w w' := by
  have h := len_any b sp g 4 2 _ w h
  rw [cnt_zero (fun z => z.full) rfl] at h
  exact h
end
set_option maxHeartbeats 8000000 in
theorem holds_bad (kd a pk ova : Int) (va oth : Nat) (v r x1 x u g9 a9 d : Bool) (rsw : Int) (ppn pl : Nat) (lv : Int) (w : World) (hv : va < 18446744073709551616) (hl : ¬ (0 ≤ lv ∧ lv < 3)) :
    Calls Try.prog 3 #[.int .u64 va, .int .u64 oth, .agg #[.int .i64 kd, .int .i64 a, .int .i64 pk, .int .u64 ova, .bool v, .bool r, .bool x1, .bool x, .bool u, .bool g9, .bool a9, .bool d, .int .i64 rsw, .int .u64 (ppn : Int), .int .i64 lv, .int .u64 (pl : Int)]] w fun q w' => q = .returned (.bool true) ∧ Below w.heap.size w w' := by
  have h0 : lv < 0 ∨ (0 ≤ lv ∧ 2 < lv) := by omega
  have HL := Lib.hid hl; have HV := Lib.hid hv; clear hl hv
  rcases h0 with h0 | ⟨h0, h1⟩
  · go_enter Try.func3, Try.ntmps3
    go_upto_region 1 with (fail)
    have nb0 : Blk (w.alloc (.cells #[.int .i64 kd, .int .i64 a, .int .i64 pk, .int .u64 ova, .bool v, .bool r, .bool x1, .bool x, .bool u, .bool g9, .bool a9, .bool d, .int .i64 rsw, .int .u64 (ppn : Int), .int .i64 lv, .int .u64 (pl : Int)] 28)) (w.heap.size) [.int .i64 kd, .int .i64 a, .int .i64 pk, .int .u64 ova, .bool v, .bool r, .bool x1, .bool x, .bool u, .bool g9, .bool a9, .bool d, .int .i64 rsw, .int .u64 (ppn : Int), .int .i64 lv, .int .u64 (pl : Int)] 28 := Blk.new w [.int .i64 kd, .int .i64 a, .int .i64 pk, .int .u64 ova, .bool v, .bool r, .bool x1, .bool x, .bool u, .bool g9, .bool a9, .bool d, .int .i64 rsw, .int .u64 (ppn : Int), .int .i64 lv, .int .u64 (pl : Int)] 28
    have nls : Below w.heap.size w w := (Below.refl w.heap.size w)
    have nl0 := nls.alloc nls.size (.cells #[.int .i64 kd, .int .i64 a, .int .i64 pk, .int .u64 ova, .bool v, .bool r, .bool x1, .bool x, .bool u, .bool g9, .bool a9, .bool d, .int .i64 rsw, .int .u64 (ppn : Int), .int .i64 lv, .int .u64 (pl : Int)] 28)
    have nl : Below w.heap.size w (w.alloc (.cells #[.int .i64 kd, .int .i64 a, .int .i64 pk, .int .u64 ova, .bool v, .bool r, .bool x1, .bool x, .bool u, .bool g9, .bool a9, .bool d, .int .i64 rsw, .int .u64 (ppn : Int), .int .i64 lv, .int .u64 (pl : Int)] 28)) := nl0; clear nls nl0
    obtain ⟨B1, hB0⟩ : ∃ B, B = w.heap.size := ⟨_, rfl⟩
    obtain ⟨W1, hW⟩ : ∃ W, W = (w.alloc (.cells #[.int .i64 kd, .int .i64 a, .int .i64 pk, .int .u64 ova, .bool v, .bool r, .bool x1, .bool x, .bool u, .bool g9, .bool a9, .bool d, .int .i64 rsw, .int .u64 (ppn : Int), .int .i64 lv, .int .u64 (pl : Int)] 28)) := ⟨_, rfl⟩
    rw [← hW] at nl nb0
    rw [← hB0] at nb0
    rw [← hW]
    try rw [← hB0]
    have K1_0 := Lib.hid nb0
    have G1 : Hid (w.heap.size ≤ B1) := Lib.hid (by have := (Nat.le_refl w.heap.size); omega)
    have L1 := Lib.hid nl
    clear nl hW nb0 hB0
    go_wp2_with fail
    refine (first_any _).mono ?_
    rintro e w2 ⟨rfl, hb⟩
    have L2 := Lib.hid (L1.out.trans (hb.mono L1.out.size))
    have K2_0 := Lib.hid (K1_0.out.below hb K1_0.out.lt)
    clear hb K1_0
    go_wp2_with fail
    refine (hold_0 _).mono ?_
    rintro e w3 ⟨b, sp, g, rfl, hbuf, hfp, hb⟩
    have hbuf : Buf w3 b sp g 4 2 (fun _ _ => zw) := hbuf
    have F3 := Lib.hid hbuf; have HFP := Lib.hid hfp
    have L3 := Lib.hid (L2.out.trans (hb.mono L2.out.size))
    have HFP2 : Hid (∀ k, FpT b sp g 4 k → w.heap.size ≤ k) := Lib.hid (fun k hk => Nat.le_trans L2.out.size (HFP.out k hk))
    have K3_0 := Lib.hid (K2_0.out.below hb K2_0.out.lt)
    have nf1 : Hid (¬ FpT b sp g 4 B1) := Lib.hid (fun hf => by have := HFP.out _ hf; have := K2_0.out.lt; omega)
    clear hb hbuf hfp K2_0
    have m0_0 : w3.cell? ⟨B1, 0, none⟩ = some _ := K3_0.out.cell 0
    have m0_1 : w3.cell? ⟨B1, 1, none⟩ = some _ := K3_0.out.cell 1
    have m0_2 : w3.cell? ⟨B1, 2, none⟩ = some _ := K3_0.out.cell 2
    have m0_3 : w3.cell? ⟨B1, 3, none⟩ = some _ := K3_0.out.cell 3
    have m0_4 : w3.cell? ⟨B1, 4, none⟩ = some _ := K3_0.out.cell 4
    have m0_5 : w3.cell? ⟨B1, 5, none⟩ = some _ := K3_0.out.cell 5
    have m0_6 : w3.cell? ⟨B1, 6, none⟩ = some _ := K3_0.out.cell 6
    have m0_7 : w3.cell? ⟨B1, 7, none⟩ = some _ := K3_0.out.cell 7
    have m0_8 : w3.cell? ⟨B1, 8, none⟩ = some _ := K3_0.out.cell 8
    have m0_9 : w3.cell? ⟨B1, 9, none⟩ = some _ := K3_0.out.cell 9
    have m0_10 : w3.cell? ⟨B1, 10, none⟩ = some _ := K3_0.out.cell 10
    have m0_11 : w3.cell? ⟨B1, 11, none⟩ = some _ := K3_0.out.cell 11
    have m0_12 : w3.cell? ⟨B1, 12, none⟩ = some _ := K3_0.out.cell 12
    have m0_13 : w3.cell? ⟨B1, 13, none⟩ = some _ := K3_0.out.cell 13
    have m0_14 : w3.cell? ⟨B1, 14, none⟩ = some _ := K3_0.out.cell 14
    have m0_15 : w3.cell? ⟨B1, 15, none⟩ = some _ := K3_0.out.cell 15
    have mlt0 : B1 < w3.heap.size := K3_0.out.lt
    go_wp2_with fail
    clear m0_0 m0_1 m0_2 m0_3 m0_4 m0_5 m0_6 m0_7 m0_8 m0_9 m0_10 m0_11 m0_12 m0_13 m0_14 m0_15 mlt0
    refine (hold_1 F3.out HV.out).mono ?_
    rintro e w4 ⟨rfl, hb⟩
    have F4 := Lib.hid (F3.out.below hb)
    have L4 := Lib.hid (L3.out.trans (hb.mono L3.out.size))
    have K4_0 := Lib.hid (K3_0.out.below hb K3_0.out.lt)
    clear hb F3 K3_0
    go_upto_region 5 with (fail)
    have nb0 : Blk (w4.alloc (.cells #[.bool false, .bool false, .bool false, .bool false, .bool false, .bool false, .bool false, .bool false, .int .i64 0, .int .u64 0, .int .i64 0, .int .u64 0] 26)) (w4.heap.size) [.bool false, .bool false, .bool false, .bool false, .bool false, .bool false, .bool false, .bool false, .int .i64 0, .int .u64 0, .int .i64 0, .int .u64 0] 26 := Blk.new w4 [.bool false, .bool false, .bool false, .bool false, .bool false, .bool false, .bool false, .bool false, .int .i64 0, .int .u64 0, .int .i64 0, .int .u64 0] 26
    have nls : Below w.heap.size w w4 := L4.out
    have nl0 := nls.alloc nls.size (.cells #[.bool false, .bool false, .bool false, .bool false, .bool false, .bool false, .bool false, .bool false, .int .i64 0, .int .u64 0, .int .i64 0, .int .u64 0] 26)
    have nl : Below w.heap.size w (w4.alloc (.cells #[.bool false, .bool false, .bool false, .bool false, .bool false, .bool false, .bool false, .bool false, .int .i64 0, .int .u64 0, .int .i64 0, .int .u64 0] 26)) := nl0; clear nls nl0
    have o0 : Blk (w4.alloc (.cells #[.bool false, .bool false, .bool false, .bool false, .bool false, .bool false, .bool false, .bool false, .int .i64 0, .int .u64 0, .int .i64 0, .int .u64 0] 26)) B1 [.int .i64 kd, .int .i64 a, .int .i64 pk, .int .u64 ova, .bool v, .bool r, .bool x1, .bool x, .bool u, .bool g9, .bool a9, .bool d, .int .i64 rsw, .int .u64 (ppn : Int), .int .i64 lv, .int .u64 (pl : Int)] 28 := (K4_0.out.alloc (.cells #[.bool false, .bool false, .bool false, .bool false, .bool false, .bool false, .bool false, .bool false, .int .i64 0, .int .u64 0, .int .i64 0, .int .u64 0] 26))
    have d5_0 : B1 < w4.heap.size := K4_0.out.lt
    obtain ⟨B5, hB0⟩ : ∃ B, B = w4.heap.size := ⟨_, rfl⟩
    obtain ⟨W5, hW⟩ : ∃ W, W = (w4.alloc (.cells #[.bool false, .bool false, .bool false, .bool false, .bool false, .bool false, .bool false, .bool false, .int .i64 0, .int .u64 0, .int .i64 0, .int .u64 0] 26)) := ⟨_, rfl⟩
    rw [← hW] at nl nb0 o0
    rw [← hB0] at nb0
    rw [← hW]
    try rw [← hB0]
    have K5_0 := Lib.hid o0
    have K5_1 := Lib.hid nb0
    have G5 : Hid (w.heap.size ≤ B5) := Lib.hid (by have := L4.out.size; omega)
    have x5_0_0 : B1 ≠ B5 := by omega
    have X5_0_0 := Lib.hid x5_0_0; clear x5_0_0
    have F5 : Hid (Buf W5 b sp g 4 2 (fun _ _ => zw)) := Lib.hid (hW ▸ F4.out.below ((Below.refl w4.heap.size w4).alloc (by simp) (.cells #[.bool false, .bool false, .bool false, .bool false, .bool false, .bool false, .bool false, .bool false, .int .i64 0, .int .u64 0, .int .i64 0, .int .u64 0] 26)))
    have nf5 : Hid (¬ FpT b sp g 4 B5) := Lib.hid (fun hf => by have := F4.out.lt _ hf; omega)
    clear F4
    have L5 := Lib.hid nl
    clear nl hW nb0 hB0 o0 d5_0 K4_0
    have m0_0 : W5.cell? ⟨B1, 0, none⟩ = some _ := K5_0.out.cell 0
    have m0_1 : W5.cell? ⟨B1, 1, none⟩ = some _ := K5_0.out.cell 1
    have m0_2 : W5.cell? ⟨B1, 2, none⟩ = some _ := K5_0.out.cell 2
    have m0_3 : W5.cell? ⟨B1, 3, none⟩ = some _ := K5_0.out.cell 3
    have m0_4 : W5.cell? ⟨B1, 4, none⟩ = some _ := K5_0.out.cell 4
    have m0_5 : W5.cell? ⟨B1, 5, none⟩ = some _ := K5_0.out.cell 5
    have m0_6 : W5.cell? ⟨B1, 6, none⟩ = some _ := K5_0.out.cell 6
    have m0_7 : W5.cell? ⟨B1, 7, none⟩ = some _ := K5_0.out.cell 7
    have m0_8 : W5.cell? ⟨B1, 8, none⟩ = some _ := K5_0.out.cell 8
    have m0_9 : W5.cell? ⟨B1, 9, none⟩ = some _ := K5_0.out.cell 9
    have m0_10 : W5.cell? ⟨B1, 10, none⟩ = some _ := K5_0.out.cell 10
    have m0_11 : W5.cell? ⟨B1, 11, none⟩ = some _ := K5_0.out.cell 11
    have m0_12 : W5.cell? ⟨B1, 12, none⟩ = some _ := K5_0.out.cell 12
    have m0_13 : W5.cell? ⟨B1, 13, none⟩ = some _ := K5_0.out.cell 13
    have m0_14 : W5.cell? ⟨B1, 14, none⟩ = some _ := K5_0.out.cell 14
    have m0_15 : W5.cell? ⟨B1, 15, none⟩ = some _ := K5_0.out.cell 15
    have mlt0 : B1 < W5.heap.size := K5_0.out.lt
    go_wp2_with fail
    clear m0_0 m0_1 m0_2 m0_3 m0_4 m0_5 m0_6 m0_7 m0_8 m0_9 m0_10 m0_11 m0_12 m0_13 m0_14 m0_15 mlt0
    refine (fill_bad b sp g 4 2 _ va a pk ⟨v, r, x1, x, u, g9, a9, d, rsw, ppn⟩ lv pl _ F5.out HL.out).mono ?_
    rintro e w6 ⟨rfl, hb⟩
    have F6 := Lib.hid (F5.out.below hb)
    have L6 := Lib.hid (L5.out.trans (hb.mono L5.out.size))
    have K6_0 := Lib.hid (K5_0.out.below hb K5_0.out.lt)
    have K6_1 := Lib.hid (K5_1.out.below hb K5_1.out.lt)
    clear hb F5 K5_0 K5_1
    have m0_0 : w6.cell? ⟨B1, 0, none⟩ = some _ := K6_0.out.cell 0
    have m0_1 : w6.cell? ⟨B1, 1, none⟩ = some _ := K6_0.out.cell 1
    have m0_2 : w6.cell? ⟨B1, 2, none⟩ = some _ := K6_0.out.cell 2
    have m0_3 : w6.cell? ⟨B1, 3, none⟩ = some _ := K6_0.out.cell 3
    have m0_4 : w6.cell? ⟨B1, 4, none⟩ = some _ := K6_0.out.cell 4
    have m0_5 : w6.cell? ⟨B1, 5, none⟩ = some _ := K6_0.out.cell 5
    have m0_6 : w6.cell? ⟨B1, 6, none⟩ = some _ := K6_0.out.cell 6
    have m0_7 : w6.cell? ⟨B1, 7, none⟩ = some _ := K6_0.out.cell 7
    have m0_8 : w6.cell? ⟨B1, 8, none⟩ = some _ := K6_0.out.cell 8
    have m0_9 : w6.cell? ⟨B1, 9, none⟩ = some _ := K6_0.out.cell 9
    have m0_10 : w6.cell? ⟨B1, 10, none⟩ = some _ := K6_0.out.cell 10
    have m0_11 : w6.cell? ⟨B1, 11, none⟩ = some _ := K6_0.out.cell 11
    have m0_12 : w6.cell? ⟨B1, 12, none⟩ = some _ := K6_0.out.cell 12
    have m0_13 : w6.cell? ⟨B1, 13, none⟩ = some _ := K6_0.out.cell 13
    have m0_14 : w6.cell? ⟨B1, 14, none⟩ = some _ := K6_0.out.cell 14
    have m0_15 : w6.cell? ⟨B1, 15, none⟩ = some _ := K6_0.out.cell 15
    have mlt0 : B1 < w6.heap.size := K6_0.out.lt
    go_wp2
    clear m0_0 m0_1 m0_2 m0_3 m0_4 m0_5 m0_6 m0_7 m0_8 m0_9 m0_10 m0_11 m0_12 m0_13 m0_14 m0_15 mlt0
    go_ret
    exact ⟨rfl, L6.out⟩
  · go_enter Try.func3, Try.ntmps3
    go_upto_region 1 with (fail)
    have nb0 : Blk (w.alloc (.cells #[.int .i64 kd, .int .i64 a, .int .i64 pk, .int .u64 ova, .bool v, .bool r, .bool x1, .bool x, .bool u, .bool g9, .bool a9, .bool d, .int .i64 rsw, .int .u64 (ppn : Int), .int .i64 lv, .int .u64 (pl : Int)] 28)) (w.heap.size) [.int .i64 kd, .int .i64 a, .int .i64 pk, .int .u64 ova, .bool v, .bool r, .bool x1, .bool x, .bool u, .bool g9, .bool a9, .bool d, .int .i64 rsw, .int .u64 (ppn : Int), .int .i64 lv, .int .u64 (pl : Int)] 28 := Blk.new w [.int .i64 kd, .int .i64 a, .int .i64 pk, .int .u64 ova, .bool v, .bool r, .bool x1, .bool x, .bool u, .bool g9, .bool a9, .bool d, .int .i64 rsw, .int .u64 (ppn : Int), .int .i64 lv, .int .u64 (pl : Int)] 28
    have nls : Below w.heap.size w w := (Below.refl w.heap.size w)
    have nl0 := nls.alloc nls.size (.cells #[.int .i64 kd, .int .i64 a, .int .i64 pk, .int .u64 ova, .bool v, .bool r, .bool x1, .bool x, .bool u, .bool g9, .bool a9, .bool d, .int .i64 rsw, .int .u64 (ppn : Int), .int .i64 lv, .int .u64 (pl : Int)] 28)
    have nl : Below w.heap.size w (w.alloc (.cells #[.int .i64 kd, .int .i64 a, .int .i64 pk, .int .u64 ova, .bool v, .bool r, .bool x1, .bool x, .bool u, .bool g9, .bool a9, .bool d, .int .i64 rsw, .int .u64 (ppn : Int), .int .i64 lv, .int .u64 (pl : Int)] 28)) := nl0; clear nls nl0
    obtain ⟨B1, hB0⟩ : ∃ B, B = w.heap.size := ⟨_, rfl⟩
    obtain ⟨W1, hW⟩ : ∃ W, W = (w.alloc (.cells #[.int .i64 kd, .int .i64 a, .int .i64 pk, .int .u64 ova, .bool v, .bool r, .bool x1, .bool x, .bool u, .bool g9, .bool a9, .bool d, .int .i64 rsw, .int .u64 (ppn : Int), .int .i64 lv, .int .u64 (pl : Int)] 28)) := ⟨_, rfl⟩
    rw [← hW] at nl nb0
    rw [← hB0] at nb0
    rw [← hW]
    try rw [← hB0]
    have K1_0 := Lib.hid nb0
    have G1 : Hid (w.heap.size ≤ B1) := Lib.hid (by have := (Nat.le_refl w.heap.size); omega)
    have L1 := Lib.hid nl
    clear nl hW nb0 hB0
    go_wp2_with fail
    refine (first_any _).mono ?_
    rintro e w2 ⟨rfl, hb⟩
    have L2 := Lib.hid (L1.out.trans (hb.mono L1.out.size))
    have K2_0 := Lib.hid (K1_0.out.below hb K1_0.out.lt)
    clear hb K1_0
    go_wp2_with fail
    refine (hold_0 _).mono ?_
    rintro e w3 ⟨b, sp, g, rfl, hbuf, hfp, hb⟩
    have hbuf : Buf w3 b sp g 4 2 (fun _ _ => zw) := hbuf
    have F3 := Lib.hid hbuf; have HFP := Lib.hid hfp
    have L3 := Lib.hid (L2.out.trans (hb.mono L2.out.size))
    have HFP2 : Hid (∀ k, FpT b sp g 4 k → w.heap.size ≤ k) := Lib.hid (fun k hk => Nat.le_trans L2.out.size (HFP.out k hk))
    have K3_0 := Lib.hid (K2_0.out.below hb K2_0.out.lt)
    have nf1 : Hid (¬ FpT b sp g 4 B1) := Lib.hid (fun hf => by have := HFP.out _ hf; have := K2_0.out.lt; omega)
    clear hb hbuf hfp K2_0
    have m0_0 : w3.cell? ⟨B1, 0, none⟩ = some _ := K3_0.out.cell 0
    have m0_1 : w3.cell? ⟨B1, 1, none⟩ = some _ := K3_0.out.cell 1
    have m0_2 : w3.cell? ⟨B1, 2, none⟩ = some _ := K3_0.out.cell 2
    have m0_3 : w3.cell? ⟨B1, 3, none⟩ = some _ := K3_0.out.cell 3
    have m0_4 : w3.cell? ⟨B1, 4, none⟩ = some _ := K3_0.out.cell 4
    have m0_5 : w3.cell? ⟨B1, 5, none⟩ = some _ := K3_0.out.cell 5
    have m0_6 : w3.cell? ⟨B1, 6, none⟩ = some _ := K3_0.out.cell 6
    have m0_7 : w3.cell? ⟨B1, 7, none⟩ = some _ := K3_0.out.cell 7
    have m0_8 : w3.cell? ⟨B1, 8, none⟩ = some _ := K3_0.out.cell 8
    have m0_9 : w3.cell? ⟨B1, 9, none⟩ = some _ := K3_0.out.cell 9
    have m0_10 : w3.cell? ⟨B1, 10, none⟩ = some _ := K3_0.out.cell 10
    have m0_11 : w3.cell? ⟨B1, 11, none⟩ = some _ := K3_0.out.cell 11
    have m0_12 : w3.cell? ⟨B1, 12, none⟩ = some _ := K3_0.out.cell 12
    have m0_13 : w3.cell? ⟨B1, 13, none⟩ = some _ := K3_0.out.cell 13
    have m0_14 : w3.cell? ⟨B1, 14, none⟩ = some _ := K3_0.out.cell 14
    have m0_15 : w3.cell? ⟨B1, 15, none⟩ = some _ := K3_0.out.cell 15
    have mlt0 : B1 < w3.heap.size := K3_0.out.lt
    go_wp2_with fail
    clear m0_0 m0_1 m0_2 m0_3 m0_4 m0_5 m0_6 m0_7 m0_8 m0_9 m0_10 m0_11 m0_12 m0_13 m0_14 m0_15 mlt0
    refine (hold_1 F3.out HV.out).mono ?_
    rintro e w4 ⟨rfl, hb⟩
    have F4 := Lib.hid (F3.out.below hb)
    have L4 := Lib.hid (L3.out.trans (hb.mono L3.out.size))
    have K4_0 := Lib.hid (K3_0.out.below hb K3_0.out.lt)
    clear hb F3 K3_0
    go_upto_region 5 with (fail)
    have nb0 : Blk (w4.alloc (.cells #[.bool false, .bool false, .bool false, .bool false, .bool false, .bool false, .bool false, .bool false, .int .i64 0, .int .u64 0, .int .i64 0, .int .u64 0] 26)) (w4.heap.size) [.bool false, .bool false, .bool false, .bool false, .bool false, .bool false, .bool false, .bool false, .int .i64 0, .int .u64 0, .int .i64 0, .int .u64 0] 26 := Blk.new w4 [.bool false, .bool false, .bool false, .bool false, .bool false, .bool false, .bool false, .bool false, .int .i64 0, .int .u64 0, .int .i64 0, .int .u64 0] 26
    have nls : Below w.heap.size w w4 := L4.out
    have nl0 := nls.alloc nls.size (.cells #[.bool false, .bool false, .bool false, .bool false, .bool false, .bool false, .bool false, .bool false, .int .i64 0, .int .u64 0, .int .i64 0, .int .u64 0] 26)
    have nl : Below w.heap.size w (w4.alloc (.cells #[.bool false, .bool false, .bool false, .bool false, .bool false, .bool false, .bool false, .bool false, .int .i64 0, .int .u64 0, .int .i64 0, .int .u64 0] 26)) := nl0; clear nls nl0
    have o0 : Blk (w4.alloc (.cells #[.bool false, .bool false, .bool false, .bool false, .bool false, .bool false, .bool false, .bool false, .int .i64 0, .int .u64 0, .int .i64 0, .int .u64 0] 26)) B1 [.int .i64 kd, .int .i64 a, .int .i64 pk, .int .u64 ova, .bool v, .bool r, .bool x1, .bool x, .bool u, .bool g9, .bool a9, .bool d, .int .i64 rsw, .int .u64 (ppn : Int), .int .i64 lv, .int .u64 (pl : Int)] 28 := (K4_0.out.alloc (.cells #[.bool false, .bool false, .bool false, .bool false, .bool false, .bool false, .bool false, .bool false, .int .i64 0, .int .u64 0, .int .i64 0, .int .u64 0] 26))
    have d5_0 : B1 < w4.heap.size := K4_0.out.lt
    obtain ⟨B5, hB0⟩ : ∃ B, B = w4.heap.size := ⟨_, rfl⟩
    obtain ⟨W5, hW⟩ : ∃ W, W = (w4.alloc (.cells #[.bool false, .bool false, .bool false, .bool false, .bool false, .bool false, .bool false, .bool false, .int .i64 0, .int .u64 0, .int .i64 0, .int .u64 0] 26)) := ⟨_, rfl⟩
    rw [← hW] at nl nb0 o0
    rw [← hB0] at nb0
    rw [← hW]
    try rw [← hB0]
    have K5_0 := Lib.hid o0
    have K5_1 := Lib.hid nb0
    have G5 : Hid (w.heap.size ≤ B5) := Lib.hid (by have := L4.out.size; omega)
    have x5_0_0 : B1 ≠ B5 := by omega
    have X5_0_0 := Lib.hid x5_0_0; clear x5_0_0
    have F5 : Hid (Buf W5 b sp g 4 2 (fun _ _ => zw)) := Lib.hid (hW ▸ F4.out.below ((Below.refl w4.heap.size w4).alloc (by simp) (.cells #[.bool false, .bool false, .bool false, .bool false, .bool false, .bool false, .bool false, .bool false, .int .i64 0, .int .u64 0, .int .i64 0, .int .u64 0] 26)))
    have nf5 : Hid (¬ FpT b sp g 4 B5) := Lib.hid (fun hf => by have := F4.out.lt _ hf; omega)
    clear F4
    have L5 := Lib.hid nl
    clear nl hW nb0 hB0 o0 d5_0 K4_0
    have m0_0 : W5.cell? ⟨B1, 0, none⟩ = some _ := K5_0.out.cell 0
    have m0_1 : W5.cell? ⟨B1, 1, none⟩ = some _ := K5_0.out.cell 1
    have m0_2 : W5.cell? ⟨B1, 2, none⟩ = some _ := K5_0.out.cell 2
    have m0_3 : W5.cell? ⟨B1, 3, none⟩ = some _ := K5_0.out.cell 3
    have m0_4 : W5.cell? ⟨B1, 4, none⟩ = some _ := K5_0.out.cell 4
    have m0_5 : W5.cell? ⟨B1, 5, none⟩ = some _ := K5_0.out.cell 5
    have m0_6 : W5.cell? ⟨B1, 6, none⟩ = some _ := K5_0.out.cell 6
    have m0_7 : W5.cell? ⟨B1, 7, none⟩ = some _ := K5_0.out.cell 7
    have m0_8 : W5.cell? ⟨B1, 8, none⟩ = some _ := K5_0.out.cell 8
    have m0_9 : W5.cell? ⟨B1, 9, none⟩ = some _ := K5_0.out.cell 9
    have m0_10 : W5.cell? ⟨B1, 10, none⟩ = some _ := K5_0.out.cell 10
    have m0_11 : W5.cell? ⟨B1, 11, none⟩ = some _ := K5_0.out.cell 11
    have m0_12 : W5.cell? ⟨B1, 12, none⟩ = some _ := K5_0.out.cell 12
    have m0_13 : W5.cell? ⟨B1, 13, none⟩ = some _ := K5_0.out.cell 13
    have m0_14 : W5.cell? ⟨B1, 14, none⟩ = some _ := K5_0.out.cell 14
    have m0_15 : W5.cell? ⟨B1, 15, none⟩ = some _ := K5_0.out.cell 15
    have mlt0 : B1 < W5.heap.size := K5_0.out.lt
    go_wp2_with fail
    clear m0_0 m0_1 m0_2 m0_3 m0_4 m0_5 m0_6 m0_7 m0_8 m0_9 m0_10 m0_11 m0_12 m0_13 m0_14 m0_15 mlt0
    refine (fill_bad b sp g 4 2 _ va a pk ⟨v, r, x1, x, u, g9, a9, d, rsw, ppn⟩ lv pl _ F5.out HL.out).mono ?_
    rintro e w6 ⟨rfl, hb⟩
    have F6 := Lib.hid (F5.out.below hb)
    have L6 := Lib.hid (L5.out.trans (hb.mono L5.out.size))
    have K6_0 := Lib.hid (K5_0.out.below hb K5_0.out.lt)
    have K6_1 := Lib.hid (K5_1.out.below hb K5_1.out.lt)
    clear hb F5 K5_0 K5_1
    have m0_0 : w6.cell? ⟨B1, 0, none⟩ = some _ := K6_0.out.cell 0
    have m0_1 : w6.cell? ⟨B1, 1, none⟩ = some _ := K6_0.out.cell 1
    have m0_2 : w6.cell? ⟨B1, 2, none⟩ = some _ := K6_0.out.cell 2
    have m0_3 : w6.cell? ⟨B1, 3, none⟩ = some _ := K6_0.out.cell 3
    have m0_4 : w6.cell? ⟨B1, 4, none⟩ = some _ := K6_0.out.cell 4
    have m0_5 : w6.cell? ⟨B1, 5, none⟩ = some _ := K6_0.out.cell 5
    have m0_6 : w6.cell? ⟨B1, 6, none⟩ = some _ := K6_0.out.cell 6
    have m0_7 : w6.cell? ⟨B1, 7, none⟩ = some _ := K6_0.out.cell 7
    have m0_8 : w6.cell? ⟨B1, 8, none⟩ = some _ := K6_0.out.cell 8
    have m0_9 : w6.cell? ⟨B1, 9, none⟩ = some _ := K6_0.out.cell 9
    have m0_10 : w6.cell? ⟨B1, 10, none⟩ = some _ := K6_0.out.cell 10
    have m0_11 : w6.cell? ⟨B1, 11, none⟩ = some _ := K6_0.out.cell 11
    have m0_12 : w6.cell? ⟨B1, 12, none⟩ = some _ := K6_0.out.cell 12
    have m0_13 : w6.cell? ⟨B1, 13, none⟩ = some _ := K6_0.out.cell 13
    have m0_14 : w6.cell? ⟨B1, 14, none⟩ = some _ := K6_0.out.cell 14
    have m0_15 : w6.cell? ⟨B1, 15, none⟩ = some _ := K6_0.out.cell 15
    have mlt0 : B1 < w6.heap.size := K6_0.out.lt
    go_wp2
    clear m0_0 m0_1 m0_2 m0_3 m0_4 m0_5 m0_6 m0_7 m0_8 m0_9 m0_10 m0_11 m0_12 m0_13 m0_14 m0_15 mlt0
    go_ret
    exact ⟨rfl, L6.out⟩
set_option maxHeartbeats 8000000 in
theorem holds_true (kd a pk ova : Int) (va oth : Nat) (v r x1 x u a9 d : Bool) (rsw : Int) (ppn pl lv : Nat) (w : World) (hv : va < 18446744073709551616) (ho : oth < 18446744073709551616) (hl : lv < 3) (hp : -9223372036854775808 ≤ pk ∧ pk < 9223372036854775808) :
    Calls Try.prog 3 #[.int .u64 va, .int .u64 oth, .agg #[.int .i64 kd, .int .i64 a, .int .i64 pk, .int .u64 ova, .bool v, .bool r, .bool x1, .bool x, .bool u, .bool true, .bool a9, .bool d, .int .i64 rsw, .int .u64 (ppn : Int), .int .i64 (lv : Int), .int .u64 (pl : Int)]] w fun q w' => q = .returned (.bool true) ∧ Below w.heap.size w w' := by
  have hi := inP_lt va oth lv hl hv
  obtain ⟨I, hI⟩ : ∃ I, I = inP va oth lv := ⟨_, rfl⟩
  rw [← hI] at hi
  have e1 : IntKind.u64.wrap (4096 * 2 ^ (9 * lv)) = ((2 ^ (12 + 9 * lv) : Nat) : Int) := by
    have h3 : lv = 0 ∨ lv = 1 ∨ lv = 2 := by omega
    rcases h3 with rfl | rfl | rfl <;> decide
  have hS0 := Nat.two_pow_pos (12 + 9 * lv)
  have hI2 : I = va - va % 2 ^ (12 + 9 * lv) + oth % 2 ^ (12 + 9 * lv) := hI
  generalize 2 ^ (12 + 9 * lv) = S at e1 hS0 hI2
  have hva := Nat.mod_le va S
  have r1 : (va : Int).tmod (S : Int) = ((va % S : Nat) : Int) := by rw [Int.tmod_eq_emod_of_nonneg (by omega)]; rfl
  have r2 : (oth : Int).tmod (S : Int) = ((oth % S : Nat) : Int) := by rw [Int.tmod_eq_emod_of_nonneg (by omega)]; rfl
  generalize va % S = V at *
  generalize oth % S = O at *
  have r3 : IntKind.u64.wrap ((va : Int) - (V : Int)) = ((va - V : Nat) : Int) := by rw [wrap_u64B]; omega
  obtain ⟨D, hD⟩ : ∃ D, D = va - V := ⟨_, rfl⟩
  rw [← hD] at r3 hI2
  have r4 : IntKind.u64.wrap ((D : Int) + (O : Int)) = (I : Int) := by rw [wrap_u64B]; omega
  have s0 : (S : Int) ≠ 0 := by omega
  clear hD hva hI2
  have HL := Lib.hid hl; have HV := Lib.hid hv; have HP := Lib.hid hp; have HI := Lib.hid hI; have HIL := Lib.hid hi; clear hi hI
  go_enter Try.func3, Try.ntmps3
  go_upto_region 1 with (fail)
  have nb0 : Blk (w.alloc (.cells #[.int .i64 kd, .int .i64 a, .int .i64 pk, .int .u64 ova, .bool v, .bool r, .bool x1, .bool x, .bool u, .bool true, .bool a9, .bool d, .int .i64 rsw, .int .u64 (ppn : Int), .int .i64 (lv : Int), .int .u64 (pl : Int)] 28)) (w.heap.size) [.int .i64 kd, .int .i64 a, .int .i64 pk, .int .u64 ova, .bool v, .bool r, .bool x1, .bool x, .bool u, .bool true, .bool a9, .bool d, .int .i64 rsw, .int .u64 (ppn : Int), .int .i64 (lv : Int), .int .u64 (pl : Int)] 28 := Blk.new w [.int .i64 kd, .int .i64 a, .int .i64 pk, .int .u64 ova, .bool v, .bool r, .bool x1, .bool x, .bool u, .bool true, .bool a9, .bool d, .int .i64 rsw, .int .u64 (ppn : Int), .int .i64 (lv : Int), .int .u64 (pl : Int)] 28
  have nls : Below w.heap.size w w := (Below.refl w.heap.size w)
  have nl0 := nls.alloc nls.size (.cells #[.int .i64 kd, .int .i64 a, .int .i64 pk, .int .u64 ova, .bool v, .bool r, .bool x1, .bool x, .bool u, .bool true, .bool a9, .bool d, .int .i64 rsw, .int .u64 (ppn : Int), .int .i64 (lv : Int), .int .u64 (pl : Int)] 28)
  have nl : Below w.heap.size w (w.alloc (.cells #[.int .i64 kd, .int .i64 a, .int .i64 pk, .int .u64 ova, .bool v, .bool r, .bool x1, .bool x, .bool u, .bool true, .bool a9, .bool d, .int .i64 rsw, .int .u64 (ppn : Int), .int .i64 (lv : Int), .int .u64 (pl : Int)] 28)) := nl0; clear nls nl0
  obtain ⟨B1, hB0⟩ : ∃ B, B = w.heap.size := ⟨_, rfl⟩
  obtain ⟨W1, hW⟩ : ∃ W, W = (w.alloc (.cells #[.int .i64 kd, .int .i64 a, .int .i64 pk, .int .u64 ova, .bool v, .bool r, .bool x1, .bool x, .bool u, .bool true, .bool a9, .bool d, .int .i64 rsw, .int .u64 (ppn : Int), .int .i64 (lv : Int), .int .u64 (pl : Int)] 28)) := ⟨_, rfl⟩
  rw [← hW] at nl nb0
  rw [← hB0] at nb0
  rw [← hW]
  try rw [← hB0]
  have K1_0 := Lib.hid nb0
  have G1 : Hid (w.heap.size ≤ B1) := Lib.hid (by have := (Nat.le_refl w.heap.size); omega)
  have L1 := Lib.hid nl
  clear nl hW nb0 hB0
  go_wp2_with fail
  refine (first_any _).mono ?_
  rintro e w2 ⟨rfl, hb⟩
  have L2 := Lib.hid (L1.out.trans (hb.mono L1.out.size))
  have K2_0 := Lib.hid (K1_0.out.below hb K1_0.out.lt)
  clear hb K1_0
  go_wp2_with fail
  refine (hold_0 _).mono ?_
  rintro e w3 ⟨b, sp, g, rfl, hbuf, hfp, hb⟩
  have hbuf : Buf w3 b sp g 4 2 (fun _ _ => zw) := hbuf
  have F3 := Lib.hid hbuf; have HFP := Lib.hid hfp
  have L3 := Lib.hid (L2.out.trans (hb.mono L2.out.size))
  have HFP2 : Hid (∀ k, FpT b sp g 4 k → w.heap.size ≤ k) := Lib.hid (fun k hk => Nat.le_trans L2.out.size (HFP.out k hk))
  have K3_0 := Lib.hid (K2_0.out.below hb K2_0.out.lt)
  have nf1 : Hid (¬ FpT b sp g 4 B1) := Lib.hid (fun hf => by have := HFP.out _ hf; have := K2_0.out.lt; omega)
  clear hb hbuf hfp K2_0
  have m0_0 : w3.cell? ⟨B1, 0, none⟩ = some _ := K3_0.out.cell 0
  have m0_1 : w3.cell? ⟨B1, 1, none⟩ = some _ := K3_0.out.cell 1
  have m0_2 : w3.cell? ⟨B1, 2, none⟩ = some _ := K3_0.out.cell 2
  have m0_3 : w3.cell? ⟨B1, 3, none⟩ = some _ := K3_0.out.cell 3
  have m0_4 : w3.cell? ⟨B1, 4, none⟩ = some _ := K3_0.out.cell 4
  have m0_5 : w3.cell? ⟨B1, 5, none⟩ = some _ := K3_0.out.cell 5
  have m0_6 : w3.cell? ⟨B1, 6, none⟩ = some _ := K3_0.out.cell 6
  have m0_7 : w3.cell? ⟨B1, 7, none⟩ = some _ := K3_0.out.cell 7
  have m0_8 : w3.cell? ⟨B1, 8, none⟩ = some _ := K3_0.out.cell 8
  have m0_9 : w3.cell? ⟨B1, 9, none⟩ = some _ := K3_0.out.cell 9
  have m0_10 : w3.cell? ⟨B1, 10, none⟩ = some _ := K3_0.out.cell 10
  have m0_11 : w3.cell? ⟨B1, 11, none⟩ = some _ := K3_0.out.cell 11
  have m0_12 : w3.cell? ⟨B1, 12, none⟩ = some _ := K3_0.out.cell 12
  have m0_13 : w3.cell? ⟨B1, 13, none⟩ = some _ := K3_0.out.cell 13
  have m0_14 : w3.cell? ⟨B1, 14, none⟩ = some _ := K3_0.out.cell 14
  have m0_15 : w3.cell? ⟨B1, 15, none⟩ = some _ := K3_0.out.cell 15
  have mlt0 : B1 < w3.heap.size := K3_0.out.lt
  go_wp2_with fail
  clear m0_0 m0_1 m0_2 m0_3 m0_4 m0_5 m0_6 m0_7 m0_8 m0_9 m0_10 m0_11 m0_12 m0_13 m0_14 m0_15 mlt0
  refine (hold_1 F3.out HV.out).mono ?_
  rintro e w4 ⟨rfl, hb⟩
  have F4 := Lib.hid (F3.out.below hb)
  have L4 := Lib.hid (L3.out.trans (hb.mono L3.out.size))
  have K4_0 := Lib.hid (K3_0.out.below hb K3_0.out.lt)
  clear hb F3 K3_0
  go_upto_region 5 with (fail)
  have nb0 : Blk (w4.alloc (.cells #[.bool false, .bool false, .bool false, .bool false, .bool false, .bool false, .bool false, .bool false, .int .i64 0, .int .u64 0, .int .i64 0, .int .u64 0] 26)) (w4.heap.size) [.bool false, .bool false, .bool false, .bool false, .bool false, .bool false, .bool false, .bool false, .int .i64 0, .int .u64 0, .int .i64 0, .int .u64 0] 26 := Blk.new w4 [.bool false, .bool false, .bool false, .bool false, .bool false, .bool false, .bool false, .bool false, .int .i64 0, .int .u64 0, .int .i64 0, .int .u64 0] 26
  have nls : Below w.heap.size w w4 := L4.out
  have nl0 := nls.alloc nls.size (.cells #[.bool false, .bool false, .bool false, .bool false, .bool false, .bool false, .bool false, .bool false, .int .i64 0, .int .u64 0, .int .i64 0, .int .u64 0] 26)
  have nl : Below w.heap.size w (w4.alloc (.cells #[.bool false, .bool false, .bool false, .bool false, .bool false, .bool false, .bool false, .bool false, .int .i64 0, .int .u64 0, .int .i64 0, .int .u64 0] 26)) := nl0; clear nls nl0
  have o0 : Blk (w4.alloc (.cells #[.bool false, .bool false, .bool false, .bool false, .bool false, .bool false, .bool false, .bool false, .int .i64 0, .int .u64 0, .int .i64 0, .int .u64 0] 26)) B1 [.int .i64 kd, .int .i64 a, .int .i64 pk, .int .u64 ova, .bool v, .bool r, .bool x1, .bool x, .bool u, .bool true, .bool a9, .bool d, .int .i64 rsw, .int .u64 (ppn : Int), .int .i64 (lv : Int), .int .u64 (pl : Int)] 28 := (K4_0.out.alloc (.cells #[.bool false, .bool false, .bool false, .bool false, .bool false, .bool false, .bool false, .bool false, .int .i64 0, .int .u64 0, .int .i64 0, .int .u64 0] 26))
  have d5_0 : B1 < w4.heap.size := K4_0.out.lt
  obtain ⟨B5, hB0⟩ : ∃ B, B = w4.heap.size := ⟨_, rfl⟩
  obtain ⟨W5, hW⟩ : ∃ W, W = (w4.alloc (.cells #[.bool false, .bool false, .bool false, .bool false, .bool false, .bool false, .bool false, .bool false, .int .i64 0, .int .u64 0, .int .i64 0, .int .u64 0] 26)) := ⟨_, rfl⟩
  rw [← hW] at nl nb0 o0
  rw [← hB0] at nb0
  rw [← hW]
  try rw [← hB0]
  have K5_0 := Lib.hid o0
  have K5_1 := Lib.hid nb0
  have G5 : Hid (w.heap.size ≤ B5) := Lib.hid (by have := L4.out.size; omega)
  have x5_0_0 : B1 ≠ B5 := by omega
  have X5_0_0 := Lib.hid x5_0_0; clear x5_0_0
  have F5 : Hid (Buf W5 b sp g 4 2 (fun _ _ => zw)) := Lib.hid (hW ▸ F4.out.below ((Below.refl w4.heap.size w4).alloc (by simp) (.cells #[.bool false, .bool false, .bool false, .bool false, .bool false, .bool false, .bool false, .bool false, .int .i64 0, .int .u64 0, .int .i64 0, .int .u64 0] 26)))
  have nf5 : Hid (¬ FpT b sp g 4 B5) := Lib.hid (fun hf => by have := F4.out.lt _ hf; omega)
  clear F4
  have L5 := Lib.hid nl
  clear nl hW nb0 hB0 o0 d5_0 K4_0
  have m0_0 : W5.cell? ⟨B1, 0, none⟩ = some _ := K5_0.out.cell 0
  have m0_1 : W5.cell? ⟨B1, 1, none⟩ = some _ := K5_0.out.cell 1
  have m0_2 : W5.cell? ⟨B1, 2, none⟩ = some _ := K5_0.out.cell 2
  have m0_3 : W5.cell? ⟨B1, 3, none⟩ = some _ := K5_0.out.cell 3
  have m0_4 : W5.cell? ⟨B1, 4, none⟩ = some _ := K5_0.out.cell 4
  have m0_5 : W5.cell? ⟨B1, 5, none⟩ = some _ := K5_0.out.cell 5
  have m0_6 : W5.cell? ⟨B1, 6, none⟩ = some _ := K5_0.out.cell 6
  have m0_7 : W5.cell? ⟨B1, 7, none⟩ = some _ := K5_0.out.cell 7
  have m0_8 : W5.cell? ⟨B1, 8, none⟩ = some _ := K5_0.out.cell 8
  have m0_9 : W5.cell? ⟨B1, 9, none⟩ = some _ := K5_0.out.cell 9
  have m0_10 : W5.cell? ⟨B1, 10, none⟩ = some _ := K5_0.out.cell 10
  have m0_11 : W5.cell? ⟨B1, 11, none⟩ = some _ := K5_0.out.cell 11
  have m0_12 : W5.cell? ⟨B1, 12, none⟩ = some _ := K5_0.out.cell 12
  have m0_13 : W5.cell? ⟨B1, 13, none⟩ = some _ := K5_0.out.cell 13
  have m0_14 : W5.cell? ⟨B1, 14, none⟩ = some _ := K5_0.out.cell 14
  have m0_15 : W5.cell? ⟨B1, 15, none⟩ = some _ := K5_0.out.cell 15
  have mlt0 : B1 < W5.heap.size := K5_0.out.lt
  go_wp2_with fail
  clear m0_0 m0_1 m0_2 m0_3 m0_4 m0_5 m0_6 m0_7 m0_8 m0_9 m0_10 m0_11 m0_12 m0_13 m0_14 m0_15 mlt0
  refine (hold_2 F5.out HV.out HL.out HP.out).mono ?_
  rintro e w6 ⟨rfl, hbuf, hb⟩
  have hbuf : Buf w6 b sp g 4 2 (one1 (numN va lv % 4) ⟨true, a, numN va lv, ⟨⟨v, r, x1, x, u, true, a9, d, rsw, ppn⟩, lv, pl⟩⟩) := hbuf
  have F6 := Lib.hid hbuf
  have L6 := Lib.hid (L5.out.trans (hb.below L5.out.size (fun k hk hf => by have := HFP2.out k hf; omega)))
  have K6_0 := Lib.hid (K5_0.out.chg hb nf1.out)
  have K6_1 := Lib.hid (K5_1.out.chg hb nf5.out)
  clear hb hbuf F5 K5_0 K5_1
  have m0_0 : w6.cell? ⟨B1, 0, none⟩ = some _ := K6_0.out.cell 0
  have m0_1 : w6.cell? ⟨B1, 1, none⟩ = some _ := K6_0.out.cell 1
  have m0_2 : w6.cell? ⟨B1, 2, none⟩ = some _ := K6_0.out.cell 2
  have m0_3 : w6.cell? ⟨B1, 3, none⟩ = some _ := K6_0.out.cell 3
  have m0_4 : w6.cell? ⟨B1, 4, none⟩ = some _ := K6_0.out.cell 4
  have m0_5 : w6.cell? ⟨B1, 5, none⟩ = some _ := K6_0.out.cell 5
  have m0_6 : w6.cell? ⟨B1, 6, none⟩ = some _ := K6_0.out.cell 6
  have m0_7 : w6.cell? ⟨B1, 7, none⟩ = some _ := K6_0.out.cell 7
  have m0_8 : w6.cell? ⟨B1, 8, none⟩ = some _ := K6_0.out.cell 8
  have m0_9 : w6.cell? ⟨B1, 9, none⟩ = some _ := K6_0.out.cell 9
  have m0_10 : w6.cell? ⟨B1, 10, none⟩ = some _ := K6_0.out.cell 10
  have m0_11 : w6.cell? ⟨B1, 11, none⟩ = some _ := K6_0.out.cell 11
  have m0_12 : w6.cell? ⟨B1, 12, none⟩ = some _ := K6_0.out.cell 12
  have m0_13 : w6.cell? ⟨B1, 13, none⟩ = some _ := K6_0.out.cell 13
  have m0_14 : w6.cell? ⟨B1, 14, none⟩ = some _ := K6_0.out.cell 14
  have m0_15 : w6.cell? ⟨B1, 15, none⟩ = some _ := K6_0.out.cell 15
  have mlt0 : B1 < w6.heap.size := K6_0.out.lt
  go_wp2
  clear m0_0 m0_1 m0_2 m0_3 m0_4 m0_5 m0_6 m0_7 m0_8 m0_9 m0_10 m0_11 m0_12 m0_13 m0_14 m0_15 mlt0
  go_quiet (fail)
  obtain ⟨D7, hD⟩ : ∃ x, x = w6.drewN nq := ⟨_, rfl⟩
  rw [← hD]
  have K7_0 := Lib.hid (show Blk D7 B1 [.int .i64 kd, .int .i64 a, .int .i64 pk, .int .u64 ova, .bool v, .bool r, .bool x1, .bool x, .bool u, .bool true, .bool a9, .bool d, .int .i64 rsw, .int .u64 (ppn : Int), .int .i64 (lv : Int), .int .u64 (pl : Int)] 28 from hD ▸ Blk.drewN K6_0.out nq)
  have K7_1 := Lib.hid (show Blk D7 B5 [.bool false, .bool false, .bool false, .bool false, .bool false, .bool false, .bool false, .bool false, .int .i64 0, .int .u64 0, .int .i64 0, .int .u64 0] 26 from hD ▸ Blk.drewN K6_1.out nq)
  have F7 : Hid (Buf D7 b sp g 4 2 (one1 (numN va lv % 4) ⟨true, a, numN va lv, ⟨⟨v, r, x1, x, u, true, a9, d, rsw, ppn⟩, lv, pl⟩⟩)) := Lib.hid (hD ▸ F6.out.drewN nq)
  have L7 := Lib.hid (show Below w.heap.size w D7 from hD ▸ below_drewNsB L6.out nq)
  clear hD F6 K6_0 K6_1
  have m0_0 : D7.cell? ⟨B1, 0, none⟩ = some _ := K7_0.out.cell 0
  have m0_1 : D7.cell? ⟨B1, 1, none⟩ = some _ := K7_0.out.cell 1
  have m0_2 : D7.cell? ⟨B1, 2, none⟩ = some _ := K7_0.out.cell 2
  have m0_3 : D7.cell? ⟨B1, 3, none⟩ = some _ := K7_0.out.cell 3
  have m0_4 : D7.cell? ⟨B1, 4, none⟩ = some _ := K7_0.out.cell 4
  have m0_5 : D7.cell? ⟨B1, 5, none⟩ = some _ := K7_0.out.cell 5
  have m0_6 : D7.cell? ⟨B1, 6, none⟩ = some _ := K7_0.out.cell 6
  have m0_7 : D7.cell? ⟨B1, 7, none⟩ = some _ := K7_0.out.cell 7
  have m0_8 : D7.cell? ⟨B1, 8, none⟩ = some _ := K7_0.out.cell 8
  have m0_9 : D7.cell? ⟨B1, 9, none⟩ = some _ := K7_0.out.cell 9
  have m0_10 : D7.cell? ⟨B1, 10, none⟩ = some _ := K7_0.out.cell 10
  have m0_11 : D7.cell? ⟨B1, 11, none⟩ = some _ := K7_0.out.cell 11
  have m0_12 : D7.cell? ⟨B1, 12, none⟩ = some _ := K7_0.out.cell 12
  have m0_13 : D7.cell? ⟨B1, 13, none⟩ = some _ := K7_0.out.cell 13
  have m0_14 : D7.cell? ⟨B1, 14, none⟩ = some _ := K7_0.out.cell 14
  have m0_15 : D7.cell? ⟨B1, 15, none⟩ = some _ := K7_0.out.cell 15
  have mlt0 : B1 < D7.heap.size := K7_0.out.lt
  go_wp2_with fail
  clear m0_0 m0_1 m0_2 m0_3 m0_4 m0_5 m0_6 m0_7 m0_8 m0_9 m0_10 m0_11 m0_12 m0_13 m0_14 m0_15 mlt0
  refine (hold_3 F7.out HIL.out HL.out HI.out).mono ?_
  rintro e w8 ⟨rfl, hb⟩
  have F8 := Lib.hid (F7.out.below hb)
  have L8 := Lib.hid (L7.out.trans (hb.mono L7.out.size))
  have K8_0 := Lib.hid (K7_0.out.below hb K7_0.out.lt)
  have K8_1 := Lib.hid (K7_1.out.below hb K7_1.out.lt)
  clear hb F7 K7_0 K7_1
  go_upto_region 10 with (fail)
  have nb0 : Blk (w8.alloc (.cells #[.bool v, .bool r, .bool x1, .bool x, .bool u, .bool true, .bool a9, .bool d, .int .i64 rsw, .int .u64 (ppn : Int), .int .i64 (lv : Int), .int .u64 (pl : Int)] 26)) (w8.heap.size) [.bool v, .bool r, .bool x1, .bool x, .bool u, .bool true, .bool a9, .bool d, .int .i64 rsw, .int .u64 (ppn : Int), .int .i64 (lv : Int), .int .u64 (pl : Int)] 26 := Blk.new w8 [.bool v, .bool r, .bool x1, .bool x, .bool u, .bool true, .bool a9, .bool d, .int .i64 rsw, .int .u64 (ppn : Int), .int .i64 (lv : Int), .int .u64 (pl : Int)] 26
  have nls : Below w.heap.size w w8 := L8.out
  have nl0 := nls.alloc nls.size (.cells #[.bool v, .bool r, .bool x1, .bool x, .bool u, .bool true, .bool a9, .bool d, .int .i64 rsw, .int .u64 (ppn : Int), .int .i64 (lv : Int), .int .u64 (pl : Int)] 26)
  have nl : Below w.heap.size w (w8.alloc (.cells #[.bool v, .bool r, .bool x1, .bool x, .bool u, .bool true, .bool a9, .bool d, .int .i64 rsw, .int .u64 (ppn : Int), .int .i64 (lv : Int), .int .u64 (pl : Int)] 26)) := nl0; clear nls nl0
  have o0 : Blk (w8.alloc (.cells #[.bool v, .bool r, .bool x1, .bool x, .bool u, .bool true, .bool a9, .bool d, .int .i64 rsw, .int .u64 (ppn : Int), .int .i64 (lv : Int), .int .u64 (pl : Int)] 26)) B1 [.int .i64 kd, .int .i64 a, .int .i64 pk, .int .u64 ova, .bool v, .bool r, .bool x1, .bool x, .bool u, .bool true, .bool a9, .bool d, .int .i64 rsw, .int .u64 (ppn : Int), .int .i64 (lv : Int), .int .u64 (pl : Int)] 28 := (K8_0.out.alloc (.cells #[.bool v, .bool r, .bool x1, .bool x, .bool u, .bool true, .bool a9, .bool d, .int .i64 rsw, .int .u64 (ppn : Int), .int .i64 (lv : Int), .int .u64 (pl : Int)] 26))
  have d9_0 : B1 < w8.heap.size := K8_0.out.lt
  have o1 : Blk (w8.alloc (.cells #[.bool v, .bool r, .bool x1, .bool x, .bool u, .bool true, .bool a9, .bool d, .int .i64 rsw, .int .u64 (ppn : Int), .int .i64 (lv : Int), .int .u64 (pl : Int)] 26)) B5 [.bool false, .bool false, .bool false, .bool false, .bool false, .bool false, .bool false, .bool false, .int .i64 0, .int .u64 0, .int .i64 0, .int .u64 0] 26 := (K8_1.out.alloc (.cells #[.bool v, .bool r, .bool x1, .bool x, .bool u, .bool true, .bool a9, .bool d, .int .i64 rsw, .int .u64 (ppn : Int), .int .i64 (lv : Int), .int .u64 (pl : Int)] 26))
  have d9_1 : B5 < w8.heap.size := K8_1.out.lt
  obtain ⟨B9, hB0⟩ : ∃ B, B = w8.heap.size := ⟨_, rfl⟩
  obtain ⟨W9, hW⟩ : ∃ W, W = (w8.alloc (.cells #[.bool v, .bool r, .bool x1, .bool x, .bool u, .bool true, .bool a9, .bool d, .int .i64 rsw, .int .u64 (ppn : Int), .int .i64 (lv : Int), .int .u64 (pl : Int)] 26)) := ⟨_, rfl⟩
  rw [← hW] at nl nb0 o0 o1
  rw [← hB0] at nb0
  rw [← hW]
  try rw [← hB0]
  have K9_0 := Lib.hid o0
  have K9_1 := Lib.hid o1
  have K9_2 := Lib.hid nb0
  have G9 : Hid (w.heap.size ≤ B9) := Lib.hid (by have := L8.out.size; omega)
  have x9_0_0 : B1 ≠ B9 := by omega
  have x9_1_0 : B5 ≠ B9 := by omega
  have X9_0_0 := Lib.hid x9_0_0; clear x9_0_0
  have X9_1_0 := Lib.hid x9_1_0; clear x9_1_0
  have F9 : Hid (Buf W9 b sp g 4 2 (one1 (numN va lv % 4) ⟨true, a, numN va lv, ⟨⟨v, r, x1, x, u, true, a9, d, rsw, ppn⟩, lv, pl⟩⟩)) := Lib.hid (hW ▸ F8.out.below ((Below.refl w8.heap.size w8).alloc (by simp) (.cells #[.bool v, .bool r, .bool x1, .bool x, .bool u, .bool true, .bool a9, .bool d, .int .i64 rsw, .int .u64 (ppn : Int), .int .i64 (lv : Int), .int .u64 (pl : Int)] 26)))
  have nf9 : Hid (¬ FpT b sp g 4 B9) := Lib.hid (fun hf => by have := F8.out.lt _ hf; omega)
  clear F8
  have L9 := Lib.hid nl
  clear nl hW nb0 hB0 o0 d9_0 o1 d9_1 K8_0 K8_1
  have m0_0 : W9.cell? ⟨B1, 0, none⟩ = some _ := K9_0.out.cell 0
  have m0_1 : W9.cell? ⟨B1, 1, none⟩ = some _ := K9_0.out.cell 1
  have m0_2 : W9.cell? ⟨B1, 2, none⟩ = some _ := K9_0.out.cell 2
  have m0_3 : W9.cell? ⟨B1, 3, none⟩ = some _ := K9_0.out.cell 3
  have m0_4 : W9.cell? ⟨B1, 4, none⟩ = some _ := K9_0.out.cell 4
  have m0_5 : W9.cell? ⟨B1, 5, none⟩ = some _ := K9_0.out.cell 5
  have m0_6 : W9.cell? ⟨B1, 6, none⟩ = some _ := K9_0.out.cell 6
  have m0_7 : W9.cell? ⟨B1, 7, none⟩ = some _ := K9_0.out.cell 7
  have m0_8 : W9.cell? ⟨B1, 8, none⟩ = some _ := K9_0.out.cell 8
  have m0_9 : W9.cell? ⟨B1, 9, none⟩ = some _ := K9_0.out.cell 9
  have m0_10 : W9.cell? ⟨B1, 10, none⟩ = some _ := K9_0.out.cell 10
  have m0_11 : W9.cell? ⟨B1, 11, none⟩ = some _ := K9_0.out.cell 11
  have m0_12 : W9.cell? ⟨B1, 12, none⟩ = some _ := K9_0.out.cell 12
  have m0_13 : W9.cell? ⟨B1, 13, none⟩ = some _ := K9_0.out.cell 13
  have m0_14 : W9.cell? ⟨B1, 14, none⟩ = some _ := K9_0.out.cell 14
  have m0_15 : W9.cell? ⟨B1, 15, none⟩ = some _ := K9_0.out.cell 15
  have mlt0 : B1 < W9.heap.size := K9_0.out.lt
  have m2_0 : W9.cell? ⟨B9, 0, none⟩ = some _ := K9_2.out.cell 0
  have m2_1 : W9.cell? ⟨B9, 1, none⟩ = some _ := K9_2.out.cell 1
  have m2_2 : W9.cell? ⟨B9, 2, none⟩ = some _ := K9_2.out.cell 2
  have m2_3 : W9.cell? ⟨B9, 3, none⟩ = some _ := K9_2.out.cell 3
  have m2_4 : W9.cell? ⟨B9, 4, none⟩ = some _ := K9_2.out.cell 4
  have m2_5 : W9.cell? ⟨B9, 5, none⟩ = some _ := K9_2.out.cell 5
  have m2_6 : W9.cell? ⟨B9, 6, none⟩ = some _ := K9_2.out.cell 6
  have m2_7 : W9.cell? ⟨B9, 7, none⟩ = some _ := K9_2.out.cell 7
  have m2_8 : W9.cell? ⟨B9, 8, none⟩ = some _ := K9_2.out.cell 8
  have m2_9 : W9.cell? ⟨B9, 9, none⟩ = some _ := K9_2.out.cell 9
  have m2_10 : W9.cell? ⟨B9, 10, none⟩ = some _ := K9_2.out.cell 10
  have m2_11 : W9.cell? ⟨B9, 11, none⟩ = some _ := K9_2.out.cell 11
  have mlt2 : B9 < W9.heap.size := K9_2.out.lt
  go_wp2_with fail
  clear m0_0 m0_1 m0_2 m0_3 m0_4 m0_5 m0_6 m0_7 m0_8 m0_9 m0_10 m0_11 m0_12 m0_13 m0_14 m0_15 mlt0 m2_0 m2_1 m2_2 m2_3 m2_4 m2_5 m2_6 m2_7 m2_8 m2_9 m2_10 m2_11 mlt2
  refine (hold_4t F9.out HIL.out HL.out HI.out).mono ?_
  rintro e w10 ⟨rfl, hb⟩
  have F10 := Lib.hid (F9.out.below hb)
  have L10 := Lib.hid (L9.out.trans (hb.mono L9.out.size))
  have K10_0 := Lib.hid (K9_0.out.below hb K9_0.out.lt)
  have K10_1 := Lib.hid (K9_1.out.below hb K9_1.out.lt)
  have K10_2 := Lib.hid (K9_2.out.below hb K9_2.out.lt)
  clear hb F9 K9_0 K9_1 K9_2
  go_upto_region 13 with (fail)
  have nb0 : Blk (w10.alloc (.cells #[.bool v, .bool r, .bool x1, .bool x, .bool u, .bool true, .bool a9, .bool d, .int .i64 rsw, .int .u64 (ppn : Int), .int .i64 (lv : Int), .int .u64 (pl : Int)] 26)) (w10.heap.size) [.bool v, .bool r, .bool x1, .bool x, .bool u, .bool true, .bool a9, .bool d, .int .i64 rsw, .int .u64 (ppn : Int), .int .i64 (lv : Int), .int .u64 (pl : Int)] 26 := Blk.new w10 [.bool v, .bool r, .bool x1, .bool x, .bool u, .bool true, .bool a9, .bool d, .int .i64 rsw, .int .u64 (ppn : Int), .int .i64 (lv : Int), .int .u64 (pl : Int)] 26
  have nls : Below w.heap.size w w10 := L10.out
  have nl0 := nls.alloc nls.size (.cells #[.bool v, .bool r, .bool x1, .bool x, .bool u, .bool true, .bool a9, .bool d, .int .i64 rsw, .int .u64 (ppn : Int), .int .i64 (lv : Int), .int .u64 (pl : Int)] 26)
  have nl : Below w.heap.size w (w10.alloc (.cells #[.bool v, .bool r, .bool x1, .bool x, .bool u, .bool true, .bool a9, .bool d, .int .i64 rsw, .int .u64 (ppn : Int), .int .i64 (lv : Int), .int .u64 (pl : Int)] 26)) := nl0; clear nls nl0
  have o0 : Blk (w10.alloc (.cells #[.bool v, .bool r, .bool x1, .bool x, .bool u, .bool true, .bool a9, .bool d, .int .i64 rsw, .int .u64 (ppn : Int), .int .i64 (lv : Int), .int .u64 (pl : Int)] 26)) B1 [.int .i64 kd, .int .i64 a, .int .i64 pk, .int .u64 ova, .bool v, .bool r, .bool x1, .bool x, .bool u, .bool true, .bool a9, .bool d, .int .i64 rsw, .int .u64 (ppn : Int), .int .i64 (lv : Int), .int .u64 (pl : Int)] 28 := (K10_0.out.alloc (.cells #[.bool v, .bool r, .bool x1, .bool x, .bool u, .bool true, .bool a9, .bool d, .int .i64 rsw, .int .u64 (ppn : Int), .int .i64 (lv : Int), .int .u64 (pl : Int)] 26))
  have d11_0 : B1 < w10.heap.size := K10_0.out.lt
  have o1 : Blk (w10.alloc (.cells #[.bool v, .bool r, .bool x1, .bool x, .bool u, .bool true, .bool a9, .bool d, .int .i64 rsw, .int .u64 (ppn : Int), .int .i64 (lv : Int), .int .u64 (pl : Int)] 26)) B5 [.bool false, .bool false, .bool false, .bool false, .bool false, .bool false, .bool false, .bool false, .int .i64 0, .int .u64 0, .int .i64 0, .int .u64 0] 26 := (K10_1.out.alloc (.cells #[.bool v, .bool r, .bool x1, .bool x, .bool u, .bool true, .bool a9, .bool d, .int .i64 rsw, .int .u64 (ppn : Int), .int .i64 (lv : Int), .int .u64 (pl : Int)] 26))
  have d11_1 : B5 < w10.heap.size := K10_1.out.lt
  have o2 : Blk (w10.alloc (.cells #[.bool v, .bool r, .bool x1, .bool x, .bool u, .bool true, .bool a9, .bool d, .int .i64 rsw, .int .u64 (ppn : Int), .int .i64 (lv : Int), .int .u64 (pl : Int)] 26)) B9 [.bool v, .bool r, .bool x1, .bool x, .bool u, .bool true, .bool a9, .bool d, .int .i64 rsw, .int .u64 (ppn : Int), .int .i64 (lv : Int), .int .u64 (pl : Int)] 26 := (K10_2.out.alloc (.cells #[.bool v, .bool r, .bool x1, .bool x, .bool u, .bool true, .bool a9, .bool d, .int .i64 rsw, .int .u64 (ppn : Int), .int .i64 (lv : Int), .int .u64 (pl : Int)] 26))
  have d11_2 : B9 < w10.heap.size := K10_2.out.lt
  obtain ⟨B11, hB0⟩ : ∃ B, B = w10.heap.size := ⟨_, rfl⟩
  obtain ⟨W11, hW⟩ : ∃ W, W = (w10.alloc (.cells #[.bool v, .bool r, .bool x1, .bool x, .bool u, .bool true, .bool a9, .bool d, .int .i64 rsw, .int .u64 (ppn : Int), .int .i64 (lv : Int), .int .u64 (pl : Int)] 26)) := ⟨_, rfl⟩
  rw [← hW] at nl nb0 o0 o1 o2
  rw [← hB0] at nb0
  rw [← hW]
  try rw [← hB0]
  have K11_0 := Lib.hid o0
  have K11_1 := Lib.hid o1
  have K11_2 := Lib.hid o2
  have K11_3 := Lib.hid nb0
  have G11 : Hid (w.heap.size ≤ B11) := Lib.hid (by have := L10.out.size; omega)
  have x11_0_0 : B1 ≠ B11 := by omega
  have x11_1_0 : B5 ≠ B11 := by omega
  have x11_2_0 : B9 ≠ B11 := by omega
  have X11_0_0 := Lib.hid x11_0_0; clear x11_0_0
  have X11_1_0 := Lib.hid x11_1_0; clear x11_1_0
  have X11_2_0 := Lib.hid x11_2_0; clear x11_2_0
  have F11 : Hid (Buf W11 b sp g 4 2 (one1 (numN va lv % 4) ⟨true, a, numN va lv, ⟨⟨v, r, x1, x, u, true, a9, d, rsw, ppn⟩, lv, pl⟩⟩)) := Lib.hid (hW ▸ F10.out.below ((Below.refl w10.heap.size w10).alloc (by simp) (.cells #[.bool v, .bool r, .bool x1, .bool x, .bool u, .bool true, .bool a9, .bool d, .int .i64 rsw, .int .u64 (ppn : Int), .int .i64 (lv : Int), .int .u64 (pl : Int)] 26)))
  have nf11 : Hid (¬ FpT b sp g 4 B11) := Lib.hid (fun hf => by have := F10.out.lt _ hf; omega)
  clear F10
  have L11 := Lib.hid nl
  clear nl hW nb0 hB0 o0 d11_0 o1 d11_1 o2 d11_2 K10_0 K10_1 K10_2
  have m0_0 : W11.cell? ⟨B1, 0, none⟩ = some _ := K11_0.out.cell 0
  have m0_1 : W11.cell? ⟨B1, 1, none⟩ = some _ := K11_0.out.cell 1
  have m0_2 : W11.cell? ⟨B1, 2, none⟩ = some _ := K11_0.out.cell 2
  have m0_3 : W11.cell? ⟨B1, 3, none⟩ = some _ := K11_0.out.cell 3
  have m0_4 : W11.cell? ⟨B1, 4, none⟩ = some _ := K11_0.out.cell 4
  have m0_5 : W11.cell? ⟨B1, 5, none⟩ = some _ := K11_0.out.cell 5
  have m0_6 : W11.cell? ⟨B1, 6, none⟩ = some _ := K11_0.out.cell 6
  have m0_7 : W11.cell? ⟨B1, 7, none⟩ = some _ := K11_0.out.cell 7
  have m0_8 : W11.cell? ⟨B1, 8, none⟩ = some _ := K11_0.out.cell 8
  have m0_9 : W11.cell? ⟨B1, 9, none⟩ = some _ := K11_0.out.cell 9
  have m0_10 : W11.cell? ⟨B1, 10, none⟩ = some _ := K11_0.out.cell 10
  have m0_11 : W11.cell? ⟨B1, 11, none⟩ = some _ := K11_0.out.cell 11
  have m0_12 : W11.cell? ⟨B1, 12, none⟩ = some _ := K11_0.out.cell 12
  have m0_13 : W11.cell? ⟨B1, 13, none⟩ = some _ := K11_0.out.cell 13
  have m0_14 : W11.cell? ⟨B1, 14, none⟩ = some _ := K11_0.out.cell 14
  have m0_15 : W11.cell? ⟨B1, 15, none⟩ = some _ := K11_0.out.cell 15
  have mlt0 : B1 < W11.heap.size := K11_0.out.lt
  go_wp2_with fail
  clear m0_0 m0_1 m0_2 m0_3 m0_4 m0_5 m0_6 m0_7 m0_8 m0_9 m0_10 m0_11 m0_12 m0_13 m0_14 m0_15 mlt0
  have nb0 : Blk (W11.alloc (.cells #[.int .u64 (I : Int)] 22)) (W11.heap.size) [.int .u64 (I : Int)] 22 := Blk.new W11 [.int .u64 (I : Int)] 22
  replace nb0 := nb0.alloc (.cells #[.int .i64 (bits .xor .i64 a 1)] 3)
  have nb1 : Blk ((W11.alloc (.cells #[.int .u64 (I : Int)] 22)).alloc (.cells #[.int .i64 (bits .xor .i64 a 1)] 3)) (W11.heap.size + 1) [.int .i64 (bits .xor .i64 a 1)] 3 := Blk.nextn (W11.alloc (.cells #[.int .u64 (I : Int)] 22)) (W11.heap.size + 1) [.int .i64 (bits .xor .i64 a 1)] 3 (by simp)
  have nls : Below w.heap.size w W11 := L11.out
  have nl0 := nls.alloc nls.size (.cells #[.int .u64 (I : Int)] 22)
  have nl1 := nl0.alloc nl0.size (.cells #[.int .i64 (bits .xor .i64 a 1)] 3)
  have nl : Below w.heap.size w ((W11.alloc (.cells #[.int .u64 (I : Int)] 22)).alloc (.cells #[.int .i64 (bits .xor .i64 a 1)] 3)) := nl1; clear nls nl0 nl1
  have o0 : Blk ((W11.alloc (.cells #[.int .u64 (I : Int)] 22)).alloc (.cells #[.int .i64 (bits .xor .i64 a 1)] 3)) B1 [.int .i64 kd, .int .i64 a, .int .i64 pk, .int .u64 ova, .bool v, .bool r, .bool x1, .bool x, .bool u, .bool true, .bool a9, .bool d, .int .i64 rsw, .int .u64 (ppn : Int), .int .i64 (lv : Int), .int .u64 (pl : Int)] 28 := ((K11_0.out.alloc (.cells #[.int .u64 (I : Int)] 22)).alloc (.cells #[.int .i64 (bits .xor .i64 a 1)] 3))
  have d12_0 : B1 < W11.heap.size := K11_0.out.lt
  have o1 : Blk ((W11.alloc (.cells #[.int .u64 (I : Int)] 22)).alloc (.cells #[.int .i64 (bits .xor .i64 a 1)] 3)) B5 [.bool false, .bool false, .bool false, .bool false, .bool false, .bool false, .bool false, .bool false, .int .i64 0, .int .u64 0, .int .i64 0, .int .u64 0] 26 := ((K11_1.out.alloc (.cells #[.int .u64 (I : Int)] 22)).alloc (.cells #[.int .i64 (bits .xor .i64 a 1)] 3))
  have d12_1 : B5 < W11.heap.size := K11_1.out.lt
  have o2 : Blk ((W11.alloc (.cells #[.int .u64 (I : Int)] 22)).alloc (.cells #[.int .i64 (bits .xor .i64 a 1)] 3)) B9 [.bool v, .bool r, .bool x1, .bool x, .bool u, .bool true, .bool a9, .bool d, .int .i64 rsw, .int .u64 (ppn : Int), .int .i64 (lv : Int), .int .u64 (pl : Int)] 26 := ((K11_2.out.alloc (.cells #[.int .u64 (I : Int)] 22)).alloc (.cells #[.int .i64 (bits .xor .i64 a 1)] 3))
  have d12_2 : B9 < W11.heap.size := K11_2.out.lt
  have o3 : Blk ((W11.alloc (.cells #[.int .u64 (I : Int)] 22)).alloc (.cells #[.int .i64 (bits .xor .i64 a 1)] 3)) B11 [.bool v, .bool r, .bool x1, .bool x, .bool u, .bool true, .bool a9, .bool d, .int .i64 rsw, .int .u64 (ppn : Int), .int .i64 (lv : Int), .int .u64 (pl : Int)] 26 := ((K11_3.out.alloc (.cells #[.int .u64 (I : Int)] 22)).alloc (.cells #[.int .i64 (bits .xor .i64 a 1)] 3))
  have d12_3 : B11 < W11.heap.size := K11_3.out.lt
  obtain ⟨B12_1, hB1⟩ : ∃ B, B = W11.heap.size + 1 := ⟨_, rfl⟩
  obtain ⟨B12_0, hB0⟩ : ∃ B, B = W11.heap.size := ⟨_, rfl⟩
  obtain ⟨W12, hW⟩ : ∃ W, W = ((W11.alloc (.cells #[.int .u64 (I : Int)] 22)).alloc (.cells #[.int .i64 (bits .xor .i64 a 1)] 3)) := ⟨_, rfl⟩
  rw [← hW] at nl nb0 nb1 o0 o1 o2 o3
  rw [← hB1] at nb1
  rw [← hB0] at nb0
  rw [← hW]
  try rw [← hB1]
  try rw [← hB0]
  have K12_0 := Lib.hid o0
  have K12_1 := Lib.hid o1
  have K12_2 := Lib.hid o2
  have K12_3 := Lib.hid o3
  have K12_4 := Lib.hid nb0
  have G12_0 : Hid (w.heap.size ≤ B12_0) := Lib.hid (by have := L11.out.size; omega)
  have x12_0_0 : B1 ≠ B12_0 := by omega
  have x12_1_0 : B5 ≠ B12_0 := by omega
  have x12_2_0 : B9 ≠ B12_0 := by omega
  have x12_3_0 : B11 ≠ B12_0 := by omega
  have K12_5 := Lib.hid nb1
  have G12_1 : Hid (w.heap.size ≤ B12_1) := Lib.hid (by have := L11.out.size; omega)
  have x12_0_1 : B1 ≠ B12_1 := by omega
  have x12_1_1 : B5 ≠ B12_1 := by omega
  have x12_2_1 : B9 ≠ B12_1 := by omega
  have x12_3_1 : B11 ≠ B12_1 := by omega
  have y12_0_1 : B12_0 ≠ B12_1 := by omega
  have X12_0_0 := Lib.hid x12_0_0; clear x12_0_0
  have X12_0_1 := Lib.hid x12_0_1; clear x12_0_1
  have X12_1_0 := Lib.hid x12_1_0; clear x12_1_0
  have X12_1_1 := Lib.hid x12_1_1; clear x12_1_1
  have X12_2_0 := Lib.hid x12_2_0; clear x12_2_0
  have X12_2_1 := Lib.hid x12_2_1; clear x12_2_1
  have X12_3_0 := Lib.hid x12_3_0; clear x12_3_0
  have X12_3_1 := Lib.hid x12_3_1; clear x12_3_1
  have Y12_0_1 := Lib.hid y12_0_1; clear y12_0_1
  have F12 : Hid (Buf W12 b sp g 4 2 (one1 (numN va lv % 4) ⟨true, a, numN va lv, ⟨⟨v, r, x1, x, u, true, a9, d, rsw, ppn⟩, lv, pl⟩⟩)) := Lib.hid (hW ▸ F11.out.below (((Below.refl W11.heap.size W11).alloc (by simp) (.cells #[.int .u64 (I : Int)] 22)).alloc (by simp) (.cells #[.int .i64 (bits .xor .i64 a 1)] 3)))
  have nf12_0 : Hid (¬ FpT b sp g 4 B12_0) := Lib.hid (fun hf => by have := F11.out.lt _ hf; omega)
  have nf12_1 : Hid (¬ FpT b sp g 4 B12_1) := Lib.hid (fun hf => by have := F11.out.lt _ hf; omega)
  clear F11
  have L12 := Lib.hid nl
  clear nl hW nb0 hB0 nb1 hB1 o0 d12_0 o1 d12_1 o2 d12_2 o3 d12_3 K11_0 K11_1 K11_2 K11_3
  refine (hold_5 F12.out HIL.out K12_4.out nf12_0.out K12_5.out nf12_1.out).mono ?_
  rintro e w13 ⟨rfl, hbuf, hb⟩
  have hbuf : Buf w13 b sp g 4 2 (one1 (numN va lv % 4) ⟨true, a, numN va lv, ⟨⟨v, r, x1, x, u, true, a9, d, rsw, ppn⟩, lv, pl⟩⟩) := hbuf
  have F13 := Lib.hid hbuf
  have L13 := Lib.hid (L12.out.trans (hb.below L12.out.size (fun k hk hf => by have := HFP2.out k hf; omega)))
  have K13_0 := Lib.hid (K12_0.out.chg hb nf1.out)
  have K13_1 := Lib.hid (K12_1.out.chg hb nf5.out)
  have K13_2 := Lib.hid (K12_2.out.chg hb nf9.out)
  have K13_3 := Lib.hid (K12_3.out.chg hb nf11.out)
  have K13_4 := Lib.hid (K12_4.out.chg hb nf12_0.out)
  have K13_5 := Lib.hid (K12_5.out.chg hb nf12_1.out)
  clear hb hbuf F12 K12_0 K12_1 K12_2 K12_3 K12_4 K12_5
  go_wp2_with fail
  have nb0 : Blk (w13.alloc (.cells #[.int .u64 (I : Int)] 22)) (w13.heap.size) [.int .u64 (I : Int)] 22 := Blk.new w13 [.int .u64 (I : Int)] 22
  have nls : Below w.heap.size w w13 := L13.out
  have nl0 := nls.alloc nls.size (.cells #[.int .u64 (I : Int)] 22)
  have nl : Below w.heap.size w (w13.alloc (.cells #[.int .u64 (I : Int)] 22)) := nl0; clear nls nl0
  have o0 : Blk (w13.alloc (.cells #[.int .u64 (I : Int)] 22)) B1 [.int .i64 kd, .int .i64 a, .int .i64 pk, .int .u64 ova, .bool v, .bool r, .bool x1, .bool x, .bool u, .bool true, .bool a9, .bool d, .int .i64 rsw, .int .u64 (ppn : Int), .int .i64 (lv : Int), .int .u64 (pl : Int)] 28 := (K13_0.out.alloc (.cells #[.int .u64 (I : Int)] 22))
  have d14_0 : B1 < w13.heap.size := K13_0.out.lt
  have o1 : Blk (w13.alloc (.cells #[.int .u64 (I : Int)] 22)) B5 [.bool false, .bool false, .bool false, .bool false, .bool false, .bool false, .bool false, .bool false, .int .i64 0, .int .u64 0, .int .i64 0, .int .u64 0] 26 := (K13_1.out.alloc (.cells #[.int .u64 (I : Int)] 22))
  have d14_1 : B5 < w13.heap.size := K13_1.out.lt
  have o2 : Blk (w13.alloc (.cells #[.int .u64 (I : Int)] 22)) B9 [.bool v, .bool r, .bool x1, .bool x, .bool u, .bool true, .bool a9, .bool d, .int .i64 rsw, .int .u64 (ppn : Int), .int .i64 (lv : Int), .int .u64 (pl : Int)] 26 := (K13_2.out.alloc (.cells #[.int .u64 (I : Int)] 22))
  have d14_2 : B9 < w13.heap.size := K13_2.out.lt
  have o3 : Blk (w13.alloc (.cells #[.int .u64 (I : Int)] 22)) B11 [.bool v, .bool r, .bool x1, .bool x, .bool u, .bool true, .bool a9, .bool d, .int .i64 rsw, .int .u64 (ppn : Int), .int .i64 (lv : Int), .int .u64 (pl : Int)] 26 := (K13_3.out.alloc (.cells #[.int .u64 (I : Int)] 22))
  have d14_3 : B11 < w13.heap.size := K13_3.out.lt
  have o4 : Blk (w13.alloc (.cells #[.int .u64 (I : Int)] 22)) B12_0 [.int .u64 (I : Int)] 22 := (K13_4.out.alloc (.cells #[.int .u64 (I : Int)] 22))
  have d14_4 : B12_0 < w13.heap.size := K13_4.out.lt
  have o5 : Blk (w13.alloc (.cells #[.int .u64 (I : Int)] 22)) B12_1 [.int .i64 (bits .xor .i64 a 1)] 3 := (K13_5.out.alloc (.cells #[.int .u64 (I : Int)] 22))
  have d14_5 : B12_1 < w13.heap.size := K13_5.out.lt
  obtain ⟨B14, hB0⟩ : ∃ B, B = w13.heap.size := ⟨_, rfl⟩
  obtain ⟨W14, hW⟩ : ∃ W, W = (w13.alloc (.cells #[.int .u64 (I : Int)] 22)) := ⟨_, rfl⟩
  rw [← hW] at nl nb0 o0 o1 o2 o3 o4 o5
  rw [← hB0] at nb0
  rw [← hW]
  try rw [← hB0]
  have K14_0 := Lib.hid o0
  have K14_1 := Lib.hid o1
  have K14_2 := Lib.hid o2
  have K14_3 := Lib.hid o3
  have K14_4 := Lib.hid o4
  have K14_5 := Lib.hid o5
  have K14_6 := Lib.hid nb0
  have G14 : Hid (w.heap.size ≤ B14) := Lib.hid (by have := L13.out.size; omega)
  have x14_0_0 : B1 ≠ B14 := by omega
  have x14_1_0 : B5 ≠ B14 := by omega
  have x14_2_0 : B9 ≠ B14 := by omega
  have x14_3_0 : B11 ≠ B14 := by omega
  have x14_4_0 : B12_0 ≠ B14 := by omega
  have x14_5_0 : B12_1 ≠ B14 := by omega
  have X14_0_0 := Lib.hid x14_0_0; clear x14_0_0
  have X14_1_0 := Lib.hid x14_1_0; clear x14_1_0
  have X14_2_0 := Lib.hid x14_2_0; clear x14_2_0
  have X14_3_0 := Lib.hid x14_3_0; clear x14_3_0
  have X14_4_0 := Lib.hid x14_4_0; clear x14_4_0
  have X14_5_0 := Lib.hid x14_5_0; clear x14_5_0
  have F14 : Hid (Buf W14 b sp g 4 2 (one1 (numN va lv % 4) ⟨true, a, numN va lv, ⟨⟨v, r, x1, x, u, true, a9, d, rsw, ppn⟩, lv, pl⟩⟩)) := Lib.hid (hW ▸ F13.out.below ((Below.refl w13.heap.size w13).alloc (by simp) (.cells #[.int .u64 (I : Int)] 22)))
  have nf14 : Hid (¬ FpT b sp g 4 B14) := Lib.hid (fun hf => by have := F13.out.lt _ hf; omega)
  clear F13
  have L14 := Lib.hid nl
  clear nl hW nb0 hB0 o0 d14_0 o1 d14_1 o2 d14_2 o3 d14_3 o4 d14_4 o5 d14_5 K13_0 K13_1 K13_2 K13_3 K13_4 K13_5
  refine (hold_6 F14.out HIL.out HL.out HI.out K14_6.out nf14.out).mono ?_
  rintro e w15 ⟨rfl, hbuf, hb⟩
  have hbuf : Buf w15 b sp g 4 2 (fun _ _ => zw) := hbuf
  have F15 := Lib.hid hbuf
  have L15 := Lib.hid (L14.out.trans (hb.below L14.out.size (fun k hk hf => by have := HFP2.out k hf; omega)))
  have K15_0 := Lib.hid (K14_0.out.chg hb nf1.out)
  have K15_1 := Lib.hid (K14_1.out.chg hb nf5.out)
  have K15_2 := Lib.hid (K14_2.out.chg hb nf9.out)
  have K15_3 := Lib.hid (K14_3.out.chg hb nf11.out)
  have K15_4 := Lib.hid (K14_4.out.chg hb nf12_0.out)
  have K15_5 := Lib.hid (K14_5.out.chg hb nf12_1.out)
  have K15_6 := Lib.hid (K14_6.out.chg hb nf14.out)
  clear hb hbuf F14 K14_0 K14_1 K14_2 K14_3 K14_4 K14_5 K14_6
  have m0_0 : w15.cell? ⟨B1, 0, none⟩ = some _ := K15_0.out.cell 0
  have m0_1 : w15.cell? ⟨B1, 1, none⟩ = some _ := K15_0.out.cell 1
  have m0_2 : w15.cell? ⟨B1, 2, none⟩ = some _ := K15_0.out.cell 2
  have m0_3 : w15.cell? ⟨B1, 3, none⟩ = some _ := K15_0.out.cell 3
  have m0_4 : w15.cell? ⟨B1, 4, none⟩ = some _ := K15_0.out.cell 4
  have m0_5 : w15.cell? ⟨B1, 5, none⟩ = some _ := K15_0.out.cell 5
  have m0_6 : w15.cell? ⟨B1, 6, none⟩ = some _ := K15_0.out.cell 6
  have m0_7 : w15.cell? ⟨B1, 7, none⟩ = some _ := K15_0.out.cell 7
  have m0_8 : w15.cell? ⟨B1, 8, none⟩ = some _ := K15_0.out.cell 8
  have m0_9 : w15.cell? ⟨B1, 9, none⟩ = some _ := K15_0.out.cell 9
  have m0_10 : w15.cell? ⟨B1, 10, none⟩ = some _ := K15_0.out.cell 10
  have m0_11 : w15.cell? ⟨B1, 11, none⟩ = some _ := K15_0.out.cell 11
  have m0_12 : w15.cell? ⟨B1, 12, none⟩ = some _ := K15_0.out.cell 12
  have m0_13 : w15.cell? ⟨B1, 13, none⟩ = some _ := K15_0.out.cell 13
  have m0_14 : w15.cell? ⟨B1, 14, none⟩ = some _ := K15_0.out.cell 14
  have m0_15 : w15.cell? ⟨B1, 15, none⟩ = some _ := K15_0.out.cell 15
  have mlt0 : B1 < w15.heap.size := K15_0.out.lt
  go_wp2_with fail
  clear m0_0 m0_1 m0_2 m0_3 m0_4 m0_5 m0_6 m0_7 m0_8 m0_9 m0_10 m0_11 m0_12 m0_13 m0_14 m0_15 mlt0
  refine (hold_1 F15.out HV.out).mono ?_
  rintro e w16 ⟨rfl, hb⟩
  have F16 := Lib.hid (F15.out.below hb)
  have L16 := Lib.hid (L15.out.trans (hb.mono L15.out.size))
  have K16_0 := Lib.hid (K15_0.out.below hb K15_0.out.lt)
  have K16_1 := Lib.hid (K15_1.out.below hb K15_1.out.lt)
  have K16_2 := Lib.hid (K15_2.out.below hb K15_2.out.lt)
  have K16_3 := Lib.hid (K15_3.out.below hb K15_3.out.lt)
  have K16_4 := Lib.hid (K15_4.out.below hb K15_4.out.lt)
  have K16_5 := Lib.hid (K15_5.out.below hb K15_5.out.lt)
  have K16_6 := Lib.hid (K15_6.out.below hb K15_6.out.lt)
  clear hb F15 K15_0 K15_1 K15_2 K15_3 K15_4 K15_5 K15_6
  go_upto_region 17 with (fail)
  have nb0 : Blk (w16.alloc (.cells #[.bool false, .bool false, .bool false, .bool false, .bool false, .bool false, .bool false, .bool false, .int .i64 0, .int .u64 0, .int .i64 0, .int .u64 0] 26)) (w16.heap.size) [.bool false, .bool false, .bool false, .bool false, .bool false, .bool false, .bool false, .bool false, .int .i64 0, .int .u64 0, .int .i64 0, .int .u64 0] 26 := Blk.new w16 [.bool false, .bool false, .bool false, .bool false, .bool false, .bool false, .bool false, .bool false, .int .i64 0, .int .u64 0, .int .i64 0, .int .u64 0] 26
  have nls : Below w.heap.size w w16 := L16.out
  have nl0 := nls.alloc nls.size (.cells #[.bool false, .bool false, .bool false, .bool false, .bool false, .bool false, .bool false, .bool false, .int .i64 0, .int .u64 0, .int .i64 0, .int .u64 0] 26)
  have nl : Below w.heap.size w (w16.alloc (.cells #[.bool false, .bool false, .bool false, .bool false, .bool false, .bool false, .bool false, .bool false, .int .i64 0, .int .u64 0, .int .i64 0, .int .u64 0] 26)) := nl0; clear nls nl0
  have o0 : Blk (w16.alloc (.cells #[.bool false, .bool false, .bool false, .bool false, .bool false, .bool false, .bool false, .bool false, .int .i64 0, .int .u64 0, .int .i64 0, .int .u64 0] 26)) B1 [.int .i64 kd, .int .i64 a, .int .i64 pk, .int .u64 ova, .bool v, .bool r, .bool x1, .bool x, .bool u, .bool true, .bool a9, .bool d, .int .i64 rsw, .int .u64 (ppn : Int), .int .i64 (lv : Int), .int .u64 (pl : Int)] 28 := (K16_0.out.alloc (.cells #[.bool false, .bool false, .bool false, .bool false, .bool false, .bool false, .bool false, .bool false, .int .i64 0, .int .u64 0, .int .i64 0, .int .u64 0] 26))
  have d17_0 : B1 < w16.heap.size := K16_0.out.lt
  have o1 : Blk (w16.alloc (.cells #[.bool false, .bool false, .bool false, .bool false, .bool false, .bool false, .bool false, .bool false, .int .i64 0, .int .u64 0, .int .i64 0, .int .u64 0] 26)) B5 [.bool false, .bool false, .bool false, .bool false, .bool false, .bool false, .bool false, .bool false, .int .i64 0, .int .u64 0, .int .i64 0, .int .u64 0] 26 := (K16_1.out.alloc (.cells #[.bool false, .bool false, .bool false, .bool false, .bool false, .bool false, .bool false, .bool false, .int .i64 0, .int .u64 0, .int .i64 0, .int .u64 0] 26))
  have d17_1 : B5 < w16.heap.size := K16_1.out.lt
  have o2 : Blk (w16.alloc (.cells #[.bool false, .bool false, .bool false, .bool false, .bool false, .bool false, .bool false, .bool false, .int .i64 0, .int .u64 0, .int .i64 0, .int .u64 0] 26)) B9 [.bool v, .bool r, .bool x1, .bool x, .bool u, .bool true, .bool a9, .bool d, .int .i64 rsw, .int .u64 (ppn : Int), .int .i64 (lv : Int), .int .u64 (pl : Int)] 26 := (K16_2.out.alloc (.cells #[.bool false, .bool false, .bool false, .bool false, .bool false, .bool false, .bool false, .bool false, .int .i64 0, .int .u64 0, .int .i64 0, .int .u64 0] 26))
  have d17_2 : B9 < w16.heap.size := K16_2.out.lt
  have o3 : Blk (w16.alloc (.cells #[.bool false, .bool false, .bool false, .bool false, .bool false, .bool false, .bool false, .bool false, .int .i64 0, .int .u64 0, .int .i64 0, .int .u64 0] 26)) B11 [.bool v, .bool r, .bool x1, .bool x, .bool u, .bool true, .bool a9, .bool d, .int .i64 rsw, .int .u64 (ppn : Int), .int .i64 (lv : Int), .int .u64 (pl : Int)] 26 := (K16_3.out.alloc (.cells #[.bool false, .bool false, .bool false, .bool false, .bool false, .bool false, .bool false, .bool false, .int .i64 0, .int .u64 0, .int .i64 0, .int .u64 0] 26))
  have d17_3 : B11 < w16.heap.size := K16_3.out.lt
  have o4 : Blk (w16.alloc (.cells #[.bool false, .bool false, .bool false, .bool false, .bool false, .bool false, .bool false, .bool false, .int .i64 0, .int .u64 0, .int .i64 0, .int .u64 0] 26)) B12_0 [.int .u64 (I : Int)] 22 := (K16_4.out.alloc (.cells #[.bool false, .bool false, .bool false, .bool false, .bool false, .bool false, .bool false, .bool false, .int .i64 0, .int .u64 0, .int .i64 0, .int .u64 0] 26))
  have d17_4 : B12_0 < w16.heap.size := K16_4.out.lt
  have o5 : Blk (w16.alloc (.cells #[.bool false, .bool false, .bool false, .bool false, .bool false, .bool false, .bool false, .bool false, .int .i64 0, .int .u64 0, .int .i64 0, .int .u64 0] 26)) B12_1 [.int .i64 (bits .xor .i64 a 1)] 3 := (K16_5.out.alloc (.cells #[.bool false, .bool false, .bool false, .bool false, .bool false, .bool false, .bool false, .bool false, .int .i64 0, .int .u64 0, .int .i64 0, .int .u64 0] 26))
  have d17_5 : B12_1 < w16.heap.size := K16_5.out.lt
  have o6 : Blk (w16.alloc (.cells #[.bool false, .bool false, .bool false, .bool false, .bool false, .bool false, .bool false, .bool false, .int .i64 0, .int .u64 0, .int .i64 0, .int .u64 0] 26)) B14 [.int .u64 (I : Int)] 22 := (K16_6.out.alloc (.cells #[.bool false, .bool false, .bool false, .bool false, .bool false, .bool false, .bool false, .bool false, .int .i64 0, .int .u64 0, .int .i64 0, .int .u64 0] 26))
  have d17_6 : B14 < w16.heap.size := K16_6.out.lt
  obtain ⟨B17, hB0⟩ : ∃ B, B = w16.heap.size := ⟨_, rfl⟩
  obtain ⟨W17, hW⟩ : ∃ W, W = (w16.alloc (.cells #[.bool false, .bool false, .bool false, .bool false, .bool false, .bool false, .bool false, .bool false, .int .i64 0, .int .u64 0, .int .i64 0, .int .u64 0] 26)) := ⟨_, rfl⟩
  rw [← hW] at nl nb0 o0 o1 o2 o3 o4 o5 o6
  rw [← hB0] at nb0
  rw [← hW]
  try rw [← hB0]
  have K17_0 := Lib.hid o0
  have K17_1 := Lib.hid o1
  have K17_2 := Lib.hid o2
  have K17_3 := Lib.hid o3
  have K17_4 := Lib.hid o4
  have K17_5 := Lib.hid o5
  have K17_6 := Lib.hid o6
  have K17_7 := Lib.hid nb0
  have G17 : Hid (w.heap.size ≤ B17) := Lib.hid (by have := L16.out.size; omega)
  have x17_0_0 : B1 ≠ B17 := by omega
  have x17_1_0 : B5 ≠ B17 := by omega
  have x17_2_0 : B9 ≠ B17 := by omega
  have x17_3_0 : B11 ≠ B17 := by omega
  have x17_4_0 : B12_0 ≠ B17 := by omega
  have x17_5_0 : B12_1 ≠ B17 := by omega
  have x17_6_0 : B14 ≠ B17 := by omega
  have X17_0_0 := Lib.hid x17_0_0; clear x17_0_0
  have X17_1_0 := Lib.hid x17_1_0; clear x17_1_0
  have X17_2_0 := Lib.hid x17_2_0; clear x17_2_0
  have X17_3_0 := Lib.hid x17_3_0; clear x17_3_0
  have X17_4_0 := Lib.hid x17_4_0; clear x17_4_0
  have X17_5_0 := Lib.hid x17_5_0; clear x17_5_0
  have X17_6_0 := Lib.hid x17_6_0; clear x17_6_0
  have F17 : Hid (Buf W17 b sp g 4 2 (fun _ _ => zw)) := Lib.hid (hW ▸ F16.out.below ((Below.refl w16.heap.size w16).alloc (by simp) (.cells #[.bool false, .bool false, .bool false, .bool false, .bool false, .bool false, .bool false, .bool false, .int .i64 0, .int .u64 0, .int .i64 0, .int .u64 0] 26)))
  have nf17 : Hid (¬ FpT b sp g 4 B17) := Lib.hid (fun hf => by have := F16.out.lt _ hf; omega)
  clear F16
  have L17 := Lib.hid nl
  clear nl hW nb0 hB0 o0 d17_0 o1 d17_1 o2 d17_2 o3 d17_3 o4 d17_4 o5 d17_5 o6 d17_6 K16_0 K16_1 K16_2 K16_3 K16_4 K16_5 K16_6
  go_wp2_with fail
  refine (hold_8 F17.out).mono ?_
  rintro e w18 ⟨rfl, hb⟩
  have F18 := Lib.hid (F17.out.below hb)
  have L18 := Lib.hid (L17.out.trans (hb.mono L17.out.size))
  have K18_0 := Lib.hid (K17_0.out.below hb K17_0.out.lt)
  have K18_1 := Lib.hid (K17_1.out.below hb K17_1.out.lt)
  have K18_2 := Lib.hid (K17_2.out.below hb K17_2.out.lt)
  have K18_3 := Lib.hid (K17_3.out.below hb K17_3.out.lt)
  have K18_4 := Lib.hid (K17_4.out.below hb K17_4.out.lt)
  have K18_5 := Lib.hid (K17_5.out.below hb K17_5.out.lt)
  have K18_6 := Lib.hid (K17_6.out.below hb K17_6.out.lt)
  have K18_7 := Lib.hid (K17_7.out.below hb K17_7.out.lt)
  clear hb F17 K17_0 K17_1 K17_2 K17_3 K17_4 K17_5 K17_6 K17_7
  go_wp2
  go_ret
  exact ⟨rfl, L18.out⟩
set_option maxHeartbeats 8000000 in
theorem holds_false (kd a pk ova : Int) (va oth : Nat) (v r x1 x u a9 d : Bool) (rsw : Int) (ppn pl lv : Nat) (w : World) (hv : va < 18446744073709551616) (ho : oth < 18446744073709551616) (hl : lv < 3) (hp : -9223372036854775808 ≤ pk ∧ pk < 9223372036854775808) :
    Calls Try.prog 3 #[.int .u64 va, .int .u64 oth, .agg #[.int .i64 kd, .int .i64 a, .int .i64 pk, .int .u64 ova, .bool v, .bool r, .bool x1, .bool x, .bool u, .bool false, .bool a9, .bool d, .int .i64 rsw, .int .u64 (ppn : Int), .int .i64 (lv : Int), .int .u64 (pl : Int)]] w fun q w' => q = .returned (.bool true) ∧ Below w.heap.size w w' := by
  have hi := inP_lt va oth lv hl hv
  obtain ⟨I, hI⟩ : ∃ I, I = inP va oth lv := ⟨_, rfl⟩
  rw [← hI] at hi
  have e1 : IntKind.u64.wrap (4096 * 2 ^ (9 * lv)) = ((2 ^ (12 + 9 * lv) : Nat) : Int) := by
    have h3 : lv = 0 ∨ lv = 1 ∨ lv = 2 := by omega
    rcases h3 with rfl | rfl | rfl <;> decide
  have hS0 := Nat.two_pow_pos (12 + 9 * lv)
  have hI2 : I = va - va % 2 ^ (12 + 9 * lv) + oth % 2 ^ (12 + 9 * lv) := hI
  generalize 2 ^ (12 + 9 * lv) = S at e1 hS0 hI2
  have hva := Nat.mod_le va S
  have r1 : (va : Int).tmod (S : Int) = ((va % S : Nat) : Int) := by rw [Int.tmod_eq_emod_of_nonneg (by omega)]; rfl
  have r2 : (oth : Int).tmod (S : Int) = ((oth % S : Nat) : Int) := by rw [Int.tmod_eq_emod_of_nonneg (by omega)]; rfl
  generalize va % S = V at *
  generalize oth % S = O at *
  have r3 : IntKind.u64.wrap ((va : Int) - (V : Int)) = ((va - V : Nat) : Int) := by rw [wrap_u64B]; omega
  obtain ⟨D, hD⟩ : ∃ D, D = va - V := ⟨_, rfl⟩
  rw [← hD] at r3 hI2
  have r4 : IntKind.u64.wrap ((D : Int) + (O : Int)) = (I : Int) := by rw [wrap_u64B]; omega
  have s0 : (S : Int) ≠ 0 := by omega
  clear hD hva hI2
  have HL := Lib.hid hl; have HV := Lib.hid hv; have HP := Lib.hid hp; have HI := Lib.hid hI; have HIL := Lib.hid hi; clear hi hI
  go_enter Try.func3, Try.ntmps3
  go_upto_region 1 with (fail)
  have nb0 : Blk (w.alloc (.cells #[.int .i64 kd, .int .i64 a, .int .i64 pk, .int .u64 ova, .bool v, .bool r, .bool x1, .bool x, .bool u, .bool false, .bool a9, .bool d, .int .i64 rsw, .int .u64 (ppn : Int), .int .i64 (lv : Int), .int .u64 (pl : Int)] 28)) (w.heap.size) [.int .i64 kd, .int .i64 a, .int .i64 pk, .int .u64 ova, .bool v, .bool r, .bool x1, .bool x, .bool u, .bool false, .bool a9, .bool d, .int .i64 rsw, .int .u64 (ppn : Int), .int .i64 (lv : Int), .int .u64 (pl : Int)] 28 := Blk.new w [.int .i64 kd, .int .i64 a, .int .i64 pk, .int .u64 ova, .bool v, .bool r, .bool x1, .bool x, .bool u, .bool false, .bool a9, .bool d, .int .i64 rsw, .int .u64 (ppn : Int), .int .i64 (lv : Int), .int .u64 (pl : Int)] 28
  have nls : Below w.heap.size w w := (Below.refl w.heap.size w)
  have nl0 := nls.alloc nls.size (.cells #[.int .i64 kd, .int .i64 a, .int .i64 pk, .int .u64 ova, .bool v, .bool r, .bool x1, .bool x, .bool u, .bool false, .bool a9, .bool d, .int .i64 rsw, .int .u64 (ppn : Int), .int .i64 (lv : Int), .int .u64 (pl : Int)] 28)
  have nl : Below w.heap.size w (w.alloc (.cells #[.int .i64 kd, .int .i64 a, .int .i64 pk, .int .u64 ova, .bool v, .bool r, .bool x1, .bool x, .bool u, .bool false, .bool a9, .bool d, .int .i64 rsw, .int .u64 (ppn : Int), .int .i64 (lv : Int), .int .u64 (pl : Int)] 28)) := nl0; clear nls nl0
  obtain ⟨B1, hB0⟩ : ∃ B, B = w.heap.size := ⟨_, rfl⟩
  obtain ⟨W1, hW⟩ : ∃ W, W = (w.alloc (.cells #[.int .i64 kd, .int .i64 a, .int .i64 pk, .int .u64 ova, .bool v, .bool r, .bool x1, .bool x, .bool u, .bool false, .bool a9, .bool d, .int .i64 rsw, .int .u64 (ppn : Int), .int .i64 (lv : Int), .int .u64 (pl : Int)] 28)) := ⟨_, rfl⟩
  rw [← hW] at nl nb0
  rw [← hB0] at nb0
  rw [← hW]
  try rw [← hB0]
  have K1_0 := Lib.hid nb0
  have G1 : Hid (w.heap.size ≤ B1) := Lib.hid (by have := (Nat.le_refl w.heap.size); omega)
  have L1 := Lib.hid nl
  clear nl hW nb0 hB0
  go_wp2_with fail
  refine (first_any _).mono ?_
  rintro e w2 ⟨rfl, hb⟩
  have L2 := Lib.hid (L1.out.trans (hb.mono L1.out.size))
  have K2_0 := Lib.hid (K1_0.out.below hb K1_0.out.lt)
  clear hb K1_0
  go_wp2_with fail
  refine (hold_0 _).mono ?_
  rintro e w3 ⟨b, sp, g, rfl, hbuf, hfp, hb⟩
  have hbuf : Buf w3 b sp g 4 2 (fun _ _ => zw) := hbuf
  have F3 := Lib.hid hbuf; have HFP := Lib.hid hfp
  have L3 := Lib.hid (L2.out.trans (hb.mono L2.out.size))
  have HFP2 : Hid (∀ k, FpT b sp g 4 k → w.heap.size ≤ k) := Lib.hid (fun k hk => Nat.le_trans L2.out.size (HFP.out k hk))
  have K3_0 := Lib.hid (K2_0.out.below hb K2_0.out.lt)
  have nf1 : Hid (¬ FpT b sp g 4 B1) := Lib.hid (fun hf => by have := HFP.out _ hf; have := K2_0.out.lt; omega)
  clear hb hbuf hfp K2_0
  have m0_0 : w3.cell? ⟨B1, 0, none⟩ = some _ := K3_0.out.cell 0
  have m0_1 : w3.cell? ⟨B1, 1, none⟩ = some _ := K3_0.out.cell 1
  have m0_2 : w3.cell? ⟨B1, 2, none⟩ = some _ := K3_0.out.cell 2
  have m0_3 : w3.cell? ⟨B1, 3, none⟩ = some _ := K3_0.out.cell 3
  have m0_4 : w3.cell? ⟨B1, 4, none⟩ = some _ := K3_0.out.cell 4
  have m0_5 : w3.cell? ⟨B1, 5, none⟩ = some _ := K3_0.out.cell 5
  have m0_6 : w3.cell? ⟨B1, 6, none⟩ = some _ := K3_0.out.cell 6
  have m0_7 : w3.cell? ⟨B1, 7, none⟩ = some _ := K3_0.out.cell 7
  have m0_8 : w3.cell? ⟨B1, 8, none⟩ = some _ := K3_0.out.cell 8
  have m0_9 : w3.cell? ⟨B1, 9, none⟩ = some _ := K3_0.out.cell 9
  have m0_10 : w3.cell? ⟨B1, 10, none⟩ = some _ := K3_0.out.cell 10
  have m0_11 : w3.cell? ⟨B1, 11, none⟩ = some _ := K3_0.out.cell 11
  have m0_12 : w3.cell? ⟨B1, 12, none⟩ = some _ := K3_0.out.cell 12
  have m0_13 : w3.cell? ⟨B1, 13, none⟩ = some _ := K3_0.out.cell 13
  have m0_14 : w3.cell? ⟨B1, 14, none⟩ = some _ := K3_0.out.cell 14
  have m0_15 : w3.cell? ⟨B1, 15, none⟩ = some _ := K3_0.out.cell 15
  have mlt0 : B1 < w3.heap.size := K3_0.out.lt
  go_wp2_with fail
  clear m0_0 m0_1 m0_2 m0_3 m0_4 m0_5 m0_6 m0_7 m0_8 m0_9 m0_10 m0_11 m0_12 m0_13 m0_14 m0_15 mlt0
  refine (hold_1 F3.out HV.out).mono ?_
  rintro e w4 ⟨rfl, hb⟩
  have F4 := Lib.hid (F3.out.below hb)
  have L4 := Lib.hid (L3.out.trans (hb.mono L3.out.size))
  have K4_0 := Lib.hid (K3_0.out.below hb K3_0.out.lt)
  clear hb F3 K3_0
  go_upto_region 5 with (fail)
  have nb0 : Blk (w4.alloc (.cells #[.bool false, .bool false, .bool false, .bool false, .bool false, .bool false, .bool false, .bool false, .int .i64 0, .int .u64 0, .int .i64 0, .int .u64 0] 26)) (w4.heap.size) [.bool false, .bool false, .bool false, .bool false, .bool false, .bool false, .bool false, .bool false, .int .i64 0, .int .u64 0, .int .i64 0, .int .u64 0] 26 := Blk.new w4 [.bool false, .bool false, .bool false, .bool false, .bool false, .bool false, .bool false, .bool false, .int .i64 0, .int .u64 0, .int .i64 0, .int .u64 0] 26
  have nls : Below w.heap.size w w4 := L4.out
  have nl0 := nls.alloc nls.size (.cells #[.bool false, .bool false, .bool false, .bool false, .bool false, .bool false, .bool false, .bool false, .int .i64 0, .int .u64 0, .int .i64 0, .int .u64 0] 26)
  have nl : Below w.heap.size w (w4.alloc (.cells #[.bool false, .bool false, .bool false, .bool false, .bool false, .bool false, .bool false, .bool false, .int .i64 0, .int .u64 0, .int .i64 0, .int .u64 0] 26)) := nl0; clear nls nl0
  have o0 : Blk (w4.alloc (.cells #[.bool false, .bool false, .bool false, .bool false, .bool false, .bool false, .bool false, .bool false, .int .i64 0, .int .u64 0, .int .i64 0, .int .u64 0] 26)) B1 [.int .i64 kd, .int .i64 a, .int .i64 pk, .int .u64 ova, .bool v, .bool r, .bool x1, .bool x, .bool u, .bool false, .bool a9, .bool d, .int .i64 rsw, .int .u64 (ppn : Int), .int .i64 (lv : Int), .int .u64 (pl : Int)] 28 := (K4_0.out.alloc (.cells #[.bool false, .bool false, .bool false, .bool false, .bool false, .bool false, .bool false, .bool false, .int .i64 0, .int .u64 0, .int .i64 0, .int .u64 0] 26))
  have d5_0 : B1 < w4.heap.size := K4_0.out.lt
  obtain ⟨B5, hB0⟩ : ∃ B, B = w4.heap.size := ⟨_, rfl⟩
  obtain ⟨W5, hW⟩ : ∃ W, W = (w4.alloc (.cells #[.bool false, .bool false, .bool false, .bool false, .bool false, .bool false, .bool false, .bool false, .int .i64 0, .int .u64 0, .int .i64 0, .int .u64 0] 26)) := ⟨_, rfl⟩
  rw [← hW] at nl nb0 o0
  rw [← hB0] at nb0
  rw [← hW]
  try rw [← hB0]
  have K5_0 := Lib.hid o0
  have K5_1 := Lib.hid nb0
  have G5 : Hid (w.heap.size ≤ B5) := Lib.hid (by have := L4.out.size; omega)
  have x5_0_0 : B1 ≠ B5 := by omega
  have X5_0_0 := Lib.hid x5_0_0; clear x5_0_0
  have F5 : Hid (Buf W5 b sp g 4 2 (fun _ _ => zw)) := Lib.hid (hW ▸ F4.out.below ((Below.refl w4.heap.size w4).alloc (by simp) (.cells #[.bool false, .bool false, .bool false, .bool false, .bool false, .bool false, .bool false, .bool false, .int .i64 0, .int .u64 0, .int .i64 0, .int .u64 0] 26)))
  have nf5 : Hid (¬ FpT b sp g 4 B5) := Lib.hid (fun hf => by have := F4.out.lt _ hf; omega)
  clear F4
  have L5 := Lib.hid nl
  clear nl hW nb0 hB0 o0 d5_0 K4_0
  have m0_0 : W5.cell? ⟨B1, 0, none⟩ = some _ := K5_0.out.cell 0
  have m0_1 : W5.cell? ⟨B1, 1, none⟩ = some _ := K5_0.out.cell 1
  have m0_2 : W5.cell? ⟨B1, 2, none⟩ = some _ := K5_0.out.cell 2
  have m0_3 : W5.cell? ⟨B1, 3, none⟩ = some _ := K5_0.out.cell 3
  have m0_4 : W5.cell? ⟨B1, 4, none⟩ = some _ := K5_0.out.cell 4
  have m0_5 : W5.cell? ⟨B1, 5, none⟩ = some _ := K5_0.out.cell 5
  have m0_6 : W5.cell? ⟨B1, 6, none⟩ = some _ := K5_0.out.cell 6
  have m0_7 : W5.cell? ⟨B1, 7, none⟩ = some _ := K5_0.out.cell 7
  have m0_8 : W5.cell? ⟨B1, 8, none⟩ = some _ := K5_0.out.cell 8
  have m0_9 : W5.cell? ⟨B1, 9, none⟩ = some _ := K5_0.out.cell 9
  have m0_10 : W5.cell? ⟨B1, 10, none⟩ = some _ := K5_0.out.cell 10
  have m0_11 : W5.cell? ⟨B1, 11, none⟩ = some _ := K5_0.out.cell 11
  have m0_12 : W5.cell? ⟨B1, 12, none⟩ = some _ := K5_0.out.cell 12
  have m0_13 : W5.cell? ⟨B1, 13, none⟩ = some _ := K5_0.out.cell 13
  have m0_14 : W5.cell? ⟨B1, 14, none⟩ = some _ := K5_0.out.cell 14
  have m0_15 : W5.cell? ⟨B1, 15, none⟩ = some _ := K5_0.out.cell 15
  have mlt0 : B1 < W5.heap.size := K5_0.out.lt
  go_wp2_with fail
  clear m0_0 m0_1 m0_2 m0_3 m0_4 m0_5 m0_6 m0_7 m0_8 m0_9 m0_10 m0_11 m0_12 m0_13 m0_14 m0_15 mlt0
  refine (hold_2 F5.out HV.out HL.out HP.out).mono ?_
  rintro e w6 ⟨rfl, hbuf, hb⟩
  have hbuf : Buf w6 b sp g 4 2 (one1 (numN va lv % 4) ⟨true, a, numN va lv, ⟨⟨v, r, x1, x, u, false, a9, d, rsw, ppn⟩, lv, pl⟩⟩) := hbuf
  have F6 := Lib.hid hbuf
  have L6 := Lib.hid (L5.out.trans (hb.below L5.out.size (fun k hk hf => by have := HFP2.out k hf; omega)))
  have K6_0 := Lib.hid (K5_0.out.chg hb nf1.out)
  have K6_1 := Lib.hid (K5_1.out.chg hb nf5.out)
  clear hb hbuf F5 K5_0 K5_1
  have m0_0 : w6.cell? ⟨B1, 0, none⟩ = some _ := K6_0.out.cell 0
  have m0_1 : w6.cell? ⟨B1, 1, none⟩ = some _ := K6_0.out.cell 1
  have m0_2 : w6.cell? ⟨B1, 2, none⟩ = some _ := K6_0.out.cell 2
  have m0_3 : w6.cell? ⟨B1, 3, none⟩ = some _ := K6_0.out.cell 3
  have m0_4 : w6.cell? ⟨B1, 4, none⟩ = some _ := K6_0.out.cell 4
  have m0_5 : w6.cell? ⟨B1, 5, none⟩ = some _ := K6_0.out.cell 5
  have m0_6 : w6.cell? ⟨B1, 6, none⟩ = some _ := K6_0.out.cell 6
  have m0_7 : w6.cell? ⟨B1, 7, none⟩ = some _ := K6_0.out.cell 7
  have m0_8 : w6.cell? ⟨B1, 8, none⟩ = some _ := K6_0.out.cell 8
  have m0_9 : w6.cell? ⟨B1, 9, none⟩ = some _ := K6_0.out.cell 9
  have m0_10 : w6.cell? ⟨B1, 10, none⟩ = some _ := K6_0.out.cell 10
  have m0_11 : w6.cell? ⟨B1, 11, none⟩ = some _ := K6_0.out.cell 11
  have m0_12 : w6.cell? ⟨B1, 12, none⟩ = some _ := K6_0.out.cell 12
  have m0_13 : w6.cell? ⟨B1, 13, none⟩ = some _ := K6_0.out.cell 13
  have m0_14 : w6.cell? ⟨B1, 14, none⟩ = some _ := K6_0.out.cell 14
  have m0_15 : w6.cell? ⟨B1, 15, none⟩ = some _ := K6_0.out.cell 15
  have mlt0 : B1 < w6.heap.size := K6_0.out.lt
  go_wp2
  clear m0_0 m0_1 m0_2 m0_3 m0_4 m0_5 m0_6 m0_7 m0_8 m0_9 m0_10 m0_11 m0_12 m0_13 m0_14 m0_15 mlt0
  go_quiet (fail)
  obtain ⟨D7, hD⟩ : ∃ x, x = w6.drewN nq := ⟨_, rfl⟩
  rw [← hD]
  have K7_0 := Lib.hid (show Blk D7 B1 [.int .i64 kd, .int .i64 a, .int .i64 pk, .int .u64 ova, .bool v, .bool r, .bool x1, .bool x, .bool u, .bool false, .bool a9, .bool d, .int .i64 rsw, .int .u64 (ppn : Int), .int .i64 (lv : Int), .int .u64 (pl : Int)] 28 from hD ▸ Blk.drewN K6_0.out nq)
  have K7_1 := Lib.hid (show Blk D7 B5 [.bool false, .bool false, .bool false, .bool false, .bool false, .bool false, .bool false, .bool false, .int .i64 0, .int .u64 0, .int .i64 0, .int .u64 0] 26 from hD ▸ Blk.drewN K6_1.out nq)
  have F7 : Hid (Buf D7 b sp g 4 2 (one1 (numN va lv % 4) ⟨true, a, numN va lv, ⟨⟨v, r, x1, x, u, false, a9, d, rsw, ppn⟩, lv, pl⟩⟩)) := Lib.hid (hD ▸ F6.out.drewN nq)
  have L7 := Lib.hid (show Below w.heap.size w D7 from hD ▸ below_drewNsB L6.out nq)
  clear hD F6 K6_0 K6_1
  have m0_0 : D7.cell? ⟨B1, 0, none⟩ = some _ := K7_0.out.cell 0
  have m0_1 : D7.cell? ⟨B1, 1, none⟩ = some _ := K7_0.out.cell 1
  have m0_2 : D7.cell? ⟨B1, 2, none⟩ = some _ := K7_0.out.cell 2
  have m0_3 : D7.cell? ⟨B1, 3, none⟩ = some _ := K7_0.out.cell 3
  have m0_4 : D7.cell? ⟨B1, 4, none⟩ = some _ := K7_0.out.cell 4
  have m0_5 : D7.cell? ⟨B1, 5, none⟩ = some _ := K7_0.out.cell 5
  have m0_6 : D7.cell? ⟨B1, 6, none⟩ = some _ := K7_0.out.cell 6
  have m0_7 : D7.cell? ⟨B1, 7, none⟩ = some _ := K7_0.out.cell 7
  have m0_8 : D7.cell? ⟨B1, 8, none⟩ = some _ := K7_0.out.cell 8
  have m0_9 : D7.cell? ⟨B1, 9, none⟩ = some _ := K7_0.out.cell 9
  have m0_10 : D7.cell? ⟨B1, 10, none⟩ = some _ := K7_0.out.cell 10
  have m0_11 : D7.cell? ⟨B1, 11, none⟩ = some _ := K7_0.out.cell 11
  have m0_12 : D7.cell? ⟨B1, 12, none⟩ = some _ := K7_0.out.cell 12
  have m0_13 : D7.cell? ⟨B1, 13, none⟩ = some _ := K7_0.out.cell 13
  have m0_14 : D7.cell? ⟨B1, 14, none⟩ = some _ := K7_0.out.cell 14
  have m0_15 : D7.cell? ⟨B1, 15, none⟩ = some _ := K7_0.out.cell 15
  have mlt0 : B1 < D7.heap.size := K7_0.out.lt
  go_wp2_with fail
  clear m0_0 m0_1 m0_2 m0_3 m0_4 m0_5 m0_6 m0_7 m0_8 m0_9 m0_10 m0_11 m0_12 m0_13 m0_14 m0_15 mlt0
  refine (hold_3 F7.out HIL.out HL.out HI.out).mono ?_
  rintro e w8 ⟨rfl, hb⟩
  have F8 := Lib.hid (F7.out.below hb)
  have L8 := Lib.hid (L7.out.trans (hb.mono L7.out.size))
  have K8_0 := Lib.hid (K7_0.out.below hb K7_0.out.lt)
  have K8_1 := Lib.hid (K7_1.out.below hb K7_1.out.lt)
  clear hb F7 K7_0 K7_1
  go_upto_region 10 with (fail)
  have nb0 : Blk (w8.alloc (.cells #[.bool v, .bool r, .bool x1, .bool x, .bool u, .bool false, .bool a9, .bool d, .int .i64 rsw, .int .u64 (ppn : Int), .int .i64 (lv : Int), .int .u64 (pl : Int)] 26)) (w8.heap.size) [.bool v, .bool r, .bool x1, .bool x, .bool u, .bool false, .bool a9, .bool d, .int .i64 rsw, .int .u64 (ppn : Int), .int .i64 (lv : Int), .int .u64 (pl : Int)] 26 := Blk.new w8 [.bool v, .bool r, .bool x1, .bool x, .bool u, .bool false, .bool a9, .bool d, .int .i64 rsw, .int .u64 (ppn : Int), .int .i64 (lv : Int), .int .u64 (pl : Int)] 26
  have nls : Below w.heap.size w w8 := L8.out
  have nl0 := nls.alloc nls.size (.cells #[.bool v, .bool r, .bool x1, .bool x, .bool u, .bool false, .bool a9, .bool d, .int .i64 rsw, .int .u64 (ppn : Int), .int .i64 (lv : Int), .int .u64 (pl : Int)] 26)
  have nl : Below w.heap.size w (w8.alloc (.cells #[.bool v, .bool r, .bool x1, .bool x, .bool u, .bool false, .bool a9, .bool d, .int .i64 rsw, .int .u64 (ppn : Int), .int .i64 (lv : Int), .int .u64 (pl : Int)] 26)) := nl0; clear nls nl0
  have o0 : Blk (w8.alloc (.cells #[.bool v, .bool r, .bool x1, .bool x, .bool u, .bool false, .bool a9, .bool d, .int .i64 rsw, .int .u64 (ppn : Int), .int .i64 (lv : Int), .int .u64 (pl : Int)] 26)) B1 [.int .i64 kd, .int .i64 a, .int .i64 pk, .int .u64 ova, .bool v, .bool r, .bool x1, .bool x, .bool u, .bool false, .bool a9, .bool d, .int .i64 rsw, .int .u64 (ppn : Int), .int .i64 (lv : Int), .int .u64 (pl : Int)] 28 := (K8_0.out.alloc (.cells #[.bool v, .bool r, .bool x1, .bool x, .bool u, .bool false, .bool a9, .bool d, .int .i64 rsw, .int .u64 (ppn : Int), .int .i64 (lv : Int), .int .u64 (pl : Int)] 26))
  have d9_0 : B1 < w8.heap.size := K8_0.out.lt
  have o1 : Blk (w8.alloc (.cells #[.bool v, .bool r, .bool x1, .bool x, .bool u, .bool false, .bool a9, .bool d, .int .i64 rsw, .int .u64 (ppn : Int), .int .i64 (lv : Int), .int .u64 (pl : Int)] 26)) B5 [.bool false, .bool false, .bool false, .bool false, .bool false, .bool false, .bool false, .bool false, .int .i64 0, .int .u64 0, .int .i64 0, .int .u64 0] 26 := (K8_1.out.alloc (.cells #[.bool v, .bool r, .bool x1, .bool x, .bool u, .bool false, .bool a9, .bool d, .int .i64 rsw, .int .u64 (ppn : Int), .int .i64 (lv : Int), .int .u64 (pl : Int)] 26))
  have d9_1 : B5 < w8.heap.size := K8_1.out.lt
  obtain ⟨B9, hB0⟩ : ∃ B, B = w8.heap.size := ⟨_, rfl⟩
  obtain ⟨W9, hW⟩ : ∃ W, W = (w8.alloc (.cells #[.bool v, .bool r, .bool x1, .bool x, .bool u, .bool false, .bool a9, .bool d, .int .i64 rsw, .int .u64 (ppn : Int), .int .i64 (lv : Int), .int .u64 (pl : Int)] 26)) := ⟨_, rfl⟩
  rw [← hW] at nl nb0 o0 o1
  rw [← hB0] at nb0
  rw [← hW]
  try rw [← hB0]
  have K9_0 := Lib.hid o0
  have K9_1 := Lib.hid o1
  have K9_2 := Lib.hid nb0
  have G9 : Hid (w.heap.size ≤ B9) := Lib.hid (by have := L8.out.size; omega)
  have x9_0_0 : B1 ≠ B9 := by omega
  have x9_1_0 : B5 ≠ B9 := by omega
  have X9_0_0 := Lib.hid x9_0_0; clear x9_0_0
  have X9_1_0 := Lib.hid x9_1_0; clear x9_1_0
  have F9 : Hid (Buf W9 b sp g 4 2 (one1 (numN va lv % 4) ⟨true, a, numN va lv, ⟨⟨v, r, x1, x, u, false, a9, d, rsw, ppn⟩, lv, pl⟩⟩)) := Lib.hid (hW ▸ F8.out.below ((Below.refl w8.heap.size w8).alloc (by simp) (.cells #[.bool v, .bool r, .bool x1, .bool x, .bool u, .bool false, .bool a9, .bool d, .int .i64 rsw, .int .u64 (ppn : Int), .int .i64 (lv : Int), .int .u64 (pl : Int)] 26)))
  have nf9 : Hid (¬ FpT b sp g 4 B9) := Lib.hid (fun hf => by have := F8.out.lt _ hf; omega)
  clear F8
  have L9 := Lib.hid nl
  clear nl hW nb0 hB0 o0 d9_0 o1 d9_1 K8_0 K8_1
  have m0_0 : W9.cell? ⟨B1, 0, none⟩ = some _ := K9_0.out.cell 0
  have m0_1 : W9.cell? ⟨B1, 1, none⟩ = some _ := K9_0.out.cell 1
  have m0_2 : W9.cell? ⟨B1, 2, none⟩ = some _ := K9_0.out.cell 2
  have m0_3 : W9.cell? ⟨B1, 3, none⟩ = some _ := K9_0.out.cell 3
  have m0_4 : W9.cell? ⟨B1, 4, none⟩ = some _ := K9_0.out.cell 4
  have m0_5 : W9.cell? ⟨B1, 5, none⟩ = some _ := K9_0.out.cell 5
  have m0_6 : W9.cell? ⟨B1, 6, none⟩ = some _ := K9_0.out.cell 6
  have m0_7 : W9.cell? ⟨B1, 7, none⟩ = some _ := K9_0.out.cell 7
  have m0_8 : W9.cell? ⟨B1, 8, none⟩ = some _ := K9_0.out.cell 8
  have m0_9 : W9.cell? ⟨B1, 9, none⟩ = some _ := K9_0.out.cell 9
  have m0_10 : W9.cell? ⟨B1, 10, none⟩ = some _ := K9_0.out.cell 10
  have m0_11 : W9.cell? ⟨B1, 11, none⟩ = some _ := K9_0.out.cell 11
  have m0_12 : W9.cell? ⟨B1, 12, none⟩ = some _ := K9_0.out.cell 12
  have m0_13 : W9.cell? ⟨B1, 13, none⟩ = some _ := K9_0.out.cell 13
  have m0_14 : W9.cell? ⟨B1, 14, none⟩ = some _ := K9_0.out.cell 14
  have m0_15 : W9.cell? ⟨B1, 15, none⟩ = some _ := K9_0.out.cell 15
  have mlt0 : B1 < W9.heap.size := K9_0.out.lt
  have m2_0 : W9.cell? ⟨B9, 0, none⟩ = some _ := K9_2.out.cell 0
  have m2_1 : W9.cell? ⟨B9, 1, none⟩ = some _ := K9_2.out.cell 1
  have m2_2 : W9.cell? ⟨B9, 2, none⟩ = some _ := K9_2.out.cell 2
  have m2_3 : W9.cell? ⟨B9, 3, none⟩ = some _ := K9_2.out.cell 3
  have m2_4 : W9.cell? ⟨B9, 4, none⟩ = some _ := K9_2.out.cell 4
  have m2_5 : W9.cell? ⟨B9, 5, none⟩ = some _ := K9_2.out.cell 5
  have m2_6 : W9.cell? ⟨B9, 6, none⟩ = some _ := K9_2.out.cell 6
  have m2_7 : W9.cell? ⟨B9, 7, none⟩ = some _ := K9_2.out.cell 7
  have m2_8 : W9.cell? ⟨B9, 8, none⟩ = some _ := K9_2.out.cell 8
  have m2_9 : W9.cell? ⟨B9, 9, none⟩ = some _ := K9_2.out.cell 9
  have m2_10 : W9.cell? ⟨B9, 10, none⟩ = some _ := K9_2.out.cell 10
  have m2_11 : W9.cell? ⟨B9, 11, none⟩ = some _ := K9_2.out.cell 11
  have mlt2 : B9 < W9.heap.size := K9_2.out.lt
  go_wp2_with fail
  clear m0_0 m0_1 m0_2 m0_3 m0_4 m0_5 m0_6 m0_7 m0_8 m0_9 m0_10 m0_11 m0_12 m0_13 m0_14 m0_15 mlt0 m2_0 m2_1 m2_2 m2_3 m2_4 m2_5 m2_6 m2_7 m2_8 m2_9 m2_10 m2_11 mlt2
  refine (hold_4f F9.out HIL.out).mono ?_
  rintro e w10 ⟨rfl, hb⟩
  have F10 := Lib.hid (F9.out.below hb)
  have L10 := Lib.hid (L9.out.trans (hb.mono L9.out.size))
  have K10_0 := Lib.hid (K9_0.out.below hb K9_0.out.lt)
  have K10_1 := Lib.hid (K9_1.out.below hb K9_1.out.lt)
  have K10_2 := Lib.hid (K9_2.out.below hb K9_2.out.lt)
  clear hb F9 K9_0 K9_1 K9_2
  go_upto_region 13 with (fail)
  have nb0 : Blk (w10.alloc (.cells #[.bool false, .bool false, .bool false, .bool false, .bool false, .bool false, .bool false, .bool false, .int .i64 0, .int .u64 0, .int .i64 0, .int .u64 0] 26)) (w10.heap.size) [.bool false, .bool false, .bool false, .bool false, .bool false, .bool false, .bool false, .bool false, .int .i64 0, .int .u64 0, .int .i64 0, .int .u64 0] 26 := Blk.new w10 [.bool false, .bool false, .bool false, .bool false, .bool false, .bool false, .bool false, .bool false, .int .i64 0, .int .u64 0, .int .i64 0, .int .u64 0] 26
  have nls : Below w.heap.size w w10 := L10.out
  have nl0 := nls.alloc nls.size (.cells #[.bool false, .bool false, .bool false, .bool false, .bool false, .bool false, .bool false, .bool false, .int .i64 0, .int .u64 0, .int .i64 0, .int .u64 0] 26)
  have nl : Below w.heap.size w (w10.alloc (.cells #[.bool false, .bool false, .bool false, .bool false, .bool false, .bool false, .bool false, .bool false, .int .i64 0, .int .u64 0, .int .i64 0, .int .u64 0] 26)) := nl0; clear nls nl0
  have o0 : Blk (w10.alloc (.cells #[.bool false, .bool false, .bool false, .bool false, .bool false, .bool false, .bool false, .bool false, .int .i64 0, .int .u64 0, .int .i64 0, .int .u64 0] 26)) B1 [.int .i64 kd, .int .i64 a, .int .i64 pk, .int .u64 ova, .bool v, .bool r, .bool x1, .bool x, .bool u, .bool false, .bool a9, .bool d, .int .i64 rsw, .int .u64 (ppn : Int), .int .i64 (lv : Int), .int .u64 (pl : Int)] 28 := (K10_0.out.alloc (.cells #[.bool false, .bool false, .bool false, .bool false, .bool false, .bool false, .bool false, .bool false, .int .i64 0, .int .u64 0, .int .i64 0, .int .u64 0] 26))
  have d11_0 : B1 < w10.heap.size := K10_0.out.lt
  have o1 : Blk (w10.alloc (.cells #[.bool false, .bool false, .bool false, .bool false, .bool false, .bool false, .bool false, .bool false, .int .i64 0, .int .u64 0, .int .i64 0, .int .u64 0] 26)) B5 [.bool false, .bool false, .bool false, .bool false, .bool false, .bool false, .bool false, .bool false, .int .i64 0, .int .u64 0, .int .i64 0, .int .u64 0] 26 := (K10_1.out.alloc (.cells #[.bool false, .bool false, .bool false, .bool false, .bool false, .bool false, .bool false, .bool false, .int .i64 0, .int .u64 0, .int .i64 0, .int .u64 0] 26))
  have d11_1 : B5 < w10.heap.size := K10_1.out.lt
  have o2 : Blk (w10.alloc (.cells #[.bool false, .bool false, .bool false, .bool false, .bool false, .bool false, .bool false, .bool false, .int .i64 0, .int .u64 0, .int .i64 0, .int .u64 0] 26)) B9 [.bool v, .bool r, .bool x1, .bool x, .bool u, .bool false, .bool a9, .bool d, .int .i64 rsw, .int .u64 (ppn : Int), .int .i64 (lv : Int), .int .u64 (pl : Int)] 26 := (K10_2.out.alloc (.cells #[.bool false, .bool false, .bool false, .bool false, .bool false, .bool false, .bool false, .bool false, .int .i64 0, .int .u64 0, .int .i64 0, .int .u64 0] 26))
  have d11_2 : B9 < w10.heap.size := K10_2.out.lt
  obtain ⟨B11, hB0⟩ : ∃ B, B = w10.heap.size := ⟨_, rfl⟩
  obtain ⟨W11, hW⟩ : ∃ W, W = (w10.alloc (.cells #[.bool false, .bool false, .bool false, .bool false, .bool false, .bool false, .bool false, .bool false, .int .i64 0, .int .u64 0, .int .i64 0, .int .u64 0] 26)) := ⟨_, rfl⟩
  rw [← hW] at nl nb0 o0 o1 o2
  rw [← hB0] at nb0
  rw [← hW]
  try rw [← hB0]
  have K11_0 := Lib.hid o0
  have K11_1 := Lib.hid o1
  have K11_2 := Lib.hid o2
  have K11_3 := Lib.hid nb0
  have G11 : Hid (w.heap.size ≤ B11) := Lib.hid (by have := L10.out.size; omega)
  have x11_0_0 : B1 ≠ B11 := by omega
  have x11_1_0 : B5 ≠ B11 := by omega
  have x11_2_0 : B9 ≠ B11 := by omega
  have X11_0_0 := Lib.hid x11_0_0; clear x11_0_0
  have X11_1_0 := Lib.hid x11_1_0; clear x11_1_0
  have X11_2_0 := Lib.hid x11_2_0; clear x11_2_0
  have F11 : Hid (Buf W11 b sp g 4 2 (one1 (numN va lv % 4) ⟨true, a, numN va lv, ⟨⟨v, r, x1, x, u, false, a9, d, rsw, ppn⟩, lv, pl⟩⟩)) := Lib.hid (hW ▸ F10.out.below ((Below.refl w10.heap.size w10).alloc (by simp) (.cells #[.bool false, .bool false, .bool false, .bool false, .bool false, .bool false, .bool false, .bool false, .int .i64 0, .int .u64 0, .int .i64 0, .int .u64 0] 26)))
  have nf11 : Hid (¬ FpT b sp g 4 B11) := Lib.hid (fun hf => by have := F10.out.lt _ hf; omega)
  clear F10
  have L11 := Lib.hid nl
  clear nl hW nb0 hB0 o0 d11_0 o1 d11_1 o2 d11_2 K10_0 K10_1 K10_2
  have m0_0 : W11.cell? ⟨B1, 0, none⟩ = some _ := K11_0.out.cell 0
  have m0_1 : W11.cell? ⟨B1, 1, none⟩ = some _ := K11_0.out.cell 1
  have m0_2 : W11.cell? ⟨B1, 2, none⟩ = some _ := K11_0.out.cell 2
  have m0_3 : W11.cell? ⟨B1, 3, none⟩ = some _ := K11_0.out.cell 3
  have m0_4 : W11.cell? ⟨B1, 4, none⟩ = some _ := K11_0.out.cell 4
  have m0_5 : W11.cell? ⟨B1, 5, none⟩ = some _ := K11_0.out.cell 5
  have m0_6 : W11.cell? ⟨B1, 6, none⟩ = some _ := K11_0.out.cell 6
  have m0_7 : W11.cell? ⟨B1, 7, none⟩ = some _ := K11_0.out.cell 7
  have m0_8 : W11.cell? ⟨B1, 8, none⟩ = some _ := K11_0.out.cell 8
  have m0_9 : W11.cell? ⟨B1, 9, none⟩ = some _ := K11_0.out.cell 9
  have m0_10 : W11.cell? ⟨B1, 10, none⟩ = some _ := K11_0.out.cell 10
  have m0_11 : W11.cell? ⟨B1, 11, none⟩ = some _ := K11_0.out.cell 11
  have m0_12 : W11.cell? ⟨B1, 12, none⟩ = some _ := K11_0.out.cell 12
  have m0_13 : W11.cell? ⟨B1, 13, none⟩ = some _ := K11_0.out.cell 13
  have m0_14 : W11.cell? ⟨B1, 14, none⟩ = some _ := K11_0.out.cell 14
  have m0_15 : W11.cell? ⟨B1, 15, none⟩ = some _ := K11_0.out.cell 15
  have mlt0 : B1 < W11.heap.size := K11_0.out.lt
  go_wp2_with fail
  clear m0_0 m0_1 m0_2 m0_3 m0_4 m0_5 m0_6 m0_7 m0_8 m0_9 m0_10 m0_11 m0_12 m0_13 m0_14 m0_15 mlt0
  have nb0 : Blk (W11.alloc (.cells #[.int .u64 (I : Int)] 22)) (W11.heap.size) [.int .u64 (I : Int)] 22 := Blk.new W11 [.int .u64 (I : Int)] 22
  replace nb0 := nb0.alloc (.cells #[.int .i64 (bits .xor .i64 a 1)] 3)
  have nb1 : Blk ((W11.alloc (.cells #[.int .u64 (I : Int)] 22)).alloc (.cells #[.int .i64 (bits .xor .i64 a 1)] 3)) (W11.heap.size + 1) [.int .i64 (bits .xor .i64 a 1)] 3 := Blk.nextn (W11.alloc (.cells #[.int .u64 (I : Int)] 22)) (W11.heap.size + 1) [.int .i64 (bits .xor .i64 a 1)] 3 (by simp)
  have nls : Below w.heap.size w W11 := L11.out
  have nl0 := nls.alloc nls.size (.cells #[.int .u64 (I : Int)] 22)
  have nl1 := nl0.alloc nl0.size (.cells #[.int .i64 (bits .xor .i64 a 1)] 3)
  have nl : Below w.heap.size w ((W11.alloc (.cells #[.int .u64 (I : Int)] 22)).alloc (.cells #[.int .i64 (bits .xor .i64 a 1)] 3)) := nl1; clear nls nl0 nl1
  have o0 : Blk ((W11.alloc (.cells #[.int .u64 (I : Int)] 22)).alloc (.cells #[.int .i64 (bits .xor .i64 a 1)] 3)) B1 [.int .i64 kd, .int .i64 a, .int .i64 pk, .int .u64 ova, .bool v, .bool r, .bool x1, .bool x, .bool u, .bool false, .bool a9, .bool d, .int .i64 rsw, .int .u64 (ppn : Int), .int .i64 (lv : Int), .int .u64 (pl : Int)] 28 := ((K11_0.out.alloc (.cells #[.int .u64 (I : Int)] 22)).alloc (.cells #[.int .i64 (bits .xor .i64 a 1)] 3))
  have d12_0 : B1 < W11.heap.size := K11_0.out.lt
  have o1 : Blk ((W11.alloc (.cells #[.int .u64 (I : Int)] 22)).alloc (.cells #[.int .i64 (bits .xor .i64 a 1)] 3)) B5 [.bool false, .bool false, .bool false, .bool false, .bool false, .bool false, .bool false, .bool false, .int .i64 0, .int .u64 0, .int .i64 0, .int .u64 0] 26 := ((K11_1.out.alloc (.cells #[.int .u64 (I : Int)] 22)).alloc (.cells #[.int .i64 (bits .xor .i64 a 1)] 3))
  have d12_1 : B5 < W11.heap.size := K11_1.out.lt
  have o2 : Blk ((W11.alloc (.cells #[.int .u64 (I : Int)] 22)).alloc (.cells #[.int .i64 (bits .xor .i64 a 1)] 3)) B9 [.bool v, .bool r, .bool x1, .bool x, .bool u, .bool false, .bool a9, .bool d, .int .i64 rsw, .int .u64 (ppn : Int), .int .i64 (lv : Int), .int .u64 (pl : Int)] 26 := ((K11_2.out.alloc (.cells #[.int .u64 (I : Int)] 22)).alloc (.cells #[.int .i64 (bits .xor .i64 a 1)] 3))
  have d12_2 : B9 < W11.heap.size := K11_2.out.lt
  have o3 : Blk ((W11.alloc (.cells #[.int .u64 (I : Int)] 22)).alloc (.cells #[.int .i64 (bits .xor .i64 a 1)] 3)) B11 [.bool false, .bool false, .bool false, .bool false, .bool false, .bool false, .bool false, .bool false, .int .i64 0, .int .u64 0, .int .i64 0, .int .u64 0] 26 := ((K11_3.out.alloc (.cells #[.int .u64 (I : Int)] 22)).alloc (.cells #[.int .i64 (bits .xor .i64 a 1)] 3))
  have d12_3 : B11 < W11.heap.size := K11_3.out.lt
  obtain ⟨B12_1, hB1⟩ : ∃ B, B = W11.heap.size + 1 := ⟨_, rfl⟩
  obtain ⟨B12_0, hB0⟩ : ∃ B, B = W11.heap.size := ⟨_, rfl⟩
  obtain ⟨W12, hW⟩ : ∃ W, W = ((W11.alloc (.cells #[.int .u64 (I : Int)] 22)).alloc (.cells #[.int .i64 (bits .xor .i64 a 1)] 3)) := ⟨_, rfl⟩
  rw [← hW] at nl nb0 nb1 o0 o1 o2 o3
  rw [← hB1] at nb1
  rw [← hB0] at nb0
  rw [← hW]
  try rw [← hB1]
  try rw [← hB0]
  have K12_0 := Lib.hid o0
  have K12_1 := Lib.hid o1
  have K12_2 := Lib.hid o2
  have K12_3 := Lib.hid o3
  have K12_4 := Lib.hid nb0
  have G12_0 : Hid (w.heap.size ≤ B12_0) := Lib.hid (by have := L11.out.size; omega)
  have x12_0_0 : B1 ≠ B12_0 := by omega
  have x12_1_0 : B5 ≠ B12_0 := by omega
  have x12_2_0 : B9 ≠ B12_0 := by omega
  have x12_3_0 : B11 ≠ B12_0 := by omega
  have K12_5 := Lib.hid nb1
  have G12_1 : Hid (w.heap.size ≤ B12_1) := Lib.hid (by have := L11.out.size; omega)
  have x12_0_1 : B1 ≠ B12_1 := by omega
  have x12_1_1 : B5 ≠ B12_1 := by omega
  have x12_2_1 : B9 ≠ B12_1 := by omega
  have x12_3_1 : B11 ≠ B12_1 := by omega
  have y12_0_1 : B12_0 ≠ B12_1 := by omega
  have X12_0_0 := Lib.hid x12_0_0; clear x12_0_0
  have X12_0_1 := Lib.hid x12_0_1; clear x12_0_1
  have X12_1_0 := Lib.hid x12_1_0; clear x12_1_0
  have X12_1_1 := Lib.hid x12_1_1; clear x12_1_1
  have X12_2_0 := Lib.hid x12_2_0; clear x12_2_0
  have X12_2_1 := Lib.hid x12_2_1; clear x12_2_1
  have X12_3_0 := Lib.hid x12_3_0; clear x12_3_0
  have X12_3_1 := Lib.hid x12_3_1; clear x12_3_1
  have Y12_0_1 := Lib.hid y12_0_1; clear y12_0_1
  have F12 : Hid (Buf W12 b sp g 4 2 (one1 (numN va lv % 4) ⟨true, a, numN va lv, ⟨⟨v, r, x1, x, u, false, a9, d, rsw, ppn⟩, lv, pl⟩⟩)) := Lib.hid (hW ▸ F11.out.below (((Below.refl W11.heap.size W11).alloc (by simp) (.cells #[.int .u64 (I : Int)] 22)).alloc (by simp) (.cells #[.int .i64 (bits .xor .i64 a 1)] 3)))
  have nf12_0 : Hid (¬ FpT b sp g 4 B12_0) := Lib.hid (fun hf => by have := F11.out.lt _ hf; omega)
  have nf12_1 : Hid (¬ FpT b sp g 4 B12_1) := Lib.hid (fun hf => by have := F11.out.lt _ hf; omega)
  clear F11
  have L12 := Lib.hid nl
  clear nl hW nb0 hB0 nb1 hB1 o0 d12_0 o1 d12_1 o2 d12_2 o3 d12_3 K11_0 K11_1 K11_2 K11_3
  refine (hold_5 F12.out HIL.out K12_4.out nf12_0.out K12_5.out nf12_1.out).mono ?_
  rintro e w13 ⟨rfl, hbuf, hb⟩
  have hbuf : Buf w13 b sp g 4 2 (one1 (numN va lv % 4) ⟨true, a, numN va lv, ⟨⟨v, r, x1, x, u, false, a9, d, rsw, ppn⟩, lv, pl⟩⟩) := hbuf
  have F13 := Lib.hid hbuf
  have L13 := Lib.hid (L12.out.trans (hb.below L12.out.size (fun k hk hf => by have := HFP2.out k hf; omega)))
  have K13_0 := Lib.hid (K12_0.out.chg hb nf1.out)
  have K13_1 := Lib.hid (K12_1.out.chg hb nf5.out)
  have K13_2 := Lib.hid (K12_2.out.chg hb nf9.out)
  have K13_3 := Lib.hid (K12_3.out.chg hb nf11.out)
  have K13_4 := Lib.hid (K12_4.out.chg hb nf12_0.out)
  have K13_5 := Lib.hid (K12_5.out.chg hb nf12_1.out)
  clear hb hbuf F12 K12_0 K12_1 K12_2 K12_3 K12_4 K12_5
  go_wp2_with fail
  have nb0 : Blk (w13.alloc (.cells #[.int .u64 (I : Int)] 22)) (w13.heap.size) [.int .u64 (I : Int)] 22 := Blk.new w13 [.int .u64 (I : Int)] 22
  have nls : Below w.heap.size w w13 := L13.out
  have nl0 := nls.alloc nls.size (.cells #[.int .u64 (I : Int)] 22)
  have nl : Below w.heap.size w (w13.alloc (.cells #[.int .u64 (I : Int)] 22)) := nl0; clear nls nl0
  have o0 : Blk (w13.alloc (.cells #[.int .u64 (I : Int)] 22)) B1 [.int .i64 kd, .int .i64 a, .int .i64 pk, .int .u64 ova, .bool v, .bool r, .bool x1, .bool x, .bool u, .bool false, .bool a9, .bool d, .int .i64 rsw, .int .u64 (ppn : Int), .int .i64 (lv : Int), .int .u64 (pl : Int)] 28 := (K13_0.out.alloc (.cells #[.int .u64 (I : Int)] 22))
  have d14_0 : B1 < w13.heap.size := K13_0.out.lt
  have o1 : Blk (w13.alloc (.cells #[.int .u64 (I : Int)] 22)) B5 [.bool false, .bool false, .bool false, .bool false, .bool false, .bool false, .bool false, .bool false, .int .i64 0, .int .u64 0, .int .i64 0, .int .u64 0] 26 := (K13_1.out.alloc (.cells #[.int .u64 (I : Int)] 22))
  have d14_1 : B5 < w13.heap.size := K13_1.out.lt
  have o2 : Blk (w13.alloc (.cells #[.int .u64 (I : Int)] 22)) B9 [.bool v, .bool r, .bool x1, .bool x, .bool u, .bool false, .bool a9, .bool d, .int .i64 rsw, .int .u64 (ppn : Int), .int .i64 (lv : Int), .int .u64 (pl : Int)] 26 := (K13_2.out.alloc (.cells #[.int .u64 (I : Int)] 22))
  have d14_2 : B9 < w13.heap.size := K13_2.out.lt
  have o3 : Blk (w13.alloc (.cells #[.int .u64 (I : Int)] 22)) B11 [.bool false, .bool false, .bool false, .bool false, .bool false, .bool false, .bool false, .bool false, .int .i64 0, .int .u64 0, .int .i64 0, .int .u64 0] 26 := (K13_3.out.alloc (.cells #[.int .u64 (I : Int)] 22))
  have d14_3 : B11 < w13.heap.size := K13_3.out.lt
  have o4 : Blk (w13.alloc (.cells #[.int .u64 (I : Int)] 22)) B12_0 [.int .u64 (I : Int)] 22 := (K13_4.out.alloc (.cells #[.int .u64 (I : Int)] 22))
  have d14_4 : B12_0 < w13.heap.size := K13_4.out.lt
  have o5 : Blk (w13.alloc (.cells #[.int .u64 (I : Int)] 22)) B12_1 [.int .i64 (bits .xor .i64 a 1)] 3 := (K13_5.out.alloc (.cells #[.int .u64 (I : Int)] 22))
  have d14_5 : B12_1 < w13.heap.size := K13_5.out.lt
  obtain ⟨B14, hB0⟩ : ∃ B, B = w13.heap.size := ⟨_, rfl⟩
  obtain ⟨W14, hW⟩ : ∃ W, W = (w13.alloc (.cells #[.int .u64 (I : Int)] 22)) := ⟨_, rfl⟩
  rw [← hW] at nl nb0 o0 o1 o2 o3 o4 o5
  rw [← hB0] at nb0
  rw [← hW]
  try rw [← hB0]
  have K14_0 := Lib.hid o0
  have K14_1 := Lib.hid o1
  have K14_2 := Lib.hid o2
  have K14_3 := Lib.hid o3
  have K14_4 := Lib.hid o4
  have K14_5 := Lib.hid o5
  have K14_6 := Lib.hid nb0
  have G14 : Hid (w.heap.size ≤ B14) := Lib.hid (by have := L13.out.size; omega)
  have x14_0_0 : B1 ≠ B14 := by omega
  have x14_1_0 : B5 ≠ B14 := by omega
  have x14_2_0 : B9 ≠ B14 := by omega
  have x14_3_0 : B11 ≠ B14 := by omega
  have x14_4_0 : B12_0 ≠ B14 := by omega
  have x14_5_0 : B12_1 ≠ B14 := by omega
  have X14_0_0 := Lib.hid x14_0_0; clear x14_0_0
  have X14_1_0 := Lib.hid x14_1_0; clear x14_1_0
  have X14_2_0 := Lib.hid x14_2_0; clear x14_2_0
  have X14_3_0 := Lib.hid x14_3_0; clear x14_3_0
  have X14_4_0 := Lib.hid x14_4_0; clear x14_4_0
  have X14_5_0 := Lib.hid x14_5_0; clear x14_5_0
  have F14 : Hid (Buf W14 b sp g 4 2 (one1 (numN va lv % 4) ⟨true, a, numN va lv, ⟨⟨v, r, x1, x, u, false, a9, d, rsw, ppn⟩, lv, pl⟩⟩)) := Lib.hid (hW ▸ F13.out.below ((Below.refl w13.heap.size w13).alloc (by simp) (.cells #[.int .u64 (I : Int)] 22)))
  have nf14 : Hid (¬ FpT b sp g 4 B14) := Lib.hid (fun hf => by have := F13.out.lt _ hf; omega)
  clear F13
  have L14 := Lib.hid nl
  clear nl hW nb0 hB0 o0 d14_0 o1 d14_1 o2 d14_2 o3 d14_3 o4 d14_4 o5 d14_5 K13_0 K13_1 K13_2 K13_3 K13_4 K13_5
  refine (hold_6 F14.out HIL.out HL.out HI.out K14_6.out nf14.out).mono ?_
  rintro e w15 ⟨rfl, hbuf, hb⟩
  have hbuf : Buf w15 b sp g 4 2 (fun _ _ => zw) := hbuf
  have F15 := Lib.hid hbuf
  have L15 := Lib.hid (L14.out.trans (hb.below L14.out.size (fun k hk hf => by have := HFP2.out k hf; omega)))
  have K15_0 := Lib.hid (K14_0.out.chg hb nf1.out)
  have K15_1 := Lib.hid (K14_1.out.chg hb nf5.out)
  have K15_2 := Lib.hid (K14_2.out.chg hb nf9.out)
  have K15_3 := Lib.hid (K14_3.out.chg hb nf11.out)
  have K15_4 := Lib.hid (K14_4.out.chg hb nf12_0.out)
  have K15_5 := Lib.hid (K14_5.out.chg hb nf12_1.out)
  have K15_6 := Lib.hid (K14_6.out.chg hb nf14.out)
  clear hb hbuf F14 K14_0 K14_1 K14_2 K14_3 K14_4 K14_5 K14_6
  have m0_0 : w15.cell? ⟨B1, 0, none⟩ = some _ := K15_0.out.cell 0
  have m0_1 : w15.cell? ⟨B1, 1, none⟩ = some _ := K15_0.out.cell 1
  have m0_2 : w15.cell? ⟨B1, 2, none⟩ = some _ := K15_0.out.cell 2
  have m0_3 : w15.cell? ⟨B1, 3, none⟩ = some _ := K15_0.out.cell 3
  have m0_4 : w15.cell? ⟨B1, 4, none⟩ = some _ := K15_0.out.cell 4
  have m0_5 : w15.cell? ⟨B1, 5, none⟩ = some _ := K15_0.out.cell 5
  have m0_6 : w15.cell? ⟨B1, 6, none⟩ = some _ := K15_0.out.cell 6
  have m0_7 : w15.cell? ⟨B1, 7, none⟩ = some _ := K15_0.out.cell 7
  have m0_8 : w15.cell? ⟨B1, 8, none⟩ = some _ := K15_0.out.cell 8
  have m0_9 : w15.cell? ⟨B1, 9, none⟩ = some _ := K15_0.out.cell 9
  have m0_10 : w15.cell? ⟨B1, 10, none⟩ = some _ := K15_0.out.cell 10
  have m0_11 : w15.cell? ⟨B1, 11, none⟩ = some _ := K15_0.out.cell 11
  have m0_12 : w15.cell? ⟨B1, 12, none⟩ = some _ := K15_0.out.cell 12
  have m0_13 : w15.cell? ⟨B1, 13, none⟩ = some _ := K15_0.out.cell 13
  have m0_14 : w15.cell? ⟨B1, 14, none⟩ = some _ := K15_0.out.cell 14
  have m0_15 : w15.cell? ⟨B1, 15, none⟩ = some _ := K15_0.out.cell 15
  have mlt0 : B1 < w15.heap.size := K15_0.out.lt
  go_wp2_with fail
  clear m0_0 m0_1 m0_2 m0_3 m0_4 m0_5 m0_6 m0_7 m0_8 m0_9 m0_10 m0_11 m0_12 m0_13 m0_14 m0_15 mlt0
  refine (hold_1 F15.out HV.out).mono ?_
  rintro e w16 ⟨rfl, hb⟩
  have F16 := Lib.hid (F15.out.below hb)
  have L16 := Lib.hid (L15.out.trans (hb.mono L15.out.size))
  have K16_0 := Lib.hid (K15_0.out.below hb K15_0.out.lt)
  have K16_1 := Lib.hid (K15_1.out.below hb K15_1.out.lt)
  have K16_2 := Lib.hid (K15_2.out.below hb K15_2.out.lt)
  have K16_3 := Lib.hid (K15_3.out.below hb K15_3.out.lt)
  have K16_4 := Lib.hid (K15_4.out.below hb K15_4.out.lt)
  have K16_5 := Lib.hid (K15_5.out.below hb K15_5.out.lt)
  have K16_6 := Lib.hid (K15_6.out.below hb K15_6.out.lt)
  clear hb F15 K15_0 K15_1 K15_2 K15_3 K15_4 K15_5 K15_6
  go_upto_region 17 with (fail)
  have nb0 : Blk (w16.alloc (.cells #[.bool false, .bool false, .bool false, .bool false, .bool false, .bool false, .bool false, .bool false, .int .i64 0, .int .u64 0, .int .i64 0, .int .u64 0] 26)) (w16.heap.size) [.bool false, .bool false, .bool false, .bool false, .bool false, .bool false, .bool false, .bool false, .int .i64 0, .int .u64 0, .int .i64 0, .int .u64 0] 26 := Blk.new w16 [.bool false, .bool false, .bool false, .bool false, .bool false, .bool false, .bool false, .bool false, .int .i64 0, .int .u64 0, .int .i64 0, .int .u64 0] 26
  have nls : Below w.heap.size w w16 := L16.out
  have nl0 := nls.alloc nls.size (.cells #[.bool false, .bool false, .bool false, .bool false, .bool false, .bool false, .bool false, .bool false, .int .i64 0, .int .u64 0, .int .i64 0, .int .u64 0] 26)
  have nl : Below w.heap.size w (w16.alloc (.cells #[.bool false, .bool false, .bool false, .bool false, .bool false, .bool false, .bool false, .bool false, .int .i64 0, .int .u64 0, .int .i64 0, .int .u64 0] 26)) := nl0; clear nls nl0
  have o0 : Blk (w16.alloc (.cells #[.bool false, .bool false, .bool false, .bool false, .bool false, .bool false, .bool false, .bool false, .int .i64 0, .int .u64 0, .int .i64 0, .int .u64 0] 26)) B1 [.int .i64 kd, .int .i64 a, .int .i64 pk, .int .u64 ova, .bool v, .bool r, .bool x1, .bool x, .bool u, .bool false, .bool a9, .bool d, .int .i64 rsw, .int .u64 (ppn : Int), .int .i64 (lv : Int), .int .u64 (pl : Int)] 28 := (K16_0.out.alloc (.cells #[.bool false, .bool false, .bool false, .bool false, .bool false, .bool false, .bool false, .bool false, .int .i64 0, .int .u64 0, .int .i64 0, .int .u64 0] 26))
  have d17_0 : B1 < w16.heap.size := K16_0.out.lt
  have o1 : Blk (w16.alloc (.cells #[.bool false, .bool false, .bool false, .bool false, .bool false, .bool false, .bool false, .bool false, .int .i64 0, .int .u64 0, .int .i64 0, .int .u64 0] 26)) B5 [.bool false, .bool false, .bool false, .bool false, .bool false, .bool false, .bool false, .bool false, .int .i64 0, .int .u64 0, .int .i64 0, .int .u64 0] 26 := (K16_1.out.alloc (.cells #[.bool false, .bool false, .bool false, .bool false, .bool false, .bool false, .bool false, .bool false, .int .i64 0, .int .u64 0, .int .i64 0, .int .u64 0] 26))
  have d17_1 : B5 < w16.heap.size := K16_1.out.lt
  have o2 : Blk (w16.alloc (.cells #[.bool false, .bool false, .bool false, .bool false, .bool false, .bool false, .bool false, .bool false, .int .i64 0, .int .u64 0, .int .i64 0, .int .u64 0] 26)) B9 [.bool v, .bool r, .bool x1, .bool x, .bool u, .bool false, .bool a9, .bool d, .int .i64 rsw, .int .u64 (ppn : Int), .int .i64 (lv : Int), .int .u64 (pl : Int)] 26 := (K16_2.out.alloc (.cells #[.bool false, .bool false, .bool false, .bool false, .bool false, .bool false, .bool false, .bool false, .int .i64 0, .int .u64 0, .int .i64 0, .int .u64 0] 26))
  have d17_2 : B9 < w16.heap.size := K16_2.out.lt
  have o3 : Blk (w16.alloc (.cells #[.bool false, .bool false, .bool false, .bool false, .bool false, .bool false, .bool false, .bool false, .int .i64 0, .int .u64 0, .int .i64 0, .int .u64 0] 26)) B11 [.bool false, .bool false, .bool false, .bool false, .bool false, .bool false, .bool false, .bool false, .int .i64 0, .int .u64 0, .int .i64 0, .int .u64 0] 26 := (K16_3.out.alloc (.cells #[.bool false, .bool false, .bool false, .bool false, .bool false, .bool false, .bool false, .bool false, .int .i64 0, .int .u64 0, .int .i64 0, .int .u64 0] 26))
  have d17_3 : B11 < w16.heap.size := K16_3.out.lt
  have o4 : Blk (w16.alloc (.cells #[.bool false, .bool false, .bool false, .bool false, .bool false, .bool false, .bool false, .bool false, .int .i64 0, .int .u64 0, .int .i64 0, .int .u64 0] 26)) B12_0 [.int .u64 (I : Int)] 22 := (K16_4.out.alloc (.cells #[.bool false, .bool false, .bool false, .bool false, .bool false, .bool false, .bool false, .bool false, .int .i64 0, .int .u64 0, .int .i64 0, .int .u64 0] 26))
  have d17_4 : B12_0 < w16.heap.size := K16_4.out.lt
  have o5 : Blk (w16.alloc (.cells #[.bool false, .bool false, .bool false, .bool false, .bool false, .bool false, .bool false, .bool false, .int .i64 0, .int .u64 0, .int .i64 0, .int .u64 0] 26)) B12_1 [.int .i64 (bits .xor .i64 a 1)] 3 := (K16_5.out.alloc (.cells #[.bool false, .bool false, .bool false, .bool false, .bool false, .bool false, .bool false, .bool false, .int .i64 0, .int .u64 0, .int .i64 0, .int .u64 0] 26))
  have d17_5 : B12_1 < w16.heap.size := K16_5.out.lt
  have o6 : Blk (w16.alloc (.cells #[.bool false, .bool false, .bool false, .bool false, .bool false, .bool false, .bool false, .bool false, .int .i64 0, .int .u64 0, .int .i64 0, .int .u64 0] 26)) B14 [.int .u64 (I : Int)] 22 := (K16_6.out.alloc (.cells #[.bool false, .bool false, .bool false, .bool false, .bool false, .bool false, .bool false, .bool false, .int .i64 0, .int .u64 0, .int .i64 0, .int .u64 0] 26))
  have d17_6 : B14 < w16.heap.size := K16_6.out.lt
  obtain ⟨B17, hB0⟩ : ∃ B, B = w16.heap.size := ⟨_, rfl⟩
  obtain ⟨W17, hW⟩ : ∃ W, W = (w16.alloc (.cells #[.bool false, .bool false, .bool false, .bool false, .bool false, .bool false, .bool false, .bool false, .int .i64 0, .int .u64 0, .int .i64 0, .int .u64 0] 26)) := ⟨_, rfl⟩
  rw [← hW] at nl nb0 o0 o1 o2 o3 o4 o5 o6
  rw [← hB0] at nb0
  rw [← hW]
  try rw [← hB0]
  have K17_0 := Lib.hid o0
  have K17_1 := Lib.hid o1
  have K17_2 := Lib.hid o2
  have K17_3 := Lib.hid o3
  have K17_4 := Lib.hid o4
  have K17_5 := Lib.hid o5
  have K17_6 := Lib.hid o6
  have K17_7 := Lib.hid nb0
  have G17 : Hid (w.heap.size ≤ B17) := Lib.hid (by have := L16.out.size; omega)
  have x17_0_0 : B1 ≠ B17 := by omega
  have x17_1_0 : B5 ≠ B17 := by omega
  have x17_2_0 : B9 ≠ B17 := by omega
  have x17_3_0 : B11 ≠ B17 := by omega
  have x17_4_0 : B12_0 ≠ B17 := by omega
  have x17_5_0 : B12_1 ≠ B17 := by omega
  have x17_6_0 : B14 ≠ B17 := by omega
  have X17_0_0 := Lib.hid x17_0_0; clear x17_0_0
  have X17_1_0 := Lib.hid x17_1_0; clear x17_1_0
  have X17_2_0 := Lib.hid x17_2_0; clear x17_2_0
  have X17_3_0 := Lib.hid x17_3_0; clear x17_3_0
  have X17_4_0 := Lib.hid x17_4_0; clear x17_4_0
  have X17_5_0 := Lib.hid x17_5_0; clear x17_5_0
  have X17_6_0 := Lib.hid x17_6_0; clear x17_6_0
  have F17 : Hid (Buf W17 b sp g 4 2 (fun _ _ => zw)) := Lib.hid (hW ▸ F16.out.below ((Below.refl w16.heap.size w16).alloc (by simp) (.cells #[.bool false, .bool false, .bool false, .bool false, .bool false, .bool false, .bool false, .bool false, .int .i64 0, .int .u64 0, .int .i64 0, .int .u64 0] 26)))
  have nf17 : Hid (¬ FpT b sp g 4 B17) := Lib.hid (fun hf => by have := F16.out.lt _ hf; omega)
  clear F16
  have L17 := Lib.hid nl
  clear nl hW nb0 hB0 o0 d17_0 o1 d17_1 o2 d17_2 o3 d17_3 o4 d17_4 o5 d17_5 o6 d17_6 K16_0 K16_1 K16_2 K16_3 K16_4 K16_5 K16_6
  go_wp2_with fail
  refine (hold_8 F17.out).mono ?_
  rintro e w18 ⟨rfl, hb⟩
  have F18 := Lib.hid (F17.out.below hb)
  have L18 := Lib.hid (L17.out.trans (hb.mono L17.out.size))
  have K18_0 := Lib.hid (K17_0.out.below hb K17_0.out.lt)
  have K18_1 := Lib.hid (K17_1.out.below hb K17_1.out.lt)
  have K18_2 := Lib.hid (K17_2.out.below hb K17_2.out.lt)
  have K18_3 := Lib.hid (K17_3.out.below hb K17_3.out.lt)
  have K18_4 := Lib.hid (K17_4.out.below hb K17_4.out.lt)
  have K18_5 := Lib.hid (K17_5.out.below hb K17_5.out.lt)
  have K18_6 := Lib.hid (K17_6.out.below hb K17_6.out.lt)
  have K18_7 := Lib.hid (K17_7.out.below hb K17_7.out.lt)
  clear hb F17 K17_0 K17_1 K17_2 K17_3 K17_4 K17_5 K17_6 K17_7
  go_wp2
  go_ret
  exact ⟨rfl, L18.out⟩
theorem holds_walk (kd a pk ova : Int) (va oth : Nat) (e : Ent) (pl : Nat) (lv : Int) (w : World) (hv : va < 18446744073709551616) (ho : oth < 18446744073709551616) (hp : -9223372036854775808 ≤ pk ∧ pk ≤ 9223372036854775807) :
    Calls Try.prog 3 #[.int .u64 va, .int .u64 oth, .agg #[.int .i64 kd, .int .i64 a, .int .i64 pk, .int .u64 ova, .bool e.v, .bool e.r, .bool e.w, .bool e.x, .bool e.u, .bool e.g, .bool e.a, .bool e.d, .int .i64 e.rsw, .int .u64 (e.ppn : Int), .int .i64 lv, .int .u64 (pl : Int)]] w fun q w' => q = .returned (.bool true) ∧ Below w.heap.size w w' := by
  obtain ⟨v, r, x1, x, u, g9, a9, d, rsw, ppn⟩ := e
  by_cases hl : 0 ≤ lv ∧ lv < 3
  · obtain ⟨n, rfl⟩ : ∃ n : Nat, lv = n := ⟨lv.toNat, by omega⟩
    cases g9
    · exact holds_false kd a pk ova va oth v r x1 x u a9 d rsw ppn pl n w hv ho (by omega) (by omega)
    · exact holds_true kd a pk ova va oth v r x1 x u a9 d rsw ppn pl n w hv ho (by omega) (by omega)
  · exact holds_bad kd a pk ova va oth v r x1 x u g9 a9 d rsw ppn pl lv w hv hl
end Go.Proofs.Ytfibdkiibnajhaa
