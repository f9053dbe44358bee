/-
  What the laws of layer 4 (package runriglaw04) answer: walks over the contracts.
-/
import Derived.Test.YtbfdanbepdefnaaRules04
import Derived.Test.YtbfdanbepdefnaaRows
namespace Go.Proofs.Ytbfdanbepdefnaa
open Go.RowKit Ieee
set_option linter.unusedVariables false
set_option linter.unusedSimpArgs false

/-- whole numbers as a word -/
def wh (a b : Int) : Nat := cw (bitsD (.number (a < 0) a.natAbs 0)) (bitsD (.number (b < 0) b.natAbs 0))
theorem wh_1_2 : wh 1 2 = 4611686019492741120 := by decide +kernel
theorem wh_3_m1 : wh 3 (-1) = 13799029259341135872 := by decide +kernel
theorem wh_5_5 : wh 5 5 = 4656722015785320448 := by decide +kernel
theorem wh_3_4 : wh 3 4 = 4647714816524288000 := by decide +kernel
theorem wh_25_0 : wh 25 0 = 1103626240 := by decide +kernel
theorem wh_1_0 : wh 1 0 = 1065353216 := by decide +kernel
theorem wh_m2_7 : wh (-2) 7 = 4674736416431800320 := by decide +kernel
theorem mul_1 : cw (Go.Proofs.Ytbfdanbepdefnaa.told ((prodD (lo 4611686019492741120) (lo 13799029259341135872)).sum (prodD (hi 4611686019492741120) (hi 13799029259341135872)).opposite)) (Go.Proofs.Ytbfdanbepdefnaa.told ((prodD (lo 4611686019492741120) (hi 13799029259341135872)).sum (prodD (hi 4611686019492741120) (lo 13799029259341135872)))) = 4656722015785320448 := by decide +kernel
theorem norm_1 : cw (Go.Proofs.Ytbfdanbepdefnaa.told ((prodD (lo 4647714816524288000) (lo 4647714816524288000)).sum (prodD (hi 4647714816524288000) (hi 4647714816524288000)))) 0 = 1103626240 := by decide +kernel
theorem first_any (w : World) : Calls Try.prog 7 #[] w fun r w' => r = .returned (.bool true) ∧ Dr w w' := by
  have c1 := fun w => mul_any 4611686019492741120 13799029259341135872 w (by decide) (by decide)
  rw [mul_1] at c1
  have c2 := fun w => norm_any 4647714816524288000 w (by decide)
  rw [norm_1] at c2
  have C1 := Lib.hid c1; have C2 := Lib.hid c2
  clear c1 c2
  have w1_2 := fun w => whole_any 1 2 w
  rw [show (cw (bitsD (.number ((1 : Int) < 0) (1 : Int).natAbs 0)) (bitsD (.number ((2 : Int) < 0) (2 : Int).natAbs 0)) : Nat) = 4611686019492741120 from wh_1_2] at w1_2
  have W1_2 := Lib.hid w1_2; clear w1_2
  have w3_m1 := fun w => whole_any 3 (-1) w
  rw [show (cw (bitsD (.number ((3 : Int) < 0) (3 : Int).natAbs 0)) (bitsD (.number (((-1) : Int) < 0) ((-1) : Int).natAbs 0)) : Nat) = 13799029259341135872 from wh_3_m1] at w3_m1
  have W3_m1 := Lib.hid w3_m1; clear w3_m1
  have w5_5 := fun w => whole_any 5 5 w
  rw [show (cw (bitsD (.number ((5 : Int) < 0) (5 : Int).natAbs 0)) (bitsD (.number ((5 : Int) < 0) (5 : Int).natAbs 0)) : Nat) = 4656722015785320448 from wh_5_5] at w5_5
  have W5_5 := Lib.hid w5_5; clear w5_5
  have w3_4 := fun w => whole_any 3 4 w
  rw [show (cw (bitsD (.number ((3 : Int) < 0) (3 : Int).natAbs 0)) (bitsD (.number ((4 : Int) < 0) (4 : Int).natAbs 0)) : Nat) = 4647714816524288000 from wh_3_4] at w3_4
  have W3_4 := Lib.hid w3_4; clear w3_4
  have w25_0 := fun w => whole_any 25 0 w
  rw [show (cw (bitsD (.number ((25 : Int) < 0) (25 : Int).natAbs 0)) (bitsD (.number ((0 : Int) < 0) (0 : Int).natAbs 0)) : Nat) = 1103626240 from wh_25_0] at w25_0
  have W25_0 := Lib.hid w25_0; clear w25_0
  have w1_0 := fun w => whole_any 1 0 w
  rw [show (cw (bitsD (.number ((1 : Int) < 0) (1 : Int).natAbs 0)) (bitsD (.number ((0 : Int) < 0) (0 : Int).natAbs 0)) : Nat) = 1065353216 from wh_1_0] at w1_0
  have W1_0 := Lib.hid w1_0; clear w1_0
  have wm2_7 := fun w => whole_any (-2) 7 w
  rw [show (cw (bitsD (.number (((-2) : Int) < 0) ((-2) : Int).natAbs 0)) (bitsD (.number ((7 : Int) < 0) (7 : Int).natAbs 0)) : Nat) = 4674736416431800320 from wh_m2_7] at wm2_7
  have Wm2_7 := Lib.hid wm2_7; clear wm2_7
  have n1 := fun w => nan_any 2143289344 w (by decide)
  rw [show ((lo 2143289344).isNaN || (hi 2143289344).isNaN) = true from by decide +kernel] at n1
  have n2 := fun w => nan_any 4656722015785320448 w (by decide)
  rw [show ((lo 4656722015785320448).isNaN || (hi 4656722015785320448).isNaN) = false from by decide +kernel] at n2
  have NN1 := Lib.hid n1; have NN2 := Lib.hid n2
  have u1 := fun w => unpack_any 4674736416431800320 w (by decide)
  have U1 := Lib.hid u1
  clear n1 n2 u1
  have o1 : (FloatKind.f32.format.order 3221225472 3221225472 == some .eq) = true := by decide +kernel
  have o2 : (FloatKind.f32.format.order 1088421888 1088421888 == some .eq) = true := by decide +kernel
  go_enter Try.func7, Try.ntmps7
  go_wp2_with fail
  refine (W1_2.out _).mono ?_
  rintro r v1 ⟨rfl, hd1⟩
  have D1 := Lib.hid hd1; clear hd1
  go_wp2_with fail
  refine (W3_m1.out _).mono ?_
  rintro r v2 ⟨rfl, hd2⟩
  have D2 := Lib.hid hd2; clear hd2
  go_wp2_with fail
  refine (C1.out _).mono ?_
  rintro r v3 ⟨rfl, hd3⟩
  have D3 := Lib.hid hd3; clear hd3
  go_wp2_with fail
  refine (W5_5.out _).mono ?_
  rintro r v4 ⟨rfl, hd4⟩
  have D4 := Lib.hid hd4; clear hd4
  go_wp2_with fail
  refine (W3_4.out _).mono ?_
  rintro r v5 ⟨rfl, hd5⟩
  have D5 := Lib.hid hd5; clear hd5
  go_wp2_with fail
  refine (C2.out _).mono ?_
  rintro r v6 ⟨rfl, hd6⟩
  have D6 := Lib.hid hd6; clear hd6
  go_wp2_with fail
  refine (W25_0.out _).mono ?_
  rintro r v7 ⟨rfl, hd7⟩
  have D7 := Lib.hid hd7; clear hd7
  go_wp2_with fail
  refine (W1_0.out _).mono ?_
  rintro r v8 ⟨rfl, hd8⟩
  have D8 := Lib.hid hd8; clear hd8
  go_wp2_with fail
  refine (Wm2_7.out _).mono ?_
  rintro r v9 ⟨rfl, hd9⟩
  have D9 := Lib.hid hd9; clear hd9
  go_wp2_with fail
  refine (U1.out _).mono ?_
  rintro r w' ⟨rfl, rfl⟩
  go_wp2_with fail
  refine (NN1.out _).mono ?_
  rintro r v10 ⟨rfl, hd10⟩
  have D10 := Lib.hid hd10; clear hd10
  go_wp2_with fail
  refine (NN2.out _).mono ?_
  rintro r v11 ⟨rfl, hd11⟩
  have D11 := Lib.hid hd11; clear hd11
  go_wp2
  go_ret
  exact ⟨rfl, D1.out.trans (D2.out.trans (D3.out.trans (D4.out.trans (D5.out.trans (D6.out.trans (D7.out.trans (D8.out.trans (D9.out.trans (D10.out.trans (D11.out))))))))))⟩
theorem cw_lo {x y : Nat} (hx : x < 4294967296) : cw x y % 4294967296 = x := by unfold cw; omega
theorem cw_hi {x y : Nat} (hx : x < 4294967296) : cw x y / 4294967296 = y := by unfold cw; omega
theorem cw_lt {x y : Nat} (hx : x < 4294967296) (hy : y < 4294967296) : cw x y < 18446744073709551616 := by unfold cw; omega
theorem order_self (f : Format) (b : Nat) : (f.order b b == some .eq) = !(f.read b).isNaN := by
  have := nan_order f b
  rw [bne] at this
  rw [← this, Bool.not_not]
theorem int_not_nan (n : Int) : (FloatKind.f32.format.order (floatOfInt .f32 n) (floatOfInt .f32 n) == some .eq) = true := by
  rw [order_self]
  have := write_num Ieee.single (n < 0) n.natAbs 0 (by decide)
  show (!(Ieee.single.read (Ieee.single.write (.number (n < 0) n.natAbs 0))).isNaN) = true
  rw [this]; rfl
set_option maxHeartbeats 1000000 in
theorem packs_walk (a : Nat) (re im : Int) (w : World) (ha : a < 18446744073709551616) (h1 : -128 ≤ re) (h2 : re ≤ 127) (h3 : -128 ≤ im) (h4 : im ≤ 127) :
    Calls Try.prog 5 #[.int .u64 (a : Int), .int .i8 re, .int .i8 im] w fun r w' => r = .returned (.bool true) ∧ Below w.heap.size w w' := by
  have cT := fun w => first_any w
  have HT := Lib.hid cT; clear cT
  have l1 : a % 4294967296 < 4294967296 := by omega
  have l2 : a / 4294967296 < 4294967296 := by omega
  have cP := fun w => pack_any (a % 4294967296) (a / 4294967296) w l1 l2
  have cR := fun w => rplain_any a ha w
  have b1 : bitsD (lo a) = pb (a % 4294967296) := bitsD_read _ l1
  have b2 : bitsD (hi a) = pb (a / 4294967296) := bitsD_read _ l2
  rw [b1, b2] at cR
  have cN := fun w => nan_any a w ha
  have cM := fun w => rnan_any a ha w
  have o1 := order_self FloatKind.f32.format (a % 4294967296)
  have o2 := order_self FloatKind.f32.format (a / 4294967296)
  have o1 : (FloatKind.f32.format.order (a % 4294967296) (a % 4294967296) == some .eq) = !(lo a).isNaN := o1
  have o2 : (FloatKind.f32.format.order (a / 4294967296) (a / 4294967296) == some .eq) = !(hi a).isNaN := o2
  have r1 : (FloatKind.f32.format.read (a % 4294967296)).isNaN = (lo a).isNaN := rfl
  have r2 : (FloatKind.f32.format.read (a / 4294967296)).isNaN = (hi a).isNaN := rfl
  have cU := fun w => unpack_any a w ha
  have cW := fun w => whole_any re im w
  have cV := fun w => rwhole_any re im h1 h2 h3 h4 w
  rw [← int_bits, ← int_bits] at cW cV
  have f1 : floatOfInt .f32 re < 4294967296 := bitsD_lt (.number (re < 0) re.natAbs 0)
  have f2 : floatOfInt .f32 im < 4294967296 := bitsD_lt (.number (im < 0) im.natAbs 0)
  have cX := fun w => unpack_any (cw (floatOfInt .f32 re) (floatOfInt .f32 im)) w (cw_lt f1 f2)
  rw [cw_lo f1, cw_hi f1] at cX
  have o3 := int_not_nan re
  have o4 := int_not_nan im
  generalize cw (pb (a % 4294967296)) (pb (a / 4294967296)) = X at cP cR
  generalize cw (floatOfInt .f32 re) (floatOfInt .f32 im) = Y at cW cV cX
  generalize (lo a).isNaN = x at cN cM o1 r1
  generalize (hi a).isNaN = y at cN cM o2 r2
  have CP := Lib.hid cP; have CR := Lib.hid cR; have CN := Lib.hid cN; have CM := Lib.hid cM; have CU := Lib.hid cU; have CW := Lib.hid cW; have CV := Lib.hid cV; have CX := Lib.hid cX
  clear cP cR cN cM cU cW cV cX b1 b2 f1 f2 l1 l2
  cases x <;> cases y
  all_goals
    simp only [Bool.not_true, Bool.not_false] at o1 o2
    go_enter Try.func5, Try.ntmps5
    go_wp2_with fail
    refine (HT.out _).mono ?_
    rintro r v1 ⟨rfl, hb1⟩
    have hb1 := hb1.below
    have B1 := Lib.hid hb1; have s1 := hb1.size; clear hb1
    go_wp2_with fail
    refine (CU.out _).mono ?_
    rintro r w' ⟨rfl, rfl⟩
    go_wp2_with fail
    refine (CP.out _).mono ?_
    rintro r v2 ⟨rfl, hb2⟩
    have hb2 := hb2.below
    have B2 := Lib.hid hb2; have s2 := hb2.size; clear hb2
    go_wp2_with fail
    refine (CR.out _).mono ?_
    rintro r v3 ⟨rfl, hb3⟩
    have B3 := Lib.hid hb3; have s3 := hb3.size; clear hb3
    go_wp2_with fail
    refine (CN.out _).mono ?_
    rintro r v4 ⟨rfl, hb4⟩
    have hb4 := hb4.below
    have B4 := Lib.hid hb4; have s4 := hb4.size; clear hb4
    go_wp2_with fail
    refine (CM.out _).mono ?_
    rintro r v5 ⟨rfl, hb5⟩
    have B5 := Lib.hid hb5; have s5 := hb5.size; clear hb5
    go_wp2_with fail
    refine (CN.out _).mono ?_
    rintro r v6 ⟨rfl, hb6⟩
    have hb6 := hb6.below
    have B6 := Lib.hid hb6; have s6 := hb6.size; clear hb6
    go_wp2_with fail
    refine (CW.out _).mono ?_
    rintro r v7 ⟨rfl, hb7⟩
    have hb7 := hb7.below
    have B7 := Lib.hid hb7; have s7 := hb7.size; clear hb7
    go_wp2_with fail
    refine (CV.out _).mono ?_
    rintro r v8 ⟨rfl, hb8⟩
    have B8 := Lib.hid hb8; have s8 := hb8.size; clear hb8
    go_wp2_with fail
    refine (CW.out _).mono ?_
    rintro r v9 ⟨rfl, hb9⟩
    have hb9 := hb9.below
    have B9 := Lib.hid hb9; have s9 := hb9.size; clear hb9
    go_wp2_with fail
    refine (CX.out _).mono ?_
    rintro r w' ⟨rfl, rfl⟩
    go_wp2
    go_ret
    refine ⟨rfl, ?_⟩
    refine Below.trans ?_ (B9.out.mono (by omega))
    refine Below.trans ?_ (B8.out.mono (by omega))
    refine Below.trans ?_ (B7.out.mono (by omega))
    refine Below.trans ?_ (B6.out.mono (by omega))
    refine Below.trans ?_ (B5.out.mono (by omega))
    refine Below.trans ?_ (B4.out.mono (by omega))
    refine Below.trans ?_ (B3.out.mono (by omega))
    refine Below.trans ?_ (B2.out.mono (by omega))
    refine Below.trans ?_ (B1.out.mono (by omega))
    exact Below.refl _ _
theorem sums_walk (a b : Nat) (w : World) (ha : a < 18446744073709551616) (hb : b < 18446744073709551616) : Calls Try.prog 3 #[.int .u64 (a : Int), .int .u64 (b : Int)] w fun r w' => r = .returned (.bool true) ∧ Below w.heap.size w w' := by
  have c1 := fun w => first_any w
  have c2 := fun w => add_any a b w ha hb
  have c3 := fun w => radd_any a b ha hb w
  have c4 := fun w => sub_any a b w ha hb
  have c5 := fun w => rsub_any a b ha hb w
  generalize cw (Go.Proofs.Ytbfdanbepdefnaa.told ((lo a).sum (lo b))) (Go.Proofs.Ytbfdanbepdefnaa.told ((hi a).sum (hi b))) = X at c2 c3
  generalize cw (Go.Proofs.Ytbfdanbepdefnaa.told ((lo a).sum (lo b).opposite)) (Go.Proofs.Ytbfdanbepdefnaa.told ((hi a).sum (hi b).opposite)) = Y at c4 c5
  have C1 := Lib.hid c1; clear c1
  have C2 := Lib.hid c2; clear c2
  have C3 := Lib.hid c3; clear c3
  have C4 := Lib.hid c4; clear c4
  have C5 := Lib.hid c5; clear c5
  go_enter Try.func3, Try.ntmps3
  go_wp2_with fail
  refine (C1.out _).mono ?_
  rintro r v1 ⟨rfl, hb1⟩
  have hb1 := hb1.below
  have B1 := Lib.hid hb1; have s1 := hb1.size; clear hb1
  go_wp2_with fail
  refine (C2.out _).mono ?_
  rintro r v2 ⟨rfl, hb2⟩
  have hb2 := hb2.below
  have B2 := Lib.hid hb2; have s2 := hb2.size; clear hb2
  go_wp2_with fail
  refine (C3.out _).mono ?_
  rintro r v3 ⟨rfl, hb3⟩
  have B3 := Lib.hid hb3; have s3 := hb3.size; clear hb3
  go_wp2_with fail
  refine (C4.out _).mono ?_
  rintro r v4 ⟨rfl, hb4⟩
  have hb4 := hb4.below
  have B4 := Lib.hid hb4; have s4 := hb4.size; clear hb4
  go_wp2_with fail
  refine (C5.out _).mono ?_
  rintro r v5 ⟨rfl, hb5⟩
  have B5 := Lib.hid hb5; have s5 := hb5.size; clear hb5
  go_wp2
  go_ret
  refine ⟨rfl, ?_⟩
  refine Below.trans ?_ (B5.out.mono (by omega))
  refine Below.trans ?_ (B4.out.mono (by omega))
  refine Below.trans ?_ (B3.out.mono (by omega))
  refine Below.trans ?_ (B2.out.mono (by omega))
  refine Below.trans ?_ (B1.out.mono (by omega))
  exact Below.refl _ _
theorem times_walk (a b : Nat) (w : World) (ha : a < 18446744073709551616) (hb : b < 18446744073709551616) : Calls Try.prog 4 #[.int .u64 (a : Int), .int .u64 (b : Int)] w fun r w' => r = .returned (.bool true) ∧ Below w.heap.size w w' := by
  have c1 := fun w => first_any w
  have c2 := fun w => mul_any a b w ha hb
  have c3 := fun w => rmul_any a b ha hb w
  have c4 := fun w => norm_any a w ha
  have c5 := fun w => rnorm_any a ha w
  have c6 := fun w => conj_any a w ha
  have c7 := fun w => rconj_any a ha w
  generalize cw (Go.Proofs.Ytbfdanbepdefnaa.told ((prodD (lo a) (lo b)).sum (prodD (hi a) (hi b)).opposite)) (Go.Proofs.Ytbfdanbepdefnaa.told ((prodD (lo a) (hi b)).sum (prodD (hi a) (lo b)))) = X at c2 c3
  generalize cw (Go.Proofs.Ytbfdanbepdefnaa.told ((prodD (lo a) (lo a)).sum (prodD (hi a) (hi a)))) 0 = Y at c4 c5
  generalize cw (bitsD (lo a)) (bitsD (hi a).opposite) = Z at c6 c7
  have C1 := Lib.hid c1; clear c1
  have C2 := Lib.hid c2; clear c2
  have C3 := Lib.hid c3; clear c3
  have C4 := Lib.hid c4; clear c4
  have C5 := Lib.hid c5; clear c5
  have C6 := Lib.hid c6; clear c6
  have C7 := Lib.hid c7; clear c7
  go_enter Try.func4, Try.ntmps4
  go_wp2_with fail
  refine (C1.out _).mono ?_
  rintro r v1 ⟨rfl, hb1⟩
  have hb1 := hb1.below
  have B1 := Lib.hid hb1; have s1 := hb1.size; clear hb1
  go_wp2_with fail
  refine (C2.out _).mono ?_
  rintro r v2 ⟨rfl, hb2⟩
  have hb2 := hb2.below
  have B2 := Lib.hid hb2; have s2 := hb2.size; clear hb2
  go_wp2_with fail
  refine (C3.out _).mono ?_
  rintro r v3 ⟨rfl, hb3⟩
  have B3 := Lib.hid hb3; have s3 := hb3.size; clear hb3
  go_wp2_with fail
  refine (C4.out _).mono ?_
  rintro r v4 ⟨rfl, hb4⟩
  have hb4 := hb4.below
  have B4 := Lib.hid hb4; have s4 := hb4.size; clear hb4
  go_wp2_with fail
  refine (C5.out _).mono ?_
  rintro r v5 ⟨rfl, hb5⟩
  have B5 := Lib.hid hb5; have s5 := hb5.size; clear hb5
  go_wp2_with fail
  refine (C6.out _).mono ?_
  rintro r v6 ⟨rfl, hb6⟩
  have hb6 := hb6.below
  have B6 := Lib.hid hb6; have s6 := hb6.size; clear hb6
  go_wp2_with fail
  refine (C7.out _).mono ?_
  rintro r v7 ⟨rfl, hb7⟩
  have B7 := Lib.hid hb7; have s7 := hb7.size; clear hb7
  go_wp2
  go_ret
  refine ⟨rfl, ?_⟩
  refine Below.trans ?_ (B7.out.mono (by omega))
  refine Below.trans ?_ (B6.out.mono (by omega))
  refine Below.trans ?_ (B5.out.mono (by omega))
  refine Below.trans ?_ (B4.out.mono (by omega))
  refine Below.trans ?_ (B3.out.mono (by omega))
  refine Below.trans ?_ (B2.out.mono (by omega))
  refine Below.trans ?_ (B1.out.mono (by omega))
  exact Below.refl _ _
/-- a product as a word -/
def ml (a b : Nat) : Nat := cw (mre a b) (mim a b)
theorem mre_lt (a b : Nat) : mre a b < 4294967296 := told_lt _
theorem mim_lt (a b : Nat) : mim a b < 4294967296 := told_lt _
theorem ml_lt (a b : Nat) : ml a b < 18446744073709551616 := cw_lt (mre_lt a b) (mim_lt a b)
theorem mul_ml (a b : Nat) (w : World) (ha : a < 18446744073709551616) (hb : b < 18446744073709551616) : Calls Try.prog 12 #[.int .u64 (a : Int), .int .u64 (b : Int)] w fun r w' => r = .returned (.int .u64 (ml a b : Nat)) ∧ Dr w w' := mul_any a b w ha hb
theorem conj_cj (a : Nat) (w : World) (ha : a < 18446744073709551616) : Calls Try.prog 16 #[.int .u64 (a : Int)] w fun r w' => r = .returned (.int .u64 (cj a : Nat)) ∧ Dr w w' := by
  have := conj_any a w ha
  rw [cj_eq] at this
  exact this
theorem cj_ml (a b : Nat) : cj (ml a b) = cw (mre a b) (nb (mim a b)) := by
  unfold ml
  have e1 : cw (mre a b) (mim a b) % 4294967296 = mre a b := cw_lo (mre_lt a b)
  have e2 : cw (mre a b) (mim a b) / 4294967296 = mim a b := cw_hi (mre_lt a b)
  show cw (pb (cw (mre a b) (mim a b) % 4294967296)) (nb (cw (mre a b) (mim a b) / 4294967296)) = _
  rw [e1, e2]
  congr 1
  exact pb_told _
theorem near_core (P Q : Nat) (x : Bool) (a b : Nat) (w : World) (hP : P < 18446744073709551616) (hQ : Q < 18446744073709551616)
    (c1 : ∀ w, Calls Try.prog 12 #[.int .u64 (a : Int), .int .u64 (b : Int)] w fun r w' => r = .returned (.int .u64 (P : Nat)) ∧ Dr w w')
    (A B : Nat) (c2 : ∀ w, Calls Try.prog 16 #[.int .u64 (a : Int)] w fun r w' => r = .returned (.int .u64 (A : Nat)) ∧ Dr w w')
    (c3 : ∀ w, Calls Try.prog 16 #[.int .u64 (b : Int)] w fun r w' => r = .returned (.int .u64 (B : Nat)) ∧ Dr w w')
    (c4 : ∀ w, Calls Try.prog 12 #[.int .u64 (A : Int), .int .u64 (B : Int)] w fun r w' => r = .returned (.int .u64 (Q : Nat)) ∧ Dr w w')
    (c5 : ∀ w, Calls Try.prog 21 #[.int .u64 (P : Int)] w fun r w' => r = .returned (.bool x) ∧ Dr w w')
    (c6 : ∀ w, Calls Try.prog 21 #[.int .u64 (Q : Int)] w fun r w' => r = .returned (.bool x) ∧ Dr w w')
    (h1 : (P : Int) / 4294967296 = 0 ∨ (P : Int) / 4294967296 = 2147483648) (h2 : (Q : Int) / 4294967296 = 0 ∨ (Q : Int) / 4294967296 = 2147483648) (X : Int) (h3 : (P : Int) % 4294967296 = X) (h4 : (Q : Int) % 4294967296 = X) :
    Calls Try.prog 25 #[.int .u64 (a : Int), .int .u64 (b : Int)] w fun r w' => r = .returned (.bool true) ∧ Below w.heap.size w w' := by
  have hP' : (P : Int) ≤ 18446744073709551615 := by omega
  have hQ' : (Q : Int) ≤ 18446744073709551615 := by omega
  have C1 := Lib.hid c1; clear c1
  have C2 := Lib.hid c2; clear c2
  have C3 := Lib.hid c3; clear c3
  have C4 := Lib.hid c4; clear c4
  have C5 := Lib.hid c5; clear c5
  have C6 := Lib.hid c6; clear c6
  clear hP hQ
  cases x
  · rcases h1 with h1 | h1 <;> rcases h2 with h2 | h2
    · have k1 : ((P : Int) == (Q : Int)) = true := by simp; omega
      go_enter Try.func25, Try.ntmps25
      go_wp2_with fail
      refine (C1.out _).mono ?_
      rintro r v1 ⟨rfl, hb1⟩
      have hb1 := hb1.below
      have B1 := Lib.hid hb1; have s1 := hb1.size; clear hb1
      go_wp2_with fail
      refine (C2.out _).mono ?_
      rintro r v2 ⟨rfl, hb2⟩
      have hb2 := hb2.below
      have B2 := Lib.hid hb2; have s2 := hb2.size; clear hb2
      go_wp2_with fail
      refine (C3.out _).mono ?_
      rintro r v3 ⟨rfl, hb3⟩
      have hb3 := hb3.below
      have B3 := Lib.hid hb3; have s3 := hb3.size; clear hb3
      go_wp2_with fail
      refine (C4.out _).mono ?_
      rintro r v4 ⟨rfl, hb4⟩
      have hb4 := hb4.below
      have B4 := Lib.hid hb4; have s4 := hb4.size; clear hb4
      go_wp2_with fail
      refine (C5.out _).mono ?_
      rintro r v5 ⟨rfl, hb5⟩
      have hb5 := hb5.below
      have B5 := Lib.hid hb5; have s5 := hb5.size; clear hb5
      go_wp2
      go_ret
      refine ⟨rfl, ?_⟩
      refine Below.trans ?_ (B5.out.mono (by omega))
      refine Below.trans ?_ (B4.out.mono (by omega))
      refine Below.trans ?_ (B3.out.mono (by omega))
      refine Below.trans ?_ (B2.out.mono (by omega))
      refine Below.trans ?_ (B1.out.mono (by omega))
      exact Below.refl _ _
    · have k1 : ((P : Int) == X) = true := by simp; omega
      go_enter Try.func25, Try.ntmps25
      go_wp2_with fail
      refine (C1.out _).mono ?_
      rintro r v1 ⟨rfl, hb1⟩
      have hb1 := hb1.below
      have B1 := Lib.hid hb1; have s1 := hb1.size; clear hb1
      go_wp2_with fail
      refine (C2.out _).mono ?_
      rintro r v2 ⟨rfl, hb2⟩
      have hb2 := hb2.below
      have B2 := Lib.hid hb2; have s2 := hb2.size; clear hb2
      go_wp2_with fail
      refine (C3.out _).mono ?_
      rintro r v3 ⟨rfl, hb3⟩
      have hb3 := hb3.below
      have B3 := Lib.hid hb3; have s3 := hb3.size; clear hb3
      go_wp2_with fail
      refine (C4.out _).mono ?_
      rintro r v4 ⟨rfl, hb4⟩
      have hb4 := hb4.below
      have B4 := Lib.hid hb4; have s4 := hb4.size; clear hb4
      go_wp2_with fail
      refine (C5.out _).mono ?_
      rintro r v5 ⟨rfl, hb5⟩
      have hb5 := hb5.below
      have B5 := Lib.hid hb5; have s5 := hb5.size; clear hb5
      go_wp2
      go_ret
      refine ⟨rfl, ?_⟩
      refine Below.trans ?_ (B5.out.mono (by omega))
      refine Below.trans ?_ (B4.out.mono (by omega))
      refine Below.trans ?_ (B3.out.mono (by omega))
      refine Below.trans ?_ (B2.out.mono (by omega))
      refine Below.trans ?_ (B1.out.mono (by omega))
      exact Below.refl _ _
    · have k1 : (X == (Q : Int)) = true := by simp; omega
      go_enter Try.func25, Try.ntmps25
      go_wp2_with fail
      refine (C1.out _).mono ?_
      rintro r v1 ⟨rfl, hb1⟩
      have hb1 := hb1.below
      have B1 := Lib.hid hb1; have s1 := hb1.size; clear hb1
      go_wp2_with fail
      refine (C2.out _).mono ?_
      rintro r v2 ⟨rfl, hb2⟩
      have hb2 := hb2.below
      have B2 := Lib.hid hb2; have s2 := hb2.size; clear hb2
      go_wp2_with fail
      refine (C3.out _).mono ?_
      rintro r v3 ⟨rfl, hb3⟩
      have hb3 := hb3.below
      have B3 := Lib.hid hb3; have s3 := hb3.size; clear hb3
      go_wp2_with fail
      refine (C4.out _).mono ?_
      rintro r v4 ⟨rfl, hb4⟩
      have hb4 := hb4.below
      have B4 := Lib.hid hb4; have s4 := hb4.size; clear hb4
      go_wp2_with fail
      refine (C5.out _).mono ?_
      rintro r v5 ⟨rfl, hb5⟩
      have hb5 := hb5.below
      have B5 := Lib.hid hb5; have s5 := hb5.size; clear hb5
      go_wp2
      go_ret
      refine ⟨rfl, ?_⟩
      refine Below.trans ?_ (B5.out.mono (by omega))
      refine Below.trans ?_ (B4.out.mono (by omega))
      refine Below.trans ?_ (B3.out.mono (by omega))
      refine Below.trans ?_ (B2.out.mono (by omega))
      refine Below.trans ?_ (B1.out.mono (by omega))
      exact Below.refl _ _
    · skip
      go_enter Try.func25, Try.ntmps25
      go_wp2_with fail
      refine (C1.out _).mono ?_
      rintro r v1 ⟨rfl, hb1⟩
      have hb1 := hb1.below
      have B1 := Lib.hid hb1; have s1 := hb1.size; clear hb1
      go_wp2_with fail
      refine (C2.out _).mono ?_
      rintro r v2 ⟨rfl, hb2⟩
      have hb2 := hb2.below
      have B2 := Lib.hid hb2; have s2 := hb2.size; clear hb2
      go_wp2_with fail
      refine (C3.out _).mono ?_
      rintro r v3 ⟨rfl, hb3⟩
      have hb3 := hb3.below
      have B3 := Lib.hid hb3; have s3 := hb3.size; clear hb3
      go_wp2_with fail
      refine (C4.out _).mono ?_
      rintro r v4 ⟨rfl, hb4⟩
      have hb4 := hb4.below
      have B4 := Lib.hid hb4; have s4 := hb4.size; clear hb4
      go_wp2_with fail
      refine (C5.out _).mono ?_
      rintro r v5 ⟨rfl, hb5⟩
      have hb5 := hb5.below
      have B5 := Lib.hid hb5; have s5 := hb5.size; clear hb5
      go_wp2
      go_ret
      refine ⟨rfl, ?_⟩
      refine Below.trans ?_ (B5.out.mono (by omega))
      refine Below.trans ?_ (B4.out.mono (by omega))
      refine Below.trans ?_ (B3.out.mono (by omega))
      refine Below.trans ?_ (B2.out.mono (by omega))
      refine Below.trans ?_ (B1.out.mono (by omega))
      exact Below.refl _ _
  · clear h1 h2 h3 h4
    go_enter Try.func25, Try.ntmps25
    go_wp2_with fail
    refine (C1.out _).mono ?_
    rintro r v1 ⟨rfl, hb1⟩
    have hb1 := hb1.below
    have B1 := Lib.hid hb1; have s1 := hb1.size; clear hb1
    go_wp2_with fail
    refine (C2.out _).mono ?_
    rintro r v2 ⟨rfl, hb2⟩
    have hb2 := hb2.below
    have B2 := Lib.hid hb2; have s2 := hb2.size; clear hb2
    go_wp2_with fail
    refine (C3.out _).mono ?_
    rintro r v3 ⟨rfl, hb3⟩
    have hb3 := hb3.below
    have B3 := Lib.hid hb3; have s3 := hb3.size; clear hb3
    go_wp2_with fail
    refine (C4.out _).mono ?_
    rintro r v4 ⟨rfl, hb4⟩
    have hb4 := hb4.below
    have B4 := Lib.hid hb4; have s4 := hb4.size; clear hb4
    go_wp2_with fail
    refine (C5.out _).mono ?_
    rintro r v5 ⟨rfl, hb5⟩
    have hb5 := hb5.below
    have B5 := Lib.hid hb5; have s5 := hb5.size; clear hb5
    go_wp2_with fail
    refine (C6.out _).mono ?_
    rintro r v6 ⟨rfl, hb6⟩
    have hb6 := hb6.below
    have B6 := Lib.hid hb6; have s6 := hb6.size; clear hb6
    go_wp2
    go_ret
    refine ⟨rfl, ?_⟩
    refine Below.trans ?_ (B6.out.mono (by omega))
    refine Below.trans ?_ (B5.out.mono (by omega))
    refine Below.trans ?_ (B4.out.mono (by omega))
    refine Below.trans ?_ (B3.out.mono (by omega))
    refine Below.trans ?_ (B2.out.mono (by omega))
    refine Below.trans ?_ (B1.out.mono (by omega))
    exact Below.refl _ _
theorem nan_ml (a b : Nat) (w : World) (h : mim a b % 2147483648 = 0) : Calls Try.prog 21 #[.int .u64 (ml a b : Nat)] w fun r w' => r = .returned (.bool (Ieee.single.read (mre a b)).isNaN) ∧ Dr w w' := by
  have c := nan_any (ml a b) w (ml_lt a b)
  unfold ml at c
  rw [lo_cw (mre_lt a b), hi_cw (mre_lt a b)] at c
  have hm := mim_lt a b
  have : (Ieee.single.read (mim a b)).isNaN = false := by
    rcases (show mim a b = 0 ∨ mim a b = 2147483648 by omega) with h | h <;> rw [h] <;> decide +kernel
  rw [this, Bool.or_false] at c
  exact c
theorem near_yes (a b : Nat) (w : World) (ha : a < 18446744073709551616) (hb : b < 18446744073709551616) (h1 : mim a b % 2147483648 = 0) (h2 : mim (cj a) (cj b) % 2147483648 = 0) : Calls Try.prog 25 #[.int .u64 (a : Int), .int .u64 (b : Int)] w fun r w' => r = .returned (.bool true) ∧ Below w.heap.size w w' := by
  have hm1 := mim_lt a b
  have hm2 := mim_lt (cj a) (cj b)
  have e1 := mre_lt a b
  have e2 := mre_lt (cj a) (cj b)
  have e3 := mre_cj a b ha hb
  have n2 := fun w => nan_ml (cj a) (cj b) w h2
  rw [e3] at n2
  refine near_core (ml a b) (ml (cj a) (cj b)) _ a b w (ml_lt _ _) (ml_lt _ _) (fun w => mul_ml a b w ha hb) (cj a) (cj b) (fun w => conj_cj a w ha) (fun w => conj_cj b w hb) (fun w => mul_ml _ _ w (cj_lt a) (cj_lt b)) (fun w => nan_ml a b w h1) n2 ?_ ?_ (mre a b : Nat) ?_ ?_
  · unfold ml cw; omega
  · unfold ml cw; omega
  · unfold ml cw; omega
  · unfold ml cw; rw [e3]; omega
set_option maxHeartbeats 1000000 in
theorem rules_walk (a b : Nat) (w : World) (ha : a < 18446744073709551616) (hb : b < 18446744073709551616) : Calls Try.prog 6 #[.int .u64 (a : Int), .int .u64 (b : Int)] w fun r w' => r = .returned (.bool true) ∧ Below w.heap.size w w' := by
  have c1 := fun w => first_any w
  have c2 := fun w => rplain_any a ha w
  have c3 := fun w => add_any a b w ha hb
  have c4 := fun w => add_any b a w hb ha
  rw [sum_comm (lo b), sum_comm (hi b)] at c4
  have c5 := fun w => conj_cj a w ha
  have c6 := fun w => conj_cj (cj a) w (cj_lt a)
  rw [cj_cj a ha] at c6
  have c7 := fun w => mul_ml a b w ha hb
  have c8 := fun w => mul_ml b a w hb ha
  have em : ml b a = ml a b := by unfold ml; rw [mre_comm b a, mim_comm b a]
  rw [em] at c8
  have c9 := fun w => conj_cj (ml a b) w (ml_lt a b)
  have c10 := fun w => conj_cj b w hb
  have c11 := fun w => mul_ml (cj a) (cj b) w (cj_lt a) (cj_lt b)
  have c12 := fun w => norm_any a w ha
  have c13 := fun w => norm_any (cj a) w (cj_lt a)
  have en : cw (nrm a) 0 = nrm a := by unfold cw; omega
  have c12 : ∀ w, Calls Try.prog 14 #[.int .u64 (a : Int)] w fun r w' => r = .returned (.int .u64 (cw (nrm a) 0 : Nat)) ∧ Dr w w' := c12
  have c13 : ∀ w, Calls Try.prog 14 #[.int .u64 (cj a : Nat)] w fun r w' => r = .returned (.int .u64 (cw (nrm (cj a)) 0 : Nat)) ∧ Dr w w' := c13
  rw [nrm_cj a ha] at c13
  rw [en] at c12 c13
  have hn := nrm_lt a
  have cN := fun (h1 : mim a b % 2147483648 = 0) (h2 : mim (cj a) (cj b) % 2147483648 = 0) w => near_yes a b w ha hb h1 h2
  have hcase : cj (ml a b) = ml (cj a) (cj b) ∨ (mim a b % 2147483648 = 0 ∧ mim (cj a) (cj b) % 2147483648 = 0) := by
    rcases mim_cj a b ha hb with h | h
    · left; rw [cj_ml]; unfold ml; rw [mre_cj a b ha hb, h]
    · exact .inr h
  generalize cw (bitsD (lo a)) (bitsD (hi a)) = Z at c2 c6
  generalize cw (Go.Proofs.Ytbfdanbepdefnaa.told ((lo a).sum (lo b))) (Go.Proofs.Ytbfdanbepdefnaa.told ((hi a).sum (hi b))) = S at c3 c4
  generalize ml (cj a) (cj b) = Q at c11 hcase
  generalize cj (ml a b) = U at c9 hcase
  generalize ml a b = P at c7 c8 c9
  generalize cj a = A at c5 c6 c11 c13 cN hcase
  generalize cj b = B at c10 c11 cN hcase
  generalize nrm a = n at c12 c13 hn
  clear em en
  have C1 := Lib.hid c1; clear c1
  have C2 := Lib.hid c2; clear c2
  have C3 := Lib.hid c3; clear c3
  have C4 := Lib.hid c4; clear c4
  have C5 := Lib.hid c5; clear c5
  have C6 := Lib.hid c6; clear c6
  have C7 := Lib.hid c7; clear c7
  have C8 := Lib.hid c8; clear c8
  have C9 := Lib.hid c9; clear c9
  have C10 := Lib.hid c10; clear c10
  have C11 := Lib.hid c11; clear c11
  have C12 := Lib.hid c12; clear c12
  have C13 := Lib.hid c13; clear c13
  clear ha hb
  have hn0 : (n : Int) < 2147483648 := by omega
  have hn1 : (n : Int) / 4294967296 = 0 := by omega
  by_cases hq : U = Q
  · subst hq
    clear hcase cN
    go_enter Try.func6, Try.ntmps6
    go_wp2_with fail
    refine (C1.out _).mono ?_
    rintro r v1 ⟨rfl, hb1⟩
    have hb1 := hb1.below
    have B1 := Lib.hid hb1; have s1 := hb1.size; clear hb1
    go_wp2_with fail
    refine (C2.out _).mono ?_
    rintro r v2 ⟨rfl, hb2⟩
    have B2 := Lib.hid hb2; have s2 := hb2.size; clear hb2
    go_wp2_with fail
    refine (C3.out _).mono ?_
    rintro r v3 ⟨rfl, hb3⟩
    have hb3 := hb3.below
    have B3 := Lib.hid hb3; have s3 := hb3.size; clear hb3
    go_wp2_with fail
    refine (C4.out _).mono ?_
    rintro r v4 ⟨rfl, hb4⟩
    have hb4 := hb4.below
    have B4 := Lib.hid hb4; have s4 := hb4.size; clear hb4
    go_wp2_with fail
    refine (C5.out _).mono ?_
    rintro r v5 ⟨rfl, hb5⟩
    have hb5 := hb5.below
    have B5 := Lib.hid hb5; have s5 := hb5.size; clear hb5
    go_wp2_with fail
    refine (C6.out _).mono ?_
    rintro r v6 ⟨rfl, hb6⟩
    have hb6 := hb6.below
    have B6 := Lib.hid hb6; have s6 := hb6.size; clear hb6
    go_wp2_with fail
    refine (C7.out _).mono ?_
    rintro r v7 ⟨rfl, hb7⟩
    have hb7 := hb7.below
    have B7 := Lib.hid hb7; have s7 := hb7.size; clear hb7
    go_wp2_with fail
    refine (C8.out _).mono ?_
    rintro r v8 ⟨rfl, hb8⟩
    have hb8 := hb8.below
    have B8 := Lib.hid hb8; have s8 := hb8.size; clear hb8
    go_wp2_with fail
    refine (C7.out _).mono ?_
    rintro r v9 ⟨rfl, hb9⟩
    have hb9 := hb9.below
    have B9 := Lib.hid hb9; have s9 := hb9.size; clear hb9
    go_wp2_with fail
    refine (C9.out _).mono ?_
    rintro r v10 ⟨rfl, hb10⟩
    have hb10 := hb10.below
    have B10 := Lib.hid hb10; have s10 := hb10.size; clear hb10
    go_wp2_with fail
    refine (C5.out _).mono ?_
    rintro r v11 ⟨rfl, hb11⟩
    have hb11 := hb11.below
    have B11 := Lib.hid hb11; have s11 := hb11.size; clear hb11
    go_wp2_with fail
    refine (C10.out _).mono ?_
    rintro r v12 ⟨rfl, hb12⟩
    have hb12 := hb12.below
    have B12 := Lib.hid hb12; have s12 := hb12.size; clear hb12
    go_wp2_with fail
    refine (C11.out _).mono ?_
    rintro r v13 ⟨rfl, hb13⟩
    have hb13 := hb13.below
    have B13 := Lib.hid hb13; have s13 := hb13.size; clear hb13
    go_wp2_with fail
    refine (C12.out _).mono ?_
    rintro r v14 ⟨rfl, hb14⟩
    have hb14 := hb14.below
    have B14 := Lib.hid hb14; have s14 := hb14.size; clear hb14
    go_wp2_with fail
    refine (C5.out _).mono ?_
    rintro r v15 ⟨rfl, hb15⟩
    have hb15 := hb15.below
    have B15 := Lib.hid hb15; have s15 := hb15.size; clear hb15
    go_wp2_with fail
    refine (C13.out _).mono ?_
    rintro r v16 ⟨rfl, hb16⟩
    have hb16 := hb16.below
    have B16 := Lib.hid hb16; have s16 := hb16.size; clear hb16
    go_wp2
    go_ret
    refine ⟨rfl, ?_⟩
    refine Below.trans ?_ (B16.out.mono (by omega))
    refine Below.trans ?_ (B15.out.mono (by omega))
    refine Below.trans ?_ (B14.out.mono (by omega))
    refine Below.trans ?_ (B13.out.mono (by omega))
    refine Below.trans ?_ (B12.out.mono (by omega))
    refine Below.trans ?_ (B11.out.mono (by omega))
    refine Below.trans ?_ (B10.out.mono (by omega))
    refine Below.trans ?_ (B9.out.mono (by omega))
    refine Below.trans ?_ (B8.out.mono (by omega))
    refine Below.trans ?_ (B7.out.mono (by omega))
    refine Below.trans ?_ (B6.out.mono (by omega))
    refine Below.trans ?_ (B5.out.mono (by omega))
    refine Below.trans ?_ (B4.out.mono (by omega))
    refine Below.trans ?_ (B3.out.mono (by omega))
    refine Below.trans ?_ (B2.out.mono (by omega))
    refine Below.trans ?_ (B1.out.mono (by omega))
    exact Below.refl _ _
  · obtain ⟨m1, m2⟩ := hcase.resolve_left hq
    have cn := cN m1 m2
    have CN := Lib.hid cn
    have k1 : ((U : Int) == (Q : Int)) = false := by simp; omega
    have k2 : ((U : Int) != (Q : Int)) = true := by simp; omega
    clear cn cN m1 m2 hcase hq
    go_enter Try.func6, Try.ntmps6
    go_wp2_with fail
    refine (C1.out _).mono ?_
    rintro r v1 ⟨rfl, hb1⟩
    have hb1 := hb1.below
    have B1 := Lib.hid hb1; have s1 := hb1.size; clear hb1
    go_wp2_with fail
    refine (C2.out _).mono ?_
    rintro r v2 ⟨rfl, hb2⟩
    have B2 := Lib.hid hb2; have s2 := hb2.size; clear hb2
    go_wp2_with fail
    refine (C3.out _).mono ?_
    rintro r v3 ⟨rfl, hb3⟩
    have hb3 := hb3.below
    have B3 := Lib.hid hb3; have s3 := hb3.size; clear hb3
    go_wp2_with fail
    refine (C4.out _).mono ?_
    rintro r v4 ⟨rfl, hb4⟩
    have hb4 := hb4.below
    have B4 := Lib.hid hb4; have s4 := hb4.size; clear hb4
    go_wp2_with fail
    refine (C5.out _).mono ?_
    rintro r v5 ⟨rfl, hb5⟩
    have hb5 := hb5.below
    have B5 := Lib.hid hb5; have s5 := hb5.size; clear hb5
    go_wp2_with fail
    refine (C6.out _).mono ?_
    rintro r v6 ⟨rfl, hb6⟩
    have hb6 := hb6.below
    have B6 := Lib.hid hb6; have s6 := hb6.size; clear hb6
    go_wp2_with fail
    refine (C7.out _).mono ?_
    rintro r v7 ⟨rfl, hb7⟩
    have hb7 := hb7.below
    have B7 := Lib.hid hb7; have s7 := hb7.size; clear hb7
    go_wp2_with fail
    refine (C8.out _).mono ?_
    rintro r v8 ⟨rfl, hb8⟩
    have hb8 := hb8.below
    have B8 := Lib.hid hb8; have s8 := hb8.size; clear hb8
    go_wp2_with fail
    refine (C7.out _).mono ?_
    rintro r v9 ⟨rfl, hb9⟩
    have hb9 := hb9.below
    have B9 := Lib.hid hb9; have s9 := hb9.size; clear hb9
    go_wp2_with fail
    refine (C9.out _).mono ?_
    rintro r v10 ⟨rfl, hb10⟩
    have hb10 := hb10.below
    have B10 := Lib.hid hb10; have s10 := hb10.size; clear hb10
    go_wp2_with fail
    refine (C5.out _).mono ?_
    rintro r v11 ⟨rfl, hb11⟩
    have hb11 := hb11.below
    have B11 := Lib.hid hb11; have s11 := hb11.size; clear hb11
    go_wp2_with fail
    refine (C10.out _).mono ?_
    rintro r v12 ⟨rfl, hb12⟩
    have hb12 := hb12.below
    have B12 := Lib.hid hb12; have s12 := hb12.size; clear hb12
    go_wp2_with fail
    refine (C11.out _).mono ?_
    rintro r v13 ⟨rfl, hb13⟩
    have hb13 := hb13.below
    have B13 := Lib.hid hb13; have s13 := hb13.size; clear hb13
    go_wp2_with fail
    refine (CN.out _).mono ?_
    rintro r v14 ⟨rfl, hb14⟩
    have B14 := Lib.hid hb14; have s14 := hb14.size; clear hb14
    go_wp2_with fail
    refine (C12.out _).mono ?_
    rintro r v15 ⟨rfl, hb15⟩
    have hb15 := hb15.below
    have B15 := Lib.hid hb15; have s15 := hb15.size; clear hb15
    go_wp2_with fail
    refine (C5.out _).mono ?_
    rintro r v16 ⟨rfl, hb16⟩
    have hb16 := hb16.below
    have B16 := Lib.hid hb16; have s16 := hb16.size; clear hb16
    go_wp2_with fail
    refine (C13.out _).mono ?_
    rintro r v17 ⟨rfl, hb17⟩
    have hb17 := hb17.below
    have B17 := Lib.hid hb17; have s17 := hb17.size; clear hb17
    go_wp2
    go_ret
    refine ⟨rfl, ?_⟩
    refine Below.trans ?_ (B17.out.mono (by omega))
    refine Below.trans ?_ (B16.out.mono (by omega))
    refine Below.trans ?_ (B15.out.mono (by omega))
    refine Below.trans ?_ (B14.out.mono (by omega))
    refine Below.trans ?_ (B13.out.mono (by omega))
    refine Below.trans ?_ (B12.out.mono (by omega))
    refine Below.trans ?_ (B11.out.mono (by omega))
    refine Below.trans ?_ (B10.out.mono (by omega))
    refine Below.trans ?_ (B9.out.mono (by omega))
    refine Below.trans ?_ (B8.out.mono (by omega))
    refine Below.trans ?_ (B7.out.mono (by omega))
    refine Below.trans ?_ (B6.out.mono (by omega))
    refine Below.trans ?_ (B5.out.mono (by omega))
    refine Below.trans ?_ (B4.out.mono (by omega))
    refine Below.trans ?_ (B3.out.mono (by omega))
    refine Below.trans ?_ (B2.out.mono (by omega))
    refine Below.trans ?_ (B1.out.mono (by omega))
    exact Below.refl _ _
end Go.Proofs.Ytbfdanbepdefnaa
