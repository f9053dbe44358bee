/-
  What the laws of layer 4 (package runriglaw04) answer: walks over the contracts.
-/
import Derived.Test.YtgbmmmkiamjadaaCplx
import Derived.Test.YtgbmmmkiamjadaaRows
namespace Go.Proofs.Ytgbmmmkiamjadaa
open Go.RowKit Ieee
set_option linter.unusedVariables false
set_option linter.unusedSimpArgs false

/-- whole numbers as a word -/
def wh (a b : Int) : Nat := cw (bitsD (.number (a < 0) a.natAbs 0)) (bitsD (.number (b < 0) b.natAbs 0))
theorem wh_1_2 : wh 1 2 = 4611686019492741120 := by decide +kernel
theorem wh_3_m1 : wh 3 (-1) = 13799029259341135872 := by decide +kernel
theorem wh_5_5 : wh 5 5 = 4656722015785320448 := by decide +kernel
theorem wh_3_4 : wh 3 4 = 4647714816524288000 := by decide +kernel
theorem wh_25_0 : wh 25 0 = 1103626240 := by decide +kernel
theorem wh_1_0 : wh 1 0 = 1065353216 := by decide +kernel
theorem wh_m2_7 : wh (-2) 7 = 4674736416431800320 := by decide +kernel
theorem nov_of {o : Option Datum} (h : (Ieee.single.read (Go.Proofs.Ytgbmmmkiamjadaa.told o)).isInfinity = false) : Nov o := fun _ _ => .inr h
theorem mul_1 : cw (Go.Proofs.Ytgbmmmkiamjadaa.told ((prodD (lo 4611686019492741120) (lo 13799029259341135872)).sum (prodD (hi 4611686019492741120) (hi 13799029259341135872)).opposite)) (Go.Proofs.Ytgbmmmkiamjadaa.told ((prodD (lo 4611686019492741120) (hi 13799029259341135872)).sum (prodD (hi 4611686019492741120) (lo 13799029259341135872)))) = 4656722015785320448 := by decide +kernel
theorem norm_1 : cw (Go.Proofs.Ytgbmmmkiamjadaa.told ((prodD (lo 4647714816524288000) (lo 4647714816524288000)).sum (prodD (hi 4647714816524288000) (hi 4647714816524288000)))) 0 = 1103626240 := by decide +kernel
theorem first_any (w : World) : Calls Try.prog 7 #[] w fun r w' => r = .returned (.bool true) ∧ Dr w w' := by
  have c1 := fun w => mul_any 4611686019492741120 13799029259341135872 w (by decide) (by decide) (nov_of (by decide +kernel)) (nov_of (by decide +kernel))
  rw [mul_1] at c1
  have c2 := fun w => norm_any 4647714816524288000 w (by decide) (nov_of (by decide +kernel))
  rw [norm_1] at c2
  have C1 := Lib.hid c1; have C2 := Lib.hid c2
  clear c1 c2
  have w1_2 := fun w => whole_any 1 2 w
  rw [show (cw (bitsD (.number ((1 : Int) < 0) (1 : Int).natAbs 0)) (bitsD (.number ((2 : Int) < 0) (2 : Int).natAbs 0)) : Nat) = 4611686019492741120 from wh_1_2] at w1_2
  have W1_2 := Lib.hid w1_2; clear w1_2
  have w3_m1 := fun w => whole_any 3 (-1) w
  rw [show (cw (bitsD (.number ((3 : Int) < 0) (3 : Int).natAbs 0)) (bitsD (.number (((-1) : Int) < 0) ((-1) : Int).natAbs 0)) : Nat) = 13799029259341135872 from wh_3_m1] at w3_m1
  have W3_m1 := Lib.hid w3_m1; clear w3_m1
  have w5_5 := fun w => whole_any 5 5 w
  rw [show (cw (bitsD (.number ((5 : Int) < 0) (5 : Int).natAbs 0)) (bitsD (.number ((5 : Int) < 0) (5 : Int).natAbs 0)) : Nat) = 4656722015785320448 from wh_5_5] at w5_5
  have W5_5 := Lib.hid w5_5; clear w5_5
  have w3_4 := fun w => whole_any 3 4 w
  rw [show (cw (bitsD (.number ((3 : Int) < 0) (3 : Int).natAbs 0)) (bitsD (.number ((4 : Int) < 0) (4 : Int).natAbs 0)) : Nat) = 4647714816524288000 from wh_3_4] at w3_4
  have W3_4 := Lib.hid w3_4; clear w3_4
  have w25_0 := fun w => whole_any 25 0 w
  rw [show (cw (bitsD (.number ((25 : Int) < 0) (25 : Int).natAbs 0)) (bitsD (.number ((0 : Int) < 0) (0 : Int).natAbs 0)) : Nat) = 1103626240 from wh_25_0] at w25_0
  have W25_0 := Lib.hid w25_0; clear w25_0
  have w1_0 := fun w => whole_any 1 0 w
  rw [show (cw (bitsD (.number ((1 : Int) < 0) (1 : Int).natAbs 0)) (bitsD (.number ((0 : Int) < 0) (0 : Int).natAbs 0)) : Nat) = 1065353216 from wh_1_0] at w1_0
  have W1_0 := Lib.hid w1_0; clear w1_0
  have wm2_7 := fun w => whole_any (-2) 7 w
  rw [show (cw (bitsD (.number (((-2) : Int) < 0) ((-2) : Int).natAbs 0)) (bitsD (.number ((7 : Int) < 0) (7 : Int).natAbs 0)) : Nat) = 4674736416431800320 from wh_m2_7] at wm2_7
  have Wm2_7 := Lib.hid wm2_7; clear wm2_7
  have n1 := fun w => nan_any 2143289344 w (by decide)
  rw [show ((lo 2143289344).isNaN || (hi 2143289344).isNaN) = true from by decide +kernel] at n1
  have n2 := fun w => nan_any 4656722015785320448 w (by decide)
  rw [show ((lo 4656722015785320448).isNaN || (hi 4656722015785320448).isNaN) = false from by decide +kernel] at n2
  have NN1 := Lib.hid n1; have NN2 := Lib.hid n2
  have u1 := fun w => unpack_any 4674736416431800320 w (by decide)
  have U1 := Lib.hid u1
  clear n1 n2 u1
  have o1 : (FloatKind.f32.format.order 3221225472 3221225472 == some .eq) = true := by decide +kernel
  have o2 : (FloatKind.f32.format.order 1088421888 1088421888 == some .eq) = true := by decide +kernel
  go_enter Try.func7, Try.ntmps7
  go_wp2_with fail
  refine (W1_2.out _).mono ?_
  rintro r w' ⟨rfl, rfl⟩
  go_wp2_with fail
  refine (W3_m1.out _).mono ?_
  rintro r w' ⟨rfl, rfl⟩
  go_wp2_with fail
  refine (C1.out _).mono ?_
  rintro r w1 ⟨rfl, hd1⟩
  have D1 := Lib.hid hd1; clear hd1
  go_wp2_with fail
  refine (W5_5.out _).mono ?_
  rintro r w' ⟨rfl, rfl⟩
  go_wp2_with fail
  refine (W3_4.out _).mono ?_
  rintro r w' ⟨rfl, rfl⟩
  go_wp2_with fail
  refine (C2.out _).mono ?_
  rintro r w2 ⟨rfl, hd2⟩
  have D2 := Lib.hid hd2; clear hd2
  go_wp2_with fail
  refine (W25_0.out _).mono ?_
  rintro r w' ⟨rfl, rfl⟩
  go_wp2_with fail
  refine (W1_0.out _).mono ?_
  rintro r w' ⟨rfl, rfl⟩
  go_wp2_with fail
  refine (Wm2_7.out _).mono ?_
  rintro r w' ⟨rfl, rfl⟩
  go_wp2_with fail
  refine (U1.out _).mono ?_
  rintro r w' ⟨rfl, rfl⟩
  go_wp2_with fail
  refine (NN1.out _).mono ?_
  rintro r w' ⟨rfl, rfl⟩
  go_wp2_with fail
  refine (NN2.out _).mono ?_
  rintro r w' ⟨rfl, rfl⟩
  go_wp2
  go_ret
  exact ⟨rfl, D1.out.trans D2.out⟩
theorem cw_lo {x y : Nat} (hx : x < 4294967296) : cw x y % 4294967296 = x := by unfold cw; omega
theorem cw_hi {x y : Nat} (hx : x < 4294967296) : cw x y / 4294967296 = y := by unfold cw; omega
theorem cw_lt {x y : Nat} (hx : x < 4294967296) (hy : y < 4294967296) : cw x y < 18446744073709551616 := by unfold cw; omega
theorem order_self (f : Format) (b : Nat) : (f.order b b == some .eq) = !(f.read b).isNaN := by
  have := nan_order f b
  rw [bne] at this
  rw [← this, Bool.not_not]
theorem int_not_nan (n : Int) : (FloatKind.f32.format.order (floatOfInt .f32 n) (floatOfInt .f32 n) == some .eq) = true := by
  rw [order_self]
  have := write_num Ieee.single (n < 0) n.natAbs 0 (by decide)
  show (!(Ieee.single.read (Ieee.single.write (.number (n < 0) n.natAbs 0))).isNaN) = true
  rw [this]; rfl
set_option maxHeartbeats 1000000 in
theorem packs_walk (a : Nat) (re im : Int) (w : World) (ha : a < 18446744073709551616) (h1 : -128 ≤ re) (h2 : re ≤ 127) (h3 : -128 ≤ im) (h4 : im ≤ 127) :
    Calls Try.prog 5 #[.int .u64 (a : Int), .int .i8 re, .int .i8 im] w fun r w' => r = .returned (.bool true) ∧ Below w.heap.size w w' := by
  have l1 : a % 4294967296 < 4294967296 := by omega
  have l2 : a / 4294967296 < 4294967296 := by omega
  have cP := fun w => pack_any (a % 4294967296) (a / 4294967296) w l1 l2
  have cR := fun w => rplain_any a ha w
  have b1 : bitsD (lo a) = pb (a % 4294967296) := bitsD_read _ l1
  have b2 : bitsD (hi a) = pb (a / 4294967296) := bitsD_read _ l2
  rw [b1, b2] at cR
  have cN := fun w => nan_any a w ha
  have cM := fun w => rnan_any a ha w
  have o1 := order_self FloatKind.f32.format (a % 4294967296)
  have o2 := order_self FloatKind.f32.format (a / 4294967296)
  have o1 : (FloatKind.f32.format.order (a % 4294967296) (a % 4294967296) == some .eq) = !(lo a).isNaN := o1
  have o2 : (FloatKind.f32.format.order (a / 4294967296) (a / 4294967296) == some .eq) = !(hi a).isNaN := o2
  have r1 : (FloatKind.f32.format.read (a % 4294967296)).isNaN = (lo a).isNaN := rfl
  have r2 : (FloatKind.f32.format.read (a / 4294967296)).isNaN = (hi a).isNaN := rfl
  have cU := fun w => unpack_any a w ha
  have cW := fun w => whole_any re im w
  have cV := fun w => rwhole_any re im h1 h2 h3 h4 w
  rw [← int_bits, ← int_bits] at cW cV
  have f1 : floatOfInt .f32 re < 4294967296 := bitsD_lt (.number (re < 0) re.natAbs 0)
  have f2 : floatOfInt .f32 im < 4294967296 := bitsD_lt (.number (im < 0) im.natAbs 0)
  have cX := fun w => unpack_any (cw (floatOfInt .f32 re) (floatOfInt .f32 im)) w (cw_lt f1 f2)
  rw [cw_lo f1, cw_hi f1] at cX
  have o3 := int_not_nan re
  have o4 := int_not_nan im
  generalize cw (pb (a % 4294967296)) (pb (a / 4294967296)) = X at cP cR
  generalize cw (floatOfInt .f32 re) (floatOfInt .f32 im) = Y at cW cV cX
  generalize (lo a).isNaN = x at cN cM o1 r1
  generalize (hi a).isNaN = y at cN cM o2 r2
  have CP := Lib.hid cP; have CR := Lib.hid cR; have CN := Lib.hid cN; have CM := Lib.hid cM; have CU := Lib.hid cU; have CW := Lib.hid cW; have CV := Lib.hid cV; have CX := Lib.hid cX
  clear cP cR cN cM cU cW cV cX b1 b2 f1 f2 l1 l2
  cases x <;> cases y
  all_goals
    simp only [Bool.not_true, Bool.not_false] at o1 o2
    go_enter Try.func5, Try.ntmps5
    go_wp2_with fail
    refine (first_any _).mono ?_
    rintro r w1 ⟨rfl, hd1⟩
    have D1 := Lib.hid hd1; clear hd1
    go_wp2_with fail
    refine (CU.out _).mono ?_
    rintro r w' ⟨rfl, rfl⟩
    go_wp2_with fail
    refine (CP.out _).mono ?_
    rintro r w' ⟨rfl, rfl⟩
    go_wp2_with fail
    refine (CR.out _).mono ?_
    rintro r w2 ⟨rfl, hb2⟩
    have B2 := Lib.hid hb2; have s2 := hb2.size; clear hb2
    go_wp2_with fail
    refine (CN.out _).mono ?_
    rintro r w' ⟨rfl, rfl⟩
    go_wp2_with fail
    refine (CM.out _).mono ?_
    rintro r w3 ⟨rfl, hb3⟩
    have B3 := Lib.hid hb3; have s3 := hb3.size; clear hb3
    go_wp2_with fail
    refine (CN.out _).mono ?_
    rintro r w' ⟨rfl, rfl⟩
    go_wp2_with fail
    refine (CW.out _).mono ?_
    rintro r w' ⟨rfl, rfl⟩
    go_wp2_with fail
    refine (CV.out _).mono ?_
    rintro r w4 ⟨rfl, hb4⟩
    have B4 := Lib.hid hb4; have s4 := hb4.size; clear hb4
    go_wp2_with fail
    refine (CW.out _).mono ?_
    rintro r w' ⟨rfl, rfl⟩
    go_wp2_with fail
    refine (CX.out _).mono ?_
    rintro r w' ⟨rfl, rfl⟩
    go_wp2
    go_ret
    refine ⟨rfl, ?_⟩
    have s1 := D1.out.below.size
    exact ((D1.out.below.trans (B2.out.mono s1)).trans (B3.out.mono (by omega))).trans (B4.out.mono (by omega))
end Go.Proofs.Ytgbmmmkiamjadaa
