/-
  What each function of package cplx answers and leaves in memory: contracts over the translation. Each says its own conditions.
-/
import Derived.Test.YtbfdanbepdefnaaAll04
import Derived.Test.YtbfdanbepdefnaaGreat
import Derived.Laws.ComplexArith
import Derived.Laws.Bits64
namespace Go.Proofs.Ytbfdanbepdefnaa
open Go.RowKit Ieee
set_option linter.unusedVariables false
set_option linter.unusedSimpArgs false

theorem nan_order (f : Format) (b : Nat) : (f.order b b != some .eq) = (f.read b).isNaN := by
  unfold Format.order
  cases f.read b with
  | nan s t => rfl
  | infinity s => simp [Datum.order, Datum.isNaN]
  | number s m e => simp [Datum.order, Datum.isNaN]
theorem run_frombits (n : Nat) (w : World) : (callFunc 34 #[.int .u32 (n : Int)]).run Try.prog w = .ok (.value (.float .f32 n)) w := by
  rw [run_callFunc_extern Try.func34 (by kernel_rfl) (by kernel_rfl) (by kernel_rfl) (e := Extern.MathFloatBits.float32frombits) (by kernel_rfl)]
  rfl
theorem run_bits (n : Nat) (w : World) : (callFunc 47 #[.float .f32 n]).run Try.prog w = .ok (.value (.int .u32 (n : Int))) w := by
  rw [run_callFunc_extern Try.func47 (by kernel_rfl) (by kernel_rfl) (by kernel_rfl) (e := Extern.MathFloatBits.float32bits) (by kernel_rfl)]
  rfl
theorem unpack_any (a : Nat) (w : World) (ha : a < 18446744073709551616) : Calls Try.prog 18 #[.int .u64 (a : Int)] w fun r w' => r = .returned (.complex .f32 (a % 4294967296) (a / 4294967296)) ∧ w = w' := by
  have h1 := run_frombits (a % 4294967296)
  have h2 := run_frombits (a / 4294967296)
  have e1 : ((a % 4294967296 : Nat) : Int) = (a : Int) % 4294967296 := by omega
  have e2 : ((a / 4294967296 : Nat) : Int) = (a : Int) / 4294967296 := by omega
  rw [e1] at h1
  rw [e2] at h2
  have ha' : (a : Int) ≤ 18446744073709551615 := by omega
  have ha2 : (a : Int) / 4294967296 ≤ 4294967295 := by omega
  clear e1 e2
  go_enter Try.func18, Try.ntmps18
  go_wp2
  go_ret
  exact ⟨rfl, rfl⟩
theorem run_f64bits (n : Nat) (w : World) : (callFunc 46 #[.float .f64 n]).run Try.prog w = .ok (.value (.int .u64 (n : Int))) w := by
  rw [run_callFunc_extern Try.func46 (by kernel_rfl) (by kernel_rfl) (by kernel_rfl) (e := Extern.MathFloatBits.float64bits) (by kernel_rfl)]
  rfl
theorem isnan_any (b : Nat) (w : World) : Calls Try.prog 35 #[.float .f64 b] w fun r w' => r = .returned (.bool (Ieee.double.read b).isNaN) ∧ w = w' := by
  have h := nan_order Ieee.double b
  have H := Lib.hid h; clear h
  go_enter Try.func35, Try.ntmps35
  go_wp2
  go_ret
  exact ⟨congrArg (fun b => Ending.returned (Value.bool b)) H.out, rfl⟩
theorem sign_any (q : Nat) (w : World) : Calls Try.prog 43 #[.float .f64 q] w fun r w' => r = .returned (.bool (q / 9223372036854775808 % 2 == 1)) ∧ w = w' := by
  have h1 := run_f64bits q
  go_enter Try.func43, Try.ntmps43
  go_wp2
  go_ret
  refine ⟨congrArg (fun b => Ending.returned (Value.bool b)) ?_, rfl⟩
  rw [Bool.eq_iff_iff]
  simp only [decide_eq_true_eq, beq_iff_eq, wrap64]
  omega
/-- a part's bits as they are told: each NaN as one -/
def pb (b : Nat) : Nat := if (Ieee.single.read b).isNaN = true then 2143289344 else b
theorem pb_lt {b : Nat} (h : b < 4294967296) : pb b < 4294967296 := by unfold pb; split <;> omega
theorem join32 (x y : Nat) (hx : x < 4294967296) : y * 4294967296 ||| x = cw x y := by
  have := Nat.two_pow_add_eq_or_of_lt (i := 32) (show x < 2 ^ 32 from hx) y
  unfold cw
  rw [Nat.mul_comm y, show 4294967296 = 2 ^ 32 from by decide, ← this]; omega
theorem nan64 (t : Nat) : (Ieee.double.read (t % 2 * 2 ^ 63 + 0x7ff0000000000000 + 1 + t / 2 % (2 ^ 52 - 1))).isNaN = true := by
  unfold Format.read
  simp only
  rw [show Ieee.double.signWeight = 9223372036854775808 from by decide, show Ieee.double.binade = 4503599627370496 from by decide, show Ieee.double.infRung = 9218868437227405312 from by decide, show (2 : Nat) ^ 63 = 9223372036854775808 from by decide, show (2 : Nat) ^ 52 - 1 = 4503599627370495 from by decide]
  have h : (t % 2 * 9223372036854775808 + 9218868437227405312 + 1 + t / 2 % 4503599627370495) % 9223372036854775808 = 9218868437227405312 + 1 + t / 2 % 4503599627370495 := by omega
  rw [h, if_neg (by omega), if_neg (by omega), if_neg (by omega)]
  rfl
theorem nan32 (t : Nat) : (Ieee.single.read (t % 2 * 2 ^ 31 + 0x7f800000 + 1 + t / 2 % (2 ^ 23 - 1))).isNaN = true ∧ t % 2 * 2 ^ 31 + 0x7f800000 + 1 + t / 2 % (2 ^ 23 - 1) < 4294967296 := by
  refine ⟨?_, by omega⟩
  unfold Format.read
  simp only
  rw [show Ieee.single.signWeight = 2147483648 from by decide, show Ieee.single.binade = 8388608 from by decide, show Ieee.single.infRung = 2139095040 from by decide, show (2 : Nat) ^ 31 = 2147483648 from by decide, show (2 : Nat) ^ 23 - 1 = 8388607 from by decide]
  have h : (t % 2 * 2147483648 + 2139095040 + 1 + t / 2 % 8388607) % 2147483648 = 2139095040 + 1 + t / 2 % 8388607 := by omega
  rw [h, if_neg (by omega), if_neg (by omega), if_neg (by omega)]
  rfl
section
variable {P : Program}
theorem run_widen (b : Nat) (w : World) : ∃ q n, (Conv.floatToFloat .f32 b .f64).run P w = .ok (.float .f64 q) (w.drewN n) ∧ Wide (Ieee.single.read b) q := by
  rcases read_single b with ⟨s, u, h⟩ | ⟨s, h⟩ | ⟨s, m, e, h, k⟩
  · refine ⟨_, 1, ?_, .inl ⟨by rw [h]; rfl, nan64 (w.tape w.drawn (.nanConv .f64 b))⟩⟩
    have hd : FloatKind.f32.decode b = .nan s u := h
    simp [Conv.floatToFloat, hd, Question.forced, Question.cut]
    rfl
  · refine ⟨Ieee.double.write (.infinity s), 0, ?_, .inr ⟨by rw [h]; rfl, by rw [h]⟩⟩
    have hd : FloatKind.f32.decode b = .infinity s := h
    simp [Conv.floatToFloat, hd, FloatKind.encode, FloatKind.format, World.drewN_zero]
  · refine ⟨Ieee.double.write (.number s m e), 0, ?_, .inr ⟨by rw [h]; rfl, by rw [h]⟩⟩
    have hd : FloatKind.f32.decode b = .number s m e := h
    have hi : (FloatKind.f64.decode (FloatKind.f64.encode (.number s m e))).isInfinity = false := (k.wide (s := s)).num.2
    simp [Conv.floatToFloat, hd, hi, World.drewN_zero]
    rfl
theorem run_cwide (src dst : TypeId) (a b : Nat) (w : World) (hs : (P.underlying src).isSome = true) (hd : P.underlying dst = some (.complex .f64)) :
    ∃ x y n, (convert src dst (.complex .f32 a b)).run P w = .ok (.complex .f64 x y) (w.drewN n) ∧ Wide (Ieee.single.read a) x ∧ Wide (Ieee.single.read b) y := by
  obtain ⟨u, hs'⟩ := Option.isSome_iff_exists.1 hs
  obtain ⟨x, n, h1, h2⟩ := run_widen (P := P) a w
  obtain ⟨y, k, h3, h4⟩ := run_widen (P := P) b (w.drewN n)
  refine ⟨x, y, n + k, ?_, h2, h4⟩
  cases u <;> simp [convert, run_underlying hs', run_underlying hd, Conv.complexToComplex, h1, h3]
end
/-- only draws lie between -/
def Dr (w w' : World) : Prop := ∃ n, w' = w.drewN n
theorem Dr.refl (w : World) : Dr w w := ⟨0, rfl⟩
theorem Dr.trans {a b c : World} (h : Dr a b) (k : Dr b c) : Dr a c := by
  obtain ⟨n, rfl⟩ := h; obtain ⟨m, rfl⟩ := k; exact ⟨n + m, World.drewN_drewN _ _ _⟩
theorem Dr.drewN (w : World) (n : Nat) : Dr w (w.drewN n) := ⟨n, rfl⟩
theorem Dr.below {w w' : World} (h : Dr w w') : Below w.heap.size w w' := by
  obtain ⟨n, rfl⟩ := h; exact below_drewNs (Below.refl _ _) n
def WideTo (a : Nat) (w : World) (r : Ending) (w' : World) : Prop := ∃ x y, r = .returned (.complex .f64 x y) ∧ Dr w w' ∧ Wide (lo a) x ∧ Wide (hi a) y
theorem wide_any (a : Nat) (w : World) (ha : a < 18446744073709551616) : Calls Try.prog 27 #[.int .u64 (a : Int)] w (WideTo a w) := by
  obtain ⟨x, y, n, h1, h2, h3⟩ := run_cwide (P := Try.prog) 28 37 (a % 4294967296) (a / 4294967296) w (by kernel_rfl) (by kernel_rfl)
  have H2 := Lib.hid h2; have H3 := Lib.hid h3
  clear h2 h3
  go_enter Try.func27, Try.ntmps27
  go_wp2_with (go_at_call 18; refine (unpack_any _ _ ha).mono ?_; rintro e w' ⟨rfl, rfl⟩)
  go_ret
  exact ⟨x, y, rfl, ⟨n, rfl⟩, H2.out, H3.out⟩
theorem write_num (f : Format) (s : Bool) (m : Nat) (e : Int) (hb : 0 < f.binade) : (f.read (f.write (.number s m e))).isNaN = false := by
  have key : ∀ r, r ≤ f.infRung → (f.read (f.word s r)).isNaN = false := by
    intro r hr
    have := infRung_add f
    rw [read_word f s r (by omega)]
    split
    · rfl
    · split
      · rfl
      · rw [if_pos (by omega)]; rfl
  show (f.read (f.nearest s m e)).isNaN = false
  by_cases h : m = 0
  · subst h; rw [nearest_zero]; exact key 0 (Nat.zero_le _)
  · rw [nearest_eq f s e h]; exact key _ (Nat.min_le_right _ _)
/-- what an operation of binary64 gives: its answer, or, where it has none, a NaN -/
def ArithR (o : Option Nat) (r : Nat) : Prop := o = some r ∨ (o = none ∧ (Ieee.double.read r).isNaN = true)
section
variable {P : Program}
theorem run_farith (op : BinOp) (hop : op = .add ∨ op = .sub ∨ op = .mul) (x y : Nat) (w : World) : ∃ r n, (Op.floatArith op .f64 x y).run P w = .ok (.float .f64 r) (w.drewN n) ∧ ArithR (floatBits op .f64 x y) r := by
  cases h : floatBits op .f64 x y with
  | some q => exact ⟨q, 0, run_floatArith w h, .inl rfl⟩
  | none =>
    refine ⟨_, 1, ?_, .inr ⟨rfl, nan64 (w.tape w.drawn (.nanBits .f64 x y))⟩⟩
    rcases hop with rfl | rfl | rfl <;> (unfold floatBits at h; simp only at h; simp [Op.floatArith, h, Question.forced, Question.cut]; rfl)
theorem run_fbin (op : BinOp) (hop : op = .add ∨ op = .sub ∨ op = .mul) (t : TypeId) (x y : Nat) (w : World) : ∃ r n, (binOp op t (.float .f64 x) (.float .f64 y)).run P w = .ok (.float .f64 r) (w.drewN n) ∧ ArithR (floatBits op .f64 x y) r := by
  obtain ⟨r, n, h1, h2⟩ := run_farith (P := P) op hop x y w
  refine ⟨r, n, ?_, h2⟩
  rcases hop with rfl | rfl | rfl <;> simp [binOp, h1]
theorem run_cbin (op : BinOp) (hop : op = .add ∨ op = .sub) (t : TypeId) (a b c d : Nat) (w : World) : ∃ x y n, (binOp op t (.complex .f64 a b) (.complex .f64 c d)).run P w = .ok (.complex .f64 x y) (w.drewN n) ∧ ArithR (floatBits op .f64 a c) x ∧ ArithR (floatBits op .f64 b d) y := by
  have hop' : op = .add ∨ op = .sub ∨ op = .mul := by rcases hop with h | h <;> simp [h]
  obtain ⟨x, n, h1, h2⟩ := run_farith (P := P) op hop' a c w
  obtain ⟨y, k, h3, h4⟩ := run_farith (P := P) op hop' b d (w.drewN n)
  refine ⟨x, y, n + k, ?_, h2, h4⟩
  rcases hop with rfl | rfl <;> simp [binOp, Op.complexOp, Op.Complex.arith, h1, h3]
/-- what binary64 holds goes into binary32 -/
def Fits (q : Nat) : Prop := (Ieee.double.read q).isNaN = true ∨ (Ieee.double.read q).isInfinity = true ∨ (Ieee.single.read (Ieee.single.write (Ieee.double.read q))).isInfinity = false
/-- its word there, each NaN as one -/
def Tq (q : Nat) : Nat := if (Ieee.double.read q).isNaN = true then 2143289344 else Ieee.single.write (Ieee.double.read q)
theorem run_narrow (q : Nat) (w : World) (hq : Fits q) : ∃ b n, (Conv.floatToFloat .f64 q .f32).run P w = .ok (.float .f32 b) (w.drewN n) ∧ pb b = Tq q ∧ b < 4294967296 := by
  unfold Tq
  cases h : Ieee.double.read q with
  | nan s u =>
    obtain ⟨h1, h2⟩ := nan32 (w.tape w.drawn (.nanConv .f32 q))
    refine ⟨_, 1, ?_, ?_, h2⟩
    · have hd : FloatKind.f64.decode q = .nan s u := h
      simp [Conv.floatToFloat, hd, Question.forced, Question.cut]
      rfl
    · unfold pb; rw [if_pos h1]; rfl
  | infinity s =>
    refine ⟨Ieee.single.write (.infinity s), 0, ?_, ?_, Ieee.Format.write_lt Ieee.single _⟩
    · have hd : FloatKind.f64.decode q = .infinity s := h
      simp [Conv.floatToFloat, hd, FloatKind.encode, FloatKind.format, World.drewN_zero]
    · unfold pb
      rw [show Ieee.single.read (Ieee.single.write (.infinity s)) = .infinity s from read_inf Ieee.single s (by decide) (by decide)]
  | number s m e =>
    have hi : (Ieee.single.read (Ieee.single.write (.number s m e))).isInfinity = false := by
      rcases hq with k | k | k
      · rw [h] at k; cases k
      · rw [h] at k; cases k
      · rw [h] at k; exact k
    refine ⟨Ieee.single.write (.number s m e), 0, ?_, ?_, Ieee.Format.write_lt Ieee.single _⟩
    · have hd : FloatKind.f64.decode q = .number s m e := h
      have hi' : (FloatKind.f32.decode (FloatKind.f32.encode (.number s m e))).isInfinity = false := hi
      simp [Conv.floatToFloat, hd, hi', World.drewN_zero]
      rfl
    · unfold pb
      rw [write_num Ieee.single s m e (by decide)]
      rfl
end
theorem run_narrow_num (q : Nat) (w : World) (hn : (Ieee.double.read q).isNaN = false) (hf : (Ieee.single.read (Ieee.single.write (Ieee.double.read q))).isInfinity = false) :
    (convert 45 33 (.float .f64 q)).run Try.prog w = .ok (.float .f32 (Ieee.single.write (Ieee.double.read q))) w := by
  have hs : Try.prog.underlying 45 = some (.float .f64) := by kernel_rfl
  have hd : Try.prog.underlying 33 = some (.float .f32) := by kernel_rfl
  obtain ⟨b, n, h1, h2, h3⟩ := run_narrow (P := Try.prog) q w (.inr (.inr hf))
  cases hq : Ieee.double.read q with
  | nan s u => rw [hq] at hn; cases hn
  | infinity s =>
    rw [hq] at hf
    have : Ieee.single.read (Ieee.single.write (.infinity s)) = .infinity s := read_inf Ieee.single s (by decide) (by decide)
    rw [this] at hf; cases hf
  | number s m e =>
    have hd' : FloatKind.f64.decode q = .number s m e := hq
    rw [hq] at hf
    have hi' : (FloatKind.f32.decode (FloatKind.f32.encode (.number s m e))).isInfinity = false := hf
    simp [convert, run_underlying hs, run_underlying hd, Conv.floatToFloat, hd', hi']
    rfl
theorem rounded_any (q : Nat) (w : World) (hs : q / 9223372036854775808 % 2 = 0) (hn : (Ieee.double.read q).isNaN = false) :
    Calls Try.prog 44 #[.float .f64 q] w fun r w' => r = .returned (.int .u32 (Ieee.single.write (Ieee.double.read q) : Nat)) ∧ w = w' := by
  have hx := top_cases q hs hn
  have o1 : (FloatKind.f64.format.order q 5183643170835005440 == some .gt || FloatKind.f64.format.order q 5183643170835005440 == some .eq) = g1 q := rfl
  have o2 : (FloatKind.f64.format.order q 5183643170566569984 == some .gt) = g2 q := rfl
  rcases hx with ⟨h1, h2⟩ | ⟨h1, h2, h3⟩ | ⟨h1, h2, h3⟩
  · rw [h2]
    rw [h1] at o1
    clear o2 hs hn
    go_enter Try.func44, Try.ntmps44
    go_wp2
    go_ret
    exact ⟨rfl, rfl⟩
  · rw [h3]
    rw [h1] at o1; rw [h2] at o2
    clear hs hn
    go_enter Try.func44, Try.ntmps44
    go_wp2
    go_ret
    exact ⟨rfl, rfl⟩
  · rw [h1] at o1; rw [h2] at o2
    have hc := fun w => run_narrow_num q w hn h3
    have hb := fun w => run_bits (Ieee.single.write (Ieee.double.read q)) w
    clear hs hn h3
    generalize Ieee.single.write (Ieee.double.read q) = W at *
    go_enter Try.func44, Try.ntmps44
    go_wp2
    go_ret
    exact ⟨rfl, rfl⟩
theorem part_any (q : Nat) (w : World) : Calls Try.prog 37 #[.float .f64 q] w fun r w' => r = .returned (.int .u32 (Tq q : Nat)) ∧ w = w' := by
  unfold Tq
  have c1 := fun w => isnan_any q w
  have c2 := fun w => sign_any q w
  cases hn : (Ieee.double.read q).isNaN with
  | true =>
    rw [hn] at c1
    rw [if_pos rfl]
    have C1 := Lib.hid c1; clear c1 c2 hn
    go_enter Try.func37, Try.ntmps37
    go_wp2_with (go_at_call 35; refine (C1.out _).mono ?_; rintro e w' ⟨rfl, rfl⟩)
    go_ret
    exact ⟨rfl, rfl⟩
  | false =>
    rw [hn] at c1
    rw [if_neg (by decide)]
    rcases Nat.mod_two_eq_zero_or_one (q / 9223372036854775808) with hs | hs
    · rw [hs] at c2
      have c3 := fun w => rounded_any q w hs hn
      have C1 := Lib.hid c1; have C2 := Lib.hid c2; have C3 := Lib.hid c3
      clear c1 c2 c3 hn hs
      go_enter Try.func37, Try.ntmps37
      go_wp2_with fail
      refine (C1.out _).mono ?_
      rintro e w' ⟨rfl, rfl⟩
      go_wp2_with fail
      refine (C2.out _).mono ?_
      rintro e w' ⟨rfl, rfl⟩
      go_wp2_with fail
      refine (C3.out _).mono ?_
      rintro e w' ⟨rfl, rfl⟩
      go_wp2
      go_ret
      exact ⟨rfl, rfl⟩
    · rw [hs] at c2
      obtain ⟨p1, p2⟩ := neg_parts q
      have hopp := read_opp q
      have hn' : (Ieee.double.read (q ^^^ 9223372036854775808)).isNaN = false := by
        rw [hopp]; revert hn; cases Ieee.double.read q <;> simp [Datum.opposite, Datum.isNaN]
      have hneg : (Ieee.double.read q).neg = true := by rw [read_neg64, hs]; rfl
      obtain ⟨e1, e2⟩ := write_opp _ hn hneg
      have c3 := fun w => rounded_any (q ^^^ 9223372036854775808) w (by rw [p1, hs]) hn'
      rw [hopp] at c3
      rw [e1]
      generalize Ieee.single.write (Ieee.double.read q).opposite = W at *
      have eor : 2147483648 ||| W = 2147483648 + W := by
        have := Nat.two_pow_add_eq_or_of_lt (i := 31) (show W < 2 ^ 31 from e2) 1
        exact this.symm
      have hun : ∀ b, Op.unary .neg (.float .f64 b) = pure (.float .f64 (b ^^^ 9223372036854775808)) := fun _ => rfl
      have C1 := Lib.hid c1; have C2 := Lib.hid c2; have C3 := Lib.hid c3; have EO := Lib.hid eor
      clear c1 c2 c3 hn hs p1 p2 hopp hn' hneg e1 eor
      go_enter Try.func37, Try.ntmps37
      go_wp2_with fail
      refine (C1.out _).mono ?_
      rintro e w' ⟨rfl, rfl⟩
      go_wp2_with fail
      refine (C2.out _).mono ?_
      rintro e w' ⟨rfl, rfl⟩
      go_wp2_with fail
      refine (C3.out _).mono ?_
      rintro e w' ⟨rfl, rfl⟩
      go_wp2
      go_ret
      refine ⟨ret_int ?_, rfl⟩
      rw [u32_or _ _ (by omega) (by omega) (by omega) (by omega), ← EO.out]
      rfl
theorem Tq_lt (q : Nat) : Tq q < 4294967296 := by
  unfold Tq; split
  · decide
  · exact Ieee.Format.write_lt Ieee.single _
theorem told_all (a b : Nat) (w : World) : Calls Try.prog 26 #[.complex .f64 a b] w fun r w' => r = .returned (.int .u64 (cw (Tq a) (Tq b) : Nat)) ∧ w = w' := by
  have c1 := fun w => part_any a w
  have c2 := fun w => part_any b w
  have l1 := Tq_lt a
  have l2 := Tq_lt b
  generalize Tq a = X at *
  generalize Tq b = Y at *
  have j := join32 X Y l1
  have C1 := Lib.hid c1; have C2 := Lib.hid c2; have J := Lib.hid j
  clear c1 c2 j
  go_enter Try.func26, Try.ntmps26
  go_wp2_with fail
  refine (C2.out _).mono ?_
  rintro e w' ⟨rfl, rfl⟩
  go_wp2_with fail
  refine (C1.out _).mono ?_
  rintro e w' ⟨rfl, rfl⟩
  go_wp2
  go_ret
  refine ⟨ret_int ?_, rfl⟩
  rw [u64_or _ _ (by omega) (by omega) (by omega) (by omega), ← J.out]
  rfl
theorem bitsD_read (x : Nat) (h : x < 4294967296) : bitsD (Ieee.single.read x) = pb x := by
  unfold pb
  rw [read_parts x h]
  by_cases h1 : x / 8388608 % 256 = 255
  · rw [if_pos h1]
    by_cases h2 : x % 8388608 = 0
    · rw [if_pos h2, if_neg (by intro h; cases h)]
      show Ieee.single.word _ 2139095040 = x
      rw [word_single]
      by_cases h3 : x / 2147483648 % 2 = 1
      · rw [if_pos (by simp [h3])]; omega
      · rw [if_neg (by simp [h3])]; omega
    · rw [if_neg h2, if_pos (show (Datum.nan (x / 2147483648 % 2 == 1) (x % 8388608)).isNaN = true from rfl)]; rfl
  · rw [if_neg h1]
    by_cases h2 : x / 8388608 % 256 = 0
    · rw [if_pos h2, if_neg (by intro h; cases h)]
      show Ieee.single.nearest _ (x % 8388608) (-149) = x
      have hlt : x % 8388608 < 2 ^ 23 := Nat.mod_lt _ (by decide)
      have hb := bl_le hlt
      rw [bits_end _ (by omega) (by decide) (.inr (.inr rfl)) (fun _ => by omega), if_pos (Nat.mod_lt _ (by decide))]
      by_cases h3 : x / 2147483648 % 2 = 1
      · rw [if_pos (by simp [h3])]; omega
      · rw [if_neg (by simp [h3])]; omega
    · rw [if_neg h2, if_neg (by intro h; cases h)]
      show Ieee.single.nearest _ (x % 8388608 + 8388608) ((x / 8388608 % 256 : Nat) - 150) = x
      have hb : bl (x % 8388608 + 8388608) = 24 := bl_eq (k := 23) (by show 8388608 ≤ _; omega) (by show _ < 16777216; omega)
      rw [bits_end _ (by omega) (by omega) (.inr (.inl hb)) (fun _ => by omega), if_neg (show ¬ x % 8388608 + 8388608 < 8388608 by omega)]
      by_cases h3 : x / 2147483648 % 2 = 1
      · rw [if_pos (by simp [h3])]; omega
      · rw [if_neg (by simp [h3])]; omega
/-- what a part of binary32 is told as, once it was made wide -/
theorem wide_tq {x q : Nat} (hx : x < 4294967296) (h : Wide (Ieee.single.read x) q) : Tq q = pb x := by
  rw [← bitsD_read x hx]
  unfold Tq
  rcases h with ⟨h1, h2⟩ | ⟨h1, h2⟩
  · rw [if_pos h2]
    obtain ⟨s, u, h3⟩ := nan_cases h1
    rw [h3]; rfl
  · subst h2
    rcases read_single x with ⟨s, u, h⟩ | ⟨s, h⟩ | ⟨s, m, e, h, k⟩
    · rw [h] at h1; cases h1
    · rw [h, read_inf64, if_neg (by intro h; cases h)]; rfl
    · rw [h]
      have hv := k.wide (s := s)
      rw [if_neg (by rw [hv.num.1]; decide), write_val Ieee.single hv (by decide)]
      exact (write_val Ieee.single k.val (by decide)).symm
theorem pack_any (x y : Nat) (w : World) (hx : x < 4294967296) (hy : y < 4294967296) : Calls Try.prog 19 #[.complex .f32 x y] w fun r w' => r = .returned (.int .u64 (cw (pb x) (pb y) : Nat)) ∧ Dr w w' := by
  obtain ⟨p, q, n, h1, h2, h3⟩ := run_cwide (P := Try.prog) 28 37 x y w (by kernel_rfl) (by kernel_rfl)
  have c := fun w => told_all p q w
  rw [wide_tq hx h2, wide_tq hy h3] at c
  have C := Lib.hid c
  clear c h2 h3
  go_enter Try.func19, Try.ntmps19
  go_wp2_with fail
  refine (C.out _).mono ?_
  rintro e w' ⟨rfl, rfl⟩
  go_wp2
  go_ret
  exact ⟨rfl, ⟨n, rfl⟩⟩
/-- what is reckoned by a sum of binary64 is what the document tells -/
theorem fin_tq {o : Option Datum} {r : Option Nat} {q : Nat} (h : (o = none ∧ r = none) ∨ ∃ z p, o = some z ∧ r = some p ∧ Fin64 z p) (hr : ArithR r q) : Tq q = Go.Proofs.Ytbfdanbepdefnaa.told o := by
  rcases h with ⟨rfl, rfl⟩ | ⟨z, p, rfl, rfl, hf⟩
  · rcases hr with hr | ⟨_, hr⟩
    · cases hr
    · unfold Tq; rw [if_pos hr]; rfl
  · rcases hr with hr | ⟨hr, _⟩
    · injection hr with hr; subst hr
      have ht := hf.told
      have hnn : (Ieee.double.read p).isNaN = false := by
        rcases hf with ⟨s, _, h2⟩ | ⟨s, V, _, h2⟩
        · rw [h2]; rfl
        · exact h2.num.1
      unfold Tq; rw [if_neg (by rw [hnn]; decide)]; exact ht.symm
    · cases hr
theorem fadd (x y : Nat) : floatBits .add .f64 x y = Ieee.double.add x y := rfl
theorem fsub (x y : Nat) : floatBits .sub .f64 x y = Ieee.double.sub x y := rfl
theorem fmul (x y : Nat) : floatBits .mul .f64 x y = Ieee.double.mul x y := rfl
theorem add_any (a b : Nat) (w : World) (ha : a < 18446744073709551616) (hb : b < 18446744073709551616) :
    Calls Try.prog 8 #[.int .u64 (a : Int), .int .u64 (b : Int)] w fun r w' => r = .returned (.int .u64 (cw (Go.Proofs.Ytbfdanbepdefnaa.told ((lo a).sum (lo b))) (Go.Proofs.Ytbfdanbepdefnaa.told ((hi a).sum (hi b))) : Nat)) ∧ Dr w w' := by
  go_enter Try.func8, Try.ntmps8
  go_wp2_with fail
  refine (wide_any a _ ha).mono ?_
  rintro r w1 ⟨x, y, rfl, hd1, hx, hy⟩
  have D1 := Lib.hid hd1; have HX := Lib.hid hx; have HY := Lib.hid hy
  clear hd1 hx hy
  go_wp2_with fail
  refine (wide_any b _ hb).mono ?_
  rintro r w2 ⟨u, v, rfl, hd2, hu, hv⟩
  have D2 := Lib.hid hd2; have HU := Lib.hid hu; have HV := Lib.hid hv
  clear hd2 hu hv
  obtain ⟨p, q, n, hrun, hp, hq⟩ := run_cbin (P := Try.prog) .add (.inl rfl) 37 x y u v w2
  have t1 := fin_tq (add64 (HX.out.eqd (lo_sh a)) (HU.out.eqd (lo_sh b)) (by decide)) hp
  have t2 := fin_tq (add64 (HY.out.eqd (hi_sh a)) (HV.out.eqd (hi_sh b)) (by decide)) hq
  have c := fun w => told_all p q w
  rw [t1, t2] at c
  have C := Lib.hid c
  clear c t1 t2 hp hq
  go_wp2_with fail
  refine (C.out _).mono ?_
  rintro r w3 ⟨rfl, rfl⟩
  go_wp2
  go_ret
  exact ⟨rfl, D1.out.trans (D2.out.trans (Dr.drewN _ _))⟩
theorem sub_any (a b : Nat) (w : World) (ha : a < 18446744073709551616) (hb : b < 18446744073709551616) :
    Calls Try.prog 10 #[.int .u64 (a : Int), .int .u64 (b : Int)] w fun r w' => r = .returned (.int .u64 (cw (Go.Proofs.Ytbfdanbepdefnaa.told ((lo a).sum (lo b).opposite)) (Go.Proofs.Ytbfdanbepdefnaa.told ((hi a).sum (hi b).opposite)) : Nat)) ∧ Dr w w' := by
  go_enter Try.func10, Try.ntmps10
  go_wp2_with fail
  refine (wide_any a _ ha).mono ?_
  rintro r w1 ⟨x, y, rfl, hd1, hx, hy⟩
  have D1 := Lib.hid hd1; have HX := Lib.hid hx; have HY := Lib.hid hy
  clear hd1 hx hy
  go_wp2_with fail
  refine (wide_any b _ hb).mono ?_
  rintro r w2 ⟨u, v, rfl, hd2, hu, hv⟩
  have D2 := Lib.hid hd2; have HU := Lib.hid hu; have HV := Lib.hid hv
  clear hd2 hu hv
  obtain ⟨p, q, n, hrun, hp, hq⟩ := run_cbin (P := Try.prog) .sub (.inr rfl) 37 x y u v w2
  have t1 := fin_tq (sub64 (HX.out.eqd (lo_sh a)) (HU.out.eqd (lo_sh b)) (by decide)) hp
  have t2 := fin_tq (sub64 (HY.out.eqd (hi_sh a)) (HV.out.eqd (hi_sh b)) (by decide)) hq
  have c := fun w => told_all p q w
  rw [t1, t2] at c
  have C := Lib.hid c
  clear c t1 t2 hp hq
  go_wp2_with fail
  refine (C.out _).mono ?_
  rintro r w3 ⟨rfl, rfl⟩
  go_wp2
  go_ret
  exact ⟨rfl, D1.out.trans (D2.out.trans (Dr.drewN _ _))⟩
theorem prod_eqd {d d' : Datum} {x u p : Nat} (hs : Sh32 d) (hs' : Sh32 d') (h : Wide d x) (h' : Wide d' u) (hp : ArithR (Ieee.double.mul x u) p) : EqD 2456 (prodD d d') (Ieee.double.read p) := by
  rcases mul64 hs hs' h h' with ⟨h1, h2⟩ | ⟨z, q, h1, h2, _, h4⟩
  · rcases hp with hp | ⟨_, hp⟩
    · rw [h2] at hp; cases hp
    · unfold prodD; rw [h1]; exact .inl ⟨rfl, hp⟩
  · rcases hp with hp | ⟨hp, _⟩
    · rw [h2] at hp; injection hp with hp; subst hp
      unfold prodD; rw [h1]; exact h4
    · rw [h2] at hp; cases hp
set_option maxHeartbeats 1000000 in
theorem mul_any (a b : Nat) (w : World) (ha : a < 18446744073709551616) (hb : b < 18446744073709551616) :
    Calls Try.prog 12 #[.int .u64 (a : Int), .int .u64 (b : Int)] w fun r w' => r = .returned (.int .u64 (cw (Go.Proofs.Ytbfdanbepdefnaa.told ((prodD (lo a) (lo b)).sum (prodD (hi a) (hi b)).opposite)) (Go.Proofs.Ytbfdanbepdefnaa.told ((prodD (lo a) (hi b)).sum (prodD (hi a) (lo b)))) : Nat)) ∧ Dr w w' := by
  go_enter Try.func12, Try.ntmps12
  go_wp2_with fail
  refine (wide_any a _ ha).mono ?_
  rintro r w1 ⟨x, y, rfl, hd1, hx, hy⟩
  have D1 := Lib.hid hd1; have HX := Lib.hid hx; have HY := Lib.hid hy
  clear hd1 hx hy
  go_wp2_with fail
  refine (wide_any b _ hb).mono ?_
  rintro r w2 ⟨u, v, rfl, hd2, hu, hv⟩
  have D2 := Lib.hid hd2; have HU := Lib.hid hu; have HV := Lib.hid hv
  clear hd2 hu hv
  obtain ⟨p1, n1, g1, a1⟩ := run_fbin (P := Try.prog) .mul (by decide) 45 x u w2
  obtain ⟨p2, n2, g2, a2⟩ := run_fbin (P := Try.prog) .mul (by decide) 45 y v (w2.drewN n1)
  obtain ⟨p3, n3, g3, a3⟩ := run_fbin (P := Try.prog) .sub (by decide) 45 p1 p2 (w2.drewN (n1 + n2))
  obtain ⟨p4, n4, g4, a4⟩ := run_fbin (P := Try.prog) .mul (by decide) 45 x v (w2.drewN (n1 + n2 + n3))
  obtain ⟨p5, n5, g5, a5⟩ := run_fbin (P := Try.prog) .mul (by decide) 45 y u (w2.drewN (n1 + n2 + n3 + n4))
  obtain ⟨p6, n6, g6, a6⟩ := run_fbin (P := Try.prog) .add (by decide) 45 p4 p5 (w2.drewN (n1 + n2 + n3 + n4 + n5))
  have e1 := prod_eqd (lo_sh a) (lo_sh b) HX.out HU.out a1
  have e2 := prod_eqd (hi_sh a) (hi_sh b) HY.out HV.out a2
  have e4 := prod_eqd (lo_sh a) (hi_sh b) HX.out HV.out a4
  have e5 := prod_eqd (hi_sh a) (lo_sh b) HY.out HU.out a5
  have t1 := fin_tq (sub64 e1 e2 (by decide)) a3
  have t2 := fin_tq (add64 e4 e5 (by decide)) a6
  have c := fun w => told_all p3 p6 w
  rw [t1, t2] at c
  have C := Lib.hid c
  clear c t1 t2 a1 a2 a3 a4 a5 a6 e1 e2 e4 e5
  go_wp2_with fail
  refine (C.out _).mono ?_
  rintro r w3 ⟨rfl, rfl⟩
  go_wp2
  go_ret
  exact ⟨rfl, D1.out.trans (D2.out.trans (Dr.drewN _ _))⟩
theorem told_zero : Fits 0 ∧ Tq 0 = 0 := ⟨.inr (.inr (by decide +kernel)), by decide +kernel⟩
set_option maxHeartbeats 1000000 in
theorem norm_any (a : Nat) (w : World) (ha : a < 18446744073709551616) :
    Calls Try.prog 14 #[.int .u64 (a : Int)] w fun r w' => r = .returned (.int .u64 (cw (Go.Proofs.Ytbfdanbepdefnaa.told ((prodD (lo a) (lo a)).sum (prodD (hi a) (hi a)))) 0 : Nat)) ∧ Dr w w' := by
  go_enter Try.func14, Try.ntmps14
  go_wp2_with fail
  refine (wide_any a _ ha).mono ?_
  rintro r w2 ⟨x, y, rfl, hd1, hx, hy⟩
  have D1 := Lib.hid hd1; have HX := Lib.hid hx; have HY := Lib.hid hy
  clear hd1 hx hy
  obtain ⟨p1, n1, g1, a1⟩ := run_fbin (P := Try.prog) .mul (by decide) 45 x x w2
  obtain ⟨p2, n2, g2, a2⟩ := run_fbin (P := Try.prog) .mul (by decide) 45 y y (w2.drewN n1)
  obtain ⟨p3, n3, g3, a3⟩ := run_fbin (P := Try.prog) .add (by decide) 45 p1 p2 (w2.drewN (n1 + n2))
  have e1 := prod_eqd (lo_sh a) (lo_sh a) HX.out HX.out a1
  have e2 := prod_eqd (hi_sh a) (hi_sh a) HY.out HY.out a2
  have t1 := fin_tq (add64 e1 e2 (by decide)) a3
  have c := fun w => told_all p3 0 w
  rw [t1, told_zero.2] at c
  have C := Lib.hid c
  clear c t1 a1 a2 a3 e1 e2
  go_wp2_with fail
  refine (C.out _).mono ?_
  rintro r w3 ⟨rfl, rfl⟩
  go_wp2
  go_ret
  exact ⟨rfl, D1.out.trans (Dr.drewN _ _)⟩
theorem xor_top (x : Nat) : x ^^^ 2147483648 = x % 2147483648 + 2147483648 * (x / 2147483648 ^^^ 1) := by
  have h1 : (x ^^^ 2147483648) / 2147483648 = x / 2147483648 ^^^ 1 := Nat.xor_div_two_pow (n := 31)
  have h2 : (x ^^^ 2147483648) % 2147483648 = x % 2147483648 ^^^ 0 := Nat.xor_mod_two_pow (n := 31)
  rw [Nat.xor_zero] at h2
  have := Nat.div_add_mod (x ^^^ 2147483648) 2147483648
  rw [h1, h2] at this
  omega
theorem xor_one (b : Nat) (h : b < 2) : b ^^^ 1 = 1 - b := by
  rcases b with _ | _ | b
  · rfl
  · rfl
  · omega
theorem neg_lt (x : Nat) (h : x < 4294967296) : x ^^^ 2147483648 < 4294967296 := by
  rw [xor_top, xor_one _ (by omega)]; omega
theorem read_neg (x : Nat) (h : x < 4294967296) : Ieee.single.read (x ^^^ 2147483648) = (Ieee.single.read x).opposite := by
  have hlt := neg_lt x h
  rw [read_parts _ hlt, read_parts x h]
  rw [xor_top, xor_one _ (by omega)] at *
  have e1 : (x % 2147483648 + 2147483648 * (1 - x / 2147483648)) / 8388608 % 256 = x / 8388608 % 256 := by omega
  have e2 : (x % 2147483648 + 2147483648 * (1 - x / 2147483648)) % 8388608 = x % 8388608 := by omega
  have e3 : ((x % 2147483648 + 2147483648 * (1 - x / 2147483648)) / 2147483648 % 2 == 1) = !(x / 2147483648 % 2 == 1) := by
    rw [Bool.eq_iff_iff]; simp; omega
  rw [e1, e2, e3]
  split
  · split <;> rfl
  · split <;> rfl
theorem conj_any (a : Nat) (w : World) (ha : a < 18446744073709551616) : Calls Try.prog 16 #[.int .u64 (a : Int)] w fun r w' => r = .returned (.int .u64 (cw (bitsD (lo a)) (bitsD (hi a).opposite) : Nat)) ∧ Dr w w' := by
  have l1 : a % 4294967296 < 4294967296 := by omega
  have l2 : a / 4294967296 < 4294967296 := by omega
  have c := fun w => pack_any (a % 4294967296) (a / 4294967296 ^^^ 2147483648) w l1 (neg_lt _ l2)
  rw [← bitsD_read _ l1, ← bitsD_read _ (neg_lt _ l2), read_neg _ l2] at c
  have C : Hid (∀ w, Calls Try.prog 19 #[.complex .f32 (a % 4294967296) (a / 4294967296 ^^^ 2147483648)] w fun r w' => r = .returned (.int .u64 (cw (bitsD (lo a)) (bitsD (hi a).opposite) : Nat)) ∧ Dr w w') := Lib.hid c
  clear c l1 l2
  have hneg : ∀ b, Op.unary .neg (.float .f32 b) = pure (.float .f32 (b ^^^ 2147483648)) := fun _ => rfl
  go_enter Try.func16, Try.ntmps16
  go_wp2_with fail
  refine (unpack_any _ _ ha).mono ?_
  rintro e w' ⟨rfl, rfl⟩
  go_wp2_with fail
  refine (C.out _).mono ?_
  rintro e w' ⟨rfl, hd⟩
  have D := Lib.hid hd; clear hd
  go_wp2
  go_ret
  exact ⟨rfl, D.out⟩
theorem int_bits (n : Int) : floatOfInt .f32 n = bitsD (.number (n < 0) n.natAbs 0) := rfl
theorem pb_small (n : Int) : pb (bitsD (.number (n < 0) n.natAbs 0)) = bitsD (.number (n < 0) n.natAbs 0) := by
  unfold pb
  rw [if_neg]
  intro h
  have := write_num Ieee.single (n < 0) n.natAbs 0 (by decide)
  rw [show Ieee.single.write (.number (n < 0) n.natAbs 0) = bitsD (.number (n < 0) n.natAbs 0) from rfl, h] at this
  cases this
theorem whole_any (a b : Int) (w : World) : Calls Try.prog 23 #[.int .i8 a, .int .i8 b] w fun r w' => r = .returned (.int .u64 (cw (bitsD (.number (a < 0) a.natAbs 0)) (bitsD (.number (b < 0) b.natAbs 0)) : Nat)) ∧ Dr w w' := by
  have c := fun w => pack_any (floatOfInt .f32 a) (floatOfInt .f32 b) w (bitsD_lt (.number (a < 0) a.natAbs 0)) (bitsD_lt (.number (b < 0) b.natAbs 0))
  rw [int_bits, int_bits, pb_small, pb_small, ← int_bits, ← int_bits] at c
  rw [← int_bits, ← int_bits]
  have C := Lib.hid c; clear c
  go_enter Try.func23, Try.ntmps23
  go_wp2_with fail
  refine (C.out _).mono ?_
  rintro e w' ⟨rfl, hd⟩
  have D := Lib.hid hd; clear hd
  go_wp2
  go_ret
  exact ⟨rfl, D.out⟩
theorem wide_nan {d : Datum} {x : Nat} (h : Wide d x) : (Ieee.double.read x).isNaN = d.isNaN := by
  rcases h with ⟨h1, h2⟩ | ⟨h1, h2⟩
  · rw [h1, h2]
  · subst h2
    rw [h1]
    cases d with
    | nan s u => cases h1
    | infinity s => rw [read_inf64]; rfl
    | number s m e => exact write_num Ieee.double s m e (by decide)
theorem nan_any (a : Nat) (w : World) (ha : a < 18446744073709551616) : Calls Try.prog 21 #[.int .u64 (a : Int)] w fun r w' => r = .returned (.bool ((lo a).isNaN || (hi a).isNaN)) ∧ Dr w w' := by
  obtain ⟨u, hu⟩ : ∃ u, u = (lo a).isNaN := ⟨_, rfl⟩
  obtain ⟨v, hv⟩ : ∃ v, v = (hi a).isNaN := ⟨_, rfl⟩
  rw [← hu, ← hv]
  go_enter Try.func21, Try.ntmps21
  go_wp2_with fail
  refine (wide_any a _ ha).mono ?_
  rintro r w1 ⟨x, y, rfl, hd1, hx, hy⟩
  have c1 := fun w => isnan_any x w
  have c2 := fun w => isnan_any y w
  rw [wide_nan hx, ← hu] at c1
  rw [wide_nan hy, ← hv] at c2
  have D1 := Lib.hid hd1; have C1 := Lib.hid c1; have C2 := Lib.hid c2
  clear hd1 hx hy c1 c2 hu hv
  cases u
  · go_wp2_with fail
    refine (C1.out _).mono ?_
    rintro e w' ⟨rfl, rfl⟩
    go_wp2_with fail
    refine (C2.out _).mono ?_
    rintro e w' ⟨rfl, rfl⟩
    go_wp2
    go_ret
    exact ⟨rfl, D1.out⟩
  · go_wp2_with fail
    refine (C1.out _).mono ?_
    rintro e w' ⟨rfl, rfl⟩
    go_wp2
    go_ret
    exact ⟨rfl, D1.out⟩
end Go.Proofs.Ytbfdanbepdefnaa
