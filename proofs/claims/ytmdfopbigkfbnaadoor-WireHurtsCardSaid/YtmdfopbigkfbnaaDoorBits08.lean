/-
  Plain facts on words of 64 bits as numbers, entries and satp: nothing of the program stands here. No conditions.
-/
import Derived.WalkKit
import Derived.Laws.BitsAllLaws
namespace Go.Proofs.YtmdfopbigkfbnaaDoor
open Go.RowKit
set_option linter.unusedVariables false

theorem int_eqB {k : IntKind} {a b : Int} (h : a = b) : Value.int k a = .int k b := by rw [h]
theorem ret_int {k : IntKind} {a b : Int} (h : a = b) : Ending.returned (.int k a) = .returned (.int k b) := by rw [h]
theorem ret_bool {a b : Bool} (h : a = b) : Ending.returned (.bool a) = .returned (.bool b) := by rw [h]
theorem wrap_u64B (x : Int) : IntKind.u64.wrap x = x % 18446744073709551616 := by simp [IntKind.wrap, IntKind.signed, IntKind.bits]
/-- n bits of a word from a place on, as a number -/
def fld (w at_ n : Nat) : Nat := w / 2 ^ at_ % 2 ^ n
theorem fld_le (w at_ n : Nat) : fld w at_ n ≤ w := Nat.le_trans (Nat.mod_le _ _) (Nat.div_le_self _ _)
theorem fld_lt (w at_ n : Nat) : fld w at_ n < 2 ^ n := Nat.mod_lt _ (Nat.two_pow_pos n)
theorem pow_le {n k : Nat} (h : n ≤ k) : 2 ^ n ≤ 2 ^ k := Nat.pow_le_pow_right (by decide) h
theorem p63 : (2 : Nat) ^ 63 = 9223372036854775808 := by decide
theorem p64 : (2 : Nat) ^ 64 = 18446744073709551616 := by decide
theorem ipow (n : Nat) : (2 : Int) ^ n = ((2 ^ n : Nat) : Int) := by simp
theorem pow_b {n : Nat} (h : n < 64) : 0 < 2 ^ n ∧ 2 ^ n ≤ 9223372036854775808 := by
  have := pow_le (show n ≤ 63 by omega)
  rw [p63] at this
  exact ⟨Nat.two_pow_pos n, this⟩
theorem take_eq (v at_ n : Nat) (hv : v < 18446744073709551616) (hn : n < 64) : bits .and .u64 ((v : Int) / 2 ^ at_) (IntKind.u64.wrap (IntKind.u64.wrap (2 ^ n) - 1)) = (fld v at_ n : Nat) := by
  have hb := pow_b hn
  have e1 : IntKind.u64.wrap (IntKind.u64.wrap (2 ^ n) - 1) = ((2 ^ n - 1 : Nat) : Int) := by
    rw [wrap_u64B, wrap_u64B, ipow]; omega
  have e2 : ((v : Int) / 2 ^ at_) = ((v / 2 ^ at_ : Nat) : Int) := by rw [ipow, Int.natCast_ediv]
  have h1 := Nat.div_le_self v (2 ^ at_)
  rw [e1, e2, u64_and_nat _ _ (by omega) (by omega), Nat.and_two_pow_sub_one_eq_mod]; rfl
theorem lay_eq (v at_ n : Nat) (h : at_ + n ≤ 64) : IntKind.u64.wrap ((fld v 0 n : Nat) * 2 ^ at_) = (v % 2 ^ n * 2 ^ at_ : Nat) := by
  have e : fld v 0 n = v % 2 ^ n := by simp [fld]
  have h1 : v % 2 ^ n * 2 ^ at_ < 2 ^ n * 2 ^ at_ := Nat.mul_lt_mul_of_pos_right (Nat.mod_lt _ (Nat.two_pow_pos n)) (Nat.two_pow_pos at_)
  rw [← Nat.pow_add] at h1
  have h2 := pow_le (show n + at_ ≤ 64 by omega)
  rw [p64] at h2
  rw [wrap_u64B, e, ipow, ← Int.natCast_mul]; omega
/-- 1 or 0 -/
def one (b : Bool) : Nat := if b then 1 else 0
theorem one_le (b : Bool) : one b ≤ 1 := by cases b <;> decide
theorem one_eq (k : Nat) : one (k % 2 == 1) = k % 2 := by
  unfold one
  by_cases h : k % 2 = 1
  · simp [h]
  · simp [h]; omega
/-- a flag's weight, if it is set -/
def flg (b : Bool) (f : Int) : Int := if b then f else 0
/-- an entry -/
structure Ent where
  (v r w x u g a d : Bool)
  rsw : Int
  ppn : Nat
/-- an entry as the program has it -/
def pv (e : Ent) : Value := .agg #[.bool e.v, .bool e.r, .bool e.w, .bool e.x, .bool e.u, .bool e.g, .bool e.a, .bool e.d, .int .i64 e.rsw, .int .u64 (e.ppn : Int)]
/-- its word -/
def wordE (e : Ent) : Nat := one e.v + 2 * one e.r + 4 * one e.w + 8 * one e.x + 16 * one e.u + 32 * one e.g + 64 * one e.a + 128 * one e.d + 256 * (e.rsw % 4).toNat + 1024 * (e.ppn % 17592186044416)
/-- the entry of a word -/
def entW (w : Nat) : Ent := ⟨w % 2 == 1, w / 2 % 2 == 1, w / 4 % 2 == 1, w / 8 % 2 == 1, w / 16 % 2 == 1, w / 32 % 2 == 1, w / 64 % 2 == 1, w / 128 % 2 == 1, (w / 256 % 4 : Nat), w / 1024 % 17592186044416⟩
theorem wordE_lt (e : Ent) : wordE e < 18014398509481984 := by
  unfold wordE
  have := one_le e.v; have := one_le e.r; have := one_le e.w; have := one_le e.x; have := one_le e.u; have := one_le e.g; have := one_le e.a; have := one_le e.d
  omega
theorem word_ent (w : Nat) : wordE (entW w) = w % 18014398509481984 := by
  unfold wordE entW
  simp only [one_eq]
  omega
/-- a satp -/
structure Stp where
  on : Bool
  asid : Int
  ppn : Nat
def sv (s : Stp) : Value := .agg #[.bool s.on, .int .i64 s.asid, .int .u64 (s.ppn : Int)]
def wordS (s : Stp) : Nat := s.ppn % 17592186044416 + 17592186044416 * (s.asid % 65536).toNat + 9223372036854775808 * one s.on
theorem wordS_lt (s : Stp) : wordS s < 18446744073709551616 := by
  unfold wordS
  have := one_le s.on
  omega
def modeW (w : Nat) : Nat := w / 1152921504606846976
def stpW (w : Nat) : Stp := ⟨modeW w == 8, (w / 17592186044416 % 65536 : Nat), w % 17592186044416⟩
theorem word_stp (w : Nat) (h : modeW w = 0 ∨ modeW w = 8) : wordS (stpW w) = w := by
  unfold wordS stpW
  rcases h with h | h
  · simp only [h]
    have e : one ((0 : Nat) == 8) = 0 := rfl
    rw [e]
    unfold modeW at h
    omega
  · simp only [h]
    have e : one ((8 : Nat) == 8) = 1 := rfl
    rw [e]
    unfold modeW at h
    omega
theorem or_at (k a b : Nat) (h : a < 2 ^ k) : a ||| 2 ^ k * b = a + 2 ^ k * b := by
  rw [Nat.or_comm, ← Nat.two_pow_add_eq_or_of_lt h, Nat.add_comm]
/-- an address's place joined with a frame's number -/
def joinN (ppn va s : Nat) : Nat := ppn % 4503599627370496 * 4096 / s * s + va % s
def canN (va : Nat) : Bool := decide (va / 274877906944 = 0 ∨ va / 274877906944 = 67108863)
theorem can_eq (va : Nat) (h : va < 18446744073709551616) : (IntKind.u64.wrap (wrap64 (IntKind.u64.wrap ((va : Int) * 33554432)) / 33554432) == (va : Int)) = canN va := by
  unfold canN wrap64
  rw [wrap_u64B, wrap_u64B, Bool.eq_iff_iff]
  simp only [beq_iff_eq, decide_eq_true_eq]
  constructor
  · intro h1
    omega
  · intro h1
    omega
theorem and_high (a k : Nat) (ha : a < 2 ^ 64) (hk : k ≤ 64) : a &&& (2 ^ 64 - (2 ^ k - 1 + 1)) = a / 2 ^ k * 2 ^ k := by
  refine Nat.eq_of_testBit_eq fun i => ?_
  have h1 : 2 ^ k - 1 < 2 ^ 64 := by have := pow_le hk; have := Nat.two_pow_pos k; omega
  rw [Nat.testBit_and, Nat.testBit_two_pow_sub_succ h1, Nat.testBit_two_pow_sub_one, Nat.mul_comm, Nat.testBit_two_pow_mul, Nat.testBit_div_two_pow]
  rcases Nat.lt_or_ge i k with h | h
  · rw [decide_eq_true h, decide_eq_false (by omega : ¬ i ≥ k)]; simp
  · rw [decide_eq_false (by omega : ¬ i < k), decide_eq_true h, Nat.sub_add_cancel h]
    rcases Nat.lt_or_ge i 64 with h' | h'
    · simp [h']
    · rw [Nat.testBit_lt_two_pow (Nat.lt_of_lt_of_le ha (pow_le h'))]; simp
theorem join_eq (ppn va k : Nat) (hp : ppn < 18446744073709551616) (hv : va < 18446744073709551616) (hk : k < 64) :
    bits .or .u64 (bits .andNot .u64 (IntKind.u64.wrap ((ppn : Int) * 4096)) (((2 ^ k : Nat) : Int) - 1)) (bits .and .u64 (va : Int) (((2 ^ k : Nat) : Int) - 1)) = (joinN ppn va (2 ^ k) : Nat) := by
  have hb := pow_b hk
  have e1 : IntKind.u64.wrap ((ppn : Int) * 4096) = ((ppn % 4503599627370496 * 4096 : Nat) : Int) := by rw [wrap_u64B]; omega
  have e2 : (((2 ^ k : Nat) : Int) - 1) = ((2 ^ k - 1 : Nat) : Int) := by omega
  obtain ⟨A, hA⟩ : ∃ A, A = ppn % 4503599627370496 * 4096 := ⟨_, rfl⟩
  have hA1 : A < 2 ^ 64 := by rw [p64]; omega
  have hA2 : A < 18446744073709551616 := by rw [p64] at hA1; exact hA1
  have h1 := and_high A k hA1 (by omega)
  have e3 : 18446744073709551615 - (2 ^ k - 1) = 2 ^ 64 - (2 ^ k - 1 + 1) := by rw [p64]; omega
  have h3 : A / 2 ^ k * 2 ^ k ≤ A := Nat.div_mul_le_self _ _
  have h4 : va % 2 ^ k < 2 ^ k := Nat.mod_lt _ hb.1
  have h5 := Nat.mod_le va (2 ^ k)
  rw [e1, e2, ← hA, u64_andNot_nat _ _ hA2 (by omega), u64_and_nat _ _ hv (by omega), e3, h1, Nat.and_two_pow_sub_one_eq_mod, u64_or_nat _ _ (by omega) (by omega), nat_join k _ _ (Nat.mul_mod_left _ _) h4]
  unfold joinN
  rw [← hA]
theorem flg_eq (b : Bool) (k : Nat) : flg b (k : Nat) = ((k * one b : Nat) : Int) := by cases b <;> simp [flg, one]
theorem or_step (a : Int) (A B k : Nat) (b : Int) (ha : a = (A : Nat)) (h : A < 2 ^ k) (hb : b = (2 ^ k * B : Nat)) (hk : 2 ^ k * B < 18446744073709551616) (hk2 : 2 ^ k ≤ 18446744073709551616) : bits .or .u64 a b = ((A + 2 ^ k * B : Nat) : Int) := by
  subst ha hb
  rw [u64_or_nat _ _ (by omega) hk, or_at k A B h]
theorem or_flag (a : Int) (A k : Nat) (b : Bool) (ha : a = (A : Nat)) (h : A < 2 ^ k) (hk : k < 64) : bits .or .u64 a (flg b ((2 ^ k : Nat) : Int)) = ((A + 2 ^ k * one b : Nat) : Int) := by
  have h1 := (pow_b hk).2
  have h2 : 2 ^ k * one b ≤ 2 ^ k * 1 := Nat.mul_le_mul (Nat.le_refl _) (one_le b)
  exact or_step a A (one b) k _ ha h (flg_eq b (2 ^ k)) (by omega) (by omega)
theorem flags_eq (v r w x u g a d : Bool) : bits .or .u64 (bits .or .u64 (bits .or .u64 (bits .or .u64 (bits .or .u64 (bits .or .u64 (bits .or .u64 (flg v 1) (flg r 2)) (flg w 4)) (flg x 8)) (flg u 16)) (flg g 32)) (flg a 64)) (flg d 128) =
    ((one v + 2 * one r + 4 * one w + 8 * one x + 16 * one u + 32 * one g + 64 * one a + 128 * one d : Nat) : Int) := by
  have b1 := one_le v; have b2 := one_le r; have b3 := one_le w; have b4 := one_le x; have b5 := one_le u; have b6 := one_le g; have b7 := one_le a; have b8 := one_le d
  have h0 : flg v 1 = ((one v : Nat) : Int) := by have := flg_eq v 1; rw [Nat.one_mul] at this; exact this
  have h1 := or_flag _ _ 1 r h0 (by omega) (by omega)
  have h2 := or_flag _ _ 2 w h1 (by omega) (by omega)
  have h3 := or_flag _ _ 3 x h2 (by omega) (by omega)
  have h4 := or_flag _ _ 4 u h3 (by omega) (by omega)
  have h5 := or_flag _ _ 5 g h4 (by omega) (by omega)
  have h6 := or_flag _ _ 6 a h5 (by omega) (by omega)
  exact or_flag _ _ 7 d h6 (by omega) (by omega)
theorem put_eq (v r w x u g a d : Bool) (rsw : Int) (ppn : Nat) : bits .or .u64 (bits .or .u64 (bits .or .u64 (bits .or .u64 (bits .or .u64 (bits .or .u64 (bits .or .u64 (bits .or .u64 (bits .or .u64 (flg v 1) (flg r 2)) (flg w 4)) (flg x 8)) (flg u 16)) (flg g 32)) (flg a 64)) (flg d 128)) (IntKind.u64.wrap rsw % 4 * 256)) ((ppn : Int) % 17592186044416 * 1024) =
    ((wordE ⟨v, r, w, x, u, g, a, d, rsw, ppn⟩ : Nat) : Int) := by
  have b1 := one_le v; have b2 := one_le r; have b3 := one_le w; have b4 := one_le x; have b5 := one_le u; have b6 := one_le g; have b7 := one_le a; have b8 := one_le d
  have e1 : IntKind.u64.wrap rsw % 4 * 256 = ((2 ^ 8 * (rsw % 4).toNat : Nat) : Int) := by rw [wrap_u64B]; omega
  have e2 : (ppn : Int) % 17592186044416 * 1024 = ((2 ^ 10 * (ppn % 17592186044416) : Nat) : Int) := by omega
  have h1 := or_step _ _ _ 8 _ (flags_eq v r w x u g a d) (by omega) e1 (by omega) (by omega)
  have h2 := or_step _ _ _ 10 _ h1 (by omega) e2 (by omega) (by omega)
  exact h2
theorem putS_eq (m : Int) (on : Bool) (asid : Int) (ppn : Nat) (hm : m = 9223372036854775808 * one on) : bits .or .u64 (bits .or .u64 ((ppn : Int) % 17592186044416) (IntKind.u64.wrap asid % 65536 * 17592186044416)) m = ((wordS ⟨on, asid, ppn⟩ : Nat) : Int) := by
  have b1 := one_le on
  have e0 : (ppn : Int) % 17592186044416 = ((ppn % 17592186044416 : Nat) : Int) := by omega
  have e1 : IntKind.u64.wrap asid % 65536 * 17592186044416 = ((2 ^ 44 * (asid % 65536).toNat : Nat) : Int) := by rw [wrap_u64B]; omega
  have e2 : m = ((2 ^ 63 * one on : Nat) : Int) := by omega
  have h1 := or_step _ _ _ 44 _ e0 (by omega) e1 (by omega) (by omega)
  have h2 := or_step _ _ _ 63 _ h1 (by omega) e2 (by omega) (by omega)
  exact h2
theorem bit_ne (x k : Nat) (hx : x < 18446744073709551616) (hk : k < 64) : (bits .and .u64 (x : Int) ((2 ^ k : Nat) : Int) != 0) = (x / 2 ^ k % 2 == 1) := by
  have hb := pow_b hk
  rw [u64_and_nat _ _ hx (by omega), nat_bit, Bool.eq_iff_iff]
  have h2 : x / 2 ^ k % 2 = 0 ∨ x / 2 ^ k % 2 = 1 := by omega
  rcases h2 with h2 | h2
  · rw [h2]; simp
  · rw [h2, Nat.one_mul]
    simp only [bne_iff_ne, beq_self_eq_true, iff_true, ne_eq]
    omega
theorem top_eq (x : Nat) : ((x : Int) / 18014398509481984 == 0) = decide (x < 18014398509481984) := by
  rw [Bool.eq_iff_iff]; simp; omega
theorem fld_rsw (x : Nat) : fld x 8 2 = x / 256 % 4 := rfl
theorem fld_ppn (x : Nat) : fld x 10 44 = x / 1024 % 17592186044416 := rfl
theorem fld_asid (x : Nat) : fld x 44 16 = x / 17592186044416 % 65536 := rfl
theorem fld_root (x : Nat) : fld x 0 44 = x % 17592186044416 := by show x / 1 % _ = _; rw [Nat.div_one]
theorem fld_mode (x : Nat) (h : x < 18446744073709551616) : fld x 60 4 = modeW x := by
  show x / 1152921504606846976 % 16 = x / 1152921504606846976
  omega
theorem join_lt (A va j : Nat) (hA : A < 18446744073709551616) (hj : j ≤ 64) : A / 2 ^ j * 2 ^ j + va % 2 ^ j < 18446744073709551616 := by
  have e : 18446744073709551616 = 2 ^ (64 - j) * 2 ^ j := by rw [← Nat.pow_add, Nat.sub_add_cancel hj]
  have h1 : A / 2 ^ j < 2 ^ (64 - j) := by
    refine Nat.div_lt_of_lt_mul ?_
    rw [Nat.mul_comm, ← e]; exact hA
  have h2 : (A / 2 ^ j + 1) * 2 ^ j ≤ 2 ^ (64 - j) * 2 ^ j := Nat.mul_le_mul_right _ h1
  have h3 : va % 2 ^ j < 2 ^ j := Nat.mod_lt _ (Nat.two_pow_pos j)
  rw [Nat.add_mul, Nat.one_mul, ← e] at h2
  omega
theorem joinN_lt (ppn va j : Nat) (hj : j ≤ 64) : joinN ppn va (2 ^ j) < 18446744073709551616 := join_lt _ va j (by omega) hj
/-- the rest of a number of 64 bits with a sign -/
theorem tmod4 (r : Int) : (r.tmod 4 < 0 → r.tmod 4 + 4 = ((r % 4).toNat : Int)) ∧ (¬ r.tmod 4 < 0 → r.tmod 4 = ((r % 4).toNat : Int)) ∧ -4 < r.tmod 4 ∧ r.tmod 4 < 4 := by
  rcases Int.lt_or_le r 0 with h | h
  · have e : r.tmod 4 = -((-r) % 4) := by
      rw [← Int.tmod_eq_emod_of_nonneg (by omega : 0 ≤ -r), Int.neg_tmod, Int.neg_neg]
    rw [e]; omega
  · rw [Int.tmod_eq_emod_of_nonneg h]; omega
theorem tmod16 (r : Int) : (r.tmod 65536 < 0 → r.tmod 65536 + 65536 = ((r % 65536).toNat : Int)) ∧ (¬ r.tmod 65536 < 0 → r.tmod 65536 = ((r % 65536).toNat : Int)) ∧ -65536 < r.tmod 65536 ∧ r.tmod 65536 < 65536 := by
  rcases Int.lt_or_le r 0 with h | h
  · have e : r.tmod 65536 = -((-r) % 65536) := by
      rw [← Int.tmod_eq_emod_of_nonneg (by omega : 0 ≤ -r), Int.neg_tmod, Int.neg_neg]
    rw [e]; omega
  · rw [Int.tmod_eq_emod_of_nonneg h]; omega
theorem spell_step (va k : Nat) (hk : k < 3) : bits .or .u64 ((va % 2 ^ (12 + 9 * k) : Nat) : Int) (IntKind.u64.wrap ((fld va (12 + 9 * k) 9 : Nat) * 2 ^ (12 + 9 * k))) = ((va % 2 ^ (12 + 9 * (k + 1)) : Nat) : Int) := by
  obtain ⟨P, hP⟩ : ∃ P, P = 12 + 9 * k := ⟨_, rfl⟩
  have hPk : P ≤ 30 := by omega
  rw [show 12 + 9 * (k + 1) = P + 9 by omega, ← hP]
  have h1 := fld_lt va P 9
  have h2 := pow_le hPk
  have h3 : va % 2 ^ P < 2 ^ P := Nat.mod_lt _ (Nat.two_pow_pos P)
  have h4 : fld va P 9 * 2 ^ P < 512 * 2 ^ P := Nat.mul_lt_mul_of_pos_right h1 (Nat.two_pow_pos P)
  have h5 : 512 * 2 ^ P ≤ 512 * 2 ^ 30 := Nat.mul_le_mul_left _ h2
  have h2 : 2 ^ P ≤ 1073741824 := h2
  have h5 : 512 * 2 ^ P ≤ 549755813888 := h5
  have e1 : IntKind.u64.wrap (((fld va P 9 : Nat) : Int) * 2 ^ P) = ((2 ^ P * fld va P 9 : Nat) : Int) := by
    rw [wrap_u64B, ipow, ← Int.natCast_mul, Nat.mul_comm (2 ^ P)]; omega
  rw [or_step _ (va % 2 ^ P) (fld va P 9) P _ rfl h3 e1 (by rw [Nat.mul_comm]; omega) (by omega)]
  unfold fld
  rw [Nat.pow_add, Nat.mod_mul]
theorem canon_low (va : Nat) (h : va < 18446744073709551616) (hb : va % 549755813888 / 274877906944 = 0) : (((va % 549755813888 : Nat) : Int) == (va : Int)) = canN va := by
  unfold canN
  rw [Bool.eq_iff_iff]; simp only [beq_iff_eq, decide_eq_true_eq]; omega
theorem canon_high (va : Nat) (h : va < 18446744073709551616) (hb : va % 549755813888 / 274877906944 = 1) : (((va % 549755813888 + 18446743523953737728 : Nat) : Int) == (va : Int)) = canN va := by
  unfold canN
  rw [Bool.eq_iff_iff]; simp only [beq_iff_eq, decide_eq_true_eq]; omega
theorem or_high (x : Nat) (h : x < 549755813888) : bits .or .u64 (x : Int) 18446743523953737728 = ((x + 18446743523953737728 : Nat) : Int) := by
  have := or_step (x : Int) x 33554431 39 18446743523953737728 rfl h rfl (by decide) (by decide)
  exact this
theorem spell_vpn (va : Nat) : ((fld va 12 27 : Nat) : Int) * 4096 / 274877906944 = ((va / 274877906944 % 2 : Nat) : Int) := by
  show ((va / 4096 % 134217728 : Nat) : Int) * 4096 / 274877906944 = _
  omega
theorem spell_sign (va : Nat) : IntKind.u64.wrap ((va : Int) * 33554432) / 9223372036854775808 = ((va / 274877906944 % 2 : Nat) : Int) := by
  rw [wrap_u64B]; omega
theorem spell_join (p va : Nat) (hv : va < 18446744073709551616) : bits .and .u64 ((joinN p va 4096 : Nat) : Int) 4095 = ((va % 4096 : Nat) : Int) := by
  have h := joinN_lt p va 12 (by omega)
  have h : joinN p va 4096 < 18446744073709551616 := h
  have e := u64_and_nat (joinN p va 4096) 4095 h (by omega)
  rw [show (4095 : Nat) = 2 ^ 12 - 1 from rfl, Nat.and_two_pow_sub_one_eq_mod] at e
  refine e.trans ?_
  unfold joinN
  rw [show (2 : Nat) ^ 12 = 4096 from rfl]; omega
theorem spell_low (va : Nat) (hv : va < 18446744073709551616) : bits .and .u64 (va : Int) 4095 = ((va % 4096 : Nat) : Int) := by
  have e := u64_and_nat va 4095 hv (by omega)
  rw [show (4095 : Nat) = 2 ^ 12 - 1 from rfl, Nat.and_two_pow_sub_one_eq_mod] at e
  exact e
theorem vpn_sum (va : Nat) : ((fld va 30 9 : Nat) : Int) * 262144 + ((fld va 21 9 : Nat) : Int) * 512 + ((fld va 12 9 : Nat) : Int) = ((fld va 12 27 : Nat) : Int) := by
  show ((va / 1073741824 % 512 : Nat) : Int) * 262144 + ((va / 2097152 % 512 : Nat) : Int) * 512 + ((va / 4096 % 512 : Nat) : Int) = ((va / 4096 % 134217728 : Nat) : Int)
  omega
/-- the numbers of whatever level: 0 where there is none -/
def idxN (va : Nat) (l : Int) : Int := if 0 ≤ l ∧ l < 3 then (fld va (12 + 9 * l.toNat) 9 : Nat) else 0
def spnN (l : Int) : Int := if 0 ≤ l ∧ l < 3 then (2 ^ (12 + 9 * l.toNat) : Nat) else 0
def joiN (ppn va : Nat) (l : Int) : Int := if 0 ≤ l ∧ l < 3 then (joinN ppn va (2 ^ (12 + 9 * l.toNat)) : Nat) else 0
end Go.Proofs.YtmdfopbigkfbnaaDoor
