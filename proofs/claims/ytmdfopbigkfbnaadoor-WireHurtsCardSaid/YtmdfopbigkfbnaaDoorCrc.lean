/-
  Plain facts on the check sum of bytes: nothing of the program stands here. No conditions.
-/
import Derived.Test.YtmdfopbigkfbnaaDoorPlain
namespace Go.Proofs.YtmdfopbigkfbnaaDoor
open Go.RowKit

/-- one step of the sum -/
def stp (s : Nat) : Nat := s / 2 ^^^ (if s % 2 = 1 then 3988292384 else 0)
def stps : Nat → Nat → Nat
  | 0, s => s
  | k + 1, s => stps k (stp s)
theorem xor4 (a b c d : Nat) : (a ^^^ b) ^^^ (c ^^^ d) = (a ^^^ c) ^^^ (b ^^^ d) := by
  apply Nat.eq_of_testBit_eq; intro i
  simp only [Nat.testBit_xor]
  cases a.testBit i <;> cases b.testBit i <;> cases c.testBit i <;> cases d.testBit i <;> rfl
theorem stp_xor (a b : Nat) : stp (a ^^^ b) = stp a ^^^ stp b := by
  unfold stp
  rw [xor4, Nat.xor_div_two]
  congr 1
  have e : (a ^^^ b) % 2 = a % 2 ^^^ b % 2 := Nat.xor_mod_two_pow (n := 1)
  rw [e]
  rcases Nat.mod_two_eq_zero_or_one a with h | h <;> rcases Nat.mod_two_eq_zero_or_one b with h' | h' <;> rw [h, h'] <;> decide
theorem stps_xor : ∀ (k a b : Nat), stps k (a ^^^ b) = stps k a ^^^ stps k b
  | 0, _, _ => rfl
  | k + 1, a, b => by rw [stps, stp_xor, stps_xor k]; rfl
theorem stps_succ : ∀ (k s : Nat), stps (k + 1) s = stp (stps k s)
  | 0, _ => rfl
  | k + 1, s => by rw [stps, stps_succ k]; rfl
theorem stps_add : ∀ (j k s : Nat), stps (j + k) s = stps k (stps j s)
  | 0, k, s => by rw [Nat.zero_add]; rfl
  | j + 1, k, s => by rw [Nat.add_right_comm, stps, stps_add j]; rfl
theorem xor_lt32 {a b : Nat} (ha : a < 4294967296) (hb : b < 4294967296) : a ^^^ b < 4294967296 := Nat.xor_lt_two_pow (n := 32) ha hb
theorem stp_lt {s : Nat} (h : s < 4294967296) : stp s < 4294967296 := by
  unfold stp
  exact xor_lt32 (by omega) (by split <;> omega)
theorem stps_lt : ∀ (k : Nat) {s : Nat}, s < 4294967296 → stps k s < 4294967296
  | 0, _, h => h
  | k + 1, _, h => stps_lt k (stp_lt h)
theorem xor_zero_eq {a b : Nat} (h : a ^^^ b = 0) : a = b := by
  have : (a ^^^ b) ^^^ b = b := by rw [h, Nat.zero_xor]
  rwa [Nat.xor_assoc, Nat.xor_self, Nat.xor_zero] at this
theorem stp_zero {s : Nat} (h : s < 4294967296) (h0 : stp s = 0) : s = 0 := by
  unfold stp at h0
  have := xor_zero_eq h0
  split at this <;> omega
theorem stp_inj {a b : Nat} (ha : a < 4294967296) (hb : b < 4294967296) (h : stp a = stp b) : a = b :=
  xor_zero_eq (stp_zero (xor_lt32 ha hb) (by rw [stp_xor, h, Nat.xor_self]))
theorem stps_inj : ∀ (k : Nat) {a b : Nat}, a < 4294967296 → b < 4294967296 → stps k a = stps k b → a = b
  | 0, _, _, _, _, h => h
  | k + 1, _, _, ha, hb, h => stp_inj ha hb (stps_inj k (stp_lt ha) (stp_lt hb) h)
theorem stp_two (x : Nat) : stp (2 * x) = x := by
  unfold stp
  rw [if_neg (by omega), Nat.xor_zero]; omega
theorem stps_pow : ∀ (k h : Nat), stps k (2 ^ k * h) = h
  | 0, h => by simp [stps]
  | k + 1, h => by rw [stps, Nat.pow_succ, Nat.mul_comm (2 ^ k) 2, Nat.mul_assoc, stp_two, stps_pow k]
theorem hi_lo (k h l : Nat) (hl : l < 2 ^ k) : 2 ^ k * h + l = (2 ^ k * h) ^^^ l := by
  apply Nat.eq_of_testBit_eq; intro i
  rw [Nat.testBit_two_pow_mul_add h hl i, Nat.testBit_xor, Nat.testBit_two_pow_mul]
  split
  · rename_i hi
    rw [decide_eq_false (by omega)]; simp
  · rename_i hi
    rw [decide_eq_true (by omega), Nat.testBit_lt_two_pow (Nat.lt_of_lt_of_le hl (Nat.pow_le_pow_right (by decide) (by omega)))]; simp
/-- the table that the program lays -/
def mvd : List Nat := [0x00000000, 0x1db71064, 0x3b6e20c8, 0x26d930ac, 0x76dc4190, 0x6b6b51f4, 0x4db26158, 0x5005713c, 0xedb88320, 0xf00f9344, 0xd6d6a3e8, 0xcb61b38c, 0x9b64c2b0, 0x86d3d2d4, 0xa00ae278, 0xbdbdf21c]
theorem mvd_eq : ∀ l, l < 16 → mvd.getD l 0 = stps 4 l := by decide
theorem nib_eq (s : Nat) : s / 16 ^^^ mvd.getD (s % 16) 0 = stps 4 s := by
  have h := hi_lo 4 (s / 16) (s % 16) (by omega)
  have h2 := congrArg (stps 4) h
  rw [stps_xor, stps_pow, ← mvd_eq (s % 16) (by omega)] at h2
  rw [← h2]
  exact congrArg (stps 4) (by omega)
theorem mvd_lt (l : Nat) : mvd.getD l 0 < 4294967296 := by
  rcases Nat.lt_or_ge l 16 with h | h
  · rw [mvd_eq l h]; exact stps_lt 4 (by omega)
  · rw [List.getD_eq_getElem?_getD, List.getElem?_eq_none (by exact h)]; decide
/-- the sum under way -/
def crc (l : List Int) (s : Nat) : Nat := l.foldl (fun s c => stps 8 (s ^^^ c.toNat)) s
theorem crc_nil (s : Nat) : crc [] s = s := rfl
theorem crc_cons (c : Int) (l : List Int) (s : Nat) : crc (c :: l) s = crc l (stps 8 (s ^^^ c.toNat)) := rfl
theorem crc_app (l m : List Int) (s : Nat) : crc (l ++ m) s = crc m (crc l s) := by unfold crc; rw [List.foldl_append]
theorem crc_take (l : List Int) (s k : Nat) (h : k < l.length) : crc (l.take (k + 1)) s = stps 8 (crc (l.take k) s ^^^ (l.getD k 0).toNat) := by
  rw [List.take_succ_eq_append_getElem h, crc_app, List.getD_eq_getElem?_getD, List.getElem?_eq_getElem h]; rfl
theorem byt_lt {b : Int} {r : List Int} (h : Byt (b :: r)) : b.toNat < 4294967296 := by have := h b (by simp); omega
theorem crc_lt : ∀ (l : List Int) (s : Nat), Byt l → s < 4294967296 → crc l s < 4294967296
  | [], _, _, h => h
  | b :: r, s, hb, h => by rw [crc_cons]; exact crc_lt r _ hb.tail (stps_lt 8 (xor_lt32 h (byt_lt hb)))
theorem crc_inj : ∀ (l : List Int) (a b : Nat), Byt l → a < 4294967296 → b < 4294967296 → crc l a = crc l b → a = b
  | [], _, _, _, _, _, h => h
  | c :: r, a, b, hl, ha, hb, h => by
    have hc := byt_lt hl
    have h1 := stps_inj 8 (xor_lt32 ha hc) (xor_lt32 hb hc) (crc_inj r _ _ hl.tail (stps_lt 8 (xor_lt32 ha hc)) (stps_lt 8 (xor_lt32 hb hc)) h)
    have h2 : (a ^^^ c.toNat) ^^^ c.toNat = (b ^^^ c.toNat) ^^^ c.toNat := by rw [h1]
    rwa [Nat.xor_assoc, Nat.xor_assoc, Nat.xor_self, Nat.xor_zero, Nat.xor_zero] at h2
/-- the sum -/
def sm (l : List Int) : Nat := crc l 4294967295 ^^^ 4294967295
theorem sm_lt {l : List Int} (h : Byt l) : sm l < 4294967296 := xor_lt32 (crc_lt l _ h (by decide)) (by decide)
theorem turn_all (s : Nat) (h : s < 4294967296) : 4294967295 - s = s ^^^ 4294967295 := by
  apply Nat.eq_of_testBit_eq; intro i
  rw [show 4294967295 - s = 2 ^ 32 - (s + 1) from by omega, Nat.testBit_two_pow_sub_succ h, Nat.testBit_xor, show (4294967295 : Nat) = 2 ^ 32 - 1 from rfl, Nat.testBit_two_pow_sub_one]
  by_cases hi : i < 32
  · rw [decide_eq_true hi]; simp
  · rw [decide_eq_false hi, Nat.testBit_lt_two_pow (Nat.lt_of_lt_of_le h (show 2 ^ 32 ≤ 2 ^ i from Nat.pow_le_pow_right (by decide) (by omega)))]; rfl
theorem sm_sub {l : List Int} (h : Byt l) : 4294967295 - crc l 4294967295 = sm l := turn_all _ (crc_lt l _ h (by decide))
theorem xor_cancel {a b c : Nat} (h : a ^^^ c = b ^^^ c) : a = b := by
  have h2 : (a ^^^ c) ^^^ c = (b ^^^ c) ^^^ c := by rw [h]
  rwa [Nat.xor_assoc, Nat.xor_assoc, Nat.xor_self, Nat.xor_zero, Nat.xor_zero] at h2
theorem xor_cancel_left {a b c : Nat} (h : c ^^^ a = c ^^^ b) : a = b := by
  rw [Nat.xor_comm c a, Nat.xor_comm c b] at h; exact xor_cancel h
theorem xor_back (a b : Nat) : (a ^^^ b) ^^^ b = a := by rw [Nat.xor_assoc, Nat.xor_self, Nat.xor_zero]
/-- the sums of bytes that differ at one place differ -/
theorem sm_set (l : List Int) (i : Nat) (x : Int) (hl : Byt l) (hi : i < l.length) (hx : 0 ≤ x ∧ x ≤ 255) (h : sm (l.set i x) = sm l) : x = l.getD i 0 := by
  have e1 : l.set i x = l.take i ++ x :: l.drop (i + 1) := List.set_eq_take_append_cons_drop .. |>.trans (by rw [if_pos hi])
  have e2 : l = l.take i ++ l.getD i 0 :: l.drop (i + 1) := by
    rw [List.getD_eq_getElem?_getD, List.getElem?_eq_getElem hi]
    show l = l.take i ++ l[i] :: l.drop (i + 1)
    rw [← List.drop_eq_getElem_cons hi, List.take_append_drop]
  have h1 : crc (l.set i x) 4294967295 = crc l 4294967295 := xor_cancel h
  have hc := hl.getD i
  obtain ⟨c, hC⟩ : ∃ c, c = l.getD i 0 := ⟨_, rfl⟩
  have h3 : crc (l.take i ++ x :: l.drop (i + 1)) 4294967295 = crc (l.take i ++ c :: l.drop (i + 1)) 4294967295 := by
    rw [← e1, hC, ← e2]; exact h1
  rw [← hC] at hc ⊢
  rw [crc_app, crc_app, crc_cons, crc_cons] at h3
  have hS : crc (l.take i) 4294967295 < 4294967296 := crc_lt _ _ (hl.take i) (by decide)
  have hx' : x.toNat < 4294967296 := by omega
  have hc' : c.toNat < 4294967296 := by omega
  have h4 := crc_inj _ _ _ (hl.drop (i + 1)) (stps_lt 8 (xor_lt32 hS hx')) (stps_lt 8 (xor_lt32 hS hc')) h3
  have h5 := xor_cancel_left (stps_inj 8 (xor_lt32 hS hx') (xor_lt32 hS hc') h4)
  omega
/-- bytes laid over one another -/
def over (l m : List Int) : List Int := List.zipWith (fun a b => ((a.toNat ^^^ b.toNat : Nat) : Int)) l m
theorem crc_over : ∀ (l m : List Int) (s t : Nat), l.length = m.length → crc (over l m) (s ^^^ t) = crc l s ^^^ crc m t
  | [], [], _, _, _ => rfl
  | [], _ :: _, _, _, h => by simp at h
  | _ :: _, [], _, _, h => by simp at h
  | a :: l, b :: m, s, t, h => by
    have e : over (a :: l) (b :: m) = ((a.toNat ^^^ b.toNat : Nat) : Int) :: over l m := rfl
    rw [e, crc_cons, crc_cons, crc_cons, Int.toNat_natCast, xor4, stps_xor]
    exact crc_over l m _ _ (by simpa using h)
theorem over_self : ∀ (l : List Int), over l l = List.replicate l.length 0
  | [] => rfl
  | a :: l => by
    have e : over (a :: l) (a :: l) = ((a.toNat ^^^ a.toNat : Nat) : Int) :: over l l := rfl
    rw [e, Nat.xor_self, over_self l]; rfl
theorem over_len (l m : List Int) (h : l.length = m.length) : (over l m).length = l.length := by unfold over; rw [List.length_zipWith, h, Nat.min_self]
theorem sm_over (l m : List Int) (h : l.length = m.length) : (sm l ^^^ sm m) ^^^ sm (over l m) = sm (List.replicate l.length 0) := by
  have h1 := crc_over l m 4294967295 4294967295 h
  have h2 := crc_over (over l m) (over l m) 0 4294967295 rfl
  rw [over_self, over_len l m h, Nat.zero_xor] at h2
  rw [Nat.xor_self] at h1
  rw [h1] at h2
  unfold sm
  rw [h2, xor4 (crc l _), Nat.xor_self, Nat.xor_zero, ← Nat.xor_assoc]
/-- sealed bytes -/
def sealed (l : List Int) : List Int := l ++ byt (sm l) 4
theorem seal_len (l : List Int) : (sealed l).length = l.length + 4 := by unfold sealed; rw [List.length_append, byt_len]
theorem seal_Byt {l : List Int} (h : Byt l) : Byt (sealed l) := h.app (byt_Byt _ _)
theorem byt_le : ∀ (l : List Int), Byt l → byt (le l) l.length = l
  | [], _ => rfl
  | b :: r, h => by
    have h1 := h b (by simp)
    rw [List.length_cons, byt, le, show (b + 256 * le r) % 256 = b from by omega, show (b + 256 * le r) / 256 = le r from by omega, byt_le r h.tail]
theorem le_tail {l : List Int} (h : Byt l) : le (byt (sm l) 4) = sm l := by
  rw [le_byt]; have := sm_lt h; simp only [Nat.reducePow]; omega
/-- are they sealed? -/
def Sld (l : List Int) : Prop := 4 ≤ l.length ∧ byt (sm (l.take (l.length - 4))) 4 = l.drop (l.length - 4)
theorem sld_iff (l : List Int) (h : Byt l) (h4 : 4 ≤ l.length) : Sld l ↔ le (l.drop (l.length - 4)) = sm (l.take (l.length - 4)) := by
  constructor
  · rintro ⟨_, e⟩; rw [← e, le_tail (h.take _)]
  · intro e
    refine ⟨h4, ?_⟩
    have := byt_le (l.drop (l.length - 4)) (h.drop _)
    rw [e, List.length_drop, show l.length - (l.length - 4) = 4 from by omega] at this
    exact this
theorem seal_sld (l : List Int) : Sld (sealed l) := by
  refine ⟨by rw [seal_len]; omega, ?_⟩
  rw [seal_len, Nat.add_sub_cancel]
  unfold sealed
  rw [List.take_left, List.drop_left]
theorem seal_take (l : List Int) : (sealed l).take l.length = l := by unfold sealed; rw [List.take_left]
theorem seal_drop (l : List Int) : (sealed l).drop l.length = byt (sm l) 4 := by unfold sealed; rw [List.drop_left]
/-- is there such a bit? -/
def HasBit (l : List Int) (n : Int) : Prop := 0 ≤ n ∧ n / 8 < l.length
instance (l : List Int) (n : Int) : Decidable (HasBit l n) := by unfold HasBit; infer_instance
/-- a bit of a byte turned -/
def flip (x : Int) (j : Nat) : Int := ((x.toNat ^^^ 2 ^ j : Nat) : Int)
def turn (l : List Int) (n : Int) : List Int := if HasBit l n then l.set (n / 8).toNat (flip (l.getD (n / 8).toNat 0) (n % 8).toNat) else l
theorem turn_len (l : List Int) (n : Int) : (turn l n).length = l.length := by unfold turn; split <;> simp
theorem flip_fit (x : Int) (j : Nat) (h : 0 ≤ x ∧ x ≤ 255) (hj : j < 8) : 0 ≤ flip x j ∧ flip x j ≤ 255 := by
  have : x.toNat ^^^ 2 ^ j < 2 ^ 8 := Nat.xor_lt_two_pow (by omega) (Nat.pow_lt_pow_right (by decide) hj)
  unfold flip; omega
theorem flip_ne (x : Int) (j : Nat) (h : 0 ≤ x) : flip x j ≠ x := by
  intro e
  unfold flip at e
  have e2 : x.toNat ^^^ 2 ^ j = x.toNat ^^^ 0 := by rw [Nat.xor_zero]; omega
  have := xor_cancel_left e2
  have := Nat.two_pow_pos j
  omega
theorem flip_flip (x : Int) (j : Nat) (h : 0 ≤ x) : flip (flip x j) j = x := by
  unfold flip; rw [Int.toNat_natCast, xor_back]; omega
theorem set_Byt {l : List Int} (i : Nat) {x : Int} (h : Byt l) (hx : 0 ≤ x ∧ x ≤ 255) : Byt (l.set i x) := fun n hn => by
  rcases List.mem_or_eq_of_mem_set hn with h' | rfl
  · exact h n h'
  · exact hx
theorem turn_Byt {l : List Int} (n : Int) (h : Byt l) : Byt (turn l n) := by
  unfold turn
  split
  · exact set_Byt _ h (flip_fit _ _ (h.getD _) (by omega))
  · exact h
theorem turn_turn {l : List Int} (n : Int) (h : Byt l) : turn (turn l n) n = l := by
  by_cases hb : HasBit l n
  · have hb2 : HasBit (turn l n) n := ⟨hb.1, by rw [turn_len]; exact hb.2⟩
    have e : turn l n = l.set (n / 8).toNat (flip (l.getD (n / 8).toNat 0) (n % 8).toNat) := by unfold turn; rw [if_pos hb]
    have hi : (n / 8).toNat < l.length := by have := hb.1; have := hb.2; omega
    unfold turn at hb2 ⊢
    rw [if_pos hb] at hb2 ⊢
    rw [if_pos hb2, List.set_set, List.getD_eq_getElem?_getD, List.getElem?_set_self hi, Option.getD_some, flip_flip _ _ (h.getD _).1]
    rw [List.getD_eq_getElem?_getD, List.getElem?_eq_getElem hi, Option.getD_some, List.set_getElem_self]
  · have hb2 : ¬ HasBit (turn l n) n := fun h' => hb ⟨h'.1, by rw [← turn_len l n]; exact h'.2⟩
    have e : turn l n = l := by unfold turn; rw [if_neg hb]
    rw [e, e]
/-- sealed bytes of which one bit is turned are sealed no more -/
theorem turn_sld {l : List Int} (n : Int) (h : Byt l) (hb : HasBit (sealed l) n) : ¬ Sld (turn (sealed l) n) := by
  rintro ⟨-, e⟩
  rw [turn_len, seal_len, Nat.add_sub_cancel] at e
  have e1 : turn (sealed l) n = (sealed l).set (n / 8).toNat (flip ((sealed l).getD (n / 8).toNat 0) (n % 8).toNat) := by unfold turn; rw [if_pos hb]
  have hi : (n / 8).toNat < l.length + 4 := by have := hb.1; have := hb.2; rw [seal_len] at this; omega
  have hf := flip_fit _ (n % 8).toNat ((seal_Byt h).getD (n / 8).toNat) (by omega)
  have hn := flip_ne _ (n % 8).toNat ((seal_Byt h).getD (n / 8).toNat).1
  obtain ⟨i, hI⟩ : ∃ i, i = (n / 8).toNat := ⟨_, rfl⟩
  rw [← hI] at e1 hi hf hn
  obtain ⟨x, hX⟩ : ∃ x, x = flip ((sealed l).getD i 0) (n % 8).toNat := ⟨_, rfl⟩
  rw [← hX] at e1 hf hn
  rw [e1] at e
  by_cases hlt : i < l.length
  · have e2 : ((sealed l).set i x).take l.length = l.set i x := by
      unfold sealed; rw [List.set_append_left _ _ hlt, ← List.length_set (as := l) (i := i) (a := x), List.take_left]
    have e3 : ((sealed l).set i x).drop l.length = byt (sm l) 4 := by
      unfold sealed; rw [List.set_append_left _ _ hlt, ← List.length_set (as := l) (i := i) (a := x), List.drop_left]
    rw [e2, e3] at e
    have e4 := congrArg le e
    rw [le_tail (set_Byt _ h hf), le_tail h] at e4
    refine hn ((sm_set l i x h hlt hf (by omega)).trans ?_)
    unfold sealed
    rw [List.getD_eq_getElem?_getD, List.getD_eq_getElem?_getD, List.getElem?_append_left hlt]
  · have e2 : ((sealed l).set i x).take l.length = l := by
      unfold sealed; rw [List.set_append_right _ _ (by omega), List.take_left]
    have e3 : ((sealed l).set i x).drop l.length = (byt (sm l) 4).set (i - l.length) x := by
      unfold sealed; rw [List.set_append_right _ _ (by omega), List.drop_left]
    rw [e2, e3] at e
    have e4 := congrArg (fun m => m.getD (i - l.length) 0) e
    have hj : i - l.length < (byt (sm l) 4).length := by rw [byt_len]; omega
    simp only [List.getD_eq_getElem?_getD, List.getElem?_set_self hj, Option.getD_some] at e4
    refine hn (e4.symm.trans ?_)
    unfold sealed
    rw [List.getD_eq_getElem?_getD, List.getElem?_append_right (by omega)]
end Go.Proofs.YtmdfopbigkfbnaaDoor
