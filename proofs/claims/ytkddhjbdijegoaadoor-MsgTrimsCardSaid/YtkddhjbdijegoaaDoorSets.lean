/-
  Plain facts on sets of nodes as numbers of 16 bits: nothing of the program stands here. No conditions.
-/
import Derived.WalkKit
import Derived.Laws.BitsAllLaws
namespace Go.Proofs.YtkddhjbdijegoaaDoor
open Go.RowKit

/-- is it a node? -/
def nd (n : Int) : Bool := decide (0 ≤ n) && decide (n < 16)
/-- a node's bit -/
def bitN (n : Int) : Nat := if nd n = true then 2 ^ n.toNat else 0
def hasN (s : Nat) (n : Int) : Bool := nd n && s.testBit n.toNat
/-- the nodes below k, rising -/
def upto (s k : Nat) : List Nat := (List.range k).filter s.testBit
def lessN (a b : Nat) : Nat := a &&& (65535 - b)
def ofN (l : List Int) : Nat := l.foldl (fun s n => s ||| bitN n) 0
/-- the least node from n on, or -1 -/
def NextIs (s : Nat) (n : Int) (r : Int) : Prop :=
  (r = -1 ∧ ∀ i : Nat, n ≤ i → i < 16 → s.testBit i = false) ∨
  ∃ i : Nat, r = i ∧ n ≤ i ∧ i < 16 ∧ s.testBit i = true ∧ ∀ j : Nat, n ≤ j → j < i → s.testBit j = false

theorem nd_nat (k : Nat) : nd k = decide (k < 16) := by
  unfold nd
  rw [show decide ((0:Int) ≤ k) = true from decide_eq_true (by omega), Bool.true_and]
  exact decide_eq_decide.2 (by omega)
theorem nd_iff (n : Int) : nd n = true ↔ 0 ≤ n ∧ n < 16 := by unfold nd; simp
theorem nd_not (n : Int) : nd n = false ↔ n < 0 ∨ 16 ≤ n := by
  unfold nd
  by_cases h : 0 ≤ n <;> by_cases h' : n < 16 <;> simp [h, h'] <;> omega
theorem bitN_lt (n : Int) : bitN n < 65536 := by
  unfold bitN
  split
  · rename_i h
    have := (nd_iff n).1 h
    have : 2 ^ n.toNat ≤ 2 ^ 15 := Nat.pow_le_pow_right (by decide) (by omega)
    simp only [show (2:Nat) ^ 15 = 32768 from rfl] at this
    omega
  · omega
theorem tb_bitN (n : Int) (k : Nat) : (bitN n).testBit k = (nd n && decide (n.toNat = k)) := by
  unfold bitN
  split
  · rename_i h; rw [h, Nat.testBit_two_pow, Bool.true_and]
  · rename_i h; rw [Bool.not_eq_true] at h; simp [h]
theorem tb_high {s k : Nat} (h : s < 65536) (hk : 16 ≤ k) : s.testBit k = false := by
  refine Nat.testBit_lt_two_pow (Nat.lt_of_lt_of_le h ?_)
  exact Nat.le_trans (show 65536 ≤ 2 ^ 16 from Nat.le_refl _) (Nat.pow_le_pow_right (by decide) hk)
theorem ext16 {a b : Nat} (ha : a < 65536) (hb : b < 65536) (h : ∀ k, k < 16 → a.testBit k = b.testBit k) : a = b := by
  refine Nat.eq_of_testBit_eq fun i => ?_
  rcases Nat.lt_or_ge i 16 with hi | hi
  · exact h i hi
  · rw [tb_high ha hi, tb_high hb hi]
theorem or_lt {a b : Nat} (ha : a < 65536) (hb : b < 65536) : a ||| b < 65536 := Nat.or_lt_two_pow (n := 16) ha hb
theorem lessN_lt {a b : Nat} (ha : a < 65536) : lessN a b < 65536 := Nat.lt_of_le_of_lt Nat.and_le_left ha
theorem tb_less {a b k : Nat} (ha : a < 65536) (hb : b < 65536) : (lessN a b).testBit k = (a.testBit k && !b.testBit k) := by
  unfold lessN
  rw [Nat.testBit_and, show 65535 - b = 2 ^ 16 - (b + 1) from by omega, Nat.testBit_two_pow_sub_succ (by omega)]
  rcases Nat.lt_or_ge k 16 with hk | hk
  · simp [hk]
  · simp [tb_high ha hk]
theorem has_and (s : Nat) (n : Int) : ((((s &&& bitN n : Nat) : Int) != 0)) = hasN s n := by
  unfold hasN bitN
  by_cases h : nd n = true
  · rw [if_pos h, h, Bool.true_and, nat_bit, Nat.testBit_eq_decide_div_mod_eq]
    have hp : 0 < 2 ^ n.toNat := Nat.pow_pos (by decide)
    rcases Nat.mod_two_eq_zero_or_one (s / 2 ^ n.toNat) with e | e
    · rw [e]; simp
    · rw [e]
      generalize 2 ^ n.toNat = p at hp
      simp; omega
  · rw [if_neg h]; simp [h]
theorem has_nat (s k : Nat) (hk : k < 16) : hasN s k = s.testBit k := by unfold hasN; rw [nd_nat]; simp [hk]
theorem has_or (s : Nat) (n : Int) (k : Nat) (hk : k < 16) : hasN (s ||| bitN n) k = (hasN s k || decide (n = k)) := by
  rw [has_nat _ _ hk, has_nat _ _ hk, Nat.testBit_or, tb_bitN]
  congr 1
  by_cases h : n = k
  · subst h; simp [nd_nat, hk]
  · rw [decide_eq_false h]
    by_cases h1 : nd n = true
    · have := (nd_iff n).1 h1
      rw [decide_eq_false (by omega), Bool.and_false]
    · simp [h1]
theorem has_drop {s : Nat} (hs : s < 65536) (n : Int) (k : Nat) (hk : k < 16) : hasN (lessN s (bitN n)) k = (hasN s k && !decide (n = k)) := by
  rw [has_nat _ _ hk, has_nat _ _ hk, tb_less hs (bitN_lt n), tb_bitN]
  congr 2
  by_cases h : n = k
  · subst h; simp [nd_nat, hk]
  · rw [decide_eq_false h]
    by_cases h1 : nd n = true
    · have := (nd_iff n).1 h1
      rw [decide_eq_false (by omega), Bool.and_false]
    · simp [h1]
theorem has_not {s : Nat} {n : Int} (h : nd n = false) : hasN s n = false := by unfold hasN; rw [h]; rfl
theorem or_not {s : Nat} {n : Int} (h : nd n = false) : s ||| bitN n = s := by unfold bitN; rw [h]; simp
theorem drop_not {s : Nat} (hs : s < 65536) {n : Int} (h : nd n = false) : lessN s (bitN n) = s := by
  refine ext16 (lessN_lt hs) hs fun k hk => ?_
  rw [tb_less hs (bitN_lt n), tb_bitN, h]; simp
theorem fold_lt : ∀ (l : List Int) (s : Nat), s < 65536 → l.foldl (fun s n => s ||| bitN n) s < 65536
  | [], _, h => h
  | n :: r, _, h => fold_lt r _ (or_lt h (bitN_lt n))
theorem ofN_lt (l : List Int) : ofN l < 65536 := fold_lt l 0 (by decide)
theorem tb_fold : ∀ (l : List Int) (s k : Nat), k < 16 → (l.foldl (fun s n => s ||| bitN n) s).testBit k = (s.testBit k || decide ((k : Int) ∈ l))
  | [], _, _, _ => by simp
  | n :: r, s, k, hk => by
    rw [List.foldl_cons, tb_fold r _ k hk, ← has_nat _ _ hk, has_or s n k hk, has_nat _ _ hk, Bool.or_assoc]
    congr 1
    by_cases h : n = (k : Int)
    · subst h; simp
    · by_cases h2 : (k : Int) ∈ r
      · simp [h2]
      · simp [h, h2, Ne.symm h]
theorem tb_ofN (l : List Int) (k : Nat) (hk : k < 16) : (ofN l).testBit k = decide ((k : Int) ∈ l) := by
  unfold ofN; rw [tb_fold l 0 k hk]; simp
theorem ofN_snoc (l : List Int) (n : Int) : ofN (l ++ [n]) = ofN l ||| bitN n := by unfold ofN; rw [List.foldl_append]; rfl
theorem mem_upto {s k i : Nat} : i ∈ upto s k ↔ i < k ∧ s.testBit i = true := by unfold upto; simp
theorem upto_succ (s k : Nat) : upto s (k + 1) = upto s k ++ (if s.testBit k = true then [k] else []) := by
  unfold upto
  rw [List.range_succ, List.filter_append]
  congr 1
  cases h : s.testBit k <;> simp [h]
theorem upto_skip (s : Nat) : ∀ (d k : Nat), (∀ i, k ≤ i → i < k + d → s.testBit i = false) → upto s (k + d) = upto s k
  | 0, _, _ => rfl
  | d + 1, k, h => by
    rw [← Nat.add_assoc, upto_succ, h (k + d) (by omega) (by omega), upto_skip s d k (fun i h1 h2 => h i h1 (by omega))]; simp
theorem upto_next {s k i : Nat} (hki : k ≤ i) (h : s.testBit i = true) (hn : ∀ j, k ≤ j → j < i → s.testBit j = false) : upto s (i + 1) = upto s k ++ [i] := by
  obtain ⟨d, rfl⟩ : ∃ d, i = k + d := ⟨i - k, by omega⟩
  rw [upto_succ, h, if_pos rfl, upto_skip s d k hn]
theorem upto_end {s k : Nat} (hk : k ≤ 16) (hn : ∀ j, k ≤ j → j < 16 → s.testBit j = false) : upto s 16 = upto s k := by
  obtain ⟨d, h⟩ : ∃ d, 16 = k + d := ⟨16 - k, by omega⟩
  rw [h]
  exact upto_skip s d k (fun i h1 h2 => hn i h1 (by omega))
theorem upto_len (s : Nat) : ∀ k, (upto s k).length ≤ k
  | 0 => Nat.le_refl _
  | k + 1 => by rw [upto_succ, List.length_append]; have := upto_len s k; split <;> simp <;> omega
theorem upto_mono {s k m : Nat} (h : k ≤ m) : (upto s k).length ≤ (upto s m).length := by
  obtain ⟨d, rfl⟩ : ∃ d, m = k + d := ⟨m - k, by omega⟩
  clear h
  induction d with
  | zero => exact Nat.le_refl _
  | succ d ih => rw [← Nat.add_assoc, upto_succ, List.length_append]; omega
theorem of_list {s : Nat} (hs : s < 65536) : ofN ((upto s 16).map fun i : Nat => (i : Int)) = s := by
  refine ext16 (ofN_lt _) hs fun k hk => ?_
  rw [tb_ofN _ k hk]
  cases h : s.testBit k
  · refine decide_eq_false fun hm => ?_
    obtain ⟨i, hi, e⟩ := List.mem_map.1 hm
    obtain rfl : i = k := by omega
    rw [(mem_upto.1 hi).2] at h; cases h
  · exact decide_eq_true (List.mem_map.2 ⟨k, mem_upto.2 ⟨hk, h⟩, rfl⟩)
theorem NextIs.unique {s : Nat} {n r r' : Int} (h : NextIs s n r) (h' : NextIs s n r') : r = r' := by
  rcases h with ⟨rfl, h⟩ | ⟨i, rfl, h1, h2, h3, h4⟩
  · rcases h' with ⟨rfl, _⟩ | ⟨i, rfl, h1, h2, h3, _⟩
    · rfl
    · rw [h i h1 h2] at h3; cases h3
  · rcases h' with ⟨rfl, h'⟩ | ⟨j, rfl, k1, k2, k3, k4⟩
    · rw [h' i h1 h2] at h3; cases h3
    · rcases Nat.lt_trichotomy i j with hij | hij | hij
      · rw [k4 i h1 hij] at h3; cases h3
      · rw [hij]
      · rw [h4 j k1 hij] at k3; cases k3
/-! two sets together -/
theorem countP_two {α : Type} (p q : α → Bool) : ∀ l : List α, l.countP (fun x => p x || q x) + l.countP (fun x => p x && q x) = l.countP p + l.countP q
  | [] => rfl
  | x :: r => by
    have ih := countP_two p q r
    rw [List.countP_cons, List.countP_cons, List.countP_cons, List.countP_cons]
    cases p x <;> cases q x <;> simp <;> omega
theorem len_countP (s k : Nat) : (upto s k).length = (List.range k).countP s.testBit := by unfold upto; rw [List.countP_eq_length_filter]
theorem count_two {a b : Nat} (ha : a < 65536) (hb : b < 65536) : (upto (a ||| b) 16).length + (upto (lessN a (lessN a b)) 16).length = (upto a 16).length + (upto b 16).length := by
  have e1 : (List.range 16).countP (a ||| b).testBit = (List.range 16).countP (fun k => a.testBit k || b.testBit k) := List.countP_congr fun k _ => by rw [Nat.testBit_or]
  have e2 : (List.range 16).countP (lessN a (lessN a b)).testBit = (List.range 16).countP (fun k => a.testBit k && b.testBit k) := List.countP_congr fun k _ => by
    rw [tb_less ha (lessN_lt ha), tb_less ha hb]
    cases a.testBit k <;> cases b.testBit k <;> simp
  rw [len_countP, len_countP, len_countP, len_countP, e1, e2, countP_two]
theorem less_zero {a b : Nat} (ha : a < 65536) (hb : b < 65536) : lessN a b = 0 ↔ ∀ k, k < 16 → a.testBit k = true → b.testBit k = true := by
  constructor
  · intro h k hk h1
    have := tb_less (k := k) ha hb
    rw [h, h1] at this
    simpa using this
  · intro h
    refine ext16 (lessN_lt ha) (by decide) fun k hk => ?_
    rw [tb_less ha hb, Nat.zero_testBit]
    cases h1 : a.testBit k
    · rfl
    · rw [h k hk h1]; rfl
def inN (a b : Nat) : Bool := decide (lessN a b = 0)
theorem in_both {a b : Nat} (ha : a < 65536) (hb : b < 65536) : inN (lessN a (lessN a b)) b = true := by
  refine decide_eq_true ((less_zero (lessN_lt ha) hb).2 fun k hk h => ?_)
  rw [tb_less ha (lessN_lt ha), tb_less ha hb] at h
  revert h
  cases a.testBit k <;> cases b.testBit k <;> simp
theorem in_join {a b : Nat} (ha : a < 65536) (hb : b < 65536) : inN a (a ||| b) = true := by
  refine decide_eq_true ((less_zero ha (or_lt ha hb)).2 fun k hk h => ?_)
  rw [Nat.testBit_or, h, Bool.true_or]
theorem in_in {a b : Nat} (ha : a < 65536) (hb : b < 65536) : (inN a b && inN b a) = decide (a = b) := by
  unfold inN
  by_cases h : a = b
  · subst h
    have : lessN a a = 0 := (less_zero ha ha).2 fun _ _ h => h
    simp [this]
  · rw [decide_eq_false h]
    by_cases h1 : lessN a b = 0
    · by_cases h2 : lessN b a = 0
      · refine absurd (ext16 ha hb fun k hk => ?_) h
        have q1 := (less_zero ha hb).1 h1 k hk
        have q2 := (less_zero hb ha).1 h2 k hk
        revert q1 q2
        cases a.testBit k <;> cases b.testBit k <;> simp
      · simp [h2]
    · simp [h1]
/-! how many, by two bytes -/
theorem upto_add_len (s m : Nat) : ∀ d, (upto s (m + d)).length = (upto s m).length + (upto (s / 2 ^ m) d).length
  | 0 => by simp [upto]
  | d + 1 => by
    rw [← Nat.add_assoc, upto_succ, upto_succ, List.length_append, List.length_append, upto_add_len s m d, Nat.testBit_div_two_pow, Nat.add_assoc, Nat.add_comm m d]
    cases s.testBit (d + m) <;> simp
theorem upto_mod (s m : Nat) : upto (s % 2 ^ m) m = upto s m := by
  unfold upto
  refine List.filter_congr fun k hk => ?_
  rw [Nat.testBit_mod_two_pow]; simp [List.mem_range.1 hk]
theorem len_bytes (s : Nat) : (upto (s / 256) 8).length + (upto (s % 256) 8).length = (upto s 16).length := by
  have h1 := upto_add_len s 8 8
  have h2 := upto_mod s 8
  simp only [show (2:Nat) ^ 8 = 256 from rfl] at h1 h2
  rw [h2, show (16:Nat) = 8 + 8 from rfl, h1, Nat.add_comm]
/-! the least one: all 65536 numbers are looked at -/
def deB : List Nat := [0, 1, 28, 2, 29, 14, 24, 3, 30, 22, 20, 15, 25, 17, 4, 8, 31, 27, 13, 23, 21, 19, 16, 7, 26, 12, 18, 6, 11, 5, 10, 9]
def tzI (x : Nat) : Nat := (x &&& (65536 - x)) * 125613361 % 4294967296 / 134217728
def tzP (x : Nat) : Bool := x == 0 || (decide (tzI x < 32) && (x.testBit (deB.getD (tzI x) 0) && x % 2 ^ (deB.getD (tzI x) 0) == 0))
def allB (p : Nat → Bool) : Nat → Nat → Bool
  | 0, b => p b
  | d + 1, b => allB p d b && allB p d (b + 2 ^ d)
theorem allB_spec (p : Nat → Bool) : ∀ d b, allB p d b = true → ∀ x, b ≤ x → x < b + 2 ^ d → p x = true
  | 0, b, h, x, h1, h2 => by
    obtain rfl : x = b := by simp at h2; omega
    exact h
  | d + 1, b, h, x, h1, h2 => by
    rw [allB, Bool.and_eq_true] at h
    rw [Nat.pow_succ] at h2
    rcases Nat.lt_or_ge x (b + 2 ^ d) with hx | hx
    · exact allB_spec p d b h.1 x h1 hx
    · exact allB_spec p d _ h.2 x hx (by omega)
theorem tz_all : allB tzP 16 0 = true := by decide +kernel
theorem tz_ok (x : Nat) (h : x < 65536) (h0 : x ≠ 0) : tzI x < 32 ∧ x.testBit (deB.getD (tzI x) 0) = true ∧ ∀ j, j < deB.getD (tzI x) 0 → x.testBit j = false := by
  have h1 := allB_spec tzP 16 0 tz_all x (Nat.zero_le _) (by simpa using h)
  unfold tzP at h1
  simp only [Bool.or_eq_true, Bool.and_eq_true, beq_iff_eq, decide_eq_true_eq] at h1
  rcases h1 with h1 | ⟨h1, h2, h3⟩
  · exact absurd h1 h0
  · refine ⟨h1, h2, fun j hj => ?_⟩
    generalize deB.getD (tzI x) 0 = d at h3 hj
    have := Nat.testBit_mod_two_pow x d j
    rw [h3, Nat.zero_testBit, decide_eq_true hj, Bool.true_and] at this
    exact this.symm
end Go.Proofs.YtkddhjbdijegoaaDoor
