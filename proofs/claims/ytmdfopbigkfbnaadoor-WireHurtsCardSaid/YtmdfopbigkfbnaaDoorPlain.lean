/-
  Plain facts on words as lists of bytes, the least one first: nothing of the program stands here. No conditions.
-/
import Derived.WalkKit
import Derived.Laws.BitsAllLaws
namespace Go.Proofs.YtmdfopbigkfbnaaDoor
open Go.RowKit

/-- the number that bytes are, the least one first -/
def le : List Int → Int
  | [] => 0
  | b :: r => b + 256 * le r
/-- a number's k lowest bytes -/
def byt (v : Int) : Nat → List Int
  | 0 => []
  | k + 1 => v % 256 :: byt (v / 256) k
def Byt (l : List Int) : Prop := ∀ n ∈ l, 0 ≤ n ∧ n ≤ 255
theorem Byt.nil : Byt [] := fun n hn => by cases hn
theorem Byt.tail {b : Int} {r : List Int} (h : Byt (b :: r)) : Byt r := fun n hn => h n (List.mem_cons_of_mem _ hn)
theorem Byt.take {l : List Int} (h : Byt l) (k : Nat) : Byt (l.take k) := fun n hn => h n (List.mem_of_mem_take hn)
theorem Byt.drop {l : List Int} (h : Byt l) (k : Nat) : Byt (l.drop k) := fun n hn => h n (List.mem_of_mem_drop hn)
theorem Byt.app {l m : List Int} (h : Byt l) (h' : Byt m) : Byt (l ++ m) := fun n hn => (List.mem_append.1 hn).elim (h n) (h' n)
theorem Byt.getD {l : List Int} (h : Byt l) (k : Nat) : 0 ≤ l.getD k 0 ∧ l.getD k 0 ≤ 255 := by
  rw [List.getD_eq_getElem?_getD]
  rcases Nat.lt_or_ge k l.length with hk | hk
  · rw [List.getElem?_eq_getElem hk]; exact h _ (List.getElem_mem hk)
  · rw [List.getElem?_eq_none hk]; simp
theorem byt_Byt : ∀ (k : Nat) (v : Int), Byt (byt v k)
  | 0, _ => Byt.nil
  | k + 1, v => fun n hn => by
    rcases List.mem_cons.1 hn with rfl | h
    · omega
    · exact byt_Byt k _ n h
theorem byt_len : ∀ (k : Nat) (v : Int), (byt v k).length = k
  | 0, _ => rfl
  | k + 1, v => by rw [byt, List.length_cons, byt_len k]
theorem div_pow (v : Int) (k : Nat) : v / 256 / (256 ^ k : Nat) = v / (256 ^ (k + 1) : Nat) := by
  rw [Int.ediv_ediv_of_nonneg (by omega), Nat.pow_succ, Nat.mul_comm, Int.natCast_mul]; rfl
theorem byt_snoc : ∀ (k : Nat) (v : Int), byt v (k + 1) = byt v k ++ [v / (256 ^ k : Nat) % 256]
  | 0, v => by simp [byt]
  | k + 1, v => by rw [byt, byt_snoc k, byt, List.cons_append, div_pow]
theorem le_byt : ∀ (k : Nat) (v : Int), le (byt v k) = v % (256 ^ k : Nat)
  | 0, v => by simp [byt, le, Int.emod_one]
  | k + 1, v => by
    rw [byt, le, le_byt k, Int.emod_def v (256 ^ (k + 1) : Nat), ← div_pow, Int.emod_def (v / 256), Int.emod_def v 256, Nat.pow_succ, Int.natCast_mul, Int.mul_sub, Int.mul_right_comm, ← Int.mul_assoc, Int.mul_comm 256 ((256 ^ k : Nat) : Int), Int.mul_right_comm]
    omega
theorem le_app : ∀ (l m : List Int), le (l ++ m) = le l + (256 ^ l.length : Nat) * le m
  | [], m => by simp [le]
  | b :: r, m => by
    rw [List.cons_append, le, le, le_app r, List.length_cons, Nat.pow_succ, Int.mul_add, ← Int.mul_assoc, Int.natCast_mul, Int.mul_comm 256 ((256 ^ r.length : Nat) : Int), ← Int.add_assoc]
    rfl
theorem le_drop (l : List Int) (k : Nat) (h : k < l.length) : le (l.drop k) = l.getD k 0 + 256 * le (l.drop (k + 1)) := by
  rw [List.drop_eq_getElem_cons h, le, List.getD_eq_getElem?_getD, List.getElem?_eq_getElem h]; rfl
theorem le_take (l : List Int) (k : Nat) (h : k < l.length) : le (l.take (k + 1)) = le (l.take k) + l.getD k 0 * (256 ^ k : Nat) := by
  rw [List.take_succ_eq_append_getElem h, le_app, List.length_take, Nat.min_eq_left (by omega), List.getD_eq_getElem?_getD, List.getElem?_eq_getElem h, Int.mul_comm]
  simp [le]
theorem le_nn : ∀ (l : List Int), Byt l → 0 ≤ le l
  | [], _ => Int.le_refl _
  | b :: r, h => by have := le_nn r h.tail; have := h b (by simp); unfold le; omega
theorem le_lt : ∀ (l : List Int), Byt l → le l < (256 ^ l.length : Nat)
  | [], _ => by simp [le]
  | b :: r, h => by
    have := le_lt r h.tail; have := h b (by simp); unfold le
    rw [List.length_cons, Nat.pow_succ]; omega
theorem le_lt7 (l : List Int) (h : Byt l) (hl : l.length ≤ 7) : le l < 72057594037927936 := by
  have h1 := le_lt l h
  have h2 : 256 ^ l.length ≤ 256 ^ 7 := Nat.pow_le_pow_right (by decide) hl
  simp only [show (256:Nat) ^ 7 = 72057594037927936 from rfl] at h2
  omega
theorem le_lt8 (l : List Int) (h : Byt l) (hl : l.length ≤ 8) : le l ≤ 18446744073709551615 := by
  have h1 := le_lt l h
  have h2 : 256 ^ l.length ≤ 256 ^ 8 := Nat.pow_le_pow_right (by decide) hl
  simp only [show (256:Nat) ^ 8 = 18446744073709551616 from rfl] at h2
  omega
theorem or_byte (L b : Int) (h0 : 0 ≤ L) (h1 : L < 72057594037927936) (h2 : 0 ≤ b) (h3 : b ≤ 255) : bits .or .u64 (L * 256) b = b + 256 * L := by
  rw [u64_or _ _ (by omega) (by omega) h2 (by omega), nat_join8 _ _ (by omega) (by omega)]
  omega
theorem int_eq {k : IntKind} {a b : Int} (h : a = b) : Value.int k a = .int k b := by rw [h]
/-- v's lowest s bytes -/
def cutN (v : Int) (s : Nat) : Int := v % (256 ^ s : Nat)
/-- the same with the sign of their highest bit, to 64 bits -/
def sgnN (v : Int) (s : Nat) : Int := le (byt v s ++ List.replicate (8 - s) (if 127 < (byt v s).getD (s - 1) 0 then 255 else 0))
/-- is it a size? -/
def SzI (n : Int) : Prop := n = 1 ∨ n = 2 ∨ n = 4 ∨ n = 8
def InB (n a s : Int) : Prop := SzI s ∧ 0 ≤ a ∧ a ≤ n - s
theorem SzI.nat {n : Int} (h : SzI n) : ∃ k : Nat, n = k ∧ (k = 1 ∨ k = 2 ∨ k = 4 ∨ k = 8) := by
  rcases h with h | h | h | h
  · exact ⟨1, h, by simp⟩
  · exact ⟨2, h, by simp⟩
  · exact ⟨4, h, by simp⟩
  · exact ⟨8, h, by simp⟩
/-- bs laid into xs from a on -/
def lay (xs : List Int) (a : Nat) (bs : List Int) : List Int := xs.take a ++ bs ++ xs.drop (a + bs.length)
theorem lay_nil (xs : List Int) (a : Nat) : lay xs a [] = xs := by simp [lay]
theorem lay_snoc (xs : List Int) (a : Nat) (bs : List Int) (b : Int) (h : a + bs.length < xs.length) : (lay xs a bs).set (a + bs.length) b = lay xs a (bs ++ [b]) := by
  unfold lay
  have e : (xs.take a ++ bs).length = a + bs.length := by simp; omega
  rw [List.set_append_right _ _ (by rw [e]; exact Nat.le_refl _), e, Nat.sub_self, List.drop_eq_getElem_cons h, List.set_cons_zero]
  simp [Nat.add_assoc]
theorem lay_len (xs : List Int) (a : Nat) (bs : List Int) (h : a + bs.length ≤ xs.length) : (lay xs a bs).length = xs.length := by
  unfold lay; simp; omega
theorem lay_all (xs bs : List Int) (h : bs.length = xs.length) : lay xs 0 bs = bs := by
  unfold lay; rw [h]; simp
theorem lay_Byt {xs bs : List Int} (a : Nat) (hx : Byt xs) (hb : Byt bs) : Byt (lay xs a bs) := ((hx.take a).app hb).app (hx.drop _)
end Go.Proofs.YtmdfopbigkfbnaaDoor
