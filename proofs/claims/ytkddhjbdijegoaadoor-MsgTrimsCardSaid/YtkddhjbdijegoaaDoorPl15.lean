/-
  Messages as plain values: which are right, their bytes, which bytes are one, their texts. No function of the program stands here.
-/
import Derived.Test.YtkddhjbdijegoaaDoorMem
import Derived.Test.YtkddhjbdijegoaaDoorHeap
namespace Go.Proofs.YtkddhjbdijegoaaDoor
open Go.RowKit
set_option linter.unusedVariables false
set_option linter.unusedSimpArgs false

structure Mg where
  k : Int
  p : Int
  n : Int
  h : Int
  s : Int
  d : List Int
/-- the parts are of their types -/
structure MgT (m : Mg) : Prop where
  k : -9223372036854775808 ≤ m.k ∧ m.k ≤ 9223372036854775807
  p : -9223372036854775808 ≤ m.p ∧ m.p ≤ 9223372036854775807
  n : -9223372036854775808 ≤ m.n ∧ m.n ≤ 9223372036854775807
  h : -9223372036854775808 ≤ m.h ∧ m.h ≤ 9223372036854775807
  s : 0 ≤ m.s ∧ m.s ≤ 65535
def z15 : Mg := ⟨0, 0, 0, 0, 0, []⟩
def knd (k : Int) : Bool := decide (1 ≤ k ∧ k ≤ 6)
def dok (k : Int) (d : List Int) : Bool := decide (d.length = 0 ∨ ((k = 3 ∨ k = 4) ∧ d.length ≤ 4096 ∧ d.getD (d.length - 1) 0 ≠ 0))
def rgt (m : Mg) : Bool := decide (1 ≤ m.k ∧ m.k ≤ 6 ∧ 0 ≤ m.p ∧ m.p < 65536 ∧ 0 ≤ m.n ∧ m.n < 16 ∧ 0 ≤ m.h ∧ m.h ≤ 255 ∧ (m.s = 0 ∨ m.k = 4)) && dok m.k m.d
def putM (m : Mg) : List Int := [m.k, m.n, m.h] ++ byt m.p 4 ++ byt m.s 2 ++ byt m.d.length 2 ++ m.d
/-- where the numbers stand, and how many bytes each takes -/
def of15 : Nat → Nat
  | 0 => 0 | 1 => 1 | 2 => 2 | 3 => 3 | 4 => 7 | 5 => 9 | _ => 11
def sz15 : Nat → Nat
  | 3 => 4 | 4 => 2 | 5 => 2 | _ => 1
def num15 (l : List Int) (i : Nat) : Int := le ((l.drop (of15 i)).take (sz15 i))
def mk15 (l : List Int) : Mg := ⟨num15 l 0, num15 l 3, num15 l 1, num15 l 2, num15 l 4, l.drop 11⟩
def isM (l : List Int) : Bool := decide (11 ≤ l.length) && (decide (num15 l 5 = l.length - 11) && rgt (mk15 l))
def getM (l : List Int) : Mg := if isM l then mk15 l else z15
theorem le1 (a : Int) : le [a] = a := by simp [le]
theorem le2 (a b : Int) : le [a, b] = a + 256 * b := by simp [le]
theorem le4 (a b c d : Int) : le [a, b, c, d] = a + 256 * (b + 256 * (c + 256 * d)) := by simp [le]
/-- eleven bytes and more, one by one -/
theorem head11 {l : List Int} (h : 11 ≤ l.length) : ∃ a0 a1 a2 a3 a4 a5 a6 a7 a8 a9 a10 r, l = a0 :: a1 :: a2 :: a3 :: a4 :: a5 :: a6 :: a7 :: a8 :: a9 :: a10 :: r := by
  match l, h with
  | a0 :: a1 :: a2 :: a3 :: a4 :: a5 :: a6 :: a7 :: a8 :: a9 :: a10 :: r, _ => exact ⟨_, _, _, _, _, _, _, _, _, _, _, _, rfl⟩
theorem byt4 (v : Int) : byt v 4 = [v % 256, v / 256 % 256, v / 256 / 256 % 256, v / 256 / 256 / 256 % 256] := rfl
theorem byt2 (v : Int) : byt v 2 = [v % 256, v / 256 % 256] := rfl
theorem byt1 (v : Int) : byt v 1 = [v % 256] := rfl
theorem rgt_parts {m : Mg} (h : rgt m = true) : (1 ≤ m.k ∧ m.k ≤ 6) ∧ (0 ≤ m.p ∧ m.p < 65536) ∧ (0 ≤ m.n ∧ m.n < 16) ∧ (0 ≤ m.h ∧ m.h ≤ 255) ∧ m.d.length ≤ 4096 := by
  unfold rgt at h
  rw [Bool.and_eq_true] at h
  have h1 := of_decide_eq_true h.1
  have h2 : m.d.length ≤ 4096 := by
    have := h.2
    unfold dok at this
    have := of_decide_eq_true this
    omega
  omega
/-- what the document's Get asks -/
def isR (l : List Int) : Bool := decide (11 ≤ l.length) && (decide (l.length ≤ 4107) && (decide (l.getD 5 0 = 0) && (decide (l.getD 6 0 = 0) && (rgt (mkR l) && decide (putM (mkR l) = l)))))
where mkR (l : List Int) : Mg := ⟨l.getD 0 0, l.getD 3 0 + 256 * l.getD 4 0, l.getD 1 0, l.getD 2 0, l.getD 7 0 + 256 * l.getD 8 0, l.drop 11⟩
theorem isR_eq {l : List Int} (hb : Byt l) : isR l = isM l := by
  by_cases h : 11 ≤ l.length
  · obtain ⟨a0, a1, a2, a3, a4, a5, a6, a7, a8, a9, a10, r, rfl⟩ := head11 h
    have q : ∀ x ∈ [a0, a1, a2, a3, a4, a5, a6, a7, a8, a9, a10], 0 ≤ x ∧ x ≤ 255 := fun x hx => hb x (show x ∈ [a0, a1, a2, a3, a4, a5, a6, a7, a8, a9, a10] ++ r from List.mem_append_left _ hx)
    simp only [List.mem_cons, List.not_mem_nil, or_false, forall_eq_or_imp, forall_eq] at q
    obtain ⟨q0, q1, q2, q3, q4, q5, q6, q7, q8, q9, q10⟩ := q
    have e1 : mk15 (a0 :: a1 :: a2 :: a3 :: a4 :: a5 :: a6 :: a7 :: a8 :: a9 :: a10 :: r) = ⟨a0, a3 + 256 * (a4 + 256 * (a5 + 256 * a6)), a1, a2, a7 + 256 * a8, r⟩ := by
      simp [mk15, num15, of15, sz15, le]
    have e2 : isR.mkR (a0 :: a1 :: a2 :: a3 :: a4 :: a5 :: a6 :: a7 :: a8 :: a9 :: a10 :: r) = ⟨a0, a3 + 256 * a4, a1, a2, a7 + 256 * a8, r⟩ := by
      simp [isR.mkR]
    have e3 : num15 (a0 :: a1 :: a2 :: a3 :: a4 :: a5 :: a6 :: a7 :: a8 :: a9 :: a10 :: r) 5 = a9 + 256 * a10 := by simp [num15, of15, sz15, le]
    unfold isM isR
    rw [e1, e2, e3]
    apply Bool.eq_iff_iff.2
    simp only [Bool.and_eq_true, decide_eq_true_eq]
    constructor
    · rintro ⟨h1, h2, h5, h6, hr, hp⟩
      simp only [List.getD_cons_zero, List.getD_cons_succ] at h5 h6
      subst h5 h6
      refine ⟨h1, ?_, by simpa using hr⟩
      have := congrArg (fun l => l.getD 9 0 + 256 * l.getD 10 0) hp
      simp [putM, byt4, byt2] at this
      simp at h1 h2 ⊢
      omega
    · rintro ⟨h1, hn, hr⟩
      have hq := rgt_parts hr
      dsimp only at hq
      obtain ⟨_, hp, _, _, hl⟩ := hq
      obtain rfl : a6 = 0 := by omega
      obtain rfl : a5 = 0 := by omega
      refine ⟨h1, by simp at hl ⊢; omega, rfl, rfl, by simpa using hr, ?_⟩
      simp [putM, byt4, byt2]
      simp at hn
      omega
  · unfold isM isR
    rw [decide_eq_false h]; rfl
theorem mkR_eq {l : List Int} (hb : Byt l) (h : isM l = true) : isR.mkR l = mk15 l := by
  have h' := h
  unfold isM at h'
  rw [Bool.and_eq_true, Bool.and_eq_true] at h'
  obtain ⟨a0, a1, a2, a3, a4, a5, a6, a7, a8, a9, a10, r, rfl⟩ := head11 (of_decide_eq_true h'.1)
  have hq := (rgt_parts h'.2.2).2.1
  have q : ∀ x ∈ [a0, a1, a2, a3, a4, a5, a6, a7, a8, a9, a10], 0 ≤ x ∧ x ≤ 255 := fun x hx => hb x (show x ∈ [a0, a1, a2, a3, a4, a5, a6, a7, a8, a9, a10] ++ r from List.mem_append_left _ hx)
  simp only [List.mem_cons, List.not_mem_nil, or_false, forall_eq_or_imp, forall_eq] at q
  obtain ⟨q0, q1, q2, q3, q4, q5, q6, q7, q8, q9, q10⟩ := q
  simp [mk15, num15, of15, sz15, le] at hq
  simp [mk15, num15, of15, sz15, le, isR.mkR]
  omega
/-- a right message is read again -/
theorem put_get {m : Mg} (hs : 0 ≤ m.s ∧ m.s ≤ 65535) (hr : rgt m = true) : isM (putM m) = true ∧ mk15 (putM m) = m := by
  obtain ⟨hk, hp, hn, hh, hl⟩ := rgt_parts hr
  obtain ⟨k, p, n, h, s, d⟩ := m
  dsimp only at hk hp hn hh hl hs
  have e : mk15 (putM ⟨k, p, n, h, s, d⟩) = ⟨k, p, n, h, s, d⟩ := by
    simp [mk15, num15, of15, sz15, le, putM, byt4, byt2]
    omega
  refine ⟨?_, e⟩
  unfold isM
  rw [e, hr]
  simp [num15, of15, sz15, le, putM, byt4, byt2]
  omega
theorem putM_Byt {m : Mg} (hs : 0 ≤ m.s ∧ m.s ≤ 65535) (hr : rgt m = true) (hd : Byt m.d) : Byt (putM m) := by
  obtain ⟨hk, hp, hn, hh, hl⟩ := rgt_parts hr
  unfold putM
  refine ((((Byt.app ?_ (byt_Byt _ _)).app (byt_Byt _ _)).app (byt_Byt _ _)).app hd)
  intro x hx
  simp at hx
  omega
theorem putM_len (m : Mg) : (putM m).length = 11 + m.d.length := by
  simp [putM, byt_len]; omega
def sameM (a b : Mg) : Bool := decide (a.k = b.k ∧ a.p = b.p ∧ a.n = b.n ∧ a.h = b.h ∧ a.s = b.s ∧ a.d = b.d)
theorem sameM_refl (a : Mg) : sameM a a = true := by simp [sameM]
/-- what is left behind the noughts at the end -/
def trimN (l : List Int) : Nat → Nat
  | 0 => 0
  | n + 1 => if l.getD n 0 = 0 then trimN l n else n + 1
theorem trimN_le (l : List Int) : ∀ n, trimN l n ≤ n
  | 0 => Nat.le_refl _
  | n + 1 => by unfold trimN; split; exact Nat.le_succ_of_le (trimN_le l n); exact Nat.le_refl _
theorem trimN_last (l : List Int) : ∀ n, 0 < trimN l n → l.getD (trimN l n - 1) 0 ≠ 0
  | 0, h => by simp [trimN] at h
  | n + 1, h => by
    unfold trimN at h ⊢
    split
    · rename_i h0; rw [if_pos h0] at h; exact trimN_last l n h
    · rename_i h0; exact h0
theorem trimN_rest (l : List Int) : ∀ n i, trimN l n ≤ i → i < n → l.getD i 0 = 0
  | 0, i, _, h => by omega
  | n + 1, i, h1, h2 => by
    unfold trimN at h1
    split at h1
    · rename_i h0
      by_cases e : i = n
      · rw [e]; exact h0
      · exact trimN_rest l n i h1 (by omega)
    · omega
end Go.Proofs.YtkddhjbdijegoaaDoor
