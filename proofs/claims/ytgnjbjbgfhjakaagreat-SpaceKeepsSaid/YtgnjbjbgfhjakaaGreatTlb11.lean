/-
  A buffer of entries that were found: its ways as records, what is found, filled in, fenced off, as numbers; and how it lies in memory. No function of the program stands here.
-/
import Derived.Test.YtgnjbjbgfhjakaaGreatLeaf
namespace Go.Proofs.YtgnjbjbgfhjakaaGreat
open Go.RowKit
set_option linter.unusedVariables false
set_option linter.unusedSimpArgs false

/-- a way: is it full, the space's number, the page's number, its leaf -/
structure Wy where
  full : Bool
  asid : Int
  page : Nat
  l : Lf
def zw : Wy := ⟨false, 0, 0, zl⟩
def wyC (x : Wy) : List Value := [.bool x.full, .int .i64 x.asid, .int .u64 (x.page : Int), .bool x.l.e.v, .bool x.l.e.r, .bool x.l.e.w, .bool x.l.e.x, .bool x.l.e.u, .bool x.l.e.g, .bool x.l.e.a, .bool x.l.e.d, .int .i64 x.l.e.rsw, .int .u64 (x.l.e.ppn : Int), .int .i64 (x.l.lv : Int), .int .u64 (x.l.pl : Int)]
/-- a way as the program has it -/
def wyv (x : Wy) : Value := .agg #[.bool x.full, .int .i64 x.asid, .int .u64 (x.page : Int), .bool x.l.e.v, .bool x.l.e.r, .bool x.l.e.w, .bool x.l.e.x, .bool x.l.e.u, .bool x.l.e.g, .bool x.l.e.a, .bool x.l.e.d, .int .i64 x.l.e.rsw, .int .u64 (x.l.e.ppn : Int), .int .i64 (x.l.lv : Int), .int .u64 (x.l.pl : Int)]
/-- the cells of a set: n ways -/
def rowC (f : Nat → Wy) : Nat → List Value
  | 0 => []
  | n + 1 => rowC f n ++ wyC (f n)
theorem rowC_len (f : Nat → Wy) : ∀ n, (rowC f n).length = n * 15
  | 0 => rfl
  | n + 1 => by rw [rowC, List.length_append, rowC_len f n]; simp [wyC]; omega
theorem rowC_at (f : Nat → Wy) : ∀ (n k o : Nat), k < n → o < 15 → (rowC f n)[k * 15 + o]? = (wyC (f k))[o]?
  | 0, k, o, h, _ => by omega
  | n + 1, k, o, h, ho => by
    rw [rowC]
    by_cases hk : k < n
    · rw [List.getElem?_append_left (by rw [rowC_len]; omega)]
      exact rowC_at f n k o hk ho
    · obtain rfl : k = n := by omega
      rw [List.getElem?_append_right (by rw [rowC_len]; omega), rowC_len]
      congr 1
      omega
/-- the set with another way at k -/
def updW (f : Nat → Wy) (k : Nat) (x : Wy) : Nat → Wy := fun i => if i = k then x else f i
theorem updW_at (f : Nat → Wy) (k : Nat) (x : Wy) : updW f k x k = x := if_pos rfl
theorem updW_ne (f : Nat → Wy) {k i : Nat} (x : Wy) (h : i ≠ k) : updW f k x i = f i := if_neg h
/-- cells stored one behind the other -/
def setL : List Value → Nat → List Value → List Value
  | cs, _, [] => cs
  | cs, o, v :: r => setL (cs.set o v) (o + 1) r
theorem setL_len : ∀ (vs cs : List Value) (o : Nat), (setL cs o vs).length = cs.length
  | [], _, _ => rfl
  | v :: r, cs, o => by rw [setL, setL_len r]; simp
theorem setL_at : ∀ (vs cs : List Value) (o i : Nat), i < cs.length → (setL cs o vs)[i]? = if o ≤ i ∧ i < o + vs.length then vs[i - o]? else cs[i]?
  | [], cs, o, i, h => by rw [setL, if_neg (by rw [List.length_nil]; omega)]
  | v :: r, cs, o, i, h => by
    rw [setL, setL_at r _ _ _ (by simpa using h)]
    by_cases h1 : o + 1 ≤ i ∧ i < o + 1 + r.length
    · rw [if_pos h1, if_pos (by simp; omega), show i - o = i - (o + 1) + 1 from by omega, List.getElem?_cons_succ]
    · rw [if_neg h1]
      by_cases h2 : i = o
      · subst h2
        rw [if_pos (by simp), Nat.sub_self, List.getElem?_set_self h]
        rfl
      · rw [if_neg (by simp; omega), List.getElem?_set_ne (by omega)]
theorem rowC_setL (f : Nat → Wy) (n k : Nat) (x : Wy) (hk : k < n) : setL (rowC f n) (k * 15) (wyC x) = rowC (updW f k x) n := by
  apply List.ext_getElem?
  intro i
  by_cases hi : i < n * 15
  · rw [setL_at _ _ _ _ (by rw [rowC_len]; exact hi)]
    have e : i = i / 15 * 15 + i % 15 := by omega
    have hlt : i % 15 < 15 := Nat.mod_lt _ (by decide)
    have hq : i / 15 < n := by omega
    generalize i / 15 = q at e hq
    generalize i % 15 = r at e hlt
    subst e
    rw [rowC_at _ _ _ _ hq hlt, rowC_at _ _ _ _ hq hlt]
    have hl : (wyC x).length = 15 := rfl
    rw [hl]
    by_cases hqk : q = k
    · subst hqk
      rw [if_pos (by omega), updW_at]
      congr 1
      omega
    · rw [if_neg (by omega), updW_ne _ _ hqk]
  · rw [List.getElem?_eq_none (by rw [setL_len, rowC_len]; omega), List.getElem?_eq_none (by rw [rowC_len]; omega)]
/-- a way lies there -/
def WyAt (w : World) (g o : Nat) (x : Wy) : Prop := ∀ j v, (wyC x)[j]? = some v → w.cell? ⟨g, o + j, none⟩ = some v
theorem Blk.wy {w : World} {g t n k : Nat} {f : Nat → Wy} (h : Blk w g (rowC f n) t) (hk : k < n) : WyAt w g (k * 15) (f k) := by
  intro j v hj
  have hl : (wyC (f k)).length = 15 := rfl
  have : j < 15 := by
    rcases Nat.lt_or_ge j 15 with h | h
    · exact h
    · rw [List.getElem?_eq_none (by omega)] at hj; cases hj
  rw [h.cell, rowC_at _ _ _ _ hk this]
  exact hj
theorem WyAt.below {w w' : World} {g o B : Nat} {x : Wy} (h : WyAt w g o x) (hb : Below B w w') (hg : g < B) : WyAt w' g o x :=
  fun j v hj => (hb.cell (p := ⟨g, o + j, none⟩) hg).trans (h j v hj)
theorem WyAt.drewN {w : World} {g o : Nat} {x : Wy} (h : WyAt w g o x) (n : Nat) : WyAt (w.drewN n) g o x := h

/-! ### as numbers -/
/-- an address's page's number at a level -/
def numN (va l : Nat) : Nat := fld va 12 27 / 2 ^ (9 * l)
theorem numN_lt (va l : Nat) : numN va l < 134217728 := by
  have := fld_lt va 12 27
  rw [show (2 : Nat) ^ 27 = 134217728 from rfl] at this
  exact Nat.lt_of_le_of_lt (Nat.div_le_self _ _) this
/-- does a way cover an address? -/
def covW (x : Wy) (va : Nat) : Bool := x.page == numN va x.l.lv
def matW (x : Wy) (va : Nat) (a : Int) : Bool := x.full && (covW x va && (decide (x.asid = a) || x.l.e.g))
def sameW (x y : Wy) : Bool := x.full && (decide (x.l.lv = y.l.lv) && (decide (x.page = y.page) && decide (x.asid = y.asid)))
/-- does it go, of a list of none or one address, of none or one space's number? -/
def fenW (x : Wy) (va : Option Nat) (a : Option Int) : Bool := (match va with | none => true | some v => covW x v) && (match a with | none => true | some k => decide (x.asid = k) && !x.l.e.g)
/-- the first place of n that p holds of; n: of none -/
def fst1 (p : Nat → Bool) (n : Nat) : Nat := match (List.range n).find? p with | some i => i | none => n
theorem fst1_yes {p : Nat → Bool} {n k : Nat} (hk : k < n) (hp : p k = true) (hb : ∀ i, i < k → p i = false) : fst1 p n = k := by
  have : (List.range n).find? p = some k := by
    rw [List.find?_eq_some_iff_append]
    refine ⟨hp, List.range k, (List.range (n - k - 1)).map (· + (k + 1)), ?_, ?_⟩
    · have e : n = k + (1 + (n - k - 1)) := by omega
      rw [e, List.range_add, List.range_add]
      simp [Function.comp_def]
      intro a _; omega
    · intro i hi
      rw [List.mem_range] at hi
      simp [hb i hi]
  unfold fst1
  rw [this]
theorem fst1_no {p : Nat → Bool} {n : Nat} (hb : ∀ i, i < n → p i = false) : fst1 p n = n := by
  have : (List.range n).find? p = none := by
    rw [List.find?_eq_none]
    intro i hi
    rw [List.mem_range] at hi
    simp [hb i hi]
  unfold fst1
  rw [this]
/-- which way of a set an entry comes into -/
def roomW (f : Nat → Wy) (n : Nat) (x : Wy) (pk : Int) : Nat :=
  if fst1 (fun i => sameW (f i) x) n < n then fst1 (fun i => sameW (f i) x) n
  else if fst1 (fun i => !(f i).full) n < n then fst1 (fun i => !(f i).full) n
  else ((if pk < 0 then -1 - pk else pk) % n).toNat
theorem roomW_lt (f : Nat → Wy) (n : Nat) (x : Wy) (pk : Int) (hn : 0 < n) : roomW f n x pk < n := by
  unfold roomW
  split
  · assumption
  split
  · assumption
  · have h1 := Int.emod_nonneg (if pk < 0 then -1 - pk else pk) (show (n : Int) ≠ 0 by omega)
    have h2 := Int.emod_lt_of_pos (if pk < 0 then -1 - pk else pk) (show (0 : Int) < n by omega)
    omega
/-- what is found, from a level on, so many being left -/
def fndT (R : Nat → Nat → Wy) (n m va : Nat) (a : Int) : Nat → Nat → Lf × Bool
  | 0, _ => (zl, false)
  | k + 1, l => if fst1 (fun j => matW (R (numN va l % n) j) va a) m < m then ((R (numN va l % n) (fst1 (fun j => matW (R (numN va l % n) j) va a) m)).l, true) else fndT R n m va a k (l + 1)
/-- a buffer with one way set -/
def updB (R : Nat → Nat → Wy) (s k : Nat) (x : Wy) : Nat → Nat → Wy := fun i => if i = s then updW (R s) k x else R i
/-- an entry filled in -/
def filT (R : Nat → Nat → Wy) (n m va : Nat) (a : Int) (l : Lf) (pk : Int) : Nat → Nat → Wy :=
  updB R (numN va l.lv % n) (roomW (R (numN va l.lv % n)) m ⟨true, a, numN va l.lv, l⟩ pk) ⟨true, a, numN va l.lv, l⟩
/-- does a way go? -/
def goes (x : Wy) (va : Option Nat) (a : Option Int) : Bool := x.full && fenW x va a
/-- a buffer behind a fence -/
def fenT (R : Nat → Nat → Wy) (va : Option Nat) (a : Option Int) : Nat → Nat → Wy := fun i j => if goes (R i j) va a then zw else R i j
/-- how many of n places p holds of -/
def cnt1 (p : Nat → Bool) : Nat → Nat
  | 0 => 0
  | n + 1 => cnt1 p n + (if p n then 1 else 0)
def cnt2 (p : Nat → Nat → Bool) (m : Nat) : Nat → Nat
  | 0 => 0
  | n + 1 => cnt2 p m n + cnt1 (p n) m
theorem cnt1_le (p : Nat → Bool) : ∀ n, cnt1 p n ≤ n
  | 0 => Nat.le_refl _
  | n + 1 => by rw [cnt1]; have := cnt1_le p n; split <;> omega
theorem cnt2_le (p : Nat → Nat → Bool) (m : Nat) : ∀ n, cnt2 p m n ≤ n * m
  | 0 => by simp [cnt2]
  | n + 1 => by rw [cnt2, Nat.succ_mul]; have := cnt2_le p m n; have := cnt1_le (p n) m; omega

/-! ### in memory -/
/-- a buffer at block b: its sets at sp, a set's ways at g -/
structure Buf (w : World) (b sp : Nat) (g : Nat → Nat) (n m : Nat) (R : Nat → Nat → Wy) : Prop where
  blk : Blk w b [.slice (some ⟨sp, 0, none⟩) n n] 132
  sets : Blk w sp ((List.range n).map (fun i => .slice (some ⟨g i, 0, none⟩) m m)) 133
  row : ∀ i, i < n → Blk w (g i) (rowC (R i) m) 161
  n0 : 0 < n
  n1 : n ≤ 64
  m0 : 0 < m
  m1 : m ≤ 8
  ne : b ≠ sp
  gb : ∀ i, i < n → g i ≠ b ∧ g i ≠ sp
  gi : ∀ i j, i < n → j < n → g i = g j → i = j
  lv : ∀ i j, i < n → j < m → (R i j).l.lv < 3
/-- its blocks -/
def FpT (b sp : Nat) (g : Nat → Nat) (n : Nat) : Nat → Prop := fun k => k = b ∨ k = sp ∨ ∃ i, i < n ∧ k = g i
theorem Buf.chg {F : Nat → Prop} {w w' : World} {b sp n m : Nat} {g : Nat → Nat} {R : Nat → Nat → Wy} (h : Buf w b sp g n m R) (hc : Chg F w w') (hf : ∀ k, FpT b sp g n k → ¬ F k) : Buf w' b sp g n m R :=
  ⟨h.blk.chg hc (hf _ (.inl rfl)), h.sets.chg hc (hf _ (.inr (.inl rfl))), fun i hi => (h.row i hi).chg hc (hf _ (.inr (.inr ⟨i, hi, rfl⟩))), h.n0, h.n1, h.m0, h.m1, h.ne, h.gb, h.gi, h.lv⟩
theorem Buf.below {w w' : World} {b sp n m : Nat} {g : Nat → Nat} {R : Nat → Nat → Wy} (h : Buf w b sp g n m R) (hb : Below w.heap.size w w') : Buf w' b sp g n m R :=
  h.chg (Chg.of_below (F := no) hb) (fun _ _ h => h)
theorem Buf.drewN {w : World} {b sp n m : Nat} {g : Nat → Nat} {R : Nat → Nat → Wy} (h : Buf w b sp g n m R) (k : Nat) : Buf (w.drewN k) b sp g n m R :=
  h.chg (Chg.drewN no w k) (fun _ _ h => h)
theorem Buf.lt {w : World} {b sp n m : Nat} {g : Nat → Nat} {R : Nat → Nat → Wy} (h : Buf w b sp g n m R) : ∀ k, FpT b sp g n k → k < w.heap.size := by
  rintro k (rfl | rfl | ⟨i, hi, rfl⟩)
  · exact h.blk.lt
  · exact h.sets.lt
  · exact (h.row i hi).lt
theorem Buf.set_at {w : World} {b sp n m : Nat} {g : Nat → Nat} {R : Nat → Nat → Wy} (h : Buf w b sp g n m R) {i : Nat} (hi : i < n) : w.cell? ⟨sp, i, none⟩ = some (.slice (some ⟨g i, 0, none⟩) m m) := by
  rw [h.sets.cell]; simp [hi]
theorem Buf.of_eq {w : World} {b sp n m : Nat} {g : Nat → Nat} {R Q : Nat → Nat → Wy} (h : Buf w b sp g n m R) (e : R = Q) : Buf w b sp g n m Q := e ▸ h
end Go.Proofs.YtgnjbjbgfhjakaaGreat
