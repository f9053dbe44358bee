/-
  Page tables as lists of pages and of tables, each table with its frame, and as words of a memory: what one makes of the other. (XTab13 where tables lie in any frames.) No function of the program stands here.
-/
import Derived.Test.YtgnjbjbgfhjakaaGreatFnd10
namespace Go.Proofs.YtgnjbjbgfhjakaaGreat
open Go.RowKit
set_option linter.unusedVariables false
set_option linter.unusedSimpArgs false

/-- a page that is mapped, a table that is laid -/
structure Pg where
  (va lv : Nat)
  e : Ent
structure Tb where
  (lv va fr : Nat)
/-- pages, tables, how many frames are taken -/
structure Tt where
  L : List Pg
  T : List Tb
  used : Nat
/-- the first address of an address's page at a level -/
def bas (va l : Nat) : Nat := va / 2 ^ (12 + 9 * l) * 2 ^ (12 + 9 * l)
def isP (va l : Nat) (m : Pg) : Bool := m.lv == l && m.va == bas va l
def isT (va l : Nat) (x : Tb) : Bool := x.lv == l && x.va == bas va (l + 1)
def pagI (L : List Pg) (va l : Nat) : Option Nat := L.findIdx? (isP va l)
def tabI (T : List Tb) (va l : Nat) : Option Tb := T.find? (isT va l)
def pg (L : List Pg) (va l : Nat) : Option Pg := L.find? (isP va l)
/-- the frame of the table that has an address's entry at a level -/
def frmT (first : Nat) (T : List Tb) (va l : Nat) : Option Nat := if l = 2 then some first else (tabI T va l).map Tb.fr
/-- the table that an entry leads on to -/
def kid (first : Nat) (T : List Tb) (va : Nat) : Nat → Option Nat
  | 0 => none
  | l + 1 => (tabI T va l).map Tb.fr
/-- an entry's word -/
def slotW (first : Nat) (L : List Pg) (T : List Tb) (va l : Nat) : Nat :=
  match kid first T va l with
  | some g => 1 + 1024 * g
  | none => match pg L va l with
    | some m => wordE m.e
    | none => 0
def zeE : Ent := ⟨false, false, false, false, false, false, false, false, 0, 0⟩
/-- does an entry's word hold all of it? -/
def fitE (e : Ent) : Bool := decide (e.ppn < 17592186044416 ∧ 0 ≤ e.rsw ∧ e.rsw < 4)
def mayE (e : Ent) (l : Int) : Bool := decide (0 ≤ l ∧ l < 3) && fitE e && e.v && (e.r || !e.w) && (e.r || e.x) && decide (e.ppn % 2 ^ (9 * l.toNat) = 0)
/-- the page that holds an address -/
def hold (L : List Pg) (va : Nat) : Option Nat := if canN va then (pagI L va 0).or ((pagI L va 1).or (pagI L va 2)) else none
def holdP (L : List Pg) (va : Nat) : Option Pg := if canN va then (pg L va 0).or ((pg L va 1).or (pg L va 2)) else none

/-! ### First addresses -/
theorem sub_bas (va l : Nat) : va - va % 2 ^ (12 + 9 * l) = bas va l := by
  unfold bas
  have := Nat.div_add_mod va (2 ^ (12 + 9 * l))
  rw [Nat.mul_comm] at this
  omega
theorem bas_le (va l : Nat) : bas va l ≤ va := by rw [← sub_bas]; omega
theorem bas_div (va l k : Nat) : bas va l / 2 ^ (12 + 9 * (l + k)) = va / 2 ^ (12 + 9 * (l + k)) := by
  rw [show 12 + 9 * (l + k) = (12 + 9 * l) + 9 * k from by omega, Nat.pow_add, ← Nat.div_div_eq_div_mul, ← Nat.div_div_eq_div_mul]
  unfold bas
  rw [Nat.mul_div_cancel _ (Nat.two_pow_pos _)]
theorem bas_bas {va l l' : Nat} (h : l ≤ l') : bas (bas va l) l' = bas va l' := by
  obtain ⟨k, rfl⟩ : ∃ k, l' = l + k := ⟨l' - l, by omega⟩
  show bas va l / _ * _ = _
  rw [bas_div]; rfl
theorem bas_can {va l : Nat} (h : l < 3) : canN (bas va l) = canN va := by
  have e : ∀ x, x / 274877906944 = x / 2 ^ (12 + 9 * l) / 2 ^ (26 - 9 * l) := fun x => by
    rw [Nat.div_div_eq_div_mul, ← Nat.pow_add, show 12 + 9 * l + (26 - 9 * l) = 38 from by omega]
  unfold canN
  rw [e (bas va l), e va]
  have := bas_div va l 0
  rw [Nat.add_zero] at this
  rw [this]
theorem bas_eq {a b l : Nat} (h : bas a l = bas b l) : a / 2 ^ (12 + 9 * l) = b / 2 ^ (12 + 9 * l) := Nat.eq_of_mul_eq_mul_right (Nat.two_pow_pos _) h
theorem bas_of {a b l : Nat} (h : a / 2 ^ (12 + 9 * l) = b / 2 ^ (12 + 9 * l)) : bas a l = bas b l := by unfold bas; rw [h]
theorem bas_up {a b l l' : Nat} (h : bas a l = bas b l) (hl : l ≤ l') : bas a l' = bas b l' := by
  rw [← bas_bas (va := a) hl, h, bas_bas hl]
theorem div_step (x l : Nat) : x / 2 ^ (12 + 9 * (l + 1)) = x / 2 ^ (12 + 9 * l) / 512 := by
  rw [Nat.div_div_eq_div_mul, show 12 + 9 * (l + 1) = 12 + 9 * l + 9 from by omega, Nat.pow_add]
theorem bas_down {a b l : Nat} (h : bas a (l + 1) = bas b (l + 1)) (hf : fld a (12 + 9 * l) 9 = fld b (12 + 9 * l) 9) : bas a l = bas b l := by
  have h := bas_eq h
  rw [div_step, div_step] at h
  unfold fld at hf
  refine bas_of ?_
  rw [show (2 : Nat) ^ 9 = 512 from rfl] at hf
  omega
theorem fld_bas {a b l : Nat} (h : bas a l = bas b l) : fld a (12 + 9 * l) 9 = fld b (12 + 9 * l) 9 := by
  unfold fld; rw [bas_eq h]
theorem can_of {va : Nat} (h : canN va = true) : va / 274877906944 = 0 ∨ va / 274877906944 = 67108863 := by
  unfold canN at h; exact of_decide_eq_true h
theorem can_two {a b : Nat} (ha : canN a = true) (hb : canN b = true) (hf : fld a (12 + 9 * 2) 9 = fld b (12 + 9 * 2) 9) : bas a 2 = bas b 2 := by
  refine bas_of ?_
  have h1 := can_of ha
  have h2 := can_of hb
  unfold fld at hf
  simp only [show (2 : Nat) ^ 9 = 512 from rfl, show (2 : Nat) ^ (12 + 9 * 2) = 1073741824 from rfl] at hf ⊢
  omega

/-! ### Lists -/
theorem find_idx {α : Type} (p : α → Bool) : ∀ l : List α, l.find? p = (l.findIdx? p).bind (fun k => l[k]?)
  | [] => rfl
  | a :: l => by
    by_cases h : p a = true
    · simp [List.find?_cons, List.findIdx?_cons, h]
    · simp only [List.find?_cons, List.findIdx?_cons, h, find_idx p l]
      cases l.findIdx? p <;> simp
theorem idx_new {α : Type} {p : α → Bool} {l : List α} {a : α} (h : l.findIdx? p = none) (ha : p a = true) : (l ++ [a]).findIdx? p = some l.length := by
  rw [List.findIdx?_append, h]
  simp [List.findIdx?_cons, ha]
theorem find_app {α : Type} {p : α → Bool} {l : List α} {a : α} (h : p a = false) : (l ++ [a]).find? p = l.find? p := by
  rw [List.find?_append]
  simp [List.find?_cons, h]
theorem find_new {α : Type} {p : α → Bool} {l : List α} {a : α} (h : l.find? p = none) (ha : p a = true) : (l ++ [a]).find? p = some a := by
  rw [List.find?_append, h]
  simp [List.find?_cons, ha]
theorem idx_none {α : Type} {p : α → Bool} {l : List α} : l.findIdx? p = none ↔ l.find? p = none := by
  rw [List.findIdx?_eq_none_iff, List.find?_eq_none]
  simp
theorem idx_some {α : Type} {p : α → Bool} {l : List α} {k : Nat} (h : l.findIdx? p = some k) : ∃ hk : k < l.length, p l[k] = true ∧ l.find? p = some l[k] := by
  obtain ⟨hk, hp, _⟩ := List.findIdx?_eq_some_iff_getElem.1 h
  refine ⟨hk, hp, ?_⟩
  rw [find_idx, h]
  simp [hk]
theorem isP_iff {va l : Nat} {m : Pg} : isP va l m = true ↔ m.lv = l ∧ m.va = bas va l := by simp [isP]
theorem isT_iff {va l : Nat} {x : Tb} : isT va l x = true ↔ x.lv = l ∧ x.va = bas va (l + 1) := by simp [isT]
theorem isP_congr {a b l : Nat} (h : bas a l = bas b l) : isP a l = isP b l := by funext m; unfold isP; rw [h]
theorem isT_congr {a b l : Nat} (h : bas a (l + 1) = bas b (l + 1)) : isT a l = isT b l := by funext m; unfold isT; rw [h]
theorem pg_congr {L : List Pg} {a b l : Nat} (h : bas a l = bas b l) : pg L a l = pg L b l := by unfold pg; rw [isP_congr h]
theorem tab_congr {T : List Tb} {a b l : Nat} (h : bas a (l + 1) = bas b (l + 1)) : tabI T a l = tabI T b l := by unfold tabI; rw [isT_congr h]
theorem frm_congr {f : Nat} {T : List Tb} {a b l : Nat} (h : bas a (l + 1) = bas b (l + 1)) : frmT f T a l = frmT f T b l := by unfold frmT; rw [tab_congr h]
theorem kid_congr {f : Nat} {T : List Tb} {a b l : Nat} (h : bas a l = bas b l) : kid f T a l = kid f T b l := by
  cases l with
  | zero => rfl
  | succ l => show (tabI T a l).map _ = (tabI T b l).map _; rw [tab_congr h]
theorem slot_congr {f : Nat} {L : List Pg} {T : List Tb} {a b l : Nat} (h : bas a l = bas b l) : slotW f L T a l = slotW f L T b l := by
  unfold slotW; rw [kid_congr h, pg_congr h]
theorem kid_frm {f : Nat} {T : List Tb} {va l : Nat} (h : l < 2) : kid f T va (l + 1) = frmT f T va l := by
  show (tabI T va l).map _ = _
  unfold frmT; rw [if_neg (by omega)]

/-! ### Entries -/
theorem ent_word {e : Ent} (h : fitE e = true) : entW (wordE e) = e := by
  unfold fitE at h
  obtain ⟨h1, h2, h3⟩ := of_decide_eq_true h
  obtain ⟨v, r, w, x, u, g, a, d, rsw, ppn⟩ := e
  dsimp only at h1 h2 h3
  have b1 := one_le v; have b2 := one_le r; have b3 := one_le w; have b4 := one_le x
  have b5 := one_le u; have b6 := one_le g; have b7 := one_le a; have b8 := one_le d
  obtain ⟨k, rfl⟩ : ∃ k : Nat, rsw = k := ⟨rsw.toNat, by omega⟩
  have hk : ((k : Int) % 4).toNat = k := by omega
  have hp : ppn % 17592186044416 = ppn := Nat.mod_eq_of_lt h1
  have ob : ∀ b : Bool, (one b == 1) = b := by intro b; cases b <;> rfl
  have st : ∀ (b : Bool) (n : Nat), (one b + 2 * n) % 2 = one b ∧ (one b + 2 * n) / 2 = n := by
    intro b n
    have := one_le b
    omega
  unfold entW wordE
  dsimp only
  rw [hk, hp]
  have hk4 : k < 4 := by omega
  clear hk hp b1 b2 b3 b4 b5 b6 b7 b8 h2 h3
  obtain ⟨n8, h8⟩ : ∃ n, n = k + 4 * ppn := ⟨_, rfl⟩
  obtain ⟨n7, h7⟩ : ∃ n, n = one d + 2 * n8 := ⟨_, rfl⟩
  obtain ⟨n6, h6⟩ : ∃ n, n = one a + 2 * n7 := ⟨_, rfl⟩
  obtain ⟨n5, h5⟩ : ∃ n, n = one g + 2 * n6 := ⟨_, rfl⟩
  obtain ⟨n4, h4⟩ : ∃ n, n = one u + 2 * n5 := ⟨_, rfl⟩
  obtain ⟨n3, h3⟩ : ∃ n, n = one x + 2 * n4 := ⟨_, rfl⟩
  obtain ⟨n2, h2⟩ : ∃ n, n = one w + 2 * n3 := ⟨_, rfl⟩
  obtain ⟨n1, h1'⟩ : ∃ n, n = one r + 2 * n2 := ⟨_, rfl⟩
  have e0 : one v + 2 * one r + 4 * one w + 8 * one x + 16 * one u + 32 * one g + 64 * one a + 128 * one d + 256 * k + 1024 * ppn = one v + 2 * n1 := by omega
  rw [e0]
  have dd : ∀ x a b : Nat, x / (a * b) = x / a / b := fun x a b => (Nat.div_div_eq_div_mul x a b).symm
  rw [dd _ 2 2, dd _ 2 4, dd _ 2 8, dd _ 2 16, dd _ 2 32, dd _ 2 64, dd _ 2 128, dd _ 2 512, (st v n1).1, (st v n1).2, h1',
    dd _ 2 2, dd _ 2 4, dd _ 2 8, dd _ 2 16, dd _ 2 32, dd _ 2 64, dd _ 2 256, (st r n2).1, (st r n2).2, h2,
    dd _ 2 2, dd _ 2 4, dd _ 2 8, dd _ 2 16, dd _ 2 32, dd _ 2 128, (st w n3).1, (st w n3).2, h3,
    dd _ 2 2, dd _ 2 4, dd _ 2 8, dd _ 2 16, dd _ 2 64, (st x n4).1, (st x n4).2, h4,
    dd _ 2 2, dd _ 2 4, dd _ 2 8, dd _ 2 32, (st u n5).1, (st u n5).2, h5,
    dd _ 2 2, dd _ 2 4, dd _ 2 16, (st g n6).1, (st g n6).2, h6,
    dd _ 2 2, dd _ 2 8, (st a n7).1, (st a n7).2, h7, dd _ 2 4, (st d n8).1, (st d n8).2, h8]
  have e9 : (k + 4 * ppn) % 4 = k := by omega
  have e10 : (k + 4 * ppn) / 4 % 17592186044416 = ppn := by omega
  rw [e9, e10]
  simp only [ob]
theorem fit_iff {e : Ent} : fitE e = true ↔ entW (wordE e) = e := by
  refine ⟨ent_word, fun h => ?_⟩
  have h1 := entW_ppn (wordE e)
  have h2 := entW_rsw (wordE e)
  rw [h] at h1 h2
  exact decide_eq_true ⟨h1, h2.1, h2.2⟩
theorem may_parts {e : Ent} {l : Nat} (h : mayE e l = true) : l < 3 ∧ fitE e = true ∧ e.v = true ∧ (e.r || !e.w) = true ∧ (e.r || e.x) = true ∧ e.ppn % 2 ^ (9 * l) = 0 := by
  unfold mayE at h
  simp only [Bool.and_eq_true, decide_eq_true_eq] at h
  obtain ⟨⟨⟨⟨⟨h1, h2⟩, h3⟩, h4⟩, h5⟩, h6⟩ := h
  rw [Int.toNat_natCast] at h6
  exact ⟨by omega, h2, h3, h4, h5, h6⟩
theorem okE_leaf {e : Ent} (h : fitE e = true) (hv : e.v = true) (hr : (e.r || !e.w) = true) : okE (wordE e) = true := by
  unfold okE
  rw [ent_word h, hv, hr, decide_eq_true (wordE_lt e)]
  rfl
theorem okE_zero : okE 0 = false := by decide
theorem ptr_ent {g : Nat} (hg : g < 17592186044416) : entW (1 + 1024 * g) = ⟨true, false, false, false, false, false, false, false, 0, g⟩ := by
  have h := ent_word (e := ⟨true, false, false, false, false, false, false, false, 0, g⟩) (by simp [fitE, hg])
  have e : wordE ⟨true, false, false, false, false, false, false, false, 0, g⟩ = 1 + 1024 * g := by
    unfold wordE; dsimp only
    rw [Nat.mod_eq_of_lt hg]
    rfl
  rw [e] at h
  exact h
theorem okE_ptr {g : Nat} (hg : g < 17592186044416) : okE (1 + 1024 * g) = true := by
  unfold okE
  rw [ptr_ent hg, decide_eq_true (by omega)]
  rfl

/-! ### The memory has the tables -/
def keyP (m : Pg) : Nat × Nat := (m.lv, m.va)
def keyB (x : Tb) : Nat × Nat := (x.lv, x.va)
structure RT (first fs : Nat) (M : Nat → Nat) (S : Tt) : Prop where
  words : ∀ va l f, canN va = true → l < 3 → frmT first S.T va l = some f → M (f * 4096 + 8 * fld va (12 + 9 * l) 9) = slotW first S.L S.T va l
  rootLt : first < S.used
  frs : ∀ x ∈ S.T, x.fr < S.used ∧ x.fr ≠ first
  uniqF : (S.T.map Tb.fr).Nodup
  fits : S.used ≤ fs
  most : fs ≤ 1048576
  pagesOk : ∀ m ∈ S.L, m.va < 18446744073709551616 ∧ canN m.va = true ∧ bas m.va m.lv = m.va ∧ mayE m.e m.lv = true ∧ (m.lv < 2 → ∃ x ∈ S.T, isT m.va m.lv x = true)
  tabsOk : ∀ x ∈ S.T, x.lv < 2 ∧ x.va < 18446744073709551616 ∧ canN x.va = true ∧ bas x.va (x.lv + 1) = x.va ∧ (x.lv = 0 → ∃ y ∈ S.T, isT x.va 1 y = true)
  excl : ∀ m ∈ S.L, ∀ x ∈ S.T, m.lv = x.lv + 1 → m.va ≠ x.va
  uniqL : (S.L.map keyP).Nodup
  uniqT : (S.T.map keyB).Nodup
section
variable {first fs : Nat} {M : Nat → Nat} {S : Tt}
theorem tab_mem {T : List Tb} {va l : Nat} {x : Tb} (h : tabI T va l = some x) : x ∈ T ∧ x.lv = l ∧ x.va = bas va (l + 1) := ⟨List.mem_of_find?_eq_some h, isT_iff.1 (List.find?_some h)⟩
theorem frm_lt (h : RT first fs M S) {va l f : Nat} (hf : frmT first S.T va l = some f) : f < S.used ∧ f < fs ∧ f < 1048576 := by
  have h1 := h.rootLt
  have h2 := h.fits
  have h3 := h.most
  unfold frmT at hf
  split at hf
  · injection hf with hf; omega
  · obtain ⟨x, hx, e⟩ := Option.map_eq_some_iff.1 hf
    have := (h.frs x (tab_mem hx).1).1
    omega
theorem fr_inj (h : RT first fs M S) {x y : Tb} (hx : x ∈ S.T) (hy : y ∈ S.T) (e : x.fr = y.fr) : x = y := by
  obtain ⟨i, hi, rfl⟩ := List.getElem_of_mem hx
  obtain ⟨j, hj, rfl⟩ := List.getElem_of_mem hy
  rcases Nat.lt_trichotomy i j with h1 | rfl | h1
  · have := List.pairwise_iff_getElem.1 h.uniqF i j (by simpa using hi) (by simpa using hj) h1
    rw [List.getElem_map, List.getElem_map] at this
    exact absurd e this
  · rfl
  · have := List.pairwise_iff_getElem.1 h.uniqF j i (by simpa using hj) (by simpa using hi) h1
    rw [List.getElem_map, List.getElem_map] at this
    exact absurd e.symm this
/-- two entries at one place are one entry -/
theorem slot_inj (h : RT first fs M S) {a b l k f : Nat} (ha : canN a = true) (hb : canN b = true) (hl : l < 3) (hk : k < 3) (h1 : frmT first S.T a l = some f) (h2 : frmT first S.T b k = some f)
    (hf : fld a (12 + 9 * l) 9 = fld b (12 + 9 * k) 9) : l = k ∧ bas a l = bas b l := by
  unfold frmT at h1 h2
  split at h1
  · rename_i e1
    injection h1 with h1
    split at h2
    · rename_i e2
      subst e1; subst e2
      exact ⟨rfl, can_two ha hb hf⟩
    · obtain ⟨x, hx, e⟩ := Option.map_eq_some_iff.1 h2
      exact absurd (e.trans h1.symm) (h.frs x (tab_mem hx).1).2
  · obtain ⟨x, hx, e1⟩ := Option.map_eq_some_iff.1 h1
    split at h2
    · injection h2 with h2
      exact absurd (e1.trans h2.symm) (h.frs x (tab_mem hx).1).2
    · obtain ⟨y, hy, e2⟩ := Option.map_eq_some_iff.1 h2
      obtain ⟨m1, p1, p2⟩ := tab_mem hx
      obtain ⟨m2, q1, q2⟩ := tab_mem hy
      obtain rfl := fr_inj h m1 m2 (e1.trans e2.symm)
      obtain rfl : l = k := p1.symm.trans q1
      exact ⟨rfl, bas_down (p2.symm.trans q2) hf⟩
/-- where an entry stands -/
theorem atN_frm (h : RT first fs M S) {va l f : Nat} (hf : frmT first S.T va l = some f) : atN f va l = f * 4096 + 8 * fld va (12 + 9 * l) 9 ∧ ¬ fs ≤ atN f va l / 4096 := by
  have h1 := frm_lt h hf
  have h2 := fld9 va l
  unfold atN
  rw [Nat.mod_eq_of_lt (by omega)]
  exact ⟨rfl, by omega⟩
theorem pg_mem {L : List Pg} {va l : Nat} {m : Pg} (h : pg L va l = some m) : m ∈ L ∧ m.lv = l ∧ m.va = bas va l := ⟨List.mem_of_find?_eq_some h, isP_iff.1 (List.find?_some h)⟩
theorem kid_some (h : RT first fs M S) {va l g : Nat} (hk : kid first S.T va l = some g) (hl : l < 3) : 0 < l ∧ frmT first S.T va (l - 1) = some g := by
  cases l with
  | zero => cases hk
  | succ l =>
    rw [kid_frm (by omega)] at hk
    exact ⟨Nat.succ_pos _, hk⟩
/-- what a walk finds at an entry -/
theorem fnd_kid (h : RT first fs M S) {va l f g : Nat} (hc : canN va = true) (hl : l < 3) (hf : frmT first S.T va l = some f) (hk : kid first S.T va l = some g) : fnd fs M va (l + 1) f = fnd fs M va l g := by
  obtain ⟨h0, hg⟩ := kid_some h hk hl
  obtain ⟨ea, eb⟩ := atN_frm h hf
  have hw := h.words va l f hc hl hf
  rw [← ea] at hw
  have hs : slotW first S.L S.T va l = 1 + 1024 * g := by unfold slotW; rw [hk]
  rw [hs] at hw
  have hg' : g < 17592186044416 := by have := frm_lt h hg; omega
  rw [fnd_on eb (by rw [hw]; exact okE_ptr hg') (by rw [hw, ptr_ent hg']; rfl) (by rw [hw, ptr_ent hg']; rfl), hw, ptr_ent hg']
theorem fnd_pg (h : RT first fs M S) {va l f : Nat} {m : Pg} (hc : canN va = true) (hl : l < 3) (hf : frmT first S.T va l = some f) (hk : kid first S.T va l = none) (hp : pg S.L va l = some m) :
    fnd fs M va (l + 1) f = (⟨m.e, l, f * 4096 + 8 * fld va (12 + 9 * l) 9⟩, 0) := by
  obtain ⟨ea, eb⟩ := atN_frm h hf
  have hw := h.words va l f hc hl hf
  rw [← ea] at hw
  have hs : slotW first S.L S.T va l = wordE m.e := by unfold slotW; rw [hk, hp]
  rw [hs] at hw
  obtain ⟨hm, hlv, _⟩ := pg_mem hp
  obtain ⟨_, _, _, hmay, _⟩ := h.pagesOk m hm
  rw [hlv] at hmay
  obtain ⟨m1, m2, m3, m4, m5, m6⟩ := may_parts hmay
  rw [fnd_leaf eb (by rw [hw]; exact okE_leaf m2 m3 m4) (by rw [hw, ent_word m2]; exact m5), hw, ent_word m2, if_pos m6, ea]
theorem fnd_empty (h : RT first fs M S) {va l f : Nat} (hc : canN va = true) (hl : l < 3) (hf : frmT first S.T va l = some f) (hk : kid first S.T va l = none) (hp : pg S.L va l = none) :
    fnd fs M va (l + 1) f = (zl, 51) := by
  obtain ⟨ea, eb⟩ := atN_frm h hf
  have hw := h.words va l f hc hl hf
  rw [← ea] at hw
  have hs : slotW first S.L S.T va l = 0 := by unfold slotW; rw [hk, hp]
  rw [hs] at hw
  exact fnd_bad eb (by rw [hw]; exact okE_zero)
/-- no table, no page: of what hangs on them -/
theorem tab_of_idx {T : List Tb} {va l : Nat} {x : Tb} (hx : x ∈ T) (h : isT va l x = true) : tabI T va l ≠ none := by
  intro hn
  exact List.find?_eq_none.1 hn x hx h
theorem no_pg (h : RT first fs M S) {va l : Nat} (hl : l < 2) (ht : tabI S.T va l = none) : pg S.L va l = none := by
  cases hp : pg S.L va l with
  | none => rfl
  | some m =>
    obtain ⟨hm, hlv, hva⟩ := pg_mem hp
    obtain ⟨_, _, hb, _, hpar⟩ := h.pagesOk m hm
    obtain ⟨x, hx, hxt⟩ := hpar (by omega)
    rw [hlv, isT_congr (show bas m.va (l + 1) = bas va (l + 1) from by rw [hva, bas_bas (by omega)])] at hxt
    exact absurd ht (tab_of_idx hx hxt)
theorem no_tab (h : RT first fs M S) {va : Nat} (ht : tabI S.T va 1 = none) : tabI S.T va 0 = none := by
  cases hp : tabI S.T va 0 with
  | none => rfl
  | some x =>
    obtain ⟨hx, h1, h2⟩ := tab_mem hp
    obtain ⟨_, _, _, _, hpar⟩ := h.tabsOk _ hx
    obtain ⟨y, hy, hyt⟩ := hpar h1
    rw [h2, isT_congr (show bas (bas va 1) 2 = bas va 2 from bas_bas (by omega))] at hyt
    exact absurd ht (tab_of_idx hy hyt)
theorem pg_no_kid (h : RT first fs M S) {va l : Nat} {m : Pg} (hl : l < 3) (hp : pg S.L va l = some m) : kid first S.T va l = none := by
  cases l with
  | zero => rfl
  | succ l =>
    show (tabI S.T va l).map _ = none
    cases ht : tabI S.T va l with
    | none => rfl
    | some x =>
      obtain ⟨hx, h1, h2⟩ := tab_mem ht
      obtain ⟨hm, hlv, hva⟩ := pg_mem hp
      exact absurd (hva.trans h2.symm) (h.excl m hm _ hx (by omega))
theorem kid_none {T : List Tb} {va l : Nat} (h : kid first T va (l + 1) = none) : tabI T va l = none := Option.map_eq_none_iff.1 h
/-- what a walk from the root finds: the page that holds the address -/
theorem fnd_hold (h : RT first fs M S) {va : Nat} (hc : canN va = true) :
    (∃ m l f, holdP S.L va = some m ∧ m.lv = l ∧ l < 3 ∧ pg S.L va l = some m ∧ frmT first S.T va l = some f ∧ fnd fs M va 3 first = (⟨m.e, l, f * 4096 + 8 * fld va (12 + 9 * l) 9⟩, 0)) ∨
    (holdP S.L va = none ∧ fnd fs M va 3 first = (zl, 51)) := by
  have f2 : frmT first S.T va 2 = some first := rfl
  unfold holdP
  rw [if_pos hc]
  cases k2 : kid first S.T va 2 with
  | none =>
    have t1 := kid_none k2
    have p1 := no_pg h (by omega) t1
    have p0 := no_pg h (by omega) (no_tab h t1)
    rw [p0, p1]
    cases p2 : pg S.L va 2 with
    | none => exact .inr ⟨rfl, fnd_empty h hc (by omega) f2 k2 p2⟩
    | some m => exact .inl ⟨m, 2, first, rfl, (pg_mem p2).2.1, by omega, p2, f2, fnd_pg h hc (by omega) f2 k2 p2⟩
  | some g2 =>
    have f1 := (kid_some h k2 (by omega)).2
    have e2 := fnd_kid h hc (by omega) f2 k2
    rw [e2]
    have p2 : pg S.L va 2 = none := by
      cases p2 : pg S.L va 2 with
      | none => rfl
      | some m => rw [pg_no_kid h (by omega) p2] at k2; cases k2
    rw [p2]
    cases k1 : kid first S.T va 1 with
    | none =>
      have p0 := no_pg h (by omega) (kid_none k1)
      rw [p0]
      cases p1 : pg S.L va 1 with
      | none => exact .inr ⟨rfl, fnd_empty h hc (by omega) f1 k1 p1⟩
      | some m => exact .inl ⟨m, 1, g2, rfl, (pg_mem p1).2.1, by omega, p1, f1, fnd_pg h hc (by omega) f1 k1 p1⟩
    | some g1 =>
      have f0 := (kid_some h k1 (by omega)).2
      rw [fnd_kid h hc (by omega) f1 k1]
      have p1 : pg S.L va 1 = none := by
        cases p1 : pg S.L va 1 with
        | none => rfl
        | some m => rw [pg_no_kid h (by omega) p1] at k1; cases k1
      rw [p1]
      have k0 : kid first S.T va 0 = none := rfl
      cases p0 : pg S.L va 0 with
      | none => exact .inr ⟨rfl, fnd_empty h hc (by omega) f0 k0 p0⟩
      | some m => exact .inl ⟨m, 0, g1, rfl, (pg_mem p0).2.1, by omega, p0, f0, fnd_pg h hc (by omega) f0 k0 p0⟩
end
theorem find_set {α : Type} {p : α → Bool} {x : α} (hx : p x = false) : ∀ (l : List α) (i : Nat) (h : i < l.length), p l[i] = false → (l.set i x).find? p = l.find? p
  | [], i, h, _ => by simp at h
  | a :: l, 0, h, hp => by
    have hp : p a = false := hp
    simp [List.find?_cons, hx, hp]
  | a :: l, i + 1, h, hp => by
    have hp : p (l[i]'(by simpa using h)) = false := by simpa using hp
    have ih := find_set hx l i (by simpa using h) hp
    simp only [List.set_cons_succ, List.find?_cons, ih]
theorem find_set_at {α : Type} {p : α → Bool} {x : α} (hx : p x = true) : ∀ (l : List α) (i : Nat), l.findIdx? p = some i → (l.set i x).find? p = some x
  | [], i, h => by simp at h
  | a :: l, i, h => by
    rw [List.findIdx?_cons] at h
    by_cases ha : p a = true
    · rw [if_pos ha] at h
      injection h with h
      subst h
      simp [List.find?_cons, hx]
    · rw [if_neg ha] at h
      obtain ⟨k, hk, rfl⟩ := Option.map_eq_some_iff.1 h
      have ih := find_set_at hx l k hk
      simp only [List.set_cons_succ, List.find?_cons, ih, ha]
theorem find_erase {α : Type} {p : α → Bool} : ∀ (l : List α) (i : Nat) (h : i < l.length), p l[i] = false → (l.eraseIdx i).find? p = l.find? p
  | [], i, h, _ => by simp at h
  | a :: l, 0, h, hp => by
    have hp : p a = false := hp
    simp [List.find?_cons, hp]
  | a :: l, i + 1, h, hp => by
    have hp : p (l[i]'(by simpa using h)) = false := by simpa using hp
    have ih := find_erase l i (by simpa using h) hp
    simp only [List.eraseIdx_cons_succ, List.find?_cons, ih]
theorem nodup_ne {α : Type} {l : List α} (h : l.Nodup) {i j : Nat} (hi : i < l.length) (hj : j < l.length) (hne : i ≠ j) : l[i] ≠ l[j] := by
  rcases Nat.lt_or_gt_of_ne hne with h1 | h1
  · exact List.pairwise_iff_getElem.1 h i j hi hj h1
  · exact (List.pairwise_iff_getElem.1 h j i hj hi h1).symm
theorem nodup_app {α : Type} {l : List α} {a : α} (h : l.Nodup) (ha : a ∉ l) : (l ++ [a]).Nodup := by
  rw [List.nodup_append]
  exact ⟨h, by simp, fun x hx y hy => by simp at hy; subst hy; intro e; exact ha (e ▸ hx)⟩
section
variable {first fs : Nat} {M M' : Nat → Nat} {S : Tt}
theorem place_eq {f g i j : Nat} (hi : i < 512) (hj : j < 512) (h : f * 4096 + 8 * i = g * 4096 + 8 * j) : f = g ∧ i = j := by omega
theorem place_8 (f i : Nat) : (f * 4096 + 8 * i) % 8 = 0 := by omega
theorem place_frame (f : Nat) {i : Nat} (h : i < 512) : (f * 4096 + 8 * i) / 4096 = f := by omega
theorem keyP_iff {va l : Nat} {m : Pg} : isP va l m = true ↔ keyP m = (l, bas va l) := by
  rw [isP_iff]; unfold keyP
  constructor
  · rintro ⟨h1, h2⟩; rw [h1, h2]
  · intro h; injection h with h1 h2; exact ⟨h1, h2⟩
theorem keyB_iff {va l : Nat} {x : Tb} : isT va l x = true ↔ keyB x = (l, bas va (l + 1)) := by
  rw [isT_iff]; unfold keyB
  constructor
  · rintro ⟨h1, h2⟩; rw [h1, h2]
  · intro h; injection h with h1 h2; exact ⟨h1, h2⟩
/-- a page's entry is laid: the words -/
theorem words_page (h : RT first fs M S) {va l f v : Nat} {L' : List Pg} (hc : canN va = true) (hl : l < 3) (hf : frmT first S.T va l = some f) (hv : M' (f * 4096 + 8 * fld va (12 + 9 * l) 9) = v)
    (ho : ∀ a, a % 8 = 0 → a ≠ f * 4096 + 8 * fld va (12 + 9 * l) 9 → M' a = M a) (hs : slotW first L' S.T va l = v)
    (hp : ∀ b k, canN b = true → k < 3 → ¬ (k = l ∧ bas b l = bas va l) → pg L' b k = pg S.L b k) :
    ∀ b k g, canN b = true → k < 3 → frmT first S.T b k = some g → M' (g * 4096 + 8 * fld b (12 + 9 * k) 9) = slotW first L' S.T b k := by
  intro b k g hb hk hg
  by_cases he : k = l ∧ bas b l = bas va l
  · obtain ⟨rfl, he⟩ := he
    rw [frm_congr (bas_up he (Nat.le_succ k)), hf] at hg
    replace hg := Option.some.inj hg
    rw [← hg, fld_bas he, hv, slot_congr he, hs]
  · have hne : g * 4096 + 8 * fld b (12 + 9 * k) 9 ≠ f * 4096 + 8 * fld va (12 + 9 * l) 9 := by
      intro e
      obtain ⟨e1, e2⟩ := place_eq (fld9 b k) (fld9 va l) e
      rw [e1] at hg
      obtain ⟨e3, e4⟩ := slot_inj h hb hc hk hl hg hf e2
      subst e3
      exact he ⟨rfl, e4⟩
    rw [ho _ (place_8 _ _) hne, h.words b k g hb hk hg]
    unfold slotW
    rw [hp b k hb hk he]
/-- a page's table is there -/
theorem tab_there {T : List Tb} {va l f : Nat} (hl : l < 2) (hf : frmT first T va l = some f) : ∃ x ∈ T, isT va l x = true := by
  unfold frmT at hf
  rw [if_neg (by omega)] at hf
  obtain ⟨x, hx, _⟩ := Option.map_eq_some_iff.1 hf
  exact ⟨x, List.mem_of_find?_eq_some hx, List.find?_some hx⟩
theorem isP_ne {b k va l : Nat} {e : Ent} (h : ¬ (k = l ∧ bas b l = bas va l)) : isP b k ⟨bas va l, l, e⟩ = false := by
  cases hh : isP b k ⟨bas va l, l, e⟩ with
  | false => rfl
  | true =>
    obtain ⟨h1, h2⟩ := isP_iff.1 hh
    dsimp only at h1 h2
    subst h1
    exact absurd ⟨rfl, h2.symm⟩ h
/-- a page is mapped -/
theorem RT.addPage (h : RT first fs M S) {va l f : Nat} {e : Ent} (hc : canN va = true) (hva : va < 18446744073709551616) (hl : l < 3) (hf : frmT first S.T va l = some f) (hm : mayE e l = true)
    (hk : kid first S.T va l = none) (hp : pg S.L va l = none) (hv : M' (f * 4096 + 8 * fld va (12 + 9 * l) 9) = wordE e)
    (ho : ∀ a, a % 8 = 0 → a ≠ f * 4096 + 8 * fld va (12 + 9 * l) 9 → M' a = M a) : RT first fs M' ⟨S.L ++ [⟨bas va l, l, e⟩], S.T, S.used⟩ := by
  have hnew : isP va l ⟨bas va l, l, e⟩ = true := isP_iff.2 ⟨rfl, rfl⟩
  have hpn : pg (S.L ++ [⟨bas va l, l, e⟩]) va l = some ⟨bas va l, l, e⟩ := find_new hp hnew
  refine ⟨words_page h hc hl hf hv ho ?_ ?_, h.rootLt, h.frs, h.uniqF, h.fits, h.most, ?_, h.tabsOk, ?_, ?_, h.uniqT⟩
  · unfold slotW; rw [hk, hpn]
  · intro b k hb hk2 hne
    exact find_app (isP_ne hne)
  · intro m hmm
    rcases List.mem_append.1 hmm with hmm | hmm
    · exact h.pagesOk m hmm
    · rw [List.mem_singleton] at hmm
      subst hmm
      refine ⟨Nat.lt_of_le_of_lt (bas_le va l) hva, (bas_can hl).trans hc, bas_bas (Nat.le_refl l), hm, fun h2 => ?_⟩
      obtain ⟨x, hx, hxt⟩ := tab_there h2 hf
      exact ⟨x, hx, by rw [isT_congr (bas_bas (Nat.le_succ l))]; exact hxt⟩
  · intro m hmm x hx hlv
    rcases List.mem_append.1 hmm with hmm | hmm
    · exact h.excl m hmm x hx hlv
    · rw [List.mem_singleton] at hmm
      subst hmm
      dsimp only at hlv ⊢
      subst hlv
      intro hv
      exact absurd (kid_none hk) (tab_of_idx hx (isT_iff.2 ⟨rfl, hv.symm⟩))
  · rw [List.map_append]
    refine nodup_app h.uniqL ?_
    intro hm2
    obtain ⟨m, hm3, hkey⟩ := List.mem_map.1 hm2
    have : isP va l m = true := keyP_iff.2 hkey
    have h2 := List.find?_eq_none.1 hp m hm3
    exact h2 this
/-- the page that an index tells -/
theorem idx_page (h : RT first fs M S) {va l i : Nat} (hi : pagI S.L va l = some i) : ∃ hk : i < S.L.length, isP va l S.L[i] = true ∧ pg S.L va l = some S.L[i] ∧ (∀ j (hj : j < S.L.length), j ≠ i → isP va l S.L[j] = false) := by
  obtain ⟨hk, hp, hf⟩ := idx_some hi
  refine ⟨hk, hp, hf, fun j hj hne => ?_⟩
  cases hh : isP va l S.L[j] with
  | false => rfl
  | true =>
    have e1 := keyP_iff.1 hp
    have e2 := keyP_iff.1 hh
    have := nodup_ne h.uniqL (i := j) (j := i) (by simpa using hj) (by simpa using hk) hne
    rw [List.getElem_map, List.getElem_map, e1, e2] at this
    exact absurd rfl this
/-- a page's entry is changed -/
theorem RT.change (h : RT first fs M S) {va l f i : Nat} {e : Ent} (hc : canN va = true) (hl : l < 3) (hf : frmT first S.T va l = some f) (hm : mayE e l = true)
    (hi : pagI S.L va l = some i) (hv : M' (f * 4096 + 8 * fld va (12 + 9 * l) 9) = wordE e)
    (ho : ∀ a, a % 8 = 0 → a ≠ f * 4096 + 8 * fld va (12 + 9 * l) 9 → M' a = M a) : RT first fs M' ⟨S.L.set i ⟨bas va l, l, e⟩, S.T, S.used⟩ := by
  obtain ⟨hk, hp, hpg, hu⟩ := idx_page h hi
  have hnew : isP va l ⟨bas va l, l, e⟩ = true := isP_iff.2 ⟨rfl, rfl⟩
  have hpn : pg (S.L.set i ⟨bas va l, l, e⟩) va l = some ⟨bas va l, l, e⟩ := find_set_at hnew S.L i hi
  have hkid := pg_no_kid h hl hpg
  obtain ⟨o1, o2⟩ := isP_iff.1 hp
  have hmem : ∀ m ∈ S.L.set i ⟨bas va l, l, e⟩, m ∈ S.L ∨ m = ⟨bas va l, l, e⟩ := fun m hm => List.mem_or_eq_of_mem_set hm
  refine ⟨words_page h hc hl hf hv ho ?_ ?_, h.rootLt, h.frs, h.uniqF, h.fits, h.most, ?_, h.tabsOk, ?_, ?_, h.uniqT⟩
  · unfold slotW; rw [hkid, hpn]
  · intro b k hb hk2 hne
    refine find_set (isP_ne hne) S.L i hk ?_
    cases hh : isP b k S.L[i] with
    | false => rfl
    | true =>
      obtain ⟨q1, q2⟩ := isP_iff.1 hh
      have e1 : k = l := q1.symm.trans o1
      subst e1
      exact absurd ⟨rfl, q2.symm.trans o2⟩ hne
  · intro m hmm
    rcases hmem m hmm with hmm | rfl
    · exact h.pagesOk m hmm
    · obtain ⟨p1, p2, p3, p4, p5⟩ := h.pagesOk _ (List.getElem_mem hk)
      rw [o2, o1] at p3
      rw [o2] at p1 p2 p5
      rw [o1] at p5
      exact ⟨p1, p2, p3, hm, p5⟩
  · intro m hmm x hx hlv
    rcases hmem m hmm with hmm | rfl
    · exact h.excl m hmm x hx hlv
    · have := h.excl _ (List.getElem_mem hk) x hx (o1.trans hlv)
      rw [o2] at this
      exact this
  · have e9 : (S.L.set i ⟨bas va l, l, e⟩).map keyP = S.L.map keyP := by
      rw [List.map_set]
      have : keyP ⟨bas va l, l, e⟩ = (S.L.map keyP)[i]'(by simpa using hk) := by
        rw [List.getElem_map, keyP_iff.1 hp]; rfl
      rw [this, List.set_getElem_self]
    show ((S.L.set i ⟨bas va l, l, e⟩).map keyP).Nodup
    rw [e9]; exact h.uniqL
/-- a page's entry is taken away -/
theorem RT.remove (h : RT first fs M S) {va l f i : Nat} (hc : canN va = true) (hl : l < 3) (hf : frmT first S.T va l = some f)
    (hi : pagI S.L va l = some i) (hv : M' (f * 4096 + 8 * fld va (12 + 9 * l) 9) = 0)
    (ho : ∀ a, a % 8 = 0 → a ≠ f * 4096 + 8 * fld va (12 + 9 * l) 9 → M' a = M a) : RT first fs M' ⟨S.L.eraseIdx i, S.T, S.used⟩ := by
  obtain ⟨hk, hp, hpg, hu⟩ := idx_page h hi
  have hkid := pg_no_kid h hl hpg
  obtain ⟨o1, o2⟩ := isP_iff.1 hp
  have hmem : ∀ m ∈ S.L.eraseIdx i, m ∈ S.L := fun m hm => List.mem_of_mem_eraseIdx hm
  have hpn : pg (S.L.eraseIdx i) va l = none := by
    refine List.find?_eq_none.2 fun m hm => ?_
    obtain ⟨j, hj, hne, rfl⟩ := List.mem_eraseIdx_iff_getElem.1 hm
    rw [hu j hj hne]
    simp
  refine ⟨words_page h hc hl hf hv ho ?_ ?_, h.rootLt, h.frs, h.uniqF, h.fits, h.most, fun m hmm => h.pagesOk m (hmem m hmm), h.tabsOk, fun m hmm => h.excl m (hmem m hmm), ?_, h.uniqT⟩
  · unfold slotW; rw [hkid, hpn]
  · intro b k hb hk2 hne
    refine find_erase S.L i hk ?_
    cases hh : isP b k S.L[i] with
    | false => rfl
    | true =>
      obtain ⟨q1, q2⟩ := isP_iff.1 hh
      have e1 : k = l := q1.symm.trans o1
      subst e1
      exact absurd ⟨rfl, q2.symm.trans o2⟩ hne
  · exact h.uniqL.sublist ((List.eraseIdx_sublist S.L i).map keyP)
/-- a table is laid -/
theorem RT.addTable (h : RT first fs M S) {va l f : Nat} (hc : canN va = true) (hva : va < 18446744073709551616) (hl : l < 2) (hf : frmT first S.T va (l + 1) = some f)
    (ht : tabI S.T va l = none) (hp : pg S.L va (l + 1) = none) (hfit : S.used < fs)
    (hv : M' (f * 4096 + 8 * fld va (12 + 9 * (l + 1)) 9) = 1 + 1024 * S.used) (hz : ∀ a, a % 8 = 0 → a / 4096 = S.used → M' a = 0)
    (ho : ∀ a, a % 8 = 0 → a ≠ f * 4096 + 8 * fld va (12 + 9 * (l + 1)) 9 → a / 4096 ≠ S.used → M' a = M a) :
    RT first fs M' ⟨S.L, S.T ++ [⟨l, bas va (l + 1), S.used⟩], S.used + 1⟩ ∧ frmT first (S.T ++ [⟨l, bas va (l + 1), S.used⟩]) va l = some S.used := by
  have hnt : isT va l ⟨l, bas va (l + 1), S.used⟩ = true := isT_iff.2 ⟨rfl, rfl⟩
  have hnew : ∀ b, bas b (l + 1) = bas va (l + 1) → tabI (S.T ++ [⟨l, bas va (l + 1), S.used⟩]) b l = some ⟨l, bas va (l + 1), S.used⟩ := fun b hb => by
    rw [tab_congr hb]; exact find_new ht hnt
  have hold : ∀ b k, ¬ (k = l ∧ bas b (l + 1) = bas va (l + 1)) → tabI (S.T ++ [⟨l, bas va (l + 1), S.used⟩]) b k = tabI S.T b k := fun b k hne => by
    refine find_app ?_
    cases hh : isT b k ⟨l, bas va (l + 1), S.used⟩ with
    | false => rfl
    | true =>
      obtain ⟨q1, q2⟩ := isT_iff.1 hh
      dsimp only at q1 q2
      subst q1
      exact absurd ⟨rfl, q2.symm⟩ hne
  have hfrm : frmT first (S.T ++ [⟨l, bas va (l + 1), S.used⟩]) va l = some S.used := by
    unfold frmT
    rw [if_neg (by omega), hnew va rfl]
    rfl
  refine ⟨⟨?_, ?_, ?_, ?_, ?_, h.most, ?_, ?_, ?_, h.uniqL, ?_⟩, hfrm⟩
  · intro b k g hb hk hg
    dsimp only at hg ⊢
    by_cases he : k = l ∧ bas b (l + 1) = bas va (l + 1)
    · obtain ⟨rfl, he⟩ := he
      have hg2 : g = S.used := by
        rw [frm_congr he, hfrm] at hg
        injection hg with hg
        exact hg.symm
      rw [hz _ (place_8 _ _) (by rw [place_frame _ (fld9 b k), hg2])]
      have tb : tabI S.T b k = none := by rw [tab_congr he]; exact ht
      have pb := no_pg h hl tb
      have kb : kid first (S.T ++ [⟨k, bas va (k + 1), S.used⟩]) b k = none := by
        cases k with
        | zero => rfl
        | succ k =>
          obtain rfl : k = 0 := by omega
          show (tabI _ b 0).map _ = none
          rw [hold b 0 (by rintro ⟨e, _⟩; cases e), no_tab h tb]
          rfl
      unfold slotW
      rw [kb, pb]
    · have hg0 : frmT first S.T b k = some g := by
        unfold frmT at hg ⊢
        rw [hold b k he] at hg
        exact hg
      have hglt := frm_lt h hg0
      by_cases hat : g * 4096 + 8 * fld b (12 + 9 * k) 9 = f * 4096 + 8 * fld va (12 + 9 * (l + 1)) 9
      · obtain ⟨e1, e2⟩ := place_eq (fld9 b k) (fld9 va (l + 1)) hat
        obtain ⟨e3, e4⟩ := slot_inj h hb hc hk (by omega) (e1 ▸ hg0) hf e2
        rw [hat, hv]
        subst e3
        have kb : kid first (S.T ++ [⟨l, bas va (l + 1), S.used⟩]) b (l + 1) = some S.used := by
          show (tabI _ b l).map _ = _
          rw [hnew b e4]
          rfl
        unfold slotW
        rw [kb]
      · rw [ho _ (place_8 _ _) hat (by rw [place_frame _ (fld9 b k)]; omega), h.words b k g hb hk hg0]
        have kb : kid first (S.T ++ [⟨l, bas va (l + 1), S.used⟩]) b k = kid first S.T b k := by
          cases k with
          | zero => rfl
          | succ k =>
            show (tabI _ b k).map _ = (tabI _ b k).map _
            rw [hold b k]
            rintro ⟨rfl, e⟩
            rw [frm_congr (bas_up e (Nat.le_succ _)), hf] at hg0
            injection hg0 with hg0
            exact hat (by rw [← hg0, fld_bas e])
        unfold slotW
        rw [kb]
  · exact Nat.lt_succ_of_lt h.rootLt
  · intro x hx
    rcases List.mem_append.1 hx with hx | hx
    · exact ⟨Nat.lt_succ_of_lt (h.frs x hx).1, (h.frs x hx).2⟩
    · rw [List.mem_singleton] at hx
      subst hx
      exact ⟨Nat.lt_succ_self _, fun e => by have := h.rootLt; dsimp only at e; omega⟩
  · show (List.map Tb.fr (S.T ++ [⟨l, bas va (l + 1), S.used⟩])).Nodup
    rw [List.map_append]
    refine nodup_app h.uniqF ?_
    intro hm
    obtain ⟨x, hx, e⟩ := List.mem_map.1 hm
    have := (h.frs x hx).1
    dsimp only at e
    omega
  · show S.used + 1 ≤ fs
    omega
  · intro m hm
    obtain ⟨p1, p2, p3, p4, p5⟩ := h.pagesOk m hm
    refine ⟨p1, p2, p3, p4, fun h2 => ?_⟩
    obtain ⟨x, hx, hxt⟩ := p5 h2
    exact ⟨x, List.mem_append_left _ hx, hxt⟩
  · intro x hx
    rcases List.mem_append.1 hx with hx | hx
    · obtain ⟨p1, p2, p3, p4, p5⟩ := h.tabsOk x hx
      refine ⟨p1, p2, p3, p4, fun h2 => ?_⟩
      obtain ⟨y, hy, hyt⟩ := p5 h2
      exact ⟨y, List.mem_append_left _ hy, hyt⟩
    · rw [List.mem_singleton] at hx
      subst hx
      refine ⟨hl, Nat.lt_of_le_of_lt (bas_le va _) hva, (bas_can (by omega)).trans hc, bas_bas (Nat.le_refl _), fun h2 => ?_⟩
      dsimp only at h2
      subst h2
      obtain ⟨y, hy, hyt⟩ := tab_there (by omega) hf
      exact ⟨y, List.mem_append_left _ hy, by rw [isT_congr (show bas (bas va 1) 2 = bas va 2 from bas_bas (by omega))]; exact hyt⟩
  · intro m hm x hx hlv
    rcases List.mem_append.1 hx with hx | hx
    · exact h.excl m hm x hx hlv
    · rw [List.mem_singleton] at hx
      subst hx
      intro hva2
      have := List.find?_eq_none.1 hp m hm
      exact this (isP_iff.2 ⟨hlv, hva2⟩)
  · rw [List.map_append]
    refine nodup_app h.uniqT ?_
    intro hm2
    obtain ⟨x, hx, hkey⟩ := List.mem_map.1 hm2
    exact absurd ht (tab_of_idx hx (keyB_iff.2 hkey))
/-- more frames are taken, by others -/
theorem RT.more (h : RT first fs M S) {u : Nat} (hu : S.used ≤ u) (hf : u ≤ fs) : RT first fs M ⟨S.L, S.T, u⟩ :=
  ⟨h.words, Nat.lt_of_lt_of_le h.rootLt hu, fun x hx => ⟨Nat.lt_of_lt_of_le (h.frs x hx).1 hu, (h.frs x hx).2⟩, h.uniqF, hf, h.most, h.pagesOk, h.tabsOk, h.excl, h.uniqL, h.uniqT⟩
/-- a table's frame -/
def Tf (first : Nat) (T : List Tb) (f : Nat) : Prop := f = first ∨ ∃ x ∈ T, x.fr = f
theorem frm_tf {T : List Tb} {va l f : Nat} (hf : frmT first T va l = some f) : Tf first T f := by
  unfold frmT at hf
  split at hf
  · injection hf with hf; exact .inl hf.symm
  · obtain ⟨x, hx, e⟩ := Option.map_eq_some_iff.1 hf
    exact .inr ⟨x, (tab_mem hx).1, e⟩
/-- what is laid elsewhere leaves the tables as they are -/
theorem RT.other (h : RT first fs M S) (ho : ∀ a, a % 8 = 0 → Tf first S.T (a / 4096) → M' a = M a) : RT first fs M' S :=
  ⟨fun va l f hc hl hf => by rw [ho _ (place_8 _ _) (by rw [place_frame _ (fld9 va l)]; exact frm_tf hf)]; exact h.words va l f hc hl hf, h.rootLt, h.frs, h.uniqF, h.fits, h.most, h.pagesOk, h.tabsOk, h.excl, h.uniqL, h.uniqT⟩
end
/-- the canonical address with the lowest bits of one -/
def canU (x : Nat) : Nat := if canN x then x else x + 18446743523953737728
/-- the i-th entry's first address in a table from b on -/
def vaI (b l i : Nat) : Nat := canU (b + i * 2 ^ (12 + 9 * l))
/-- a table's first address -/
def Stt (b l : Nat) : Prop := l < 3 ∧ (l = 2 → b = 0) ∧ (l < 2 → canN b = true ∧ bas b (l + 1) = b ∧ b < 18446744073709551616)
theorem canN_iff {x : Nat} : canN x = true ↔ x / 274877906944 = 0 ∨ x / 274877906944 = 67108863 := by unfold canN; rw [decide_eq_true_eq]
theorem can_lo {x : Nat} (h : x < 274877906944) : canU x = x := by
  unfold canU; rw [if_pos (canN_iff.2 (.inl (by omega)))]
theorem can_hi {x : Nat} (h : 274877906944 ≤ x) (h2 : x < 549755813888) : canU x = x + 18446743523953737728 := by
  unfold canU
  rw [if_neg (fun h => by have := canN_iff.1 h; omega)]
theorem bas_mul (l k : Nat) : bas (k * 2 ^ (12 + 9 * l)) l = k * 2 ^ (12 + 9 * l) := by
  unfold bas; rw [Nat.mul_div_cancel _ (Nat.two_pow_pos _)]
theorem bas_is {b l : Nat} (h : bas b l = b) : ∃ k, b = k * 2 ^ (12 + 9 * l) := ⟨_, h.symm⟩
/-- of such an address -/
theorem vaI_ok {b l i : Nat} (h : Stt b l) (hi : i < 512) : canN (vaI b l i) = true ∧ vaI b l i < 18446744073709551616 ∧ bas (vaI b l i) l = vaI b l i ∧ fld (vaI b l i) (12 + 9 * l) 9 = i ∧ (l < 2 → bas (vaI b l i) (l + 1) = b) ∧ b + i * 2 ^ (12 + 9 * l) < 18446744073709551616 := by
  obtain ⟨hl, h2, h1⟩ := h
  by_cases e : l = 2
  · subst e
    obtain rfl := h2 rfl
    rw [show 12 + 9 * 2 = 30 from rfl, show (2 : Nat) ^ 30 = 1073741824 from rfl]
    unfold vaI
    rw [show 12 + 9 * 2 = 30 from rfl, show (2 : Nat) ^ 30 = 1073741824 from rfl, Nat.zero_add]
    by_cases hh : i < 256
    · rw [can_lo (by omega)]
      refine ⟨canN_iff.2 (.inl (by omega)), by omega, by unfold bas; rw [show 12 + 9 * 2 = 30 from rfl, show (2 : Nat) ^ 30 = 1073741824 from rfl]; omega, by unfold fld; rw [show (2 : Nat) ^ 30 = 1073741824 from rfl, show (2 : Nat) ^ 9 = 512 from rfl]; omega, fun h => by omega, by omega⟩
    · rw [can_hi (by omega) (by omega)]
      refine ⟨canN_iff.2 (.inr (by omega)), by omega, by unfold bas; rw [show 12 + 9 * 2 = 30 from rfl, show (2 : Nat) ^ 30 = 1073741824 from rfl]; omega, by unfold fld; rw [show (2 : Nat) ^ 30 = 1073741824 from rfl, show (2 : Nat) ^ 9 = 512 from rfl]; omega, fun h => by omega, by omega⟩
  · obtain ⟨c, hb, hlt⟩ := h1 (by omega)
    obtain ⟨k, hk⟩ := bas_is hb
    have hp : (2 : Nat) ^ (12 + 9 * (l + 1)) = 512 * 2 ^ (12 + 9 * l) := by rw [show 12 + 9 * (l + 1) = 9 + (12 + 9 * l) from by omega, Nat.pow_add]
    have hs : b + i * 2 ^ (12 + 9 * l) = (k * 512 + i) * 2 ^ (12 + 9 * l) := by rw [hk, hp, Nat.add_mul, Nat.mul_assoc]
    have hd : (b + i * 2 ^ (12 + 9 * l)) / 2 ^ (12 + 9 * l) = k * 512 + i := by rw [hs, Nat.mul_div_cancel _ (Nat.two_pow_pos _)]
    have hu : bas (b + i * 2 ^ (12 + 9 * l)) (l + 1) = b := by
      have : (b + i * 2 ^ (12 + 9 * l)) / 2 ^ (12 + 9 * (l + 1)) = k := by
        rw [div_step, hd]; omega
      unfold bas; rw [this, hk]
    have hc : canN (b + i * 2 ^ (12 + 9 * l)) = true := by
      have := bas_can (va := b + i * 2 ^ (12 + 9 * l)) (l := l + 1) (by omega)
      rw [hu, c] at this
      exact this.symm
    have hv : vaI b l i = b + i * 2 ^ (12 + 9 * l) := by unfold vaI canU; rw [if_pos hc]
    rw [hv]
    have hlim : b + i * 2 ^ (12 + 9 * l) < 18446744073709551616 := by
      have := canN_iff.1 hc
      omega
    refine ⟨hc, hlim, by rw [hs]; exact bas_mul _ _, ?_, fun _ => hu, hlim⟩
    unfold fld
    rw [hd, show (2 : Nat) ^ 9 = 512 from rfl]
    omega
/-- an address is one of its table's -/
theorem vaI_of {b l v : Nat} (h : Stt b l) (hc : canN v = true) (hv : v < 18446744073709551616) (hu : l < 2 → bas v (l + 1) = b) : vaI b l (fld v (12 + 9 * l) 9) = bas v l := by
  have hi := fld9 v l
  obtain ⟨c1, _, b1, f1, u1, _⟩ := vaI_ok h hi
  have hl := h.1
  rw [← b1]
  by_cases e : l = 2
  · subst e
    exact can_two c1 hc f1
  · exact bas_down ((u1 (by omega)).trans (hu (by omega)).symm) f1
theorem stt_kid {b l i : Nat} (h : Stt b (l + 1)) (hi : i < 512) : Stt (vaI b (l + 1) i) l := by
  obtain ⟨c1, v1, b1, _⟩ := vaI_ok h hi
  exact ⟨by have := h.1; omega, fun e => by have := h.1; omega, fun _ => ⟨c1, b1, v1⟩⟩
theorem stt_root : Stt 0 2 := ⟨by omega, fun _ => rfl, fun h => by omega⟩
theorem vaI_lt {b l i j a : Nat} (h : Stt b l) (hij : i < j) (hj : j < 512) (ha : bas a l = vaI b l i) : a < vaI b l j := by
  obtain ⟨_, _, b1, f1, u1, l1⟩ := vaI_ok h (Nat.lt_trans hij hj)
  obtain ⟨_, _, b2, f2, u2, l2⟩ := vaI_ok h hj
  have hl := h.1
  have hlt : vaI b l i / 2 ^ (12 + 9 * l) < vaI b l j / 2 ^ (12 + 9 * l) := by
    by_cases e : l = 2
    · subst e
      obtain rfl := h.2.1 rfl
      unfold vaI
      rw [show 12 + 9 * 2 = 30 from rfl, show (2 : Nat) ^ 30 = 1073741824 from rfl, Nat.zero_add, Nat.zero_add]
      by_cases h1 : i < 256
      · rw [can_lo (by omega)]
        by_cases h2 : j < 256
        · rw [can_lo (by omega)]; omega
        · rw [can_hi (by omega) (by omega)]; omega
      · rw [can_hi (by omega) (by omega), can_hi (by omega) (by omega)]; omega
    · have e1 := bas_eq ((u1 (by omega)).trans (u2 (by omega)).symm)
      rw [div_step, div_step] at e1
      unfold fld at f1 f2
      rw [show (2 : Nat) ^ 9 = 512 from rfl] at f1 f2
      omega
  have h3 : a / 2 ^ (12 + 9 * l) = vaI b l i / 2 ^ (12 + 9 * l) := bas_eq (ha.trans b1.symm)
  rcases Nat.lt_or_ge a (vaI b l j) with h4 | h4
  · exact h4
  · have := Nat.div_le_div_right (c := 2 ^ (12 + 9 * l)) h4
    omega
/-- a table's pages, down from its entries -/
def subP (first : Nat) (L : List Pg) (T : List Tb) : Nat → Nat → List Pg
  | 0, _ => []
  | l + 1, b => (List.range 512).flatMap fun i => match pg L (vaI b l i) l with
    | some m => [m]
    | none => match kid first T (vaI b l i) l with
      | some _ => subP first L T l (vaI b l i)
      | none => []
/-- one entry's pages -/
def slotP (first : Nat) (L : List Pg) (T : List Tb) (l v : Nat) : List Pg := match pg L v l with
    | some m => [m]
    | none => match kid first T v l with
      | some _ => subP first L T l v
      | none => []
/-- those of the first k entries -/
def subK (first : Nat) (L : List Pg) (T : List Tb) (l b k : Nat) : List Pg := (List.range k).flatMap fun i => slotP first L T l (vaI b l i)
theorem subP_eq (first : Nat) (L : List Pg) (T : List Tb) (l b : Nat) : subP first L T (l + 1) b = subK first L T l b 512 := rfl
theorem subK_zero (first : Nat) (L : List Pg) (T : List Tb) (l b : Nat) : subK first L T l b 0 = [] := rfl
theorem subK_succ (first : Nat) (L : List Pg) (T : List Tb) (l b k : Nat) : subK first L T l b (k + 1) = subK first L T l b k ++ slotP first L T l (vaI b l k) := by
  unfold subK
  rw [List.range_succ, List.flatMap_append, List.flatMap_cons, List.flatMap_nil, List.append_nil]
section
variable {first fs : Nat} {M : Nat → Nat} {S : Tt}
/-- of a page its table is laid, and so are the tables above -/
theorem kid_of_low (h : RT first fs M S) {m : Pg} (hm : m ∈ S.L) {l : Nat} (hl : m.lv ≤ l) (h2 : l < 2) : kid first S.T m.va (l + 1) ≠ none := by
  obtain ⟨_, _, _, _, hpar⟩ := h.pagesOk m hm
  obtain ⟨x, hx, hxt⟩ := hpar (by omega)
  intro hn
  have ht := kid_none hn
  by_cases e : m.lv = l
  · subst e; exact absurd ht (tab_of_idx hx hxt)
  · obtain rfl : l = 1 := by omega
    have e0 : m.lv = 0 := by omega
    rw [e0] at hxt
    obtain ⟨h1, h2⟩ := isT_iff.1 hxt
    obtain ⟨_, _, _, _, hp2⟩ := h.tabsOk x hx
    obtain ⟨y, hy, hyt⟩ := hp2 h1
    rw [h2, isT_congr (show bas (bas m.va 1) 2 = bas m.va 2 from bas_bas (by omega))] at hyt
    exact absurd ht (tab_of_idx hy hyt)
theorem pg_self (h : RT first fs M S) {m : Pg} (hm : m ∈ S.L) {l v : Nat} (hl : m.lv = l) (hv : m.va = bas v l) : pg S.L v l = some m := by
  have hp : isP v l m = true := isP_iff.2 ⟨hl, hv⟩
  cases hq : pg S.L v l with
  | none => exact absurd (List.find?_eq_none.1 hq m hm) (by rw [hp]; simp)
  | some q =>
    obtain ⟨hqm, hql, hqv⟩ := pg_mem hq
    have hk : keyP q = keyP m := by unfold keyP; rw [hql, hqv, hl, hv]
    obtain ⟨i, hi, rfl⟩ := List.getElem_of_mem hqm
    obtain ⟨j, hj, rfl⟩ := List.getElem_of_mem hm
    by_cases e : i = j
    · subst e; rfl
    · have := nodup_ne h.uniqL (i := i) (j := j) (by simpa using hi) (by simpa using hj) e
      rw [List.getElem_map, List.getElem_map] at this
      exact absurd hk this
theorem mem_sub (h : RT first fs M S) : ∀ (l b : Nat), Stt b l → ∀ x, x ∈ subP first S.L S.T (l + 1) b ↔ x ∈ S.L ∧ x.lv ≤ l ∧ (l < 2 → bas x.va (l + 1) = b) := fun l => by
  induction l with
  | zero =>
    intro b hb x
    rw [subP_eq]
    unfold subK
    rw [List.mem_flatMap]
    constructor
    · rintro ⟨i, hi, hx⟩
      rw [List.mem_range] at hi
      obtain ⟨c1, _, b1, _, u1, _⟩ := vaI_ok hb hi
      unfold slotP at hx
      cases hp : pg S.L (vaI b 0 i) 0 with
      | none => rw [hp] at hx; simp [kid] at hx
      | some m =>
        rw [hp] at hx
        obtain rfl := List.mem_singleton.1 hx
        obtain ⟨hm, hlv, hva⟩ := pg_mem hp
        exact ⟨hm, by omega, fun h0 => by rw [hva, b1]; exact u1 h0⟩
    · rintro ⟨hm, hlv, hu⟩
      obtain ⟨v1, c1, b1, _, _⟩ := h.pagesOk x hm
      have e0 : x.lv = 0 := by omega
      rw [e0] at b1
      refine ⟨fld x.va (12 + 9 * 0) 9, List.mem_range.2 (fld9 x.va 0), ?_⟩
      rw [vaI_of hb c1 v1 hu, b1]
      unfold slotP
      rw [pg_self h hm e0 b1.symm]
      exact List.mem_singleton.2 rfl
  | succ l ih =>
    intro b hb x
    have hl := hb.1
    rw [subP_eq]
    unfold subK
    rw [List.mem_flatMap]
    constructor
    · rintro ⟨i, hi, hx⟩
      rw [List.mem_range] at hi
      obtain ⟨c1, _, b1, _, u1, _⟩ := vaI_ok hb hi
      unfold slotP at hx
      cases hp : pg S.L (vaI b (l + 1) i) (l + 1) with
      | none =>
        rw [hp] at hx
        dsimp only at hx
        cases hk : kid first S.T (vaI b (l + 1) i) (l + 1) with
        | none => rw [hk] at hx; simp at hx
        | some g =>
          rw [hk] at hx
          dsimp only at hx
          obtain ⟨q1, q2, q3⟩ := (ih _ (stt_kid hb hi) x).1 hx
          refine ⟨q1, by omega, fun h2 => ?_⟩
          have q3 := q3 (by omega)
          rw [← bas_bas (va := x.va) (show l + 1 ≤ l + 1 + 1 by omega), q3]
          exact u1 h2
      | some m =>
        rw [hp] at hx
        obtain rfl := List.mem_singleton.1 hx
        obtain ⟨hm, hlv, hva⟩ := pg_mem hp
        exact ⟨hm, by omega, fun h0 => by rw [hva, b1]; exact u1 h0⟩
    · rintro ⟨hm, hlv, hu⟩
      obtain ⟨v1, c1, b1, _, _⟩ := h.pagesOk x hm
      have hi := fld9 x.va (l + 1)
      refine ⟨fld x.va (12 + 9 * (l + 1)) 9, List.mem_range.2 hi, ?_⟩
      rw [vaI_of hb c1 v1 hu]
      by_cases e : x.lv = l + 1
      · rw [e] at b1
        rw [b1]
        unfold slotP
        rw [pg_self h hm e b1.symm]
        exact List.mem_singleton.2 rfl
      · have hk := kid_of_low h hm (l := l) (by omega) (by omega)
        have ek : kid first S.T (bas x.va (l + 1)) (l + 1) = kid first S.T x.va (l + 1) := kid_congr (bas_bas (Nat.le_refl _))
        unfold slotP
        have hpn : pg S.L (bas x.va (l + 1)) (l + 1) = none := by
          cases hq : pg S.L (bas x.va (l + 1)) (l + 1) with
          | none => rfl
          | some m => exact absurd ((ek.symm.trans (pg_no_kid h (by omega) hq))) hk
        rw [hpn]
        dsimp only
        rw [ek]
        cases hkk : kid first S.T x.va (l + 1) with
        | none => exact absurd hkk hk
        | some g =>
          dsimp only
          have hst : Stt (bas x.va (l + 1)) l := by
            have := stt_kid hb hi
            rw [vaI_of hb c1 v1 hu] at this
            exact this
          exact (ih _ hst x).2 ⟨hm, by omega, fun _ => rfl⟩
/-- all pages -/
theorem mem_all (h : RT first fs M S) (x : Pg) : x ∈ subP first S.L S.T 3 0 ↔ x ∈ S.L := by
  rw [mem_sub h 2 0 stt_root]
  constructor
  · exact fun h => h.1
  · intro hx
    obtain ⟨_, _, _, m1, _⟩ := h.pagesOk x hx
    have := (may_parts m1).1
    exact ⟨hx, by omega, fun h => by omega⟩
end
end Go.Proofs.YtgnjbjbgfhjakaaGreat
