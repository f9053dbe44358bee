/-
  Page tables as lists of pages and of tables, and as words of a memory: what one makes of the other. No function of the program stands here.
-/
import Derived.Test.YtdakfgefnapglaaFnd10
namespace Go.Proofs.Ytdakfgefnapglaa
open Go.RowKit
set_option linter.unusedVariables false
set_option linter.unusedSimpArgs false

/-- a page that is mapped, a table that is laid -/
structure Pg where
  (va lv : Nat)
  e : Ent
structure Tb where
  (lv va : Nat)
/-- pages, tables, how many frames are taken -/
structure Tt where
  L : List Pg
  T : List Tb
  used : Nat
/-- the first address of an address's page at a level -/
def bas (va l : Nat) : Nat := va / 2 ^ (12 + 9 * l) * 2 ^ (12 + 9 * l)
def isP (va l : Nat) (m : Pg) : Bool := m.lv == l && m.va == bas va l
def isT (va l : Nat) (x : Tb) : Bool := x.lv == l && x.va == bas va (l + 1)
def pagI (L : List Pg) (va l : Nat) : Option Nat := L.findIdx? (isP va l)
def tabI (T : List Tb) (va l : Nat) : Option Nat := T.findIdx? (isT va l)
def pg (L : List Pg) (va l : Nat) : Option Pg := L.find? (isP va l)
/-- the frame of the table that has an address's entry at a level -/
def frmT (first : Nat) (T : List Tb) (va l : Nat) : Option Nat := if l = 2 then some first else (tabI T va l).map (fun k => first + 1 + k)
/-- the table that an entry leads on to -/
def kid (first : Nat) (T : List Tb) (va : Nat) : Nat → Option Nat
  | 0 => none
  | l + 1 => (tabI T va l).map (fun k => first + 1 + k)
/-- an entry's word -/
def slotW (first : Nat) (L : List Pg) (T : List Tb) (va l : Nat) : Nat :=
  match kid first T va l with
  | some g => 1 + 1024 * g
  | none => match pg L va l with
    | some m => wordE m.e
    | none => 0
/-- does an entry's word hold all of it? -/
def fitE (e : Ent) : Bool := decide (e.ppn < 17592186044416 ∧ 0 ≤ e.rsw ∧ e.rsw < 4)
def mayE (e : Ent) (l : Int) : Bool := decide (0 ≤ l ∧ l < 3) && fitE e && e.v && (e.r || !e.w) && (e.r || e.x) && decide (e.ppn % 2 ^ (9 * l.toNat) = 0)
/-- the page that holds an address -/
def hold (L : List Pg) (va : Nat) : Option Nat := if canN va then (pagI L va 0).or ((pagI L va 1).or (pagI L va 2)) else none
def holdP (L : List Pg) (va : Nat) : Option Pg := if canN va then (pg L va 0).or ((pg L va 1).or (pg L va 2)) else none

/-! ### First addresses -/
theorem sub_bas (va l : Nat) : va - va % 2 ^ (12 + 9 * l) = bas va l := by
  unfold bas
  have := Nat.div_add_mod va (2 ^ (12 + 9 * l))
  rw [Nat.mul_comm] at this
  omega
theorem bas_le (va l : Nat) : bas va l ≤ va := by rw [← sub_bas]; omega
theorem bas_div (va l k : Nat) : bas va l / 2 ^ (12 + 9 * (l + k)) = va / 2 ^ (12 + 9 * (l + k)) := by
  rw [show 12 + 9 * (l + k) = (12 + 9 * l) + 9 * k from by omega, Nat.pow_add, ← Nat.div_div_eq_div_mul, ← Nat.div_div_eq_div_mul]
  unfold bas
  rw [Nat.mul_div_cancel _ (Nat.two_pow_pos _)]
theorem bas_bas {va l l' : Nat} (h : l ≤ l') : bas (bas va l) l' = bas va l' := by
  obtain ⟨k, rfl⟩ : ∃ k, l' = l + k := ⟨l' - l, by omega⟩
  show bas va l / _ * _ = _
  rw [bas_div]; rfl
theorem bas_can {va l : Nat} (h : l < 3) : canN (bas va l) = canN va := by
  have e : ∀ x, x / 274877906944 = x / 2 ^ (12 + 9 * l) / 2 ^ (26 - 9 * l) := fun x => by
    rw [Nat.div_div_eq_div_mul, ← Nat.pow_add, show 12 + 9 * l + (26 - 9 * l) = 38 from by omega]
  unfold canN
  rw [e (bas va l), e va]
  have := bas_div va l 0
  rw [Nat.add_zero] at this
  rw [this]
theorem bas_eq {a b l : Nat} (h : bas a l = bas b l) : a / 2 ^ (12 + 9 * l) = b / 2 ^ (12 + 9 * l) := Nat.eq_of_mul_eq_mul_right (Nat.two_pow_pos _) h
theorem bas_of {a b l : Nat} (h : a / 2 ^ (12 + 9 * l) = b / 2 ^ (12 + 9 * l)) : bas a l = bas b l := by unfold bas; rw [h]
theorem bas_up {a b l l' : Nat} (h : bas a l = bas b l) (hl : l ≤ l') : bas a l' = bas b l' := by
  rw [← bas_bas (va := a) hl, h, bas_bas hl]
theorem div_step (x l : Nat) : x / 2 ^ (12 + 9 * (l + 1)) = x / 2 ^ (12 + 9 * l) / 512 := by
  rw [Nat.div_div_eq_div_mul, show 12 + 9 * (l + 1) = 12 + 9 * l + 9 from by omega, Nat.pow_add]
theorem bas_down {a b l : Nat} (h : bas a (l + 1) = bas b (l + 1)) (hf : fld a (12 + 9 * l) 9 = fld b (12 + 9 * l) 9) : bas a l = bas b l := by
  have h := bas_eq h
  rw [div_step, div_step] at h
  unfold fld at hf
  refine bas_of ?_
  rw [show (2 : Nat) ^ 9 = 512 from rfl] at hf
  omega
theorem fld_bas {a b l : Nat} (h : bas a l = bas b l) : fld a (12 + 9 * l) 9 = fld b (12 + 9 * l) 9 := by
  unfold fld; rw [bas_eq h]
theorem can_of {va : Nat} (h : canN va = true) : va / 274877906944 = 0 ∨ va / 274877906944 = 67108863 := by
  unfold canN at h; exact of_decide_eq_true h
theorem can_two {a b : Nat} (ha : canN a = true) (hb : canN b = true) (hf : fld a (12 + 9 * 2) 9 = fld b (12 + 9 * 2) 9) : bas a 2 = bas b 2 := by
  refine bas_of ?_
  have h1 := can_of ha
  have h2 := can_of hb
  unfold fld at hf
  simp only [show (2 : Nat) ^ 9 = 512 from rfl, show (2 : Nat) ^ (12 + 9 * 2) = 1073741824 from rfl] at hf ⊢
  omega

/-! ### Lists -/
theorem find_idx {α : Type} (p : α → Bool) : ∀ l : List α, l.find? p = (l.findIdx? p).bind (fun k => l[k]?)
  | [] => rfl
  | a :: l => by
    by_cases h : p a = true
    · simp [List.find?_cons, List.findIdx?_cons, h]
    · simp only [List.find?_cons, List.findIdx?_cons, h, find_idx p l]
      cases l.findIdx? p <;> simp
theorem idx_app {α : Type} {p : α → Bool} {l : List α} {a : α} (h : p a = false) : (l ++ [a]).findIdx? p = l.findIdx? p := by
  rw [List.findIdx?_append]
  simp [List.findIdx?_cons, h]
theorem idx_new {α : Type} {p : α → Bool} {l : List α} {a : α} (h : l.findIdx? p = none) (ha : p a = true) : (l ++ [a]).findIdx? p = some l.length := by
  rw [List.findIdx?_append, h]
  simp [List.findIdx?_cons, ha]
theorem find_app {α : Type} {p : α → Bool} {l : List α} {a : α} (h : p a = false) : (l ++ [a]).find? p = l.find? p := by
  rw [List.find?_append]
  simp [List.find?_cons, h]
theorem find_new {α : Type} {p : α → Bool} {l : List α} {a : α} (h : l.find? p = none) (ha : p a = true) : (l ++ [a]).find? p = some a := by
  rw [List.find?_append, h]
  simp [List.find?_cons, ha]
theorem idx_none {α : Type} {p : α → Bool} {l : List α} : l.findIdx? p = none ↔ l.find? p = none := by
  rw [List.findIdx?_eq_none_iff, List.find?_eq_none]
  simp
theorem idx_some {α : Type} {p : α → Bool} {l : List α} {k : Nat} (h : l.findIdx? p = some k) : ∃ hk : k < l.length, p l[k] = true ∧ l.find? p = some l[k] := by
  obtain ⟨hk, hp, _⟩ := List.findIdx?_eq_some_iff_getElem.1 h
  refine ⟨hk, hp, ?_⟩
  rw [find_idx, h]
  simp [hk]
theorem isP_iff {va l : Nat} {m : Pg} : isP va l m = true ↔ m.lv = l ∧ m.va = bas va l := by simp [isP]
theorem isT_iff {va l : Nat} {x : Tb} : isT va l x = true ↔ x.lv = l ∧ x.va = bas va (l + 1) := by simp [isT]
theorem isP_congr {a b l : Nat} (h : bas a l = bas b l) : isP a l = isP b l := by funext m; unfold isP; rw [h]
theorem isT_congr {a b l : Nat} (h : bas a (l + 1) = bas b (l + 1)) : isT a l = isT b l := by funext m; unfold isT; rw [h]
theorem pg_congr {L : List Pg} {a b l : Nat} (h : bas a l = bas b l) : pg L a l = pg L b l := by unfold pg; rw [isP_congr h]
theorem tab_congr {T : List Tb} {a b l : Nat} (h : bas a (l + 1) = bas b (l + 1)) : tabI T a l = tabI T b l := by unfold tabI; rw [isT_congr h]
theorem frm_congr {f : Nat} {T : List Tb} {a b l : Nat} (h : bas a (l + 1) = bas b (l + 1)) : frmT f T a l = frmT f T b l := by unfold frmT; rw [tab_congr h]
theorem kid_congr {f : Nat} {T : List Tb} {a b l : Nat} (h : bas a l = bas b l) : kid f T a l = kid f T b l := by
  cases l with
  | zero => rfl
  | succ l => show (tabI T a l).map _ = (tabI T b l).map _; rw [tab_congr h]
theorem slot_congr {f : Nat} {L : List Pg} {T : List Tb} {a b l : Nat} (h : bas a l = bas b l) : slotW f L T a l = slotW f L T b l := by
  unfold slotW; rw [kid_congr h, pg_congr h]
theorem kid_frm {f : Nat} {T : List Tb} {va l : Nat} (h : l < 2) : kid f T va (l + 1) = frmT f T va l := by
  show (tabI T va l).map _ = _
  unfold frmT; rw [if_neg (by omega)]

/-! ### Entries -/
theorem ent_word {e : Ent} (h : fitE e = true) : entW (wordE e) = e := by
  unfold fitE at h
  obtain ⟨h1, h2, h3⟩ := of_decide_eq_true h
  obtain ⟨v, r, w, x, u, g, a, d, rsw, ppn⟩ := e
  dsimp only at h1 h2 h3
  have b1 := one_le v; have b2 := one_le r; have b3 := one_le w; have b4 := one_le x
  have b5 := one_le u; have b6 := one_le g; have b7 := one_le a; have b8 := one_le d
  obtain ⟨k, rfl⟩ : ∃ k : Nat, rsw = k := ⟨rsw.toNat, by omega⟩
  have hk : ((k : Int) % 4).toNat = k := by omega
  have hp : ppn % 17592186044416 = ppn := Nat.mod_eq_of_lt h1
  have ob : ∀ b : Bool, (one b == 1) = b := by intro b; cases b <;> rfl
  have st : ∀ (b : Bool) (n : Nat), (one b + 2 * n) % 2 = one b ∧ (one b + 2 * n) / 2 = n := by
    intro b n
    have := one_le b
    omega
  unfold entW wordE
  dsimp only
  rw [hk, hp]
  have hk4 : k < 4 := by omega
  clear hk hp b1 b2 b3 b4 b5 b6 b7 b8 h2 h3
  obtain ⟨n8, h8⟩ : ∃ n, n = k + 4 * ppn := ⟨_, rfl⟩
  obtain ⟨n7, h7⟩ : ∃ n, n = one d + 2 * n8 := ⟨_, rfl⟩
  obtain ⟨n6, h6⟩ : ∃ n, n = one a + 2 * n7 := ⟨_, rfl⟩
  obtain ⟨n5, h5⟩ : ∃ n, n = one g + 2 * n6 := ⟨_, rfl⟩
  obtain ⟨n4, h4⟩ : ∃ n, n = one u + 2 * n5 := ⟨_, rfl⟩
  obtain ⟨n3, h3⟩ : ∃ n, n = one x + 2 * n4 := ⟨_, rfl⟩
  obtain ⟨n2, h2⟩ : ∃ n, n = one w + 2 * n3 := ⟨_, rfl⟩
  obtain ⟨n1, h1'⟩ : ∃ n, n = one r + 2 * n2 := ⟨_, rfl⟩
  have e0 : one v + 2 * one r + 4 * one w + 8 * one x + 16 * one u + 32 * one g + 64 * one a + 128 * one d + 256 * k + 1024 * ppn = one v + 2 * n1 := by omega
  rw [e0]
  have dd : ∀ x a b : Nat, x / (a * b) = x / a / b := fun x a b => (Nat.div_div_eq_div_mul x a b).symm
  rw [dd _ 2 2, dd _ 2 4, dd _ 2 8, dd _ 2 16, dd _ 2 32, dd _ 2 64, dd _ 2 128, dd _ 2 512, (st v n1).1, (st v n1).2, h1',
    dd _ 2 2, dd _ 2 4, dd _ 2 8, dd _ 2 16, dd _ 2 32, dd _ 2 64, dd _ 2 256, (st r n2).1, (st r n2).2, h2,
    dd _ 2 2, dd _ 2 4, dd _ 2 8, dd _ 2 16, dd _ 2 32, dd _ 2 128, (st w n3).1, (st w n3).2, h3,
    dd _ 2 2, dd _ 2 4, dd _ 2 8, dd _ 2 16, dd _ 2 64, (st x n4).1, (st x n4).2, h4,
    dd _ 2 2, dd _ 2 4, dd _ 2 8, dd _ 2 32, (st u n5).1, (st u n5).2, h5,
    dd _ 2 2, dd _ 2 4, dd _ 2 16, (st g n6).1, (st g n6).2, h6,
    dd _ 2 2, dd _ 2 8, (st a n7).1, (st a n7).2, h7, dd _ 2 4, (st d n8).1, (st d n8).2, h8]
  have e9 : (k + 4 * ppn) % 4 = k := by omega
  have e10 : (k + 4 * ppn) / 4 % 17592186044416 = ppn := by omega
  rw [e9, e10]
  simp only [ob]
theorem fit_iff {e : Ent} : fitE e = true ↔ entW (wordE e) = e := by
  refine ⟨ent_word, fun h => ?_⟩
  have h1 := entW_ppn (wordE e)
  have h2 := entW_rsw (wordE e)
  rw [h] at h1 h2
  exact decide_eq_true ⟨h1, h2.1, h2.2⟩
theorem may_parts {e : Ent} {l : Nat} (h : mayE e l = true) : l < 3 ∧ fitE e = true ∧ e.v = true ∧ (e.r || !e.w) = true ∧ (e.r || e.x) = true ∧ e.ppn % 2 ^ (9 * l) = 0 := by
  unfold mayE at h
  simp only [Bool.and_eq_true, decide_eq_true_eq] at h
  obtain ⟨⟨⟨⟨⟨h1, h2⟩, h3⟩, h4⟩, h5⟩, h6⟩ := h
  rw [Int.toNat_natCast] at h6
  exact ⟨by omega, h2, h3, h4, h5, h6⟩
theorem okE_leaf {e : Ent} (h : fitE e = true) (hv : e.v = true) (hr : (e.r || !e.w) = true) : okE (wordE e) = true := by
  unfold okE
  rw [ent_word h, hv, hr, decide_eq_true (wordE_lt e)]
  rfl
theorem okE_zero : okE 0 = false := by decide
theorem ptr_ent {g : Nat} (hg : g < 17592186044416) : entW (1 + 1024 * g) = ⟨true, false, false, false, false, false, false, false, 0, g⟩ := by
  have h := ent_word (e := ⟨true, false, false, false, false, false, false, false, 0, g⟩) (by simp [fitE, hg])
  have e : wordE ⟨true, false, false, false, false, false, false, false, 0, g⟩ = 1 + 1024 * g := by
    unfold wordE; dsimp only
    rw [Nat.mod_eq_of_lt hg]
    rfl
  rw [e] at h
  exact h
theorem okE_ptr {g : Nat} (hg : g < 17592186044416) : okE (1 + 1024 * g) = true := by
  unfold okE
  rw [ptr_ent hg, decide_eq_true (by omega)]
  rfl

/-! ### The memory has the tables -/
def keyP (m : Pg) : Nat × Nat := (m.lv, m.va)
def keyB (x : Tb) : Nat × Nat := (x.lv, x.va)
structure RT (first fs : Nat) (M : Nat → Nat) (S : Tt) : Prop where
  words : ∀ va l f, canN va = true → l < 3 → frmT first S.T va l = some f → M (f * 4096 + 8 * fld va (12 + 9 * l) 9) = slotW first S.L S.T va l
  used : S.used = S.T.length + 1
  fits : first + S.used ≤ fs
  most : fs ≤ 1048576
  pagesOk : ∀ m ∈ S.L, m.va < 18446744073709551616 ∧ canN m.va = true ∧ bas m.va m.lv = m.va ∧ mayE m.e m.lv = true ∧ (m.lv < 2 → ∃ x ∈ S.T, isT m.va m.lv x = true)
  tabsOk : ∀ x ∈ S.T, x.lv < 2 ∧ x.va < 18446744073709551616 ∧ canN x.va = true ∧ bas x.va (x.lv + 1) = x.va ∧ (x.lv = 0 → ∃ y ∈ S.T, isT x.va 1 y = true)
  excl : ∀ m ∈ S.L, ∀ x ∈ S.T, m.lv = x.lv + 1 → m.va ≠ x.va
  uniqL : (S.L.map keyP).Nodup
  uniqT : (S.T.map keyB).Nodup
section
variable {first fs : Nat} {M : Nat → Nat} {S : Tt}
theorem frm_lt (h : RT first fs M S) {va l f : Nat} (hf : frmT first S.T va l = some f) : first ≤ f ∧ f < first + S.used ∧ f < fs ∧ f < 1048576 := by
  have h1 := h.used
  have h2 := h.fits
  have h3 := h.most
  unfold frmT at hf
  split at hf
  · injection hf with hf; omega
  · obtain ⟨k, hk, e⟩ := Option.map_eq_some_iff.1 hf
    obtain ⟨hk, _⟩ := List.findIdx?_eq_some_iff_getElem.1 hk
    omega
/-- two entries at one place are one entry -/
theorem slot_inj {T : List Tb} {a b l k f : Nat} (ha : canN a = true) (hb : canN b = true) (hl : l < 3) (hk : k < 3) (h1 : frmT first T a l = some f) (h2 : frmT first T b k = some f)
    (hf : fld a (12 + 9 * l) 9 = fld b (12 + 9 * k) 9) : l = k ∧ bas a l = bas b l := by
  unfold frmT at h1 h2
  split at h1
  · rename_i e1
    injection h1 with h1
    split at h2
    · rename_i e2
      subst e1; subst e2
      exact ⟨rfl, can_two ha hb hf⟩
    · obtain ⟨j, hj, e⟩ := Option.map_eq_some_iff.1 h2
      omega
  · obtain ⟨i, hi, e1⟩ := Option.map_eq_some_iff.1 h1
    split at h2
    · injection h2 with h2; omega
    · obtain ⟨j, hj, e2⟩ := Option.map_eq_some_iff.1 h2
      obtain rfl : i = j := by omega
      obtain ⟨hi1, hi2, _⟩ := List.findIdx?_eq_some_iff_getElem.1 hi
      obtain ⟨hj1, hj2, _⟩ := List.findIdx?_eq_some_iff_getElem.1 hj
      obtain ⟨p1, p2⟩ := isT_iff.1 hi2
      obtain ⟨q1, q2⟩ := isT_iff.1 hj2
      obtain rfl : l = k := by omega
      exact ⟨rfl, bas_down (p2.symm.trans q2) hf⟩
/-- where an entry stands -/
theorem atN_frm (h : RT first fs M S) {va l f : Nat} (hf : frmT first S.T va l = some f) : atN f va l = f * 4096 + 8 * fld va (12 + 9 * l) 9 ∧ ¬ fs ≤ atN f va l / 4096 := by
  have h1 := frm_lt h hf
  have h2 := fld9 va l
  unfold atN
  rw [Nat.mod_eq_of_lt (by omega)]
  exact ⟨rfl, by omega⟩
theorem pg_mem {L : List Pg} {va l : Nat} {m : Pg} (h : pg L va l = some m) : m ∈ L ∧ m.lv = l ∧ m.va = bas va l := ⟨List.mem_of_find?_eq_some h, isP_iff.1 (List.find?_some h)⟩
theorem kid_some (h : RT first fs M S) {va l g : Nat} (hk : kid first S.T va l = some g) (hl : l < 3) : 0 < l ∧ frmT first S.T va (l - 1) = some g := by
  cases l with
  | zero => cases hk
  | succ l =>
    rw [kid_frm (by omega)] at hk
    exact ⟨Nat.succ_pos _, hk⟩
/-- what a walk finds at an entry -/
theorem fnd_kid (h : RT first fs M S) {va l f g : Nat} (hc : canN va = true) (hl : l < 3) (hf : frmT first S.T va l = some f) (hk : kid first S.T va l = some g) : fnd fs M va (l + 1) f = fnd fs M va l g := by
  obtain ⟨h0, hg⟩ := kid_some h hk hl
  obtain ⟨ea, eb⟩ := atN_frm h hf
  have hw := h.words va l f hc hl hf
  rw [← ea] at hw
  have hs : slotW first S.L S.T va l = 1 + 1024 * g := by unfold slotW; rw [hk]
  rw [hs] at hw
  have hg' : g < 17592186044416 := by have := frm_lt h hg; omega
  rw [fnd_on eb (by rw [hw]; exact okE_ptr hg') (by rw [hw, ptr_ent hg']; rfl) (by rw [hw, ptr_ent hg']; rfl), hw, ptr_ent hg']
theorem fnd_pg (h : RT first fs M S) {va l f : Nat} {m : Pg} (hc : canN va = true) (hl : l < 3) (hf : frmT first S.T va l = some f) (hk : kid first S.T va l = none) (hp : pg S.L va l = some m) :
    fnd fs M va (l + 1) f = (⟨m.e, l, f * 4096 + 8 * fld va (12 + 9 * l) 9⟩, 0) := by
  obtain ⟨ea, eb⟩ := atN_frm h hf
  have hw := h.words va l f hc hl hf
  rw [← ea] at hw
  have hs : slotW first S.L S.T va l = wordE m.e := by unfold slotW; rw [hk, hp]
  rw [hs] at hw
  obtain ⟨hm, hlv, _⟩ := pg_mem hp
  obtain ⟨_, _, _, hmay, _⟩ := h.pagesOk m hm
  rw [hlv] at hmay
  obtain ⟨m1, m2, m3, m4, m5, m6⟩ := may_parts hmay
  rw [fnd_leaf eb (by rw [hw]; exact okE_leaf m2 m3 m4) (by rw [hw, ent_word m2]; exact m5), hw, ent_word m2, if_pos m6, ea]
theorem fnd_empty (h : RT first fs M S) {va l f : Nat} (hc : canN va = true) (hl : l < 3) (hf : frmT first S.T va l = some f) (hk : kid first S.T va l = none) (hp : pg S.L va l = none) :
    fnd fs M va (l + 1) f = (zl, 51) := by
  obtain ⟨ea, eb⟩ := atN_frm h hf
  have hw := h.words va l f hc hl hf
  rw [← ea] at hw
  have hs : slotW first S.L S.T va l = 0 := by unfold slotW; rw [hk, hp]
  rw [hs] at hw
  exact fnd_bad eb (by rw [hw]; exact okE_zero)
/-- no table, no page: of what hangs on them -/
theorem tab_of_idx {T : List Tb} {va l : Nat} {x : Tb} (hx : x ∈ T) (h : isT va l x = true) : tabI T va l ≠ none := by
  intro hn
  have := List.findIdx?_eq_none_iff.1 hn x hx
  rw [h] at this
  cases this
theorem no_pg (h : RT first fs M S) {va l : Nat} (hl : l < 2) (ht : tabI S.T va l = none) : pg S.L va l = none := by
  cases hp : pg S.L va l with
  | none => rfl
  | some m =>
    obtain ⟨hm, hlv, hva⟩ := pg_mem hp
    obtain ⟨_, _, hb, _, hpar⟩ := h.pagesOk m hm
    obtain ⟨x, hx, hxt⟩ := hpar (by omega)
    rw [hlv, isT_congr (show bas m.va (l + 1) = bas va (l + 1) from by rw [hva, bas_bas (by omega)])] at hxt
    exact absurd ht (tab_of_idx hx hxt)
theorem no_tab (h : RT first fs M S) {va : Nat} (ht : tabI S.T va 1 = none) : tabI S.T va 0 = none := by
  cases hp : tabI S.T va 0 with
  | none => rfl
  | some k =>
    obtain ⟨hk, hx, _⟩ := List.findIdx?_eq_some_iff_getElem.1 hp
    obtain ⟨h1, h2⟩ := isT_iff.1 hx
    obtain ⟨_, _, _, _, hpar⟩ := h.tabsOk _ (List.getElem_mem hk)
    obtain ⟨y, hy, hyt⟩ := hpar h1
    rw [h2, isT_congr (show bas (bas va 1) 2 = bas va 2 from bas_bas (by omega))] at hyt
    exact absurd ht (tab_of_idx hy hyt)
theorem pg_no_kid (h : RT first fs M S) {va l : Nat} {m : Pg} (hl : l < 3) (hp : pg S.L va l = some m) : kid first S.T va l = none := by
  cases l with
  | zero => rfl
  | succ l =>
    show (tabI S.T va l).map _ = none
    cases ht : tabI S.T va l with
    | none => rfl
    | some k =>
      obtain ⟨hk, hx, _⟩ := List.findIdx?_eq_some_iff_getElem.1 ht
      obtain ⟨h1, h2⟩ := isT_iff.1 hx
      obtain ⟨hm, hlv, hva⟩ := pg_mem hp
      exact absurd (hva.trans h2.symm) (h.excl m hm _ (List.getElem_mem hk) (by omega))
theorem kid_none {T : List Tb} {va l : Nat} (h : kid first T va (l + 1) = none) : tabI T va l = none := Option.map_eq_none_iff.1 h
/-- what a walk from the root finds: the page that holds the address -/
theorem fnd_hold (h : RT first fs M S) {va : Nat} (hc : canN va = true) :
    (∃ m l f, holdP S.L va = some m ∧ m.lv = l ∧ l < 3 ∧ pg S.L va l = some m ∧ frmT first S.T va l = some f ∧ fnd fs M va 3 first = (⟨m.e, l, f * 4096 + 8 * fld va (12 + 9 * l) 9⟩, 0)) ∨
    (holdP S.L va = none ∧ fnd fs M va 3 first = (zl, 51)) := by
  have f2 : frmT first S.T va 2 = some first := rfl
  unfold holdP
  rw [if_pos hc]
  cases k2 : kid first S.T va 2 with
  | none =>
    have t1 := kid_none k2
    have p1 := no_pg h (by omega) t1
    have p0 := no_pg h (by omega) (no_tab h t1)
    rw [p0, p1]
    cases p2 : pg S.L va 2 with
    | none => exact .inr ⟨rfl, fnd_empty h hc (by omega) f2 k2 p2⟩
    | some m => exact .inl ⟨m, 2, first, rfl, (pg_mem p2).2.1, by omega, p2, f2, fnd_pg h hc (by omega) f2 k2 p2⟩
  | some g2 =>
    have f1 := (kid_some h k2 (by omega)).2
    have e2 := fnd_kid h hc (by omega) f2 k2
    rw [e2]
    have p2 : pg S.L va 2 = none := by
      cases p2 : pg S.L va 2 with
      | none => rfl
      | some m => rw [pg_no_kid h (by omega) p2] at k2; cases k2
    rw [p2]
    cases k1 : kid first S.T va 1 with
    | none =>
      have p0 := no_pg h (by omega) (kid_none k1)
      rw [p0]
      cases p1 : pg S.L va 1 with
      | none => exact .inr ⟨rfl, fnd_empty h hc (by omega) f1 k1 p1⟩
      | some m => exact .inl ⟨m, 1, g2, rfl, (pg_mem p1).2.1, by omega, p1, f1, fnd_pg h hc (by omega) f1 k1 p1⟩
    | some g1 =>
      have f0 := (kid_some h k1 (by omega)).2
      rw [fnd_kid h hc (by omega) f1 k1]
      have p1 : pg S.L va 1 = none := by
        cases p1 : pg S.L va 1 with
        | none => rfl
        | some m => rw [pg_no_kid h (by omega) p1] at k1; cases k1
      rw [p1]
      have k0 : kid first S.T va 0 = none := rfl
      cases p0 : pg S.L va 0 with
      | none => exact .inr ⟨rfl, fnd_empty h hc (by omega) f0 k0 p0⟩
      | some m => exact .inl ⟨m, 0, g1, rfl, (pg_mem p0).2.1, by omega, p0, f0, fnd_pg h hc (by omega) f0 k0 p0⟩
end
end Go.Proofs.Ytdakfgefnapglaa
