/-
  The pages of a table, listed table by table: what comes of it are all pages in the order of their addresses. No function of the program stands here.
-/
import Derived.Test.YtdakfgefnapglaaSort13
namespace Go.Proofs.Ytdakfgefnapglaa
open Go.RowKit
set_option linter.unusedVariables false
set_option linter.unusedSimpArgs false

/-- the canonical address with the lowest bits of one -/
def canU (x : Nat) : Nat := if canN x then x else x + 18446743523953737728
/-- the i-th entry's first address in a table from b on -/
def vaI (b l i : Nat) : Nat := canU (b + i * 2 ^ (12 + 9 * l))
/-- a table's first address -/
def Stt (b l : Nat) : Prop := l < 3 ∧ (l = 2 → b = 0) ∧ (l < 2 → canN b = true ∧ bas b (l + 1) = b ∧ b < 18446744073709551616)
theorem canN_iff {x : Nat} : canN x = true ↔ x / 274877906944 = 0 ∨ x / 274877906944 = 67108863 := by unfold canN; rw [decide_eq_true_eq]
theorem can_lo {x : Nat} (h : x < 274877906944) : canU x = x := by
  unfold canU; rw [if_pos (canN_iff.2 (.inl (by omega)))]
theorem can_hi {x : Nat} (h : 274877906944 ≤ x) (h2 : x < 549755813888) : canU x = x + 18446743523953737728 := by
  unfold canU
  rw [if_neg (fun h => by have := canN_iff.1 h; omega)]
theorem bas_mul (l k : Nat) : bas (k * 2 ^ (12 + 9 * l)) l = k * 2 ^ (12 + 9 * l) := by
  unfold bas; rw [Nat.mul_div_cancel _ (Nat.two_pow_pos _)]
theorem bas_is {b l : Nat} (h : bas b l = b) : ∃ k, b = k * 2 ^ (12 + 9 * l) := ⟨_, h.symm⟩
/-- of such an address -/
theorem vaI_ok {b l i : Nat} (h : Stt b l) (hi : i < 512) : canN (vaI b l i) = true ∧ vaI b l i < 18446744073709551616 ∧ bas (vaI b l i) l = vaI b l i ∧ fld (vaI b l i) (12 + 9 * l) 9 = i ∧ (l < 2 → bas (vaI b l i) (l + 1) = b) ∧ b + i * 2 ^ (12 + 9 * l) < 18446744073709551616 := by
  obtain ⟨hl, h2, h1⟩ := h
  by_cases e : l = 2
  · subst e
    obtain rfl := h2 rfl
    rw [show 12 + 9 * 2 = 30 from rfl, show (2 : Nat) ^ 30 = 1073741824 from rfl]
    unfold vaI
    rw [show 12 + 9 * 2 = 30 from rfl, show (2 : Nat) ^ 30 = 1073741824 from rfl, Nat.zero_add]
    by_cases hh : i < 256
    · rw [can_lo (by omega)]
      refine ⟨canN_iff.2 (.inl (by omega)), by omega, by unfold bas; rw [show 12 + 9 * 2 = 30 from rfl, show (2 : Nat) ^ 30 = 1073741824 from rfl]; omega, by unfold fld; rw [show (2 : Nat) ^ 30 = 1073741824 from rfl, show (2 : Nat) ^ 9 = 512 from rfl]; omega, fun h => by omega, by omega⟩
    · rw [can_hi (by omega) (by omega)]
      refine ⟨canN_iff.2 (.inr (by omega)), by omega, by unfold bas; rw [show 12 + 9 * 2 = 30 from rfl, show (2 : Nat) ^ 30 = 1073741824 from rfl]; omega, by unfold fld; rw [show (2 : Nat) ^ 30 = 1073741824 from rfl, show (2 : Nat) ^ 9 = 512 from rfl]; omega, fun h => by omega, by omega⟩
  · obtain ⟨c, hb, hlt⟩ := h1 (by omega)
    obtain ⟨k, hk⟩ := bas_is hb
    have hp : (2 : Nat) ^ (12 + 9 * (l + 1)) = 512 * 2 ^ (12 + 9 * l) := by rw [show 12 + 9 * (l + 1) = 9 + (12 + 9 * l) from by omega, Nat.pow_add]
    have hs : b + i * 2 ^ (12 + 9 * l) = (k * 512 + i) * 2 ^ (12 + 9 * l) := by rw [hk, hp, Nat.add_mul, Nat.mul_assoc]
    have hd : (b + i * 2 ^ (12 + 9 * l)) / 2 ^ (12 + 9 * l) = k * 512 + i := by rw [hs, Nat.mul_div_cancel _ (Nat.two_pow_pos _)]
    have hu : bas (b + i * 2 ^ (12 + 9 * l)) (l + 1) = b := by
      have : (b + i * 2 ^ (12 + 9 * l)) / 2 ^ (12 + 9 * (l + 1)) = k := by
        rw [div_step, hd]; omega
      unfold bas; rw [this, hk]
    have hc : canN (b + i * 2 ^ (12 + 9 * l)) = true := by
      have := bas_can (va := b + i * 2 ^ (12 + 9 * l)) (l := l + 1) (by omega)
      rw [hu, c] at this
      exact this.symm
    have hv : vaI b l i = b + i * 2 ^ (12 + 9 * l) := by unfold vaI canU; rw [if_pos hc]
    rw [hv]
    have hlim : b + i * 2 ^ (12 + 9 * l) < 18446744073709551616 := by
      have := canN_iff.1 hc
      omega
    refine ⟨hc, hlim, by rw [hs]; exact bas_mul _ _, ?_, fun _ => hu, hlim⟩
    unfold fld
    rw [hd, show (2 : Nat) ^ 9 = 512 from rfl]
    omega
/-- an address is one of its table's -/
theorem vaI_of {b l v : Nat} (h : Stt b l) (hc : canN v = true) (hv : v < 18446744073709551616) (hu : l < 2 → bas v (l + 1) = b) : vaI b l (fld v (12 + 9 * l) 9) = bas v l := by
  have hi := fld9 v l
  obtain ⟨c1, _, b1, f1, u1, _⟩ := vaI_ok h hi
  have hl := h.1
  rw [← b1]
  by_cases e : l = 2
  · subst e
    exact can_two c1 hc f1
  · exact bas_down ((u1 (by omega)).trans (hu (by omega)).symm) f1
theorem stt_kid {b l i : Nat} (h : Stt b (l + 1)) (hi : i < 512) : Stt (vaI b (l + 1) i) l := by
  obtain ⟨c1, v1, b1, _⟩ := vaI_ok h hi
  exact ⟨by have := h.1; omega, fun e => by have := h.1; omega, fun _ => ⟨c1, b1, v1⟩⟩
theorem stt_root : Stt 0 2 := ⟨by omega, fun _ => rfl, fun h => by omega⟩
theorem vaI_lt {b l i j a : Nat} (h : Stt b l) (hij : i < j) (hj : j < 512) (ha : bas a l = vaI b l i) : a < vaI b l j := by
  obtain ⟨_, _, b1, f1, u1, l1⟩ := vaI_ok h (Nat.lt_trans hij hj)
  obtain ⟨_, _, b2, f2, u2, l2⟩ := vaI_ok h hj
  have hl := h.1
  have hlt : vaI b l i / 2 ^ (12 + 9 * l) < vaI b l j / 2 ^ (12 + 9 * l) := by
    by_cases e : l = 2
    · subst e
      obtain rfl := h.2.1 rfl
      unfold vaI
      rw [show 12 + 9 * 2 = 30 from rfl, show (2 : Nat) ^ 30 = 1073741824 from rfl, Nat.zero_add, Nat.zero_add]
      by_cases h1 : i < 256
      · rw [can_lo (by omega)]
        by_cases h2 : j < 256
        · rw [can_lo (by omega)]; omega
        · rw [can_hi (by omega) (by omega)]; omega
      · rw [can_hi (by omega) (by omega), can_hi (by omega) (by omega)]; omega
    · have e1 := bas_eq ((u1 (by omega)).trans (u2 (by omega)).symm)
      rw [div_step, div_step] at e1
      unfold fld at f1 f2
      rw [show (2 : Nat) ^ 9 = 512 from rfl] at f1 f2
      omega
  have h3 : a / 2 ^ (12 + 9 * l) = vaI b l i / 2 ^ (12 + 9 * l) := bas_eq (ha.trans b1.symm)
  rcases Nat.lt_or_ge a (vaI b l j) with h4 | h4
  · exact h4
  · have := Nat.div_le_div_right (c := 2 ^ (12 + 9 * l)) h4
    omega
/-- a table's pages, down from its entries -/
def subP (first : Nat) (L : List Pg) (T : List Tb) : Nat → Nat → List Pg
  | 0, _ => []
  | l + 1, b => (List.range 512).flatMap fun i => match pg L (vaI b l i) l with
    | some m => [m]
    | none => match kid first T (vaI b l i) l with
      | some _ => subP first L T l (vaI b l i)
      | none => []
/-- one entry's pages -/
def slotP (first : Nat) (L : List Pg) (T : List Tb) (l v : Nat) : List Pg := match pg L v l with
    | some m => [m]
    | none => match kid first T v l with
      | some _ => subP first L T l v
      | none => []
/-- those of the first k entries -/
def subK (first : Nat) (L : List Pg) (T : List Tb) (l b k : Nat) : List Pg := (List.range k).flatMap fun i => slotP first L T l (vaI b l i)
theorem subP_eq (first : Nat) (L : List Pg) (T : List Tb) (l b : Nat) : subP first L T (l + 1) b = subK first L T l b 512 := rfl
theorem subK_zero (first : Nat) (L : List Pg) (T : List Tb) (l b : Nat) : subK first L T l b 0 = [] := rfl
theorem subK_succ (first : Nat) (L : List Pg) (T : List Tb) (l b k : Nat) : subK first L T l b (k + 1) = subK first L T l b k ++ slotP first L T l (vaI b l k) := by
  unfold subK
  rw [List.range_succ, List.flatMap_append, List.flatMap_cons, List.flatMap_nil, List.append_nil]
section
variable {first fs : Nat} {M : Nat → Nat} {S : Tt}
/-- of a page its table is laid, and so are the tables above -/
theorem kid_of_low (h : RT first fs M S) {m : Pg} (hm : m ∈ S.L) {l : Nat} (hl : m.lv ≤ l) (h2 : l < 2) : kid first S.T m.va (l + 1) ≠ none := by
  obtain ⟨_, _, _, _, hpar⟩ := h.pagesOk m hm
  obtain ⟨x, hx, hxt⟩ := hpar (by omega)
  intro hn
  have ht := kid_none hn
  by_cases e : m.lv = l
  · subst e; exact absurd ht (tab_of_idx hx hxt)
  · obtain rfl : l = 1 := by omega
    have e0 : m.lv = 0 := by omega
    rw [e0] at hxt
    obtain ⟨h1, h2⟩ := isT_iff.1 hxt
    obtain ⟨_, _, _, _, hp2⟩ := h.tabsOk x hx
    obtain ⟨y, hy, hyt⟩ := hp2 h1
    rw [h2, isT_congr (show bas (bas m.va 1) 2 = bas m.va 2 from bas_bas (by omega))] at hyt
    exact absurd ht (tab_of_idx hy hyt)
theorem pg_self (h : RT first fs M S) {m : Pg} (hm : m ∈ S.L) {l v : Nat} (hl : m.lv = l) (hv : m.va = bas v l) : pg S.L v l = some m := by
  have hp : isP v l m = true := isP_iff.2 ⟨hl, hv⟩
  cases hq : pg S.L v l with
  | none => exact absurd (List.find?_eq_none.1 hq m hm) (by rw [hp]; simp)
  | some q =>
    obtain ⟨hqm, hql, hqv⟩ := pg_mem hq
    have hk : keyP q = keyP m := by unfold keyP; rw [hql, hqv, hl, hv]
    obtain ⟨i, hi, rfl⟩ := List.getElem_of_mem hqm
    obtain ⟨j, hj, rfl⟩ := List.getElem_of_mem hm
    by_cases e : i = j
    · subst e; rfl
    · have := nodup_ne h.uniqL (i := i) (j := j) (by simpa using hi) (by simpa using hj) e
      rw [List.getElem_map, List.getElem_map] at this
      exact absurd hk this
theorem mem_sub (h : RT first fs M S) : ∀ (l b : Nat), Stt b l → ∀ x, x ∈ subP first S.L S.T (l + 1) b ↔ x ∈ S.L ∧ x.lv ≤ l ∧ (l < 2 → bas x.va (l + 1) = b) := fun l => by
  induction l with
  | zero =>
    intro b hb x
    rw [subP_eq]
    unfold subK
    rw [List.mem_flatMap]
    constructor
    · rintro ⟨i, hi, hx⟩
      rw [List.mem_range] at hi
      obtain ⟨c1, _, b1, _, u1, _⟩ := vaI_ok hb hi
      unfold slotP at hx
      cases hp : pg S.L (vaI b 0 i) 0 with
      | none => rw [hp] at hx; simp [kid] at hx
      | some m =>
        rw [hp] at hx
        obtain rfl := List.mem_singleton.1 hx
        obtain ⟨hm, hlv, hva⟩ := pg_mem hp
        exact ⟨hm, by omega, fun h0 => by rw [hva, b1]; exact u1 h0⟩
    · rintro ⟨hm, hlv, hu⟩
      obtain ⟨v1, c1, b1, _, _⟩ := h.pagesOk x hm
      have e0 : x.lv = 0 := by omega
      rw [e0] at b1
      refine ⟨fld x.va (12 + 9 * 0) 9, List.mem_range.2 (fld9 x.va 0), ?_⟩
      rw [vaI_of hb c1 v1 hu, b1]
      unfold slotP
      rw [pg_self h hm e0 b1.symm]
      exact List.mem_singleton.2 rfl
  | succ l ih =>
    intro b hb x
    have hl := hb.1
    rw [subP_eq]
    unfold subK
    rw [List.mem_flatMap]
    constructor
    · rintro ⟨i, hi, hx⟩
      rw [List.mem_range] at hi
      obtain ⟨c1, _, b1, _, u1, _⟩ := vaI_ok hb hi
      unfold slotP at hx
      cases hp : pg S.L (vaI b (l + 1) i) (l + 1) with
      | none =>
        rw [hp] at hx
        dsimp only at hx
        cases hk : kid first S.T (vaI b (l + 1) i) (l + 1) with
        | none => rw [hk] at hx; simp at hx
        | some g =>
          rw [hk] at hx
          dsimp only at hx
          obtain ⟨q1, q2, q3⟩ := (ih _ (stt_kid hb hi) x).1 hx
          refine ⟨q1, by omega, fun h2 => ?_⟩
          have q3 := q3 (by omega)
          rw [← bas_bas (va := x.va) (show l + 1 ≤ l + 1 + 1 by omega), q3]
          exact u1 h2
      | some m =>
        rw [hp] at hx
        obtain rfl := List.mem_singleton.1 hx
        obtain ⟨hm, hlv, hva⟩ := pg_mem hp
        exact ⟨hm, by omega, fun h0 => by rw [hva, b1]; exact u1 h0⟩
    · rintro ⟨hm, hlv, hu⟩
      obtain ⟨v1, c1, b1, _, _⟩ := h.pagesOk x hm
      have hi := fld9 x.va (l + 1)
      refine ⟨fld x.va (12 + 9 * (l + 1)) 9, List.mem_range.2 hi, ?_⟩
      rw [vaI_of hb c1 v1 hu]
      by_cases e : x.lv = l + 1
      · rw [e] at b1
        rw [b1]
        unfold slotP
        rw [pg_self h hm e b1.symm]
        exact List.mem_singleton.2 rfl
      · have hk := kid_of_low h hm (l := l) (by omega) (by omega)
        have ek : kid first S.T (bas x.va (l + 1)) (l + 1) = kid first S.T x.va (l + 1) := kid_congr (bas_bas (Nat.le_refl _))
        unfold slotP
        have hpn : pg S.L (bas x.va (l + 1)) (l + 1) = none := by
          cases hq : pg S.L (bas x.va (l + 1)) (l + 1) with
          | none => rfl
          | some m => exact absurd ((ek.symm.trans (pg_no_kid h (by omega) hq))) hk
        rw [hpn]
        dsimp only
        rw [ek]
        cases hkk : kid first S.T x.va (l + 1) with
        | none => exact absurd hkk hk
        | some g =>
          dsimp only
          have hst : Stt (bas x.va (l + 1)) l := by
            have := stt_kid hb hi
            rw [vaI_of hb c1 v1 hu] at this
            exact this
          exact (ih _ hst x).2 ⟨hm, by omega, fun _ => rfl⟩
theorem sd_sub (h : RT first fs M S) : ∀ (l b : Nat), Stt b l → Sd (subP first S.L S.T (l + 1) b) := fun l => by
  induction l with
  | zero =>
    intro b hb
    rw [subP_eq]
    unfold subK Sd
    rw [List.pairwise_flatMap]
    constructor
    · intro i hi
      unfold slotP
      cases hp : pg S.L (vaI b 0 i) 0 with
      | none => exact List.Pairwise.nil
      | some m => exact List.pairwise_singleton _ _
    · refine List.Pairwise.imp_of_mem (fun {i j} hi hj hij x hx y hy => ?_) (List.pairwise_lt_range (n := 512))
      rw [List.mem_range] at hi hj
      have key : ∀ i, i < 512 → ∀ x, x ∈ slotP first S.L S.T 0 (vaI b 0 i) → bas x.va 0 = vaI b 0 i ∧ vaI b 0 i ≤ x.va := fun i hi x hx => by
        obtain ⟨_, _, b1, _⟩ := vaI_ok hb hi
        unfold slotP at hx
        cases hp : pg S.L (vaI b 0 i) 0 with
        | none => rw [hp] at hx; simp [kid] at hx
        | some m =>
          rw [hp] at hx
          obtain rfl := List.mem_singleton.1 hx
          obtain ⟨_, _, hva⟩ := pg_mem hp
          rw [hva, b1]; exact ⟨b1, Nat.le_refl _⟩
      have k1 := key i hi x hx
      have k2 := key j hj y hy
      have := vaI_lt hb hij hj k1.1
      omega
  | succ l ih =>
    intro b hb
    rw [subP_eq]
    unfold subK Sd
    rw [List.pairwise_flatMap]
    constructor
    · intro i hi
      rw [List.mem_range] at hi
      unfold slotP
      cases hp : pg S.L (vaI b (l + 1) i) (l + 1) with
      | none =>
        dsimp only
        cases hk : kid first S.T (vaI b (l + 1) i) (l + 1) with
        | none => exact List.Pairwise.nil
        | some g => exact ih _ (stt_kid hb hi)
      | some m => exact List.pairwise_singleton _ _
    · refine List.Pairwise.imp_of_mem (fun {i j} hi hj hij x hx y hy => ?_) (List.pairwise_lt_range (n := 512))
      rw [List.mem_range] at hi hj
      have key : ∀ i, i < 512 → ∀ x, x ∈ slotP first S.L S.T (l + 1) (vaI b (l + 1) i) → bas x.va (l + 1) = vaI b (l + 1) i ∧ vaI b (l + 1) i ≤ x.va := fun i hi x hx => by
        obtain ⟨_, _, b1, _⟩ := vaI_ok hb hi
        unfold slotP at hx
        cases hp : pg S.L (vaI b (l + 1) i) (l + 1) with
        | none =>
          rw [hp] at hx
          dsimp only at hx
          cases hk : kid first S.T (vaI b (l + 1) i) (l + 1) with
          | none => rw [hk] at hx; simp at hx
          | some g =>
            rw [hk] at hx
            dsimp only at hx
            have q := ((mem_sub h l _ (stt_kid hb hi) x).1 hx).2.2 (by have := hb.1; omega)
            exact ⟨q, by rw [← q]; exact bas_le _ _⟩
        | some m =>
          rw [hp] at hx
          obtain rfl := List.mem_singleton.1 hx
          obtain ⟨_, _, hva⟩ := pg_mem hp
          rw [hva, b1]; exact ⟨b1, Nat.le_refl _⟩
      have k1 := key i hi x hx
      have k2 := key j hj y hy
      have := vaI_lt hb hij hj k1.1
      omega
theorem va_differ (h : RT first fs M S) : ∀ a ∈ S.L, ∀ b ∈ S.L, a.va = b.va → a = b := fun a ha b hb e => by
  obtain ⟨va1, c1, b1, _, _⟩ := h.pagesOk a ha
  obtain ⟨vb1, d1, b2, _, _⟩ := h.pagesOk b hb
  have key : ∀ a b : Pg, a ∈ S.L → b ∈ S.L → a.va = b.va → a.lv < b.lv → b.lv < 3 → False := fun a b ha hb e hlt h3 => by
    have hk := kid_of_low h ha (l := b.lv - 1) (by omega) (by omega)
    rw [show b.lv - 1 + 1 = b.lv from by omega] at hk
    obtain ⟨_, _, b2, _, _⟩ := h.pagesOk b hb
    refine hk ?_
    rw [e]
    exact pg_no_kid h h3 (pg_self h hb rfl b2.symm)
  obtain ⟨_, _, _, m1, _⟩ := h.pagesOk a ha
  obtain ⟨_, _, _, m2, _⟩ := h.pagesOk b hb
  have l1 := (may_parts m1).1
  have l2 := (may_parts m2).1
  rcases Nat.lt_trichotomy a.lv b.lv with hlt | heq | hgt
  · exact (key a b ha hb e hlt l2).elim
  · have p1 := pg_self h ha rfl b1.symm
    have p2 := pg_self h hb (l := a.lv) (v := a.va) heq.symm (by rw [b1]; exact e.symm)
    rw [p1] at p2
    exact Option.some.inj p2
  · exact (key b a hb ha e.symm hgt l1).elim
/-- all pages, in their order -/
theorem sub_all (h : RT first fs M S) : subP first S.L S.T 3 0 = sortP S.L := by
  refine sd_unique (sd_sub h 2 0 stt_root) (sortP_sd ?_) (fun x => ?_)
  · rw [List.pairwise_iff_getElem]
    intro i j hi hj hij e
    have h1 := va_differ h _ (List.getElem_mem hi) _ (List.getElem_mem hj) e
    have := nodup_ne h.uniqL (i := i) (j := j) (by simpa using hi) (by simpa using hj) (by omega)
    rw [List.getElem_map, List.getElem_map] at this
    exact this (by rw [h1])
  · rw [mem_sub h 2 0 stt_root, mem_sortP]
    constructor
    · exact fun h => h.1
    · intro hx
      obtain ⟨_, _, _, m1, _⟩ := h.pagesOk x hx
      have := (may_parts m1).1
      exact ⟨hx, by omega, fun h => by omega⟩
end
end Go.Proofs.Ytdakfgefnapglaa
