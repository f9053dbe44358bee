/-
  What the functions of the document's answer for layer 4 (package runrigref04) answer and leave in memory, by exact numbers: contracts over the translation. Each says its own conditions.
-/
import Derived.Test.YtbfdanbepdefnaaSumA
import Derived.Test.YtbfdanbepdefnaaSumC
import Derived.Test.YtbfdanbepdefnaaBits04
import Derived.Deep.RegionHeld3
namespace Go.Proofs.Ytbfdanbepdefnaa
open Go.RowKit Ieee
set_option linter.unusedVariables false
set_option linter.unusedSimpArgs false
attribute [local go_sem] setCell_drewN alloc_drewN

/-- what sums are made of -/
def Mid : Datum → Prop
  | .number _ m e => bl m ≤ 48 ∧ -300 ≤ e ∧ e ≤ 300 ∧ (m = 0 → e ≤ 100)
  | _ => True
theorem Mid.okz {d : Datum} (h : Mid d) : Okz d := by
  cases d with
  | number s m e => exact ⟨Nat.lt_of_lt_of_le (lt_of_bl h.1) (by decide), by have := h.2.1; omega, by have := h.2.2.1; omega, h.2.2.2⟩
  | _ => trivial
theorem rsum_any (d d' : Datum) (w : World) (h : Mid d) (h' : Mid d') : Calls Try.prog 29 #[dv d, dv d'] w (SumTo (told (d.sum d')) w) := by
  cases d with
  | nan s u =>
    cases d' with
    | nan t v => exact (rsum_qq s t 0 0 0 0 w).mono fun r w' h => ⟨.nan false 1, h.1, trivial, rfl, h.2⟩
    | infinity t => exact (rsum_qi s t 0 0 0 0 w).mono fun r w' h => ⟨.nan false 1, h.1, trivial, rfl, h.2⟩
    | number t n f => exact (rsum_qn s t 0 n 0 f w).mono fun r w' h => ⟨.nan false 1, h.1, trivial, rfl, h.2⟩
  | infinity s =>
    cases d' with
    | nan t v => exact (rsum_iq s t 0 0 0 0 w).mono fun r w' h => ⟨.nan false 1, h.1, trivial, rfl, h.2⟩
    | infinity t =>
      by_cases hst : s = t
      · subst hst
        exact (rsum_ii s s 0 0 0 0 w rfl).mono fun r w' h => ⟨.infinity s, h.1, trivial, by rw [show (Datum.infinity s).sum (.infinity s) = some (.infinity s) from if_pos rfl]; rfl, h.2⟩
      · exact (rsum_ii1 s t 0 0 0 0 w hst).mono fun r w' h => ⟨.nan false 1, h.1, trivial, by rw [show (Datum.infinity s).sum (.infinity t) = none from if_neg hst]; rfl, h.2⟩
    | number t n f => exact (rsum_in s t 0 n 0 f w).mono fun r w' h => ⟨.infinity s, h.1, trivial, rfl, h.2⟩
  | number s m e =>
    cases d' with
    | nan t v => exact (rsum_nq s t m 0 e 0 w).mono fun r w' h => ⟨.nan false 1, h.1, trivial, rfl, h.2⟩
    | infinity t => exact (rsum_ni s t m 0 e 0 w).mono fun r w' h => ⟨.infinity t, h.1, trivial, rfl, h.2⟩
    | number t n f =>
      have hz := h.okz; have hz' := h'.okz
      obtain ⟨h1, h2, h3, h4⟩ := h
      obtain ⟨k1, k2, k3, k4⟩ := h'
      by_cases hm : m = 0
      · by_cases hn : n = 0
        · have e1 : told ((Datum.number s m e).sum (.number t n f)) = bitsD (.number (s && t) 0 0) := by subst hm; subst hn; exact told_noughts s t e f h2 k2
          rw [e1]
          cases s
          · exact (rsum_zzf t m n e f w hm hn).mono fun r w' h => ⟨.number (false && t) 0 0, h.1, ⟨by decide, by decide, by decide, fun _ => by decide⟩, rfl, h.2⟩
          · exact (rsum_zzt t m n e f w hm hn).mono fun r w' h => ⟨.number (true && t) 0 0, h.1, ⟨by decide, by decide, by decide, fun _ => by decide⟩, rfl, h.2⟩
        · have e1 : told ((Datum.number s m e).sum (.number t n f)) = bitsD (.number t n f) := by subst hm; exact told_nought s t n e f hn k1 h2 k2
          rw [e1]
          exact (rsum_zn s t m n e f w hm hn).mono fun r w' h => ⟨.number t n f, h.1, hz', rfl, h.2⟩
      · by_cases hn : n = 0
        · have e1 : told ((Datum.number s m e).sum (.number t n f)) = bitsD (.number s m e) := by subst hn; rw [sum_comm]; exact told_nought t s m f e hm h1 k2 h2
          rw [e1]
          exact (rsum_nz s t m n e f w hm hn).mono fun r w' h => ⟨.number s m e, h.1, hz, rfl, h.2⟩
        · rcases Int.lt_or_le ((bl m : Int) + e) (bl n + f) with hlt | hge
          · rcases Int.lt_or_le e (f - (61 - bl n : Nat)) with ha | ha
            · exact rsum_D t s n m f e w hn hm k1 h1 k2 k3 h2 h3 hlt ha
            · exact rsum_C t s n m f e w hn hm k1 h1 k2 k3 h2 h3 hlt ha
          · rcases Int.lt_or_le f (e - (61 - bl m : Nat)) with ha | ha
            · exact rsum_B s t m n e f w hm hn h1 k1 h2 h3 k2 k3 hge ha
            · exact rsum_A s t m n e f w hm hn h1 k1 h2 h3 k2 k3 hge ha
theorem bitsD_lt (z : Datum) : bitsD z < 4294967296 := by
  cases z with
  | number s m e => exact Ieee.Format.nearest_lt Ieee.single s m e
  | infinity s => cases s <;> decide
  | nan s t => show 2143289344 < 4294967296; decide

theorem wrap_u64c (x : Int) : IntKind.u64.wrap x = x % 18446744073709551616 := by simp [IntKind.wrap, IntKind.signed, IntKind.bits]
theorem rword_any (a b : Datum) (w : World) (ha : Okz a) (hb : Okz b) : Calls Try.prog 28 #[dv a, dv b] w fun r w' => r = .returned (.int .u64 (bitsD a + 4294967296 * bitsD b : Nat)) ∧ Below w.heap.size w w' := by
  have c1 := fun w => rbits_any a w ha
  have c2 := fun w => rbits_any b w hb
  have l1 := bitsD_lt a
  have l2 := bitsD_lt b
  generalize bitsD a = x at c1 l1 ⊢
  generalize bitsD b = y at c2 l2 ⊢
  have hs : (x : Int) + 4294967296 * y ≤ 18446744073709551615 := by omega
  have C1 := Lib.hid c1; have C2 := Lib.hid c2
  clear c1 c2
  unfold dv at C1 C2 ⊢
  go_enter Try.func28, Try.ntmps28
  go_wp2
  refine wp_region_held_drew (S := fun w' => (w'.cell? ⟨w.heap.size, 0, none⟩ = some (.bool (dS a)) ∧ w'.cell? ⟨w.heap.size, 1, none⟩ = some (.int .u64 (dM a : Nat)) ∧ w'.cell? ⟨w.heap.size, 2, none⟩ = some (.int .i64 (dE a)) ∧ w'.cell? ⟨w.heap.size, 3, none⟩ = some (.int .i64 (dK a))) ∧ w'.cell? ⟨w.heap.size + 1, 0, none⟩ = some (.bool (dS b)) ∧ w'.cell? ⟨w.heap.size + 1, 1, none⟩ = some (.int .u64 (dM b : Nat)) ∧ w'.cell? ⟨w.heap.size + 1, 2, none⟩ = some (.int .i64 (dE b)) ∧ w'.cell? ⟨w.heap.size + 1, 3, none⟩ = some (.int .i64 (dK b))) (by kernel_rfl) (by simp [go_sem]) (fun hHeld => ?_)
  simp only [List.size_toArray, List.length_cons, List.length_nil, Nat.reduceAdd]
  rw [show Array.replicate 7 false = [false, false, false, false, false, false, false].toArray from rfl]
  refine wpAnyH_take (i := 0) (v := ?_) rfl (by kernel_rfl) (by kernel_rfl) (by kernel_rfl) (fun _ _ _ h => h) (Or.inl ⟨by rfl, ?yldq⟩) (by assumption) ?_
  case yldq => (intro w hSw; (try dsimp only at hSw); go_simp; try with_reducible rfl)
  try simp only [Act.put, List.setIfInBounds_toArray, List.set_cons_zero, List.set_cons_succ, List.getElem_toArray, List.getElem_cons_succ, List.getElem_cons_zero]
  refine wpAnyH_take (i := 2) (v := ?_) rfl (by kernel_rfl) (by kernel_rfl) (by kernel_rfl) (fun _ _ _ h => h) (Or.inl ⟨by rfl, ?yldq⟩) (by assumption) ?_
  case yldq => (intro w hSw; (try dsimp only at hSw); go_simp; try with_reducible rfl)
  try simp only [Act.put, List.setIfInBounds_toArray, List.set_cons_zero, List.set_cons_succ, List.getElem_toArray, List.getElem_cons_succ, List.getElem_cons_zero]
  refine wpAnyH_ready (rs := [1]) (by kernel_rfl) (by simp) ?_
  refine AllReadyH.cons rfl (fun K hK => ?_) AllReadyH.nil
  go_simp
  refine (C1.out _).mono ?_
  rintro e w1 ⟨rfl, hb1⟩
  obtain ⟨hbc1, hbf1⟩ := bcell hb1
  have hz1 : w.heap.size + 1 < w1.heap.size := by have := hb1.size; simp at this; omega
  have hz0 : w.heap.size < w1.heap.size := by omega
  have HB1 := Lib.hid hb1; clear hb1
  refine hK.out _ _ (by simp [go_sem, hbc1]) (fun _ => ?_)
  clear hK K
  refine wpAnyH_ready (rs := [3]) (by kernel_rfl) (by simp) ?_
  refine AllReadyH.cons rfl (fun K hK => ?_) AllReadyH.nil
  go_simp
  refine (C2.out _).mono ?_
  rintro e w2 ⟨rfl, hb2⟩
  obtain ⟨hbc2, hbf2⟩ := bcell hb2
  have HB2 := Lib.hid hb2; clear hb2
  refine hK.out _ _ (by simp [go_sem, hbc1, hbc2, hz0, hz1]) (fun _ => ?_)
  clear hK K
  refine wpAnyH_take (i := 4) (v := ?_) rfl (by kernel_rfl) (by kernel_rfl) (by kernel_rfl) (fun _ _ _ h => h) (Or.inl ⟨by rfl, ?yldq⟩) (by assumption) ?_
  case yldq => (intro w hSw; (try dsimp only at hSw); go_simp; try with_reducible rfl)
  try simp only [Act.put, List.setIfInBounds_toArray, List.set_cons_zero, List.set_cons_succ, List.getElem_toArray, List.getElem_cons_succ, List.getElem_cons_zero]
  refine wpAnyH_take (i := 5) (v := ?_) rfl (by kernel_rfl) (by kernel_rfl) (by kernel_rfl) (fun _ _ _ h => h) (Or.inl ⟨by rfl, ?yldq⟩) (by assumption) ?_
  case yldq => (intro w hSw; (try dsimp only at hSw); go_simp; try with_reducible rfl)
  try simp only [Act.put, List.setIfInBounds_toArray, List.set_cons_zero, List.set_cons_succ, List.getElem_toArray, List.getElem_cons_succ, List.getElem_cons_zero]
  refine wpAnyH_take (i := 6) (v := ?_) rfl (by kernel_rfl) (by kernel_rfl) (by kernel_rfl) (fun _ _ _ h => h) (Or.inl ⟨by rfl, ?yldq⟩) (by assumption) ?_
  case yldq => (intro w hSw; (try dsimp only at hSw); go_simp; try with_reducible rfl)
  try simp only [Act.put, List.setIfInBounds_toArray, List.set_cons_zero, List.set_cons_succ, List.getElem_toArray, List.getElem_cons_succ, List.getElem_cons_zero]
  refine wpAnyH_done (by kernel_rfl) ?_ _
  clear hHeld
  go_wp2
  go_ret
  refine ⟨ret_int (by rw [wrap_u64c, wrap_u64c]; omega), ?_⟩
  refine Below.trans ?_ (HB2.out.mono (by omega))
  refine Below.trans ?_ (HB1.out.mono (by simp <;> omega))
  repeat (first | (with_reducible refine Below.setCell ?_ ?ybel _; case ybel => (first | omega | (simp <;> omega))) | (with_reducible refine Below.alloc ?_ ?ybel _; case ybel => (first | omega | (simp <;> omega))) | (with_reducible refine below_drewNs ?_ _) | (with_reducible refine Below.drew ?_) | (with_reducible exact Below.refl _ _))
def Low : Datum → Prop
  | .number _ m e => m = 0 → e ≤ -100
  | _ => True
theorem Low.read (x : Nat) : Low (Ieee.single.read x) := by
  unfold Format.read
  simp only [single_least]
  rw [show Ieee.single.signWeight = 2147483648 from by decide, show Ieee.single.binade = 8388608 from by decide, show Ieee.single.infRung = 2139095040 from by decide]
  split
  · intro _; decide
  · split
    · intro h; omega
    · split <;> trivial
theorem Mid.read (x : Nat) : Mid (Ieee.single.read x) := by
  rcases read_single x with ⟨s, u, h⟩ | ⟨s, h⟩ | ⟨s, m, e, h, k⟩
  · rw [h]; trivial
  · rw [h]; trivial
  · rw [h]
    refine ⟨Nat.le_trans (bl_le (k := 24) k.1) (by decide), by have := k.2.1; omega, by have := k.2.2; omega, fun h0 => ?_⟩
    have := Low.read x
    rw [h] at this
    have := this h0
    omega
theorem Mid.op {d : Datum} (h : Mid d) : Mid d.opposite := by cases d <;> exact h
/-- the low part of a word, and the high one -/
def lo (w : Nat) : Datum := Ieee.single.read (w % 4294967296)
def hi (w : Nat) : Datum := Ieee.single.read (w / 4294967296)
/-- a word of two parts -/
def cw (x y : Nat) : Nat := x + 4294967296 * y
theorem prodD_cases (d d' : Datum) : (d.product d' = none ∧ prodD d d' = .nan (dS d ^^ dS d') 1) ∨ d.product d' = some (prodD d d') := by
  unfold prodD
  cases h : d.product d' with
  | none => exact .inl ⟨rfl, rfl⟩
  | some z => exact .inr rfl
theorem Mid.prod {d d' : Datum} (h : Sh32 d) (h' : Sh32 d') (k : Low d) (k' : Low d') : Mid (prodD d d') := by
  rcases h with ⟨s, u, rfl⟩ | ⟨s, rfl⟩ | ⟨s, m, e, rfl, h⟩ <;> rcases h' with ⟨t, v, rfl⟩ | ⟨t, rfl⟩ | ⟨t, n, f, rfl, h'⟩
  · trivial
  · trivial
  · trivial
  · trivial
  · trivial
  · by_cases h0 : n = 0
    · unfold prodD; rw [show (Datum.infinity s).product (.number t n f) = none from if_pos h0]; trivial
    · unfold prodD; rw [show (Datum.infinity s).product (.number t n f) = some (.infinity (s ^^ t)) from if_neg h0]; trivial
  · trivial
  · by_cases h0 : m = 0
    · unfold prodD; rw [show (Datum.number s m e).product (.infinity t) = none from if_pos h0]; trivial
    · unfold prodD; rw [show (Datum.number s m e).product (.infinity t) = some (.infinity (t ^^ s)) from if_neg h0]; trivial
  · obtain ⟨a1, a2, a3⟩ := h
    obtain ⟨b1, b2, b3⟩ := h'
    refine ⟨bl_le ?_, by omega, by omega, fun h0 => ?_⟩
    · exact Nat.lt_of_le_of_lt (Nat.mul_le_mul (show m ≤ 16777215 by omega) (show n ≤ 16777215 by omega)) (by decide)
    · rcases Nat.mul_eq_zero.1 h0 with h0 | h0
      · have := k h0; omega
      · have := k' h0; omega
theorem rlow (x : Nat) (w : World) (h : x < 18446744073709551616) : Calls Try.prog 30 #[.int .u64 x] w fun r w' => r = .returned (dv (lo x)) ∧ Below w.heap.size w w' := rlow_any x w h
theorem rhigh (x : Nat) (w : World) (h : x < 18446744073709551616) : Calls Try.prog 31 #[.int .u64 x] w fun r w' => r = .returned (dv (hi x)) ∧ Below w.heap.size w w' := rhigh_any x w h
theorem lo_sh (x : Nat) : Sh32 (lo x) := sh_read _
theorem hi_sh (x : Nat) : Sh32 (hi x) := sh_read _
theorem lo_mid (x : Nat) : Mid (lo x) := Mid.read _
theorem hi_mid (x : Nat) : Mid (hi x) := Mid.read _
theorem lo_low (x : Nat) : Low (lo x) := Low.read _
theorem hi_low (x : Nat) : Low (hi x) := Low.read _
/-- a sum of products as the document has it -/
def toldP (p q : Datum) : Nat := told (p.sum q)
set_option maxHeartbeats 1000000 in
theorem radd_any (a b : Nat) (ha : a < 18446744073709551616) (hb : b < 18446744073709551616) (w : World) : Calls Try.prog 9 #[.int .u64 (a : Int), .int .u64 (b : Int)] w fun r w' => r = .returned (.int .u64 (cw (told ((lo a).sum (lo b))) (told ((hi a).sum (hi b))) : Nat)) ∧ Below w.heap.size w w' := by
  go_enter Try.func9, Try.ntmps9
  go_wp2_with fail
  refine (rlow a _ ha).mono ?_
  rintro x w1 ⟨rfl, hb1⟩
  have HB1 := Lib.hid hb1
  have s1 := hb1.size
  try simp at s1
  clear hb1
  go_wp2_with fail
  refine (rlow b _ hb).mono ?_
  rintro x w2 ⟨rfl, hb2⟩
  have HB2 := Lib.hid hb2
  have s2 := hb2.size
  try simp at s2
  clear hb2
  go_wp2_with fail
  refine (rsum_any _ _ _ (lo_mid a) (lo_mid b)).mono ?_
  rintro x w3 ⟨z3, rfl, ho3, ht3, hb3⟩
  have HT3 := Lib.hid ht3; clear ht3
  have HB3 := Lib.hid hb3
  have s3 := hb3.size
  try simp at s3
  clear hb3
  go_wp2_with fail
  refine (rhigh a _ ha).mono ?_
  rintro x w4 ⟨rfl, hb4⟩
  have HB4 := Lib.hid hb4
  have s4 := hb4.size
  try simp at s4
  clear hb4
  go_wp2_with fail
  refine (rhigh b _ hb).mono ?_
  rintro x w5 ⟨rfl, hb5⟩
  have HB5 := Lib.hid hb5
  have s5 := hb5.size
  try simp at s5
  clear hb5
  go_wp2_with fail
  refine (rsum_any _ _ _ (hi_mid a) (hi_mid b)).mono ?_
  rintro x w6 ⟨z6, rfl, ho6, ht6, hb6⟩
  have HT6 := Lib.hid ht6; clear ht6
  have HB6 := Lib.hid hb6
  have s6 := hb6.size
  try simp at s6
  clear hb6
  go_wp2_with fail
  refine (rword_any _ _ _ ho3 ho6).mono ?_
  rintro x w7 ⟨rfl, hb7⟩
  have HB7 := Lib.hid hb7
  have s7 := hb7.size
  try simp at s7
  clear hb7
  go_wp2
  go_ret
  refine ⟨by rw [← HT3.out, ← HT6.out]; rfl, ?_⟩
  refine Below.trans ?_ (HB7.out.mono (by (try simp) <;> omega))
  repeat (first | (with_reducible refine Below.setCell ?_ ?ybel _; case ybel => (first | omega | (simp <;> omega))) | (with_reducible refine Below.alloc ?_ ?ybel _; case ybel => (first | omega | (simp <;> omega))) | (with_reducible refine below_drewNs ?_ _) | (with_reducible refine Below.drew ?_))
  refine Below.trans ?_ (HB6.out.mono (by (try simp) <;> omega))
  repeat (first | (with_reducible refine Below.setCell ?_ ?ybel _; case ybel => (first | omega | (simp <;> omega))) | (with_reducible refine Below.alloc ?_ ?ybel _; case ybel => (first | omega | (simp <;> omega))) | (with_reducible refine below_drewNs ?_ _) | (with_reducible refine Below.drew ?_))
  refine Below.trans ?_ (HB5.out.mono (by (try simp) <;> omega))
  repeat (first | (with_reducible refine Below.setCell ?_ ?ybel _; case ybel => (first | omega | (simp <;> omega))) | (with_reducible refine Below.alloc ?_ ?ybel _; case ybel => (first | omega | (simp <;> omega))) | (with_reducible refine below_drewNs ?_ _) | (with_reducible refine Below.drew ?_))
  refine Below.trans ?_ (HB4.out.mono (by (try simp) <;> omega))
  repeat (first | (with_reducible refine Below.setCell ?_ ?ybel _; case ybel => (first | omega | (simp <;> omega))) | (with_reducible refine Below.alloc ?_ ?ybel _; case ybel => (first | omega | (simp <;> omega))) | (with_reducible refine below_drewNs ?_ _) | (with_reducible refine Below.drew ?_))
  refine Below.trans ?_ (HB3.out.mono (by (try simp) <;> omega))
  repeat (first | (with_reducible refine Below.setCell ?_ ?ybel _; case ybel => (first | omega | (simp <;> omega))) | (with_reducible refine Below.alloc ?_ ?ybel _; case ybel => (first | omega | (simp <;> omega))) | (with_reducible refine below_drewNs ?_ _) | (with_reducible refine Below.drew ?_))
  refine Below.trans ?_ (HB2.out.mono (by (try simp) <;> omega))
  repeat (first | (with_reducible refine Below.setCell ?_ ?ybel _; case ybel => (first | omega | (simp <;> omega))) | (with_reducible refine Below.alloc ?_ ?ybel _; case ybel => (first | omega | (simp <;> omega))) | (with_reducible refine below_drewNs ?_ _) | (with_reducible refine Below.drew ?_))
  refine Below.trans ?_ (HB1.out.mono (by (try simp) <;> omega))
  repeat (first | (with_reducible refine Below.setCell ?_ ?ybel _; case ybel => (first | omega | (simp <;> omega))) | (with_reducible refine Below.alloc ?_ ?ybel _; case ybel => (first | omega | (simp <;> omega))) | (with_reducible refine below_drewNs ?_ _) | (with_reducible refine Below.drew ?_))
  exact Below.refl _ _
set_option maxHeartbeats 1000000 in
theorem rsub_any (a b : Nat) (ha : a < 18446744073709551616) (hb : b < 18446744073709551616) (w : World) : Calls Try.prog 11 #[.int .u64 (a : Int), .int .u64 (b : Int)] w fun r w' => r = .returned (.int .u64 (cw (told ((lo a).sum (lo b).opposite)) (told ((hi a).sum (hi b).opposite)) : Nat)) ∧ Below w.heap.size w w' := by
  go_enter Try.func11, Try.ntmps11
  go_wp2_with fail
  refine (rlow a _ ha).mono ?_
  rintro x w1 ⟨rfl, hb1⟩
  have HB1 := Lib.hid hb1
  have s1 := hb1.size
  try simp at s1
  clear hb1
  go_wp2_with fail
  refine (rlow b _ hb).mono ?_
  rintro x w2 ⟨rfl, hb2⟩
  have HB2 := Lib.hid hb2
  have s2 := hb2.size
  try simp at s2
  clear hb2
  go_wp2_with fail
  refine (rminus_any _ _).mono ?_
  rintro x w3 ⟨rfl, hb3⟩
  have HB3 := Lib.hid hb3
  have s3 := hb3.size
  try simp at s3
  clear hb3
  go_wp2_with fail
  refine (rsum_any _ _ _ (lo_mid a) (lo_mid b).op).mono ?_
  rintro x w4 ⟨z4, rfl, ho4, ht4, hb4⟩
  have HT4 := Lib.hid ht4; clear ht4
  have HB4 := Lib.hid hb4
  have s4 := hb4.size
  try simp at s4
  clear hb4
  go_wp2_with fail
  refine (rhigh a _ ha).mono ?_
  rintro x w5 ⟨rfl, hb5⟩
  have HB5 := Lib.hid hb5
  have s5 := hb5.size
  try simp at s5
  clear hb5
  go_wp2_with fail
  refine (rhigh b _ hb).mono ?_
  rintro x w6 ⟨rfl, hb6⟩
  have HB6 := Lib.hid hb6
  have s6 := hb6.size
  try simp at s6
  clear hb6
  go_wp2_with fail
  refine (rminus_any _ _).mono ?_
  rintro x w7 ⟨rfl, hb7⟩
  have HB7 := Lib.hid hb7
  have s7 := hb7.size
  try simp at s7
  clear hb7
  go_wp2_with fail
  refine (rsum_any _ _ _ (hi_mid a) (hi_mid b).op).mono ?_
  rintro x w8 ⟨z8, rfl, ho8, ht8, hb8⟩
  have HT8 := Lib.hid ht8; clear ht8
  have HB8 := Lib.hid hb8
  have s8 := hb8.size
  try simp at s8
  clear hb8
  go_wp2_with fail
  refine (rword_any _ _ _ ho4 ho8).mono ?_
  rintro x w9 ⟨rfl, hb9⟩
  have HB9 := Lib.hid hb9
  have s9 := hb9.size
  try simp at s9
  clear hb9
  go_wp2
  go_ret
  refine ⟨by rw [← HT4.out, ← HT8.out]; rfl, ?_⟩
  refine Below.trans ?_ (HB9.out.mono (by (try simp) <;> omega))
  repeat (first | (with_reducible refine Below.setCell ?_ ?ybel _; case ybel => (first | omega | (simp <;> omega))) | (with_reducible refine Below.alloc ?_ ?ybel _; case ybel => (first | omega | (simp <;> omega))) | (with_reducible refine below_drewNs ?_ _) | (with_reducible refine Below.drew ?_))
  refine Below.trans ?_ (HB8.out.mono (by (try simp) <;> omega))
  repeat (first | (with_reducible refine Below.setCell ?_ ?ybel _; case ybel => (first | omega | (simp <;> omega))) | (with_reducible refine Below.alloc ?_ ?ybel _; case ybel => (first | omega | (simp <;> omega))) | (with_reducible refine below_drewNs ?_ _) | (with_reducible refine Below.drew ?_))
  refine Below.trans ?_ (HB7.out.mono (by (try simp) <;> omega))
  repeat (first | (with_reducible refine Below.setCell ?_ ?ybel _; case ybel => (first | omega | (simp <;> omega))) | (with_reducible refine Below.alloc ?_ ?ybel _; case ybel => (first | omega | (simp <;> omega))) | (with_reducible refine below_drewNs ?_ _) | (with_reducible refine Below.drew ?_))
  refine Below.trans ?_ (HB6.out.mono (by (try simp) <;> omega))
  repeat (first | (with_reducible refine Below.setCell ?_ ?ybel _; case ybel => (first | omega | (simp <;> omega))) | (with_reducible refine Below.alloc ?_ ?ybel _; case ybel => (first | omega | (simp <;> omega))) | (with_reducible refine below_drewNs ?_ _) | (with_reducible refine Below.drew ?_))
  refine Below.trans ?_ (HB5.out.mono (by (try simp) <;> omega))
  repeat (first | (with_reducible refine Below.setCell ?_ ?ybel _; case ybel => (first | omega | (simp <;> omega))) | (with_reducible refine Below.alloc ?_ ?ybel _; case ybel => (first | omega | (simp <;> omega))) | (with_reducible refine below_drewNs ?_ _) | (with_reducible refine Below.drew ?_))
  refine Below.trans ?_ (HB4.out.mono (by (try simp) <;> omega))
  repeat (first | (with_reducible refine Below.setCell ?_ ?ybel _; case ybel => (first | omega | (simp <;> omega))) | (with_reducible refine Below.alloc ?_ ?ybel _; case ybel => (first | omega | (simp <;> omega))) | (with_reducible refine below_drewNs ?_ _) | (with_reducible refine Below.drew ?_))
  refine Below.trans ?_ (HB3.out.mono (by (try simp) <;> omega))
  repeat (first | (with_reducible refine Below.setCell ?_ ?ybel _; case ybel => (first | omega | (simp <;> omega))) | (with_reducible refine Below.alloc ?_ ?ybel _; case ybel => (first | omega | (simp <;> omega))) | (with_reducible refine below_drewNs ?_ _) | (with_reducible refine Below.drew ?_))
  refine Below.trans ?_ (HB2.out.mono (by (try simp) <;> omega))
  repeat (first | (with_reducible refine Below.setCell ?_ ?ybel _; case ybel => (first | omega | (simp <;> omega))) | (with_reducible refine Below.alloc ?_ ?ybel _; case ybel => (first | omega | (simp <;> omega))) | (with_reducible refine below_drewNs ?_ _) | (with_reducible refine Below.drew ?_))
  refine Below.trans ?_ (HB1.out.mono (by (try simp) <;> omega))
  repeat (first | (with_reducible refine Below.setCell ?_ ?ybel _; case ybel => (first | omega | (simp <;> omega))) | (with_reducible refine Below.alloc ?_ ?ybel _; case ybel => (first | omega | (simp <;> omega))) | (with_reducible refine below_drewNs ?_ _) | (with_reducible refine Below.drew ?_))
  exact Below.refl _ _
set_option maxHeartbeats 1000000 in
theorem rconj_any (a : Nat) (ha : a < 18446744073709551616) (w : World) : Calls Try.prog 17 #[.int .u64 (a : Int)] w fun r w' => r = .returned (.int .u64 (cw (bitsD (lo a)) (bitsD (hi a).opposite) : Nat)) ∧ Below w.heap.size w w' := by
  go_enter Try.func17, Try.ntmps17
  go_wp2_with fail
  refine (rlow a _ ha).mono ?_
  rintro x w1 ⟨rfl, hb1⟩
  have HB1 := Lib.hid hb1
  have s1 := hb1.size
  try simp at s1
  clear hb1
  go_wp2_with fail
  refine (rhigh a _ ha).mono ?_
  rintro x w2 ⟨rfl, hb2⟩
  have HB2 := Lib.hid hb2
  have s2 := hb2.size
  try simp at s2
  clear hb2
  go_wp2_with fail
  refine (rminus_any _ _).mono ?_
  rintro x w3 ⟨rfl, hb3⟩
  have HB3 := Lib.hid hb3
  have s3 := hb3.size
  try simp at s3
  clear hb3
  go_wp2_with fail
  refine (rword_any _ _ _ (lo_mid a).okz (hi_mid a).op.okz).mono ?_
  rintro x w4 ⟨rfl, hb4⟩
  have HB4 := Lib.hid hb4
  have s4 := hb4.size
  try simp at s4
  clear hb4
  go_wp2
  go_ret
  refine ⟨rfl, ?_⟩
  refine Below.trans ?_ (HB4.out.mono (by (try simp) <;> omega))
  repeat (first | (with_reducible refine Below.setCell ?_ ?ybel _; case ybel => (first | omega | (simp <;> omega))) | (with_reducible refine Below.alloc ?_ ?ybel _; case ybel => (first | omega | (simp <;> omega))) | (with_reducible refine below_drewNs ?_ _) | (with_reducible refine Below.drew ?_))
  refine Below.trans ?_ (HB3.out.mono (by (try simp) <;> omega))
  repeat (first | (with_reducible refine Below.setCell ?_ ?ybel _; case ybel => (first | omega | (simp <;> omega))) | (with_reducible refine Below.alloc ?_ ?ybel _; case ybel => (first | omega | (simp <;> omega))) | (with_reducible refine below_drewNs ?_ _) | (with_reducible refine Below.drew ?_))
  refine Below.trans ?_ (HB2.out.mono (by (try simp) <;> omega))
  repeat (first | (with_reducible refine Below.setCell ?_ ?ybel _; case ybel => (first | omega | (simp <;> omega))) | (with_reducible refine Below.alloc ?_ ?ybel _; case ybel => (first | omega | (simp <;> omega))) | (with_reducible refine below_drewNs ?_ _) | (with_reducible refine Below.drew ?_))
  refine Below.trans ?_ (HB1.out.mono (by (try simp) <;> omega))
  repeat (first | (with_reducible refine Below.setCell ?_ ?ybel _; case ybel => (first | omega | (simp <;> omega))) | (with_reducible refine Below.alloc ?_ ?ybel _; case ybel => (first | omega | (simp <;> omega))) | (with_reducible refine below_drewNs ?_ _) | (with_reducible refine Below.drew ?_))
  exact Below.refl _ _
set_option maxHeartbeats 1000000 in
theorem rplain_any (a : Nat) (ha : a < 18446744073709551616) (w : World) : Calls Try.prog 20 #[.int .u64 (a : Int)] w fun r w' => r = .returned (.int .u64 (cw (bitsD (lo a)) (bitsD (hi a)) : Nat)) ∧ Below w.heap.size w w' := by
  go_enter Try.func20, Try.ntmps20
  go_wp2_with fail
  refine (rlow a _ ha).mono ?_
  rintro x w1 ⟨rfl, hb1⟩
  have HB1 := Lib.hid hb1
  have s1 := hb1.size
  try simp at s1
  clear hb1
  go_wp2_with fail
  refine (rhigh a _ ha).mono ?_
  rintro x w2 ⟨rfl, hb2⟩
  have HB2 := Lib.hid hb2
  have s2 := hb2.size
  try simp at s2
  clear hb2
  go_wp2_with fail
  refine (rword_any _ _ _ (lo_mid a).okz (hi_mid a).okz).mono ?_
  rintro x w3 ⟨rfl, hb3⟩
  have HB3 := Lib.hid hb3
  have s3 := hb3.size
  try simp at s3
  clear hb3
  go_wp2
  go_ret
  refine ⟨rfl, ?_⟩
  refine Below.trans ?_ (HB3.out.mono (by (try simp) <;> omega))
  repeat (first | (with_reducible refine Below.setCell ?_ ?ybel _; case ybel => (first | omega | (simp <;> omega))) | (with_reducible refine Below.alloc ?_ ?ybel _; case ybel => (first | omega | (simp <;> omega))) | (with_reducible refine below_drewNs ?_ _) | (with_reducible refine Below.drew ?_))
  refine Below.trans ?_ (HB2.out.mono (by (try simp) <;> omega))
  repeat (first | (with_reducible refine Below.setCell ?_ ?ybel _; case ybel => (first | omega | (simp <;> omega))) | (with_reducible refine Below.alloc ?_ ?ybel _; case ybel => (first | omega | (simp <;> omega))) | (with_reducible refine below_drewNs ?_ _) | (with_reducible refine Below.drew ?_))
  refine Below.trans ?_ (HB1.out.mono (by (try simp) <;> omega))
  repeat (first | (with_reducible refine Below.setCell ?_ ?ybel _; case ybel => (first | omega | (simp <;> omega))) | (with_reducible refine Below.alloc ?_ ?ybel _; case ybel => (first | omega | (simp <;> omega))) | (with_reducible refine below_drewNs ?_ _) | (with_reducible refine Below.drew ?_))
  exact Below.refl _ _
set_option maxHeartbeats 1000000 in
theorem rnorm_any (a : Nat) (ha : a < 18446744073709551616) (w : World) : Calls Try.prog 15 #[.int .u64 (a : Int)] w fun r w' => r = .returned (.int .u64 (cw (told ((prodD (lo a) (lo a)).sum (prodD (hi a) (hi a)))) 0 : Nat)) ∧ Below w.heap.size w w' := by
  go_enter Try.func15, Try.ntmps15
  go_wp2_with fail
  refine (rlow a _ ha).mono ?_
  rintro x w1 ⟨rfl, hb1⟩
  have HB1 := Lib.hid hb1
  have s1 := hb1.size
  try simp at s1
  clear hb1
  go_wp2_with fail
  refine (rlow a _ ha).mono ?_
  rintro x w2 ⟨rfl, hb2⟩
  have HB2 := Lib.hid hb2
  have s2 := hb2.size
  try simp at s2
  clear hb2
  go_wp2_with fail
  refine (rtimes_any _ _ _ (lo_sh a) (lo_sh a)).mono ?_
  rintro x w3 ⟨rfl, hb3⟩
  have HB3 := Lib.hid hb3
  have s3 := hb3.size
  try simp at s3
  clear hb3
  go_wp2_with fail
  refine (rhigh a _ ha).mono ?_
  rintro x w4 ⟨rfl, hb4⟩
  have HB4 := Lib.hid hb4
  have s4 := hb4.size
  try simp at s4
  clear hb4
  go_wp2_with fail
  refine (rhigh a _ ha).mono ?_
  rintro x w5 ⟨rfl, hb5⟩
  have HB5 := Lib.hid hb5
  have s5 := hb5.size
  try simp at s5
  clear hb5
  go_wp2_with fail
  refine (rtimes_any _ _ _ (hi_sh a) (hi_sh a)).mono ?_
  rintro x w6 ⟨rfl, hb6⟩
  have HB6 := Lib.hid hb6
  have s6 := hb6.size
  try simp at s6
  clear hb6
  go_wp2_with fail
  refine (rsum_any _ _ _ (Mid.prod (lo_sh a) (lo_sh a) (lo_low a) (lo_low a)) (Mid.prod (hi_sh a) (hi_sh a) (hi_low a) (hi_low a))).mono ?_
  rintro x w7 ⟨z7, rfl, ho7, ht7, hb7⟩
  have HT7 := Lib.hid ht7; clear ht7
  have HB7 := Lib.hid hb7
  have s7 := hb7.size
  try simp at s7
  clear hb7
  go_wp2_with fail
  refine (rword_any _ (.number false 0 0) _ ho7 ⟨by decide, by decide, by decide, fun _ => by decide⟩).mono ?_
  rintro x w8 ⟨rfl, hb8⟩
  have HB8 := Lib.hid hb8
  have s8 := hb8.size
  try simp at s8
  clear hb8
  go_wp2
  go_ret
  refine ⟨by rw [← HT7.out]; rfl, ?_⟩
  refine Below.trans ?_ (HB8.out.mono (by (try simp) <;> omega))
  repeat (first | (with_reducible refine Below.setCell ?_ ?ybel _; case ybel => (first | omega | (simp <;> omega))) | (with_reducible refine Below.alloc ?_ ?ybel _; case ybel => (first | omega | (simp <;> omega))) | (with_reducible refine below_drewNs ?_ _) | (with_reducible refine Below.drew ?_))
  refine Below.trans ?_ (HB7.out.mono (by (try simp) <;> omega))
  repeat (first | (with_reducible refine Below.setCell ?_ ?ybel _; case ybel => (first | omega | (simp <;> omega))) | (with_reducible refine Below.alloc ?_ ?ybel _; case ybel => (first | omega | (simp <;> omega))) | (with_reducible refine below_drewNs ?_ _) | (with_reducible refine Below.drew ?_))
  refine Below.trans ?_ (HB6.out.mono (by (try simp) <;> omega))
  repeat (first | (with_reducible refine Below.setCell ?_ ?ybel _; case ybel => (first | omega | (simp <;> omega))) | (with_reducible refine Below.alloc ?_ ?ybel _; case ybel => (first | omega | (simp <;> omega))) | (with_reducible refine below_drewNs ?_ _) | (with_reducible refine Below.drew ?_))
  refine Below.trans ?_ (HB5.out.mono (by (try simp) <;> omega))
  repeat (first | (with_reducible refine Below.setCell ?_ ?ybel _; case ybel => (first | omega | (simp <;> omega))) | (with_reducible refine Below.alloc ?_ ?ybel _; case ybel => (first | omega | (simp <;> omega))) | (with_reducible refine below_drewNs ?_ _) | (with_reducible refine Below.drew ?_))
  refine Below.trans ?_ (HB4.out.mono (by (try simp) <;> omega))
  repeat (first | (with_reducible refine Below.setCell ?_ ?ybel _; case ybel => (first | omega | (simp <;> omega))) | (with_reducible refine Below.alloc ?_ ?ybel _; case ybel => (first | omega | (simp <;> omega))) | (with_reducible refine below_drewNs ?_ _) | (with_reducible refine Below.drew ?_))
  refine Below.trans ?_ (HB3.out.mono (by (try simp) <;> omega))
  repeat (first | (with_reducible refine Below.setCell ?_ ?ybel _; case ybel => (first | omega | (simp <;> omega))) | (with_reducible refine Below.alloc ?_ ?ybel _; case ybel => (first | omega | (simp <;> omega))) | (with_reducible refine below_drewNs ?_ _) | (with_reducible refine Below.drew ?_))
  refine Below.trans ?_ (HB2.out.mono (by (try simp) <;> omega))
  repeat (first | (with_reducible refine Below.setCell ?_ ?ybel _; case ybel => (first | omega | (simp <;> omega))) | (with_reducible refine Below.alloc ?_ ?ybel _; case ybel => (first | omega | (simp <;> omega))) | (with_reducible refine below_drewNs ?_ _) | (with_reducible refine Below.drew ?_))
  refine Below.trans ?_ (HB1.out.mono (by (try simp) <;> omega))
  repeat (first | (with_reducible refine Below.setCell ?_ ?ybel _; case ybel => (first | omega | (simp <;> omega))) | (with_reducible refine Below.alloc ?_ ?ybel _; case ybel => (first | omega | (simp <;> omega))) | (with_reducible refine below_drewNs ?_ _) | (with_reducible refine Below.drew ?_))
  exact Below.refl _ _
set_option maxRecDepth 100000 in
set_option maxHeartbeats 4000000 in
theorem rmul_any (a b : Nat) (ha : a < 18446744073709551616) (hb : b < 18446744073709551616) (w : World) : Calls Try.prog 13 #[.int .u64 (a : Int), .int .u64 (b : Int)] w fun r w' => r = .returned (.int .u64 (cw (told ((prodD (lo a) (lo b)).sum (prodD (hi a) (hi b)).opposite)) (told ((prodD (lo a) (hi b)).sum (prodD (hi a) (lo b)))) : Nat)) ∧ Below w.heap.size w w' := by
  go_enter Try.func13, Try.ntmps13
  go_wp2_with fail
  refine (rlow a _ ha).mono ?_
  rintro x w1 ⟨rfl, hb1⟩
  have HB1 := Lib.hid hb1
  have s1 := hb1.size
  try simp at s1
  clear hb1
  go_wp2_with fail
  refine (rlow b _ hb).mono ?_
  rintro x w2 ⟨rfl, hb2⟩
  have HB2 := Lib.hid hb2
  have s2 := hb2.size
  try simp at s2
  clear hb2
  go_wp2_with fail
  refine (rtimes_any _ _ _ (lo_sh a) (lo_sh b)).mono ?_
  rintro x w3 ⟨rfl, hb3⟩
  have HB3 := Lib.hid hb3
  have s3 := hb3.size
  try simp at s3
  clear hb3
  go_wp2_with fail
  refine (rhigh a _ ha).mono ?_
  rintro x w4 ⟨rfl, hb4⟩
  have HB4 := Lib.hid hb4
  have s4 := hb4.size
  try simp at s4
  clear hb4
  go_wp2_with fail
  refine (rhigh b _ hb).mono ?_
  rintro x w5 ⟨rfl, hb5⟩
  have HB5 := Lib.hid hb5
  have s5 := hb5.size
  try simp at s5
  clear hb5
  go_wp2_with fail
  refine (rtimes_any _ _ _ (hi_sh a) (hi_sh b)).mono ?_
  rintro x w6 ⟨rfl, hb6⟩
  have HB6 := Lib.hid hb6
  have s6 := hb6.size
  try simp at s6
  clear hb6
  go_wp2_with fail
  refine (rminus_any _ _).mono ?_
  rintro x w7 ⟨rfl, hb7⟩
  have HB7 := Lib.hid hb7
  have s7 := hb7.size
  try simp at s7
  clear hb7
  go_wp2_with fail
  refine (rsum_any _ _ _ (Mid.prod (lo_sh a) (lo_sh b) (lo_low a) (lo_low b)) (Mid.prod (hi_sh a) (hi_sh b) (hi_low a) (hi_low b)).op).mono ?_
  rintro x w8 ⟨z8, rfl, ho8, ht8, hb8⟩
  have HT8 := Lib.hid ht8; clear ht8
  rw [show dv z8 = .agg #[.bool (dS z8), .int .u64 (dM z8 : Nat), .int .i64 (dE z8), .int .i64 (dK z8)] from rfl]
  have HB8 := Lib.hid hb8
  have s8 := hb8.size
  try simp at s8
  clear hb8
  go_wp2_with fail
  refine (rlow a _ ha).mono ?_
  rintro x w9 ⟨rfl, hb9⟩
  obtain ⟨hbc9, hbf9⟩ := bcell hb9
  have HB9 := Lib.hid hb9
  have s9 := hb9.size
  try simp at s9
  clear hb9
  have q9 : w8.heap.size < w9.heap.size := by omega
  go_wp2_with fail
  refine (rhigh b _ hb).mono ?_
  rintro x w10 ⟨rfl, hb10⟩
  obtain ⟨hbc10, hbf10⟩ := bcell hb10
  have HB10 := Lib.hid hb10
  have s10 := hb10.size
  try simp at s10
  clear hb10
  have q10 : w8.heap.size < w10.heap.size := by omega
  go_wp2_with fail
  refine (rtimes_any _ _ _ (lo_sh a) (hi_sh b)).mono ?_
  rintro x w11 ⟨rfl, hb11⟩
  obtain ⟨hbc11, hbf11⟩ := bcell hb11
  have HB11 := Lib.hid hb11
  have s11 := hb11.size
  try simp at s11
  clear hb11
  have q11 : w8.heap.size < w11.heap.size := by omega
  go_wp2_with fail
  refine (rhigh a _ ha).mono ?_
  rintro x w12 ⟨rfl, hb12⟩
  obtain ⟨hbc12, hbf12⟩ := bcell hb12
  have HB12 := Lib.hid hb12
  have s12 := hb12.size
  try simp at s12
  clear hb12
  have q12 : w8.heap.size < w12.heap.size := by omega
  go_wp2_with fail
  refine (rlow b _ hb).mono ?_
  rintro x w13 ⟨rfl, hb13⟩
  obtain ⟨hbc13, hbf13⟩ := bcell hb13
  have HB13 := Lib.hid hb13
  have s13 := hb13.size
  try simp at s13
  clear hb13
  have q13 : w8.heap.size < w13.heap.size := by omega
  go_wp2_with fail
  refine (rtimes_any _ _ _ (hi_sh a) (lo_sh b)).mono ?_
  rintro x w14 ⟨rfl, hb14⟩
  obtain ⟨hbc14, hbf14⟩ := bcell hb14
  have HB14 := Lib.hid hb14
  have s14 := hb14.size
  try simp at s14
  clear hb14
  have q14 : w8.heap.size < w14.heap.size := by omega
  go_wp2_with fail
  refine (rsum_any _ _ _ (Mid.prod (lo_sh a) (hi_sh b) (lo_low a) (hi_low b)) (Mid.prod (hi_sh a) (lo_sh b) (hi_low a) (lo_low b))).mono ?_
  rintro x w15 ⟨z15, rfl, ho15, ht15, hb15⟩
  have HT15 := Lib.hid ht15; clear ht15
  rw [show dv z15 = .agg #[.bool (dS z15), .int .u64 (dM z15 : Nat), .int .i64 (dE z15), .int .i64 (dK z15)] from rfl]
  obtain ⟨hbc15, hbf15⟩ := bcell hb15
  have HB15 := Lib.hid hb15
  have s15 := hb15.size
  try simp at s15
  clear hb15
  have q15 : w8.heap.size < w15.heap.size := by omega
  go_wp2_with fail
  refine (rword_any _ _ _ ho8 ho15).mono ?_
  rintro x w16 ⟨rfl, hb16⟩
  obtain ⟨hbc16, hbf16⟩ := bcell hb16
  have HB16 := Lib.hid hb16
  have s16 := hb16.size
  try simp at s16
  clear hb16
  have q16 : w8.heap.size < w16.heap.size := by omega
  go_wp2
  go_ret
  refine ⟨by rw [← HT8.out, ← HT15.out]; rfl, ?_⟩
  refine Below.trans ?_ (HB16.out.mono (by (try simp) <;> omega))
  repeat (first | (with_reducible refine Below.setCell ?_ ?ybel _; case ybel => (first | omega | (simp <;> omega))) | (with_reducible refine Below.alloc ?_ ?ybel _; case ybel => (first | omega | (simp <;> omega))) | (with_reducible refine below_drewNs ?_ _) | (with_reducible refine Below.drew ?_))
  refine Below.trans ?_ (HB15.out.mono (by (try simp) <;> omega))
  repeat (first | (with_reducible refine Below.setCell ?_ ?ybel _; case ybel => (first | omega | (simp <;> omega))) | (with_reducible refine Below.alloc ?_ ?ybel _; case ybel => (first | omega | (simp <;> omega))) | (with_reducible refine below_drewNs ?_ _) | (with_reducible refine Below.drew ?_))
  refine Below.trans ?_ (HB14.out.mono (by (try simp) <;> omega))
  repeat (first | (with_reducible refine Below.setCell ?_ ?ybel _; case ybel => (first | omega | (simp <;> omega))) | (with_reducible refine Below.alloc ?_ ?ybel _; case ybel => (first | omega | (simp <;> omega))) | (with_reducible refine below_drewNs ?_ _) | (with_reducible refine Below.drew ?_))
  refine Below.trans ?_ (HB13.out.mono (by (try simp) <;> omega))
  repeat (first | (with_reducible refine Below.setCell ?_ ?ybel _; case ybel => (first | omega | (simp <;> omega))) | (with_reducible refine Below.alloc ?_ ?ybel _; case ybel => (first | omega | (simp <;> omega))) | (with_reducible refine below_drewNs ?_ _) | (with_reducible refine Below.drew ?_))
  refine Below.trans ?_ (HB12.out.mono (by (try simp) <;> omega))
  repeat (first | (with_reducible refine Below.setCell ?_ ?ybel _; case ybel => (first | omega | (simp <;> omega))) | (with_reducible refine Below.alloc ?_ ?ybel _; case ybel => (first | omega | (simp <;> omega))) | (with_reducible refine below_drewNs ?_ _) | (with_reducible refine Below.drew ?_))
  refine Below.trans ?_ (HB11.out.mono (by (try simp) <;> omega))
  repeat (first | (with_reducible refine Below.setCell ?_ ?ybel _; case ybel => (first | omega | (simp <;> omega))) | (with_reducible refine Below.alloc ?_ ?ybel _; case ybel => (first | omega | (simp <;> omega))) | (with_reducible refine below_drewNs ?_ _) | (with_reducible refine Below.drew ?_))
  refine Below.trans ?_ (HB10.out.mono (by (try simp) <;> omega))
  repeat (first | (with_reducible refine Below.setCell ?_ ?ybel _; case ybel => (first | omega | (simp <;> omega))) | (with_reducible refine Below.alloc ?_ ?ybel _; case ybel => (first | omega | (simp <;> omega))) | (with_reducible refine below_drewNs ?_ _) | (with_reducible refine Below.drew ?_))
  refine Below.trans ?_ (HB9.out.mono (by (try simp) <;> omega))
  repeat (first | (with_reducible refine Below.setCell ?_ ?ybel _; case ybel => (first | omega | (simp <;> omega))) | (with_reducible refine Below.alloc ?_ ?ybel _; case ybel => (first | omega | (simp <;> omega))) | (with_reducible refine below_drewNs ?_ _) | (with_reducible refine Below.drew ?_))
  refine Below.trans ?_ (HB8.out.mono (by (try simp) <;> omega))
  repeat (first | (with_reducible refine Below.setCell ?_ ?ybel _; case ybel => (first | omega | (simp <;> omega))) | (with_reducible refine Below.alloc ?_ ?ybel _; case ybel => (first | omega | (simp <;> omega))) | (with_reducible refine below_drewNs ?_ _) | (with_reducible refine Below.drew ?_))
  refine Below.trans ?_ (HB7.out.mono (by (try simp) <;> omega))
  repeat (first | (with_reducible refine Below.setCell ?_ ?ybel _; case ybel => (first | omega | (simp <;> omega))) | (with_reducible refine Below.alloc ?_ ?ybel _; case ybel => (first | omega | (simp <;> omega))) | (with_reducible refine below_drewNs ?_ _) | (with_reducible refine Below.drew ?_))
  refine Below.trans ?_ (HB6.out.mono (by (try simp) <;> omega))
  repeat (first | (with_reducible refine Below.setCell ?_ ?ybel _; case ybel => (first | omega | (simp <;> omega))) | (with_reducible refine Below.alloc ?_ ?ybel _; case ybel => (first | omega | (simp <;> omega))) | (with_reducible refine below_drewNs ?_ _) | (with_reducible refine Below.drew ?_))
  refine Below.trans ?_ (HB5.out.mono (by (try simp) <;> omega))
  repeat (first | (with_reducible refine Below.setCell ?_ ?ybel _; case ybel => (first | omega | (simp <;> omega))) | (with_reducible refine Below.alloc ?_ ?ybel _; case ybel => (first | omega | (simp <;> omega))) | (with_reducible refine below_drewNs ?_ _) | (with_reducible refine Below.drew ?_))
  refine Below.trans ?_ (HB4.out.mono (by (try simp) <;> omega))
  repeat (first | (with_reducible refine Below.setCell ?_ ?ybel _; case ybel => (first | omega | (simp <;> omega))) | (with_reducible refine Below.alloc ?_ ?ybel _; case ybel => (first | omega | (simp <;> omega))) | (with_reducible refine below_drewNs ?_ _) | (with_reducible refine Below.drew ?_))
  refine Below.trans ?_ (HB3.out.mono (by (try simp) <;> omega))
  repeat (first | (with_reducible refine Below.setCell ?_ ?ybel _; case ybel => (first | omega | (simp <;> omega))) | (with_reducible refine Below.alloc ?_ ?ybel _; case ybel => (first | omega | (simp <;> omega))) | (with_reducible refine below_drewNs ?_ _) | (with_reducible refine Below.drew ?_))
  refine Below.trans ?_ (HB2.out.mono (by (try simp) <;> omega))
  repeat (first | (with_reducible refine Below.setCell ?_ ?ybel _; case ybel => (first | omega | (simp <;> omega))) | (with_reducible refine Below.alloc ?_ ?ybel _; case ybel => (first | omega | (simp <;> omega))) | (with_reducible refine below_drewNs ?_ _) | (with_reducible refine Below.drew ?_))
  refine Below.trans ?_ (HB1.out.mono (by (try simp) <;> omega))
  repeat (first | (with_reducible refine Below.setCell ?_ ?ybel _; case ybel => (first | omega | (simp <;> omega))) | (with_reducible refine Below.alloc ?_ ?ybel _; case ybel => (first | omega | (simp <;> omega))) | (with_reducible refine below_drewNs ?_ _) | (with_reducible refine Below.drew ?_))
  exact Below.refl _ _
theorem rsmall_any (n : Int) (w : World) (h0 : -128 ≤ n) (h1 : n ≤ 127) : Calls Try.prog 36 #[.int .i8 n] w fun r w' => r = .returned (dv (.number (n < 0) n.natAbs 0)) ∧ Below w.heap.size w w' := by
  by_cases hn : n < 0
  · have e1 : ((n.natAbs : Nat) : Int) = -n := by omega
    rw [show dv (.number (n < 0) n.natAbs 0) = .agg #[.bool true, .int .u64 (-n), .int .i64 0, .int .i64 0] from by rw [← e1, decide_eq_true hn]; rfl]
    clear e1
    go_enter Try.func36, Try.ntmps36
    go_wp2
    refine bodyPost_ret (v := .agg #[.bool true, .int .u64 (-n), .int .i64 0, .int .i64 0]) (by simp [results, Try.results36, go_sem]) rfl ⟨rfl, ?_⟩
    repeat (first | (with_reducible refine Below.setCell ?_ ?ybel _; case ybel => (first | omega | (simp <;> omega))) | (with_reducible refine Below.alloc ?_ ?ybel _; case ybel => (first | omega | (simp <;> omega))) | (with_reducible refine below_drewNs ?_ _) | (with_reducible refine Below.drew ?_) | (with_reducible exact Below.refl _ _))
  · have e1 : ((n.natAbs : Nat) : Int) = n := by omega
    rw [show dv (.number (n < 0) n.natAbs 0) = .agg #[.bool false, .int .u64 n, .int .i64 0, .int .i64 0] from by rw [decide_eq_false hn]; show Value.agg #[.bool false, .int .u64 (n.natAbs : Int), .int .i64 0, .int .i64 0] = _; rw [e1]]
    clear e1
    go_enter Try.func36, Try.ntmps36
    go_wp2
    refine bodyPost_ret (v := .agg #[.bool false, .int .u64 n, .int .i64 0, .int .i64 0]) (by simp [results, Try.results36, go_sem]) rfl ⟨rfl, ?_⟩
    repeat (first | (with_reducible refine Below.setCell ?_ ?ybel _; case ybel => (first | omega | (simp <;> omega))) | (with_reducible refine Below.alloc ?_ ?ybel _; case ybel => (first | omega | (simp <;> omega))) | (with_reducible refine below_drewNs ?_ _) | (with_reducible refine Below.drew ?_) | (with_reducible exact Below.refl _ _))
theorem small_okz (n : Int) (h0 : -128 ≤ n) (h1 : n ≤ 127) : Okz (.number (n < 0) n.natAbs 0) := ⟨by omega, by decide, by decide, fun _ => by decide⟩
set_option maxHeartbeats 1000000 in
theorem rwhole_any (a b : Int) (ha : -128 ≤ a) (ha1 : a ≤ 127) (hb : -128 ≤ b) (hb1 : b ≤ 127) (w : World) : Calls Try.prog 24 #[.int .i8 a, .int .i8 b] w fun r w' => r = .returned (.int .u64 (cw (bitsD (.number (a < 0) a.natAbs 0)) (bitsD (.number (b < 0) b.natAbs 0)) : Nat)) ∧ Below w.heap.size w w' := by
  go_enter Try.func24, Try.ntmps24
  go_wp2_with fail
  refine (rsmall_any a _ ha ha1).mono ?_
  rintro x w1 ⟨rfl, hb1⟩
  have HB1 := Lib.hid hb1
  have s1 := hb1.size
  try simp at s1
  clear hb1
  go_wp2_with fail
  refine (rsmall_any b _ hb hb1).mono ?_
  rintro x w2 ⟨rfl, hb2⟩
  have HB2 := Lib.hid hb2
  have s2 := hb2.size
  try simp at s2
  clear hb2
  go_wp2_with fail
  refine (rword_any _ _ _ (small_okz a ha ha1) (small_okz b hb hb1)).mono ?_
  rintro x w3 ⟨rfl, hb3⟩
  have HB3 := Lib.hid hb3
  have s3 := hb3.size
  try simp at s3
  clear hb3
  go_wp2
  go_ret
  refine ⟨rfl, ?_⟩
  refine Below.trans ?_ (HB3.out.mono (by (try simp) <;> omega))
  repeat (first | (with_reducible refine Below.setCell ?_ ?ybel _; case ybel => (first | omega | (simp <;> omega))) | (with_reducible refine Below.alloc ?_ ?ybel _; case ybel => (first | omega | (simp <;> omega))) | (with_reducible refine below_drewNs ?_ _) | (with_reducible refine Below.drew ?_))
  refine Below.trans ?_ (HB2.out.mono (by (try simp) <;> omega))
  repeat (first | (with_reducible refine Below.setCell ?_ ?ybel _; case ybel => (first | omega | (simp <;> omega))) | (with_reducible refine Below.alloc ?_ ?ybel _; case ybel => (first | omega | (simp <;> omega))) | (with_reducible refine below_drewNs ?_ _) | (with_reducible refine Below.drew ?_))
  refine Below.trans ?_ (HB1.out.mono (by (try simp) <;> omega))
  repeat (first | (with_reducible refine Below.setCell ?_ ?ybel _; case ybel => (first | omega | (simp <;> omega))) | (with_reducible refine Below.alloc ?_ ?ybel _; case ybel => (first | omega | (simp <;> omega))) | (with_reducible refine below_drewNs ?_ _) | (with_reducible refine Below.drew ?_))
  exact Below.refl _ _
theorem rnan_any (a : Nat) (ha : a < 18446744073709551616) (w : World) : Calls Try.prog 22 #[.int .u64 (a : Int)] w fun r w' => r = .returned (.bool ((lo a).isNaN || (hi a).isNaN)) ∧ Below w.heap.size w w' := by
  have c1 := fun w => rlow a w ha
  have c2 := fun w => rhigh a w ha
  have k1 : ∀ d : Datum, (dK d == 2) = d.isNaN := fun d => by cases d <;> rfl
  have e1 := k1 (lo a)
  have e2 := k1 (hi a)
  clear k1
  unfold dv at c1 c2
  generalize lo a = d at c1 e1 ⊢
  generalize hi a = d' at c2 e2 ⊢
  have C1 := Lib.hid c1; have C2 := Lib.hid c2
  clear c1 c2
  have hfd : ∀ (w : World) (s : Bool) (m e k : Int), (Instr.field 41 (.agg #[.bool s, .int .u64 m, .int .i64 e, .int .i64 k]) 3).run Try.prog w = .ok (.int .i64 k) w := fun _ _ _ _ _ => by kernel_rfl
  generalize d.isNaN = x at e1 ⊢
  generalize d'.isNaN = y at e2 ⊢
  cases x
  · go_enter Try.func22, Try.ntmps22
    go_wp2_with fail
    refine (C1.out _).mono ?_
    rintro r w1 ⟨rfl, hb1⟩
    have HB1 := Lib.hid hb1; have s1 := hb1.size; clear hb1
    go_wp2_with fail
    refine (C2.out _).mono ?_
    rintro r w2 ⟨rfl, hb2⟩
    have HB2 := Lib.hid hb2; clear hb2
    go_wp2
    go_ret
    refine ⟨rfl, ?_⟩
    exact HB1.out.trans (HB2.out.mono s1)
  · have E2 := Lib.hid e2; clear e2
    go_enter Try.func22, Try.ntmps22
    go_wp2_with fail
    refine (C1.out _).mono ?_
    rintro r w1 ⟨rfl, hb1⟩
    have HB1 := Lib.hid hb1; clear hb1
    go_wp2
    go_ret
    exact ⟨rfl, HB1.out⟩
end Go.Proofs.Ytbfdanbepdefnaa
