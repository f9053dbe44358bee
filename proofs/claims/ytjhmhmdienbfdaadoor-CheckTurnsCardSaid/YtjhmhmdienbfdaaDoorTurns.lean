/-
  CheckTurns' walk: for every slice of bytes and every int it returns true and changes nothing that was there.
-/
import Derived.Test.YtjhmhmdienbfdaaDoorLaw03
namespace Go.Proofs.YtjhmhmdienbfdaaDoor
open Go.RowKit
set_option linter.unusedVariables false
set_option linter.unusedSimpArgs false

set_option maxHeartbeats 2000000 in
theorem turns_walk (A : Option Addr) (n cap : Nat) (l : List Int) (q : Int) (w : World) (hr : Rd w A l) (hn : l.length = n) (hq0 : -9223372036854775808 ≤ q) (hq1 : q ≤ 9223372036854775807) (hT : Mv w) : Calls Tryd.prog 5 #[.slice A n cap, .int .i64 q] w fun e w' => e = .returned (.bool true) ∧ Below w.heap.size w w' := by
  have HT := Lib.hid hT; have HR := Lib.hid hr; have HN := Lib.hid hn; clear hT hr hn
  by_cases hbig : 3000 < n
  · go_enter Tryd.func5, Tryd.ntmps5
    go_wp2_with fail
    refine (first_any _ HT.out).mono ?_
    rintro e w1 ⟨rfl, hb1⟩
    have HB1 := Lib.hid hb1; clear hb1
    go_wp2
    go_ret
    exact ⟨rfl, HB1.out⟩
  · have hsl : (sealed l).length = n + 4 := by rw [seal_len, HN.out]
    have HSL := Lib.hid hsl; clear hsl
    go_enter Tryd.func5, Tryd.ntmps5
    go_wp2_with fail
    refine (first_any _ HT.out).mono ?_
    rintro e w1 ⟨rfl, hb1⟩
    have HR1 := Lib.hid (HR.out.below hb1); have HT1 := Lib.hid (HT.out.below hb1); have HB1 := Lib.hid hb1; clear hb1
    go_wp2_with fail
    refine (seal_any A n cap l _ HR1.out HN.out (by omega) HT1.out).mono ?_
    rintro e w2 ⟨g, rfl, ho, hb⟩
    obtain ⟨hs2, -⟩ := own_rd ho (seal_Byt HR.out.1) (by omega)
    have HS2 := Lib.hid hs2; have HR2 := Lib.hid (HR1.out.below hb); have HT2 := Lib.hid (HT1.out.below hb); have HB2 := Lib.hid (HB1.out.trans (hb.mono HB1.out.size)); clear hb ho hs2
    go_wp2_with fail
    refine (open_yes _ n (n + 4) _ _ HS2.out HSL.out (Nat.le_refl _) (by omega) HT2.out (seal_sld _)).mono ?_
    rintro e w3 ⟨g3, rfl, ho, hb⟩
    rw [show List.take n (sealed l) = l from by rw [← HN.out, seal_take]] at ho
    obtain ⟨hs3, -⟩ := own_rd ho HR.out.1 (by omega)
    have hcv1 := hs3.conv n n HN.out
    have hcv2 := (HR2.out.below hb).conv n cap HN.out
    have HS3 := Lib.hid (HS2.out.below hb); have HT3 := Lib.hid (HT2.out.below hb); have HB3 := Lib.hid (HB2.out.trans (hb.mono HB2.out.size)); clear hb ho hs3
    go_wp2_with fail
    refine (turn_any _ (n + 4) (n + 4) _ q _ HS3.out HSL.out (by omega) hq0 hq1).mono ?_
    rintro e w4 ⟨g4, rfl, ho, hb⟩
    have hbt : Byt (turn (sealed l) q) := turn_Byt q (seal_Byt HR.out.1)
    obtain ⟨ht4, hl4⟩ := own_rd ho hbt (by omega)
    have hb2 := hb.drew
    obtain ⟨w5, hw5⟩ : ∃ x, x = w4.drew := ⟨_, rfl⟩
    have ht5 := ht4.below (Below.refl _ _).drew
    rw [← hw5] at hb2 ht5
    have HS5 := Lib.hid (HS3.out.below hb2); have HT5 := Lib.hid (HT3.out.below hb2); have HB5 := Lib.hid (HB3.out.trans (hb2.mono HB3.out.size)); have HL5 := Lib.hid hl4
    have HX5 := Lib.hid ht5
    clear hb ho ht4 hb2 ht5 hl4 hcv1 hcv2
    have hcv4 : ∀ w', Below w5.heap.size w5 w' → (convert 22 9 (.slice (some ⟨g4, 0, none⟩) (n + 4) (n + 4))).run Tryd.prog w' = .ok (.string (strOfNums (turn (sealed l) q))) w' := fun w' hb => (HX5.out.below hb).conv (n + 4) (n + 4) HL5.out
    go_wp2_with fail
    refine wp_region_held_drew (S := fun w' => Below w5.heap.size w5 w') (by kernel_rfl) (by rw [hw5]; exact Below.refl _ _) (fun hHeld => ?_)
    rw [← hw5] at hHeld ⊢
    clear hw5
    simp only [List.size_toArray, List.length_cons, List.length_nil, Nat.reduceAdd]
    rw [show Array.replicate 7 false = [false, false, false, false, false, false, false].toArray from rfl]
    refine wpAnyH_take (i := 0) (v := ?_) rfl (by kernel_rfl) (by kernel_rfl) (by kernel_rfl) (fun _ _ _ h => h) (Or.inl ⟨by rfl, ?yldq⟩) (by assumption) ?_
    case yldq => (intro w hSw; (try dsimp only at hSw); go_simp; try with_reducible rfl)
    try simp only [Act.put, List.setIfInBounds_toArray, List.set_cons_zero, List.set_cons_succ, List.getElem_toArray, List.getElem_cons_succ, List.getElem_cons_zero]
    refine wpAnyH_take (i := 1) (v := ?_) rfl (by kernel_rfl) (by kernel_rfl) (by kernel_rfl) (fun _ _ _ h => h) (Or.inl ⟨by rfl, ?yldq⟩) (by assumption) ?_
    case yldq => (intro w hSw; (try dsimp only at hSw); go_simp; try with_reducible rfl)
    try simp only [Act.put, List.setIfInBounds_toArray, List.set_cons_zero, List.set_cons_succ, List.getElem_toArray, List.getElem_cons_succ, List.getElem_cons_zero]
    refine wpAnyH_take (i := 2) (v := ?_) rfl (by kernel_rfl) (by kernel_rfl) (by kernel_rfl) (fun _ _ _ h => h) (Or.inl ⟨by rfl, ?yldq⟩) (by assumption) ?_
    case yldq => (intro w hSw; (try dsimp only at hSw); go_simp; try with_reducible rfl)
    try simp only [Act.put, List.setIfInBounds_toArray, List.set_cons_zero, List.set_cons_succ, List.getElem_toArray, List.getElem_cons_succ, List.getElem_cons_zero]
    refine wpAnyH_take (i := 3) (v := ?_) rfl (by kernel_rfl) (by kernel_rfl) (by kernel_rfl) (fun _ _ _ h => h) (Or.inl ⟨by rfl, ?yldq⟩) (by assumption) ?_
    case yldq => (intro w hSw; (try dsimp only at hSw); go_simp; try with_reducible rfl)
    try simp only [Act.put, List.setIfInBounds_toArray, List.set_cons_zero, List.set_cons_succ, List.getElem_toArray, List.getElem_cons_succ, List.getElem_cons_zero]
    refine wpAnyH_ready (rs := [4]) (by kernel_rfl) (by simp) ?_
    refine AllReadyH.cons rfl (fun K hK => ?_) AllReadyH.nil
    go_simp
    refine (rturn_any g 0 (n + 4) (n + 4) _ q _ HS5.out HSL.out (by omega) hq0 hq1).mono ?_
    rintro e w6 ⟨y, rfl, ho6, hb6⟩
    obtain ⟨A6, cap6, rfl, hr6⟩ := ho6.rd hbt (by rw [HL5.out]; omega)
    rw [HL5.out]
    refine hK.out _ _ hb6 (fun _ => ?_)
    clear hK K hHeld ho6
    refine wpAnyH_more (S' := fun w' => Below w6.heap.size w6 w') (fun w' h => hb6.trans (h.mono hb6.size)) _ _ _ _ ?_
    have HR6 := Lib.hid hr6; have HB6 := Lib.hid hb6
    have hcv6 : ∀ w', Below w6.heap.size w6 w' → (convert 22 9 (.slice A6 (n + 4) cap6)).run Tryd.prog w' = .ok (.string (strOfNums (turn (sealed l) q))) w' := fun w' hb => (HR6.out.below hb).conv (n + 4) cap6 HL5.out
    have hHeld6 : Below w6.heap.size w6 w6 := Below.refl _ _
    clear hr6 hb6 hcv4
    refine wpAnyH_take (i := 5) (v := ?_) rfl (by kernel_rfl) (by kernel_rfl) (by kernel_rfl) (fun _ _ _ h => h) (Or.inl ⟨by rfl, ?yldq⟩) (by assumption) ?_
    case yldq => (intro w hSw; (try dsimp only at hSw); go_simp; try with_reducible rfl)
    try simp only [Act.put, List.setIfInBounds_toArray, List.set_cons_zero, List.set_cons_succ, List.getElem_toArray, List.getElem_cons_succ, List.getElem_cons_zero]
    refine wpAnyH_take (i := 6) (v := ?_) rfl (by kernel_rfl) (by kernel_rfl) (by kernel_rfl) (fun _ _ _ h => h) (Or.inl ⟨by rfl, ?yldq⟩) (by assumption) ?_
    case yldq => (intro w hSw; (try dsimp only at hSw); go_simp; try with_reducible rfl)
    try simp only [Act.put, List.setIfInBounds_toArray, List.set_cons_zero, List.set_cons_succ, List.getElem_toArray, List.getElem_cons_succ, List.getElem_cons_zero]
    refine wpAnyH_done (by kernel_rfl) ?_ _
    clear hHeld6 hcv6
    have HX6 := Lib.hid (HX5.out.below HB6.out); have HS6 := Lib.hid (HS5.out.below HB6.out); have HT6 := Lib.hid (HT5.out.below HB6.out); have HW6 := Lib.hid (HB5.out.trans (HB6.out.mono HB5.out.size))
    have hback : turn (turn (sealed l) q) q = sealed l := turn_turn q (seal_Byt HR.out.1)
    have HBACK := Lib.hid hback; clear hback
    have htri : HasBit (sealed l) q ∨ (q < 0 ∧ ¬ HasBit (sealed l) q) ∨ (0 ≤ q ∧ ¬ q / 8 < (n : Int) + 4 ∧ ¬ HasBit (sealed l) q) := by
      by_cases hb : HasBit (sealed l) q
      · exact Or.inl hb
      · by_cases h0 : 0 ≤ q
        · exact Or.inr (Or.inr ⟨h0, fun h => hb ⟨h0, by rw [HSL.out]; omega⟩, hb⟩)
        · exact Or.inr (Or.inl ⟨by omega, hb⟩)
    have HTRI := Lib.hid htri; clear htri
    rcases HTRI.out with hb | ⟨h0, hb⟩ | ⟨h0, h8, hb⟩
    · have h0 := hb.1
      have h8 : q / 8 < (n : Int) + 4 := by have := hb.2; rw [HSL.out] at this; omega
      have hns := turn_sld q HR.out.1 hb
      have HNS := Lib.hid hns; clear hb hns
      go_wp2_with fail
      refine (open_no _ (n + 4) (n + 4) _ _ HX6.out HL5.out (Nat.le_refl _) HT6.out HNS.out).mono ?_
      rintro e w7 ⟨rfl, hw7⟩
      have HX7 := HX6; have HS7 := HS6; have HW7 := HW6
      rw [hw7] at HX7 HS7 HW7
      clear hw7
      have b8 : Below w7.heap.size w7 w7.drew := (Below.refl _ _).drew
      obtain ⟨w8, hw8⟩ : ∃ x, x = w7.drew := ⟨_, rfl⟩
      rw [← hw8] at b8
      have HX8 := Lib.hid (HX7.out.below b8); have HS8 := Lib.hid (HS7.out.below b8); have HW8 := Lib.hid (HW7.out.trans (b8.mono HW7.out.size))
      clear b8
      have hcv8 : ∀ w', Below w8.heap.size w8 w' → (convert 22 9 (.slice (some ⟨g, 0, none⟩) (n + 4) (n + 4))).run Tryd.prog w' = .ok (.string (strOfNums (sealed l))) w' := fun w' hb => (HS8.out.below hb).conv (n + 4) (n + 4) HSL.out
      go_wp2_with fail
      refine wp_region_held_drew (S := fun w' => Below w8.heap.size w8 w') (by kernel_rfl) (by rw [hw8]; exact Below.refl _ _) (fun hHeld => ?_)
      rw [← hw8] at hHeld ⊢
      clear hw8
      simp only [List.size_toArray, List.length_cons, List.length_nil, Nat.reduceAdd]
      rw [show Array.replicate 13 false = [false, false, false, false, false, false, false, false, false, false, false, false, false].toArray from rfl]
      refine wpAnyH_take (i := 0) (v := ?_) rfl (by kernel_rfl) (by kernel_rfl) (by kernel_rfl) (fun _ _ _ h => h) (Or.inl ⟨by rfl, ?yldq⟩) (by assumption) ?_
      case yldq => (intro w hSw; (try dsimp only at hSw); go_simp; try with_reducible rfl)
      try simp only [Act.put, List.setIfInBounds_toArray, List.set_cons_zero, List.set_cons_succ, List.getElem_toArray, List.getElem_cons_succ, List.getElem_cons_zero]
      refine wpAnyH_take (i := 1) (v := ?_) rfl (by kernel_rfl) (by kernel_rfl) (by kernel_rfl) (fun _ _ _ h => h) (Or.inl ⟨by rfl, ?yldq⟩) (by assumption) ?_
      case yldq => (intro w hSw; (try dsimp only at hSw); go_simp; try with_reducible rfl)
      try simp only [Act.put, List.setIfInBounds_toArray, List.set_cons_zero, List.set_cons_succ, List.getElem_toArray, List.getElem_cons_succ, List.getElem_cons_zero]
      refine wpAnyH_take (i := 2) (v := ?_) rfl (by kernel_rfl) (by kernel_rfl) (by kernel_rfl) (fun _ _ _ h => h) (Or.inl ⟨by rfl, ?yldq⟩) (by assumption) ?_
      case yldq => (intro w hSw; (try dsimp only at hSw); go_simp; try with_reducible rfl)
      try simp only [Act.put, List.setIfInBounds_toArray, List.set_cons_zero, List.set_cons_succ, List.getElem_toArray, List.getElem_cons_succ, List.getElem_cons_zero]
      refine wpAnyH_take (i := 3) (v := ?_) rfl (by kernel_rfl) (by kernel_rfl) (by kernel_rfl) (fun _ _ _ h => h) (Or.inl ⟨by rfl, ?yldq⟩) (by assumption) ?_
      case yldq => (intro w hSw; (try dsimp only at hSw); go_simp; try with_reducible rfl)
      try simp only [Act.put, List.setIfInBounds_toArray, List.set_cons_zero, List.set_cons_succ, List.getElem_toArray, List.getElem_cons_succ, List.getElem_cons_zero]
      refine wpAnyH_take (i := 4) (v := ?_) rfl (by kernel_rfl) (by kernel_rfl) (by kernel_rfl) (fun _ _ _ h => h) (Or.inl ⟨by rfl, ?yldq⟩) (by assumption) ?_
      case yldq => (intro w hSw; (try dsimp only at hSw); go_simp; try with_reducible rfl)
      try simp only [Act.put, List.setIfInBounds_toArray, List.set_cons_zero, List.set_cons_succ, List.getElem_toArray, List.getElem_cons_succ, List.getElem_cons_zero]
      refine wpAnyH_take (i := 5) (v := ?_) rfl (by kernel_rfl) (by kernel_rfl) (by kernel_rfl) (fun _ _ _ h => h) (Or.inl ⟨by rfl, ?yldq⟩) (by assumption) ?_
      case yldq => (intro w hSw; (try dsimp only at hSw); go_simp; try with_reducible rfl)
      try simp only [Act.put, List.setIfInBounds_toArray, List.set_cons_zero, List.set_cons_succ, List.getElem_toArray, List.getElem_cons_succ, List.getElem_cons_zero]
      refine wpAnyH_take (i := 8) (v := ?_) rfl (by kernel_rfl) (by kernel_rfl) (by kernel_rfl) (fun _ _ _ h => h) (Or.inl ⟨by rfl, ?yldq⟩) (by assumption) ?_
      case yldq => (intro w hSw; (try dsimp only at hSw); go_simp; try with_reducible rfl)
      try simp only [Act.put, List.setIfInBounds_toArray, List.set_cons_zero, List.set_cons_succ, List.getElem_toArray, List.getElem_cons_succ, List.getElem_cons_zero]
      refine wpAnyH_take (i := 9) (v := ?_) rfl (by kernel_rfl) (by kernel_rfl) (by kernel_rfl) (fun _ _ _ h => h) (Or.inl ⟨by rfl, ?yldq⟩) (by assumption) ?_
      case yldq => (intro w hSw; (try dsimp only at hSw); go_simp; try with_reducible rfl)
      try simp only [Act.put, List.setIfInBounds_toArray, List.set_cons_zero, List.set_cons_succ, List.getElem_toArray, List.getElem_cons_succ, List.getElem_cons_zero]
      refine wpAnyH_ready (rs := [6]) (by kernel_rfl) (by simp) ?_
      refine AllReadyH.cons rfl (fun K hK => ?_) AllReadyH.nil
      go_simp
      refine (turn_any _ (n + 4) (n + 4) _ q _ HX8.out HL5.out (by omega) hq0 hq1).mono ?_
      rintro e w9 ⟨g9, rfl, ho, hb9⟩
      rw [HBACK.out] at ho
      obtain ⟨ht9, -⟩ := own_rd ho (seal_Byt HR.out.1) (by omega)
      refine hK.out _ _ hb9 (fun _ => ?_)
      clear hK K hHeld ho
      refine wpAnyH_more (S' := fun w' => Below w9.heap.size w9 w') (fun w' h => hb9.trans (h.mono hb9.size)) _ _ _ _ ?_
      have HR9 := Lib.hid ht9; have HB9 := Lib.hid hb9
      have hcv9 : ∀ w', Below w9.heap.size w9 w' → (convert 22 9 (.slice (some ⟨g9, 0, none⟩) (n + 4) (n + 4))).run Tryd.prog w' = .ok (.string (strOfNums (sealed l))) w' := fun w' hb => (HR9.out.below hb).conv (n + 4) (n + 4) HSL.out
      have hHeld9 : Below w9.heap.size w9 w9 := Below.refl _ _
      clear ht9 hb9 hcv8
      refine wpAnyH_take (i := 7) (v := ?_) rfl (by kernel_rfl) (by kernel_rfl) (by kernel_rfl) (fun _ _ _ h => h) (Or.inl ⟨by rfl, ?yldq⟩) (by assumption) ?_
      case yldq => (intro w hSw; (try dsimp only at hSw); go_simp; try with_reducible rfl)
      try simp only [Act.put, List.setIfInBounds_toArray, List.set_cons_zero, List.set_cons_succ, List.getElem_toArray, List.getElem_cons_succ, List.getElem_cons_zero]
      refine wpAnyH_take (i := 10) (v := ?_) rfl (by kernel_rfl) (by kernel_rfl) (by kernel_rfl) (fun _ _ _ h => h) (Or.inl ⟨by rfl, ?yldq⟩) (by assumption) ?_
      case yldq => (intro w hSw; (try dsimp only at hSw); go_simp; try with_reducible rfl)
      try simp only [Act.put, List.setIfInBounds_toArray, List.set_cons_zero, List.set_cons_succ, List.getElem_toArray, List.getElem_cons_succ, List.getElem_cons_zero]
      refine wpAnyH_take (i := 11) (v := ?_) rfl (by kernel_rfl) (by kernel_rfl) (by kernel_rfl) (fun _ _ _ h => h) (Or.inl ⟨by rfl, ?yldq⟩) (by assumption) ?_
      case yldq => (intro w hSw; (try dsimp only at hSw); go_simp; try with_reducible rfl)
      try simp only [Act.put, List.setIfInBounds_toArray, List.set_cons_zero, List.set_cons_succ, List.getElem_toArray, List.getElem_cons_succ, List.getElem_cons_zero]
      refine wpAnyH_take (i := 12) (v := ?_) rfl (by kernel_rfl) (by kernel_rfl) (by kernel_rfl) (fun _ _ _ h => h) (Or.inl ⟨by rfl, ?yldq⟩) (by assumption) ?_
      case yldq => (intro w hSw; (try dsimp only at hSw); go_simp; try with_reducible rfl)
      try simp only [Act.put, List.setIfInBounds_toArray, List.set_cons_zero, List.set_cons_succ, List.getElem_toArray, List.getElem_cons_succ, List.getElem_cons_zero]
      refine wpAnyH_done (by kernel_rfl) ?_ _
      clear hHeld9 hcv9
      go_wp2
      go_ret
      exact ⟨rfl, HW8.out.trans (HB9.out.mono HW8.out.size)⟩
    · have htl : turn (sealed l) q = sealed l := by unfold turn; rw [if_neg hb]
      have hsx : Sld (turn (sealed l) q) := by rw [htl]; exact seal_sld l
      have HSX := Lib.hid hsx; clear hb hsx htl
      go_wp2_with fail
      refine (open_yes _ n (n + 4) _ _ HX6.out HL5.out (Nat.le_refl _) (by omega) HT6.out HSX.out).mono ?_
      rintro e w7 ⟨g7, rfl, -, hb7⟩
      have HX7 := Lib.hid (HX6.out.below hb7); have HS7 := Lib.hid (HS6.out.below hb7); have HW7 := Lib.hid (HW6.out.trans (hb7.mono HW6.out.size))
      clear hb7
      have b8 : Below w7.heap.size w7 w7.drew := (Below.refl _ _).drew
      obtain ⟨w8, hw8⟩ : ∃ x, x = w7.drew := ⟨_, rfl⟩
      rw [← hw8] at b8
      have HX8 := Lib.hid (HX7.out.below b8); have HS8 := Lib.hid (HS7.out.below b8); have HW8 := Lib.hid (HW7.out.trans (b8.mono HW7.out.size))
      clear b8
      have hcv8 : ∀ w', Below w8.heap.size w8 w' → (convert 22 9 (.slice (some ⟨g, 0, none⟩) (n + 4) (n + 4))).run Tryd.prog w' = .ok (.string (strOfNums (sealed l))) w' := fun w' hb => (HS8.out.below hb).conv (n + 4) (n + 4) HSL.out
      go_wp2_with fail
      refine wp_region_held_drew (S := fun w' => Below w8.heap.size w8 w') (by kernel_rfl) (by rw [hw8]; exact Below.refl _ _) (fun hHeld => ?_)
      rw [← hw8] at hHeld ⊢
      clear hw8
      simp only [List.size_toArray, List.length_cons, List.length_nil, Nat.reduceAdd]
      rw [show Array.replicate 13 false = [false, false, false, false, false, false, false, false, false, false, false, false, false].toArray from rfl]
      refine wpAnyH_take (i := 0) (v := ?_) rfl (by kernel_rfl) (by kernel_rfl) (by kernel_rfl) (fun _ _ _ h => h) (Or.inl ⟨by rfl, ?yldq⟩) (by assumption) ?_
      case yldq => (intro w hSw; (try dsimp only at hSw); go_simp; try with_reducible rfl)
      try simp only [Act.put, List.setIfInBounds_toArray, List.set_cons_zero, List.set_cons_succ, List.getElem_toArray, List.getElem_cons_succ, List.getElem_cons_zero]
      refine wpAnyH_take (i := 1) (v := ?_) rfl (by kernel_rfl) (by kernel_rfl) (by kernel_rfl) (fun _ _ _ h => h) (Or.inl ⟨by rfl, ?yldq⟩) (by assumption) ?_
      case yldq => (intro w hSw; (try dsimp only at hSw); go_simp; try with_reducible rfl)
      try simp only [Act.put, List.setIfInBounds_toArray, List.set_cons_zero, List.set_cons_succ, List.getElem_toArray, List.getElem_cons_succ, List.getElem_cons_zero]
      refine wpAnyH_take (i := 2) (v := ?_) rfl (by kernel_rfl) (by kernel_rfl) (by kernel_rfl) (fun _ _ _ h => h) (Or.inl ⟨by rfl, ?yldq⟩) (by assumption) ?_
      case yldq => (intro w hSw; (try dsimp only at hSw); go_simp; try with_reducible rfl)
      try simp only [Act.put, List.setIfInBounds_toArray, List.set_cons_zero, List.set_cons_succ, List.getElem_toArray, List.getElem_cons_succ, List.getElem_cons_zero]
      refine wpAnyH_take (i := 3) (v := ?_) rfl (by kernel_rfl) (by kernel_rfl) (by kernel_rfl) (fun _ _ _ h => h) (Or.inl ⟨by rfl, ?yldq⟩) (by assumption) ?_
      case yldq => (intro w hSw; (try dsimp only at hSw); go_simp; try with_reducible rfl)
      try simp only [Act.put, List.setIfInBounds_toArray, List.set_cons_zero, List.set_cons_succ, List.getElem_toArray, List.getElem_cons_succ, List.getElem_cons_zero]
      refine wpAnyH_take (i := 4) (v := ?_) rfl (by kernel_rfl) (by kernel_rfl) (by kernel_rfl) (fun _ _ _ h => h) (Or.inl ⟨by rfl, ?yldq⟩) (by assumption) ?_
      case yldq => (intro w hSw; (try dsimp only at hSw); go_simp; try with_reducible rfl)
      try simp only [Act.put, List.setIfInBounds_toArray, List.set_cons_zero, List.set_cons_succ, List.getElem_toArray, List.getElem_cons_succ, List.getElem_cons_zero]
      refine wpAnyH_take (i := 5) (v := ?_) rfl (by kernel_rfl) (by kernel_rfl) (by kernel_rfl) (fun _ _ _ h => h) (Or.inl ⟨by rfl, ?yldq⟩) (by assumption) ?_
      case yldq => (intro w hSw; (try dsimp only at hSw); go_simp; try with_reducible rfl)
      try simp only [Act.put, List.setIfInBounds_toArray, List.set_cons_zero, List.set_cons_succ, List.getElem_toArray, List.getElem_cons_succ, List.getElem_cons_zero]
      refine wpAnyH_take (i := 8) (v := ?_) rfl (by kernel_rfl) (by kernel_rfl) (by kernel_rfl) (fun _ _ _ h => h) (Or.inl ⟨by rfl, ?yldq⟩) (by assumption) ?_
      case yldq => (intro w hSw; (try dsimp only at hSw); go_simp; try with_reducible rfl)
      try simp only [Act.put, List.setIfInBounds_toArray, List.set_cons_zero, List.set_cons_succ, List.getElem_toArray, List.getElem_cons_succ, List.getElem_cons_zero]
      refine wpAnyH_take (i := 9) (v := ?_) rfl (by kernel_rfl) (by kernel_rfl) (by kernel_rfl) (fun _ _ _ h => h) (Or.inl ⟨by rfl, ?yldq⟩) (by assumption) ?_
      case yldq => (intro w hSw; (try dsimp only at hSw); go_simp; try with_reducible rfl)
      try simp only [Act.put, List.setIfInBounds_toArray, List.set_cons_zero, List.set_cons_succ, List.getElem_toArray, List.getElem_cons_succ, List.getElem_cons_zero]
      refine wpAnyH_ready (rs := [6]) (by kernel_rfl) (by simp) ?_
      refine AllReadyH.cons rfl (fun K hK => ?_) AllReadyH.nil
      go_simp
      refine (turn_any _ (n + 4) (n + 4) _ q _ HX8.out HL5.out (by omega) hq0 hq1).mono ?_
      rintro e w9 ⟨g9, rfl, ho, hb9⟩
      rw [HBACK.out] at ho
      obtain ⟨ht9, -⟩ := own_rd ho (seal_Byt HR.out.1) (by omega)
      refine hK.out _ _ hb9 (fun _ => ?_)
      clear hK K hHeld ho
      refine wpAnyH_more (S' := fun w' => Below w9.heap.size w9 w') (fun w' h => hb9.trans (h.mono hb9.size)) _ _ _ _ ?_
      have HR9 := Lib.hid ht9; have HB9 := Lib.hid hb9
      have hcv9 : ∀ w', Below w9.heap.size w9 w' → (convert 22 9 (.slice (some ⟨g9, 0, none⟩) (n + 4) (n + 4))).run Tryd.prog w' = .ok (.string (strOfNums (sealed l))) w' := fun w' hb => (HR9.out.below hb).conv (n + 4) (n + 4) HSL.out
      have hHeld9 : Below w9.heap.size w9 w9 := Below.refl _ _
      clear ht9 hb9 hcv8
      refine wpAnyH_take (i := 7) (v := ?_) rfl (by kernel_rfl) (by kernel_rfl) (by kernel_rfl) (fun _ _ _ h => h) (Or.inl ⟨by rfl, ?yldq⟩) (by assumption) ?_
      case yldq => (intro w hSw; (try dsimp only at hSw); go_simp; try with_reducible rfl)
      try simp only [Act.put, List.setIfInBounds_toArray, List.set_cons_zero, List.set_cons_succ, List.getElem_toArray, List.getElem_cons_succ, List.getElem_cons_zero]
      refine wpAnyH_take (i := 10) (v := ?_) rfl (by kernel_rfl) (by kernel_rfl) (by kernel_rfl) (fun _ _ _ h => h) (Or.inl ⟨by rfl, ?yldq⟩) (by assumption) ?_
      case yldq => (intro w hSw; (try dsimp only at hSw); go_simp; try with_reducible rfl)
      try simp only [Act.put, List.setIfInBounds_toArray, List.set_cons_zero, List.set_cons_succ, List.getElem_toArray, List.getElem_cons_succ, List.getElem_cons_zero]
      refine wpAnyH_take (i := 11) (v := ?_) rfl (by kernel_rfl) (by kernel_rfl) (by kernel_rfl) (fun _ _ _ h => h) (Or.inl ⟨by rfl, ?yldq⟩) (by assumption) ?_
      case yldq => (intro w hSw; (try dsimp only at hSw); go_simp; try with_reducible rfl)
      try simp only [Act.put, List.setIfInBounds_toArray, List.set_cons_zero, List.set_cons_succ, List.getElem_toArray, List.getElem_cons_succ, List.getElem_cons_zero]
      refine wpAnyH_take (i := 12) (v := ?_) rfl (by kernel_rfl) (by kernel_rfl) (by kernel_rfl) (fun _ _ _ h => h) (Or.inl ⟨by rfl, ?yldq⟩) (by assumption) ?_
      case yldq => (intro w hSw; (try dsimp only at hSw); go_simp; try with_reducible rfl)
      try simp only [Act.put, List.setIfInBounds_toArray, List.set_cons_zero, List.set_cons_succ, List.getElem_toArray, List.getElem_cons_succ, List.getElem_cons_zero]
      refine wpAnyH_done (by kernel_rfl) ?_ _
      clear hHeld9 hcv9
      go_wp2
      go_ret
      exact ⟨rfl, HW8.out.trans (HB9.out.mono HW8.out.size)⟩
    · have hd : decide (q / 8 < (n : Int) + 4) = false := by simp; omega
      have htl : turn (sealed l) q = sealed l := by unfold turn; rw [if_neg hb]
      have hsx : Sld (turn (sealed l) q) := by rw [htl]; exact seal_sld l
      have HSX := Lib.hid hsx; clear hb hsx htl
      go_wp2_with fail
      refine (open_yes _ n (n + 4) _ _ HX6.out HL5.out (Nat.le_refl _) (by omega) HT6.out HSX.out).mono ?_
      rintro e w7 ⟨g7, rfl, -, hb7⟩
      have HX7 := Lib.hid (HX6.out.below hb7); have HS7 := Lib.hid (HS6.out.below hb7); have HW7 := Lib.hid (HW6.out.trans (hb7.mono HW6.out.size))
      clear hb7
      have b8 : Below w7.heap.size w7 w7.drew := (Below.refl _ _).drew
      obtain ⟨w8, hw8⟩ : ∃ x, x = w7.drew := ⟨_, rfl⟩
      rw [← hw8] at b8
      have HX8 := Lib.hid (HX7.out.below b8); have HS8 := Lib.hid (HS7.out.below b8); have HW8 := Lib.hid (HW7.out.trans (b8.mono HW7.out.size))
      clear b8
      have hcv8 : ∀ w', Below w8.heap.size w8 w' → (convert 22 9 (.slice (some ⟨g, 0, none⟩) (n + 4) (n + 4))).run Tryd.prog w' = .ok (.string (strOfNums (sealed l))) w' := fun w' hb => (HS8.out.below hb).conv (n + 4) (n + 4) HSL.out
      go_wp2_with fail
      refine wp_region_held_drew (S := fun w' => Below w8.heap.size w8 w') (by kernel_rfl) (by rw [hw8]; exact Below.refl _ _) (fun hHeld => ?_)
      rw [← hw8] at hHeld ⊢
      clear hw8
      simp only [List.size_toArray, List.length_cons, List.length_nil, Nat.reduceAdd]
      rw [show Array.replicate 13 false = [false, false, false, false, false, false, false, false, false, false, false, false, false].toArray from rfl]
      refine wpAnyH_take (i := 0) (v := ?_) rfl (by kernel_rfl) (by kernel_rfl) (by kernel_rfl) (fun _ _ _ h => h) (Or.inl ⟨by rfl, ?yldq⟩) (by assumption) ?_
      case yldq => (intro w hSw; (try dsimp only at hSw); go_simp; try with_reducible rfl)
      try simp only [Act.put, List.setIfInBounds_toArray, List.set_cons_zero, List.set_cons_succ, List.getElem_toArray, List.getElem_cons_succ, List.getElem_cons_zero]
      refine wpAnyH_take (i := 1) (v := ?_) rfl (by kernel_rfl) (by kernel_rfl) (by kernel_rfl) (fun _ _ _ h => h) (Or.inl ⟨by rfl, ?yldq⟩) (by assumption) ?_
      case yldq => (intro w hSw; (try dsimp only at hSw); go_simp; try with_reducible rfl)
      try simp only [Act.put, List.setIfInBounds_toArray, List.set_cons_zero, List.set_cons_succ, List.getElem_toArray, List.getElem_cons_succ, List.getElem_cons_zero]
      refine wpAnyH_take (i := 2) (v := ?_) rfl (by kernel_rfl) (by kernel_rfl) (by kernel_rfl) (fun _ _ _ h => h) (Or.inl ⟨by rfl, ?yldq⟩) (by assumption) ?_
      case yldq => (intro w hSw; (try dsimp only at hSw); go_simp; try with_reducible rfl)
      try simp only [Act.put, List.setIfInBounds_toArray, List.set_cons_zero, List.set_cons_succ, List.getElem_toArray, List.getElem_cons_succ, List.getElem_cons_zero]
      refine wpAnyH_take (i := 3) (v := ?_) rfl (by kernel_rfl) (by kernel_rfl) (by kernel_rfl) (fun _ _ _ h => h) (Or.inl ⟨by rfl, ?yldq⟩) (by assumption) ?_
      case yldq => (intro w hSw; (try dsimp only at hSw); go_simp; try with_reducible rfl)
      try simp only [Act.put, List.setIfInBounds_toArray, List.set_cons_zero, List.set_cons_succ, List.getElem_toArray, List.getElem_cons_succ, List.getElem_cons_zero]
      refine wpAnyH_take (i := 4) (v := ?_) rfl (by kernel_rfl) (by kernel_rfl) (by kernel_rfl) (fun _ _ _ h => h) (Or.inl ⟨by rfl, ?yldq⟩) (by assumption) ?_
      case yldq => (intro w hSw; (try dsimp only at hSw); go_simp; try with_reducible rfl)
      try simp only [Act.put, List.setIfInBounds_toArray, List.set_cons_zero, List.set_cons_succ, List.getElem_toArray, List.getElem_cons_succ, List.getElem_cons_zero]
      refine wpAnyH_take (i := 5) (v := ?_) rfl (by kernel_rfl) (by kernel_rfl) (by kernel_rfl) (fun _ _ _ h => h) (Or.inl ⟨by rfl, ?yldq⟩) (by assumption) ?_
      case yldq => (intro w hSw; (try dsimp only at hSw); go_simp; try with_reducible rfl)
      try simp only [Act.put, List.setIfInBounds_toArray, List.set_cons_zero, List.set_cons_succ, List.getElem_toArray, List.getElem_cons_succ, List.getElem_cons_zero]
      refine wpAnyH_take (i := 8) (v := ?_) rfl (by kernel_rfl) (by kernel_rfl) (by kernel_rfl) (fun _ _ _ h => h) (Or.inl ⟨by rfl, ?yldq⟩) (by assumption) ?_
      case yldq => (intro w hSw; (try dsimp only at hSw); go_simp; try with_reducible rfl)
      try simp only [Act.put, List.setIfInBounds_toArray, List.set_cons_zero, List.set_cons_succ, List.getElem_toArray, List.getElem_cons_succ, List.getElem_cons_zero]
      refine wpAnyH_take (i := 9) (v := ?_) rfl (by kernel_rfl) (by kernel_rfl) (by kernel_rfl) (fun _ _ _ h => h) (Or.inl ⟨by rfl, ?yldq⟩) (by assumption) ?_
      case yldq => (intro w hSw; (try dsimp only at hSw); go_simp; try with_reducible rfl)
      try simp only [Act.put, List.setIfInBounds_toArray, List.set_cons_zero, List.set_cons_succ, List.getElem_toArray, List.getElem_cons_succ, List.getElem_cons_zero]
      refine wpAnyH_ready (rs := [6]) (by kernel_rfl) (by simp) ?_
      refine AllReadyH.cons rfl (fun K hK => ?_) AllReadyH.nil
      go_simp
      refine (turn_any _ (n + 4) (n + 4) _ q _ HX8.out HL5.out (by omega) hq0 hq1).mono ?_
      rintro e w9 ⟨g9, rfl, ho, hb9⟩
      rw [HBACK.out] at ho
      obtain ⟨ht9, -⟩ := own_rd ho (seal_Byt HR.out.1) (by omega)
      refine hK.out _ _ hb9 (fun _ => ?_)
      clear hK K hHeld ho
      refine wpAnyH_more (S' := fun w' => Below w9.heap.size w9 w') (fun w' h => hb9.trans (h.mono hb9.size)) _ _ _ _ ?_
      have HR9 := Lib.hid ht9; have HB9 := Lib.hid hb9
      have hcv9 : ∀ w', Below w9.heap.size w9 w' → (convert 22 9 (.slice (some ⟨g9, 0, none⟩) (n + 4) (n + 4))).run Tryd.prog w' = .ok (.string (strOfNums (sealed l))) w' := fun w' hb => (HR9.out.below hb).conv (n + 4) (n + 4) HSL.out
      have hHeld9 : Below w9.heap.size w9 w9 := Below.refl _ _
      clear ht9 hb9 hcv8
      refine wpAnyH_take (i := 7) (v := ?_) rfl (by kernel_rfl) (by kernel_rfl) (by kernel_rfl) (fun _ _ _ h => h) (Or.inl ⟨by rfl, ?yldq⟩) (by assumption) ?_
      case yldq => (intro w hSw; (try dsimp only at hSw); go_simp; try with_reducible rfl)
      try simp only [Act.put, List.setIfInBounds_toArray, List.set_cons_zero, List.set_cons_succ, List.getElem_toArray, List.getElem_cons_succ, List.getElem_cons_zero]
      refine wpAnyH_take (i := 10) (v := ?_) rfl (by kernel_rfl) (by kernel_rfl) (by kernel_rfl) (fun _ _ _ h => h) (Or.inl ⟨by rfl, ?yldq⟩) (by assumption) ?_
      case yldq => (intro w hSw; (try dsimp only at hSw); go_simp; try with_reducible rfl)
      try simp only [Act.put, List.setIfInBounds_toArray, List.set_cons_zero, List.set_cons_succ, List.getElem_toArray, List.getElem_cons_succ, List.getElem_cons_zero]
      refine wpAnyH_take (i := 11) (v := ?_) rfl (by kernel_rfl) (by kernel_rfl) (by kernel_rfl) (fun _ _ _ h => h) (Or.inl ⟨by rfl, ?yldq⟩) (by assumption) ?_
      case yldq => (intro w hSw; (try dsimp only at hSw); go_simp; try with_reducible rfl)
      try simp only [Act.put, List.setIfInBounds_toArray, List.set_cons_zero, List.set_cons_succ, List.getElem_toArray, List.getElem_cons_succ, List.getElem_cons_zero]
      refine wpAnyH_take (i := 12) (v := ?_) rfl (by kernel_rfl) (by kernel_rfl) (by kernel_rfl) (fun _ _ _ h => h) (Or.inl ⟨by rfl, ?yldq⟩) (by assumption) ?_
      case yldq => (intro w hSw; (try dsimp only at hSw); go_simp; try with_reducible rfl)
      try simp only [Act.put, List.setIfInBounds_toArray, List.set_cons_zero, List.set_cons_succ, List.getElem_toArray, List.getElem_cons_succ, List.getElem_cons_zero]
      refine wpAnyH_done (by kernel_rfl) ?_ _
      clear hHeld9 hcv9
      go_wp2
      go_ret
      exact ⟨rfl, HW8.out.trans (HB9.out.mono HW8.out.size)⟩
end Go.Proofs.YtjhmhmdienbfdaaDoor
