/-
  What each function of the document's answer for layer 3 (package runrigref03) answers and leaves in memory: contracts over the translation. Each says its own conditions.
-/
import Derived.Test.YtmdfopbigkfbnaaDoorChk16
namespace Go.Proofs.YtmdfopbigkfbnaaDoor
open Go.RowKit
set_option linter.unusedVariables false
set_option linter.unusedSimpArgs false

theorem ref_par (X D : Nat) : ((X ^^^ D) + D) % 2 = X % 2 := by
  have e : (X ^^^ D) % 2 = X % 2 ^^^ D % 2 := Nat.xor_mod_two_pow (n := 1)
  rw [Nat.add_mod, e]
  rcases Nat.mod_two_eq_zero_or_one X with h | h <;> rcases Nat.mod_two_eq_zero_or_one D with h' | h' <;> rw [h, h'] <;> decide
theorem ref_odd (X D : Nat) (h : X % 2 = 1) : (X ^^^ D) / 2 ^^^ 3988292384 = stp X ^^^ D / 2 := by
  unfold stp
  rw [if_pos h, Nat.xor_div_two, Nat.xor_assoc, Nat.xor_comm (D / 2), ← Nat.xor_assoc]
theorem ref_even (X D : Nat) (h : X % 2 = 0) : (X ^^^ D) / 2 = stp X ^^^ D / 2 := by
  unfold stp
  rw [if_neg (by omega), Nat.xor_div_two, Nat.xor_zero]
/-- the document's sum under way: k steps into a byte c -/
def rst (S c k : Nat) : Nat := stps k (S ^^^ c) ^^^ c / 2 ^ k
theorem rst_lt (S c k : Nat) (hS : S < 4294967296) (hc : c < 256) : rst S c k < 4294967296 :=
  xor_lt32 (stps_lt k (xor_lt32 hS (by omega))) (Nat.lt_of_le_of_lt (Nat.div_le_self _ _) (by omega))
theorem rst_zero (S c : Nat) : rst S c 0 = S := by
  unfold rst stps
  rw [Nat.pow_zero, Nat.div_one, xor_back]
theorem rst_8 (S c : Nat) (hc : c < 256) : rst S c 8 = stps 8 (S ^^^ c) := by
  unfold rst
  rw [Nat.div_eq_of_lt (by simpa using hc), Nat.xor_zero]
theorem wrap_u32 (x : Int) : IntKind.u32.wrap x = x % 4294967296 := by simp [IntKind.wrap, IntKind.signed, IntKind.bits]
theorem rsum_any (A : Option Addr) (n cap : Nat) (l : List Int) (w : World) (hr : Rd w A l) (hn : l.length = n) : Calls Tryd.prog 25 #[.slice A n cap] w fun e w' => e = .returned (.int .u32 (sm l : Nat)) ∧ w = w' := by
  subst hn
  have hm := hr.2.1
  go_enter Tryd.func25, Tryd.ntmps25
  go_wp2
  go_loop [3, 10] (fun v i => ∃ k : Nat, k ≤ l.length ∧ i = .int .i64 (k : Int) ∧ v = .int .u32 (crc (l.take k) 4294967295 : Nat)) (fun _ i => l.length - (intOf i).toNat)
  case atStart => exact ⟨0, Nat.zero_le _, rfl, rfl⟩
  case round =>
    obtain ⟨k, hk, rfl, rfl⟩ := hrel
    have hS := crc_lt (l.take k) 4294967295 (hr.1.take k) (by decide)
    by_cases h0 : k < l.length
    · obtain ⟨b, off, rfl, hc⟩ := hr.2.2 (by omega)
      have hcell := hc k h0
      have hq := hr.1.getD k
      have h1 := crc_take l 4294967295 k h0
      obtain ⟨c, hC⟩ : ∃ c : Nat, (c : Int) = l.getD k 0 := ⟨(l.getD k 0).toNat, by omega⟩
      rw [← hC, Int.toNat_natCast] at h1
      rw [← hC] at hcell hq
      have hq' : c < 256 := by omega
      obtain ⟨S, hS'⟩ : ∃ S, S = crc (l.take k) 4294967295 := ⟨_, rfl⟩
      rw [← hS'] at h1 hS ⊢
      rw [← rst_8 S c hq'] at h1
      have H1 := Lib.hid h1
      clear h1 hc hC hS' hr
      go_wp2
      go_loop [3, 5, 6] (fun v d i => ∃ j : Nat, j ≤ 8 ∧ i = .int .i64 (j : Int) ∧ d = .int .u8 (c / 2 ^ j : Nat) ∧ v = .int .u32 (rst S c j : Nat)) (fun _ _ i => 8 - (intOf i).toNat)
      case atStart => exact ⟨0, Nat.zero_le _, rfl, by rw [Nat.pow_zero, Nat.div_one], by rw [rst_zero]⟩
      case round =>
        obtain ⟨j, hj, rfl, rfl, rfl⟩ := hrel
        have hY := rst_lt S c j hS hq'
        by_cases hj8 : j < 8
        · have e1 := ref_par (stps j (S ^^^ c)) (c / 2 ^ j)
          have e2 := ref_odd (stps j (S ^^^ c)) (c / 2 ^ j)
          have e3 := ref_even (stps j (S ^^^ c)) (c / 2 ^ j)
          have e4 : rst S c (j + 1) = stp (stps j (S ^^^ c)) ^^^ c / 2 ^ j / 2 := by unfold rst; rw [stps_succ, Nat.div_div_eq_div_mul, ← Nat.pow_succ]
          have e5 : c / 2 ^ (j + 1) = c / 2 ^ j / 2 := by rw [Nat.div_div_eq_div_mul, ← Nat.pow_succ]
          have e6 : rst S c j = stps j (S ^^^ c) ^^^ c / 2 ^ j := rfl
          rw [← e4, ← e6] at e2 e3
          rw [← e6] at e1
          have hD : c / 2 ^ j < 256 := Nat.lt_of_le_of_lt (Nat.div_le_self _ _) hq'
          generalize hYY : rst S c j = Y at hY e1 e2 e3 e6
          generalize hDD : c / 2 ^ j = D at e1 e2 e3 e5 e6 hD
          generalize stps j (S ^^^ c) = X at e1 e2 e3 e6
          generalize hZZ : rst S c (j + 1) = Z at e2 e3
          have E5 := Lib.hid e5; have HZ := Lib.hid hZZ
          clear e4 e5 e6 hYY hDD hZZ
          by_cases hX : X % 2 = 1
          · have e8 := u32_xor_nat (Y / 2) 3988292384 (by omega) (by decide)
            rw [e2 hX] at e8
            have e9 : (((Y : Int) + D) % 2 == 1) = true := by simp; omega
            have E8 : Hid (bits .xor .u32 ((Y : Int) / 2) 3988292384 = (Z : Int)) := e8
            clear e1 e2 e3 e8
            go_wp2
            go_round
            case rel => exact ⟨j + 1, by omega, by go_num, int_eq (by rw [E5.out]; omega), int_eq (by rw [HZ.out]; exact E8.out)⟩
            case measure => simp [intOf]; omega
          · have e8 := e3 (by omega)
            have e9 : (((Y : Int) + D) % 2 == 1) = false := by simp; omega
            have E8 := Lib.hid e8
            clear e1 e2 e3 e8
            go_wp2
            go_round
            case rel => exact ⟨j + 1, by omega, by go_num, int_eq (by rw [E5.out]; omega), int_eq (by rw [HZ.out, ← E8.out]; omega)⟩
            case measure => simp [intOf]; omega
        · obtain rfl : j = 8 := by omega
          go_wp2
          go_round
          case rel => exact ⟨k + 1, by omega, by go_num, int_eq (by rw [H1.out])⟩
          case measure => simp [intOf]; omega
    · have HR := Lib.hid hr.1
      clear hr
      go_wp2
      obtain rfl : k = l.length := by omega
      go_ret
      refine ⟨congrArg Ending.returned (int_eq ?_), rfl⟩
      rw [List.take_of_length_le (Nat.le_refl _)] at hS ⊢
      rw [← sm_sub HR.out]; omega
theorem rtail_any (v : Int) (w : World) (h0 : 0 ≤ v) (h1 : v ≤ 4294967295) : Calls Tryd.prog 24 #[.int .u32 v] w fun e w' => Owned w.heap.size (byt v 4) e w w' := by
  obtain ⟨i0, hi, hz0, hz1, hz2⟩ := info_parts info_u8
  go_enter Tryd.func24, Tryd.ntmps24
  go_wp2
  go_loopw [0, 3, 4] (fun x b c wr => ∃ (k : Nat) (y : Value), k ≤ 4 ∧ c = .int .i64 k ∧ x = .int .u32 (v / (256 ^ k : Nat)) ∧ y = b ∧ OwnV w.heap.size (byt v k) y wr ∧ Below w.heap.size w wr) (fun _ _ c _ => 4 - (intOf c).toNat)
  case atStart => exact ⟨0, _, Nat.zero_le _, rfl, by simp, rfl, World.ownsRow_nil _ _ _ _, Below.refl _ _⟩
  case round =>
    obtain ⟨k, b, hk, rfl, rfl, rfl, ho, hb⟩ := hrel
    obtain ⟨x, hX⟩ : ∃ x, x = v / (256 ^ k : Nat) := ⟨_, rfl⟩
    have x0 : 0 ≤ x := by rw [hX]; exact Int.ediv_nonneg h0 (Int.natCast_nonneg _)
    have x1 : x ≤ 4294967295 := by rw [hX]; exact Int.le_trans (Int.ediv_le_self _ h0) h1
    rw [← hX]
    have HX := Lib.hid hX
    have HO := Lib.hid ho
    have HB := Lib.hid hb
    clear hX ho hb
    by_cases hlt : k < 4
    · have ho1 : wr.ownsRow w.heap.size 5 1 b k ((byt v k).map (Value.int .u8)) := by have := HO.out; unfold OwnV at this; rwa [byt_len] at this
      have HO1 := Lib.hid ho1; clear ho1
      go_wp2_with (at_builtin; refine wpList_append_own _ rfl _ _ 23 rfl w.heap.size 5 i0 (.int .u8 0) 1 1 Tryd.underlying23 hi hz0 hz1 hz2 rfl (by decide) _ k _ rfl (HO1.out.alloc _) ⟨wr.heap.size, 0, none⟩ 1 1 [.int .u8 (x % 256)] rfl rfl ?c1 ?c2 ?c3 ?c4 ?c5 ?_)
      case c1 => exact cell_one_new _ _ _
      case c2 => intro u hu; simp at hu; subst hu; rfl
      case c3 => unfold maxLen; omega
      case c4 => omega
      case c5 => have := HB.out.size; simp; omega
      intro v' w2 hown' hgrow _
      have HO2 := Lib.hid hown'; have HG := Lib.hid hgrow; clear hown' hgrow
      go_wp2
      go_roundw
      case rel =>
        refine ⟨k + 1, v', by omega, by go_num, int_eq ?_, rfl, ?_, ?_⟩
        · rw [HX.out, Int.ediv_ediv_of_nonneg (Int.natCast_nonneg _), Nat.pow_succ, Int.natCast_mul]; rfl
        · have := HO2.out
          unfold OwnV
          rw [byt_len, byt_snoc, List.map_append, ← HX.out]
          exact this
        · have hs2 := HB.out.size
          exact (HB.out.alloc (by omega) _).grown HG.out (by simp; omega) (fun j hj => (HO1.out.lt j hj).1)
      case measure => simp [intOf]; omega
    · go_wp2
      obtain rfl : k = 4 := by omega
      go_ret
      exact ⟨_, rfl, HO.out, HB.out⟩
theorem ropen_few (A : Option Addr) (n cap : Nat) (w : World) (h : n < 4) : Calls Tryd.prog 27 #[.slice A n cap] w fun e w' => e = .returned (.tuple #[.slice none 0 0, .bool false]) ∧ w = w' := by
  go_enter Tryd.func27, Tryd.ntmps27
  go_wp2
  go_ret2
  exact ⟨rfl, rfl⟩
theorem str_toList {s t : ByteArray} (h : s.toList = t.toList) : s = t := by
  rw [ByteArray.toList_eq, ByteArray.toList_eq] at h
  cases s; cases t; simp at h; subst h; rfl
set_option maxHeartbeats 1000000 in
theorem ropen_more (A : Option Addr) (m cap : Nat) (l : List Int) (t : Bool) (w : World) (hr : Rd w A l) (hn : l.length = m + 4) (hcap : m + 4 ≤ cap) (ht : t = true ↔ Sld l) : Calls Tryd.prog 27 #[.slice A (m + 4) cap] w fun e w' => e = .returned (.tuple #[if t then .slice A m cap else .slice none 0 0, .bool t]) ∧ Below w.heap.size w w' := by
  have hm := hr.2.1
  obtain ⟨b, off, rfl, hc⟩ := hr.2.2 (by omega)
  have hmc : m ≤ cap := by omega
  have hmc2 : ¬ cap = m := by omega
  have hmc3 : (m : Int) ≤ (m : Int) + 4 := by omega
  have hlm : (l.take m).length = m := by rw [List.length_take]; omega
  have hld : (l.drop m).length = 4 := by rw [List.length_drop]; omega
  have hrd : Rd w.drew (some ⟨b, off, none⟩) l := hr.below (Below.refl _ _).drew
  have hs32 := sm_lt (hr.1.take m)
  have hcv := (hrd.from_ m).conv 4 (cap - m) hld
  have hbv := byt_Byt 4 (sm (l.take m) : Int)
  have hdv := hr.1.drop m
  have HR := Lib.hid hr; have HRD := Lib.hid hrd; clear hr hrd hc
  obtain ⟨S, hS⟩ : ∃ S, S = sm (l.take m) := ⟨_, rfl⟩
  rw [← hS] at hs32 hbv
  have HS := Lib.hid hS; clear hS
  go_enter Tryd.func27, Tryd.ntmps27
  go_wp2_with fail
  refine wp_region_held_drew (S := fun w' => (convert 23 9 (.slice (some ⟨b, off + m, none⟩) 4 (cap - m))).run Tryd.prog w' = .ok (.string (strOfNums (l.drop m))) w') (by kernel_rfl) hcv (fun hHeld => ?_)
  simp only [List.size_toArray, List.length_cons, List.length_nil, Nat.reduceAdd]
  rw [show Array.replicate 11 false = [false, false, false, false, false, false, false, false, false, false, false].toArray from rfl]
  refine wpAnyH_take (i := 0) (v := ?_) rfl (by kernel_rfl) (by kernel_rfl) (by kernel_rfl) (fun _ _ _ h => h) (Or.inl ⟨by rfl, ?yldq⟩) (by assumption) ?_
  case yldq => (intro w hSw; (try dsimp only at hSw); go_simp; try with_reducible rfl)
  try simp only [Act.put, List.setIfInBounds_toArray, List.set_cons_zero, List.set_cons_succ, List.getElem_toArray, List.getElem_cons_succ, List.getElem_cons_zero]
  refine wpAnyH_take (i := 1) (v := ?_) rfl (by kernel_rfl) (by kernel_rfl) (by kernel_rfl) (fun _ _ _ h => h) (Or.inl ⟨by rfl, ?yldq⟩) (by assumption) ?_
  case yldq => (intro w hSw; (try dsimp only at hSw); go_simp; try with_reducible rfl)
  try simp only [Act.put, List.setIfInBounds_toArray, List.set_cons_zero, List.set_cons_succ, List.getElem_toArray, List.getElem_cons_succ, List.getElem_cons_zero]
  refine wpAnyH_take (i := 2) (v := ?_) rfl (by kernel_rfl) (by kernel_rfl) (by kernel_rfl) (fun _ _ _ h => h) (Or.inl ⟨by rfl, ?yldq⟩) (by assumption) ?_
  case yldq => (intro w hSw; (try dsimp only at hSw); go_simp; try with_reducible rfl)
  try simp only [Act.put, List.setIfInBounds_toArray, List.set_cons_zero, List.set_cons_succ, List.getElem_toArray, List.getElem_cons_succ, List.getElem_cons_zero]
  refine wpAnyH_take (i := 6) (v := ?_) rfl (by kernel_rfl) (by kernel_rfl) (by kernel_rfl) (fun _ _ _ h => h) (Or.inl ⟨by rfl, ?yldq⟩) (by assumption) ?_
  case yldq => (intro w hSw; (try dsimp only at hSw); go_simp; try with_reducible rfl)
  try simp only [Act.put, List.setIfInBounds_toArray, List.set_cons_zero, List.set_cons_succ, List.getElem_toArray, List.getElem_cons_succ, List.getElem_cons_zero]
  refine wpAnyH_take (i := 7) (v := ?_) rfl (by kernel_rfl) (by kernel_rfl) (by kernel_rfl) (fun _ _ _ h => h) (Or.inl ⟨by rfl, ?yldq⟩) (by assumption) ?_
  case yldq => (intro w hSw; (try dsimp only at hSw); go_simp; try with_reducible rfl)
  try simp only [Act.put, List.setIfInBounds_toArray, List.set_cons_zero, List.set_cons_succ, List.getElem_toArray, List.getElem_cons_succ, List.getElem_cons_zero]
  refine wpAnyH_take (i := 8) (v := ?_) rfl (by kernel_rfl) (by kernel_rfl) (by kernel_rfl) (fun _ _ _ h => h) (Or.inl ⟨by rfl, ?yldq⟩) (by assumption) ?_
  case yldq => (intro w hSw; (try dsimp only at hSw); go_simp; try with_reducible rfl)
  try simp only [Act.put, List.setIfInBounds_toArray, List.set_cons_zero, List.set_cons_succ, List.getElem_toArray, List.getElem_cons_succ, List.getElem_cons_zero]
  refine wpAnyH_take (i := 9) (v := ?_) rfl (by kernel_rfl) (by kernel_rfl) (by kernel_rfl) (fun _ _ _ h => h) (Or.inl ⟨by rfl, ?yldq⟩) (by assumption) ?_
  case yldq => (intro w hSw; (try dsimp only at hSw); go_simp; try with_reducible rfl)
  try simp only [Act.put, List.setIfInBounds_toArray, List.set_cons_zero, List.set_cons_succ, List.getElem_toArray, List.getElem_cons_succ, List.getElem_cons_zero]
  refine wpAnyH_ready (rs := [3]) (by kernel_rfl) (by simp) ?_
  refine AllReadyH.cons rfl (fun K hK => ?_) AllReadyH.nil
  go_simp
  refine (rsum_any _ m cap (l.take m) _ (HRD.out.upto m) hlm).mono ?_
  rintro e w1 ⟨rfl, rfl⟩
  refine hK.out _ _ (by assumption) (fun _ => ?_)
  clear hK K
  rw [HS.out.symm]
  refine wpAnyH_ready (rs := [4]) (by kernel_rfl) (by simp) ?_
  refine AllReadyH.cons rfl (fun K hK => ?_) AllReadyH.nil
  go_simp
  refine (rtail_any _ _ (by omega) (by omega)).mono ?_
  rintro e w1 ⟨y, rfl, ho, hb1⟩
  obtain ⟨A2, cap2, rfl, hr2⟩ := ho.rd hbv (by rw [byt_len]; omega)
  have hcv2 := hr2.conv _ cap2 rfl
  have hS2 : (convert 23 9 (.slice (some ⟨b, off + m, none⟩) 4 (cap - m))).run Tryd.prog w1 = .ok (.string (strOfNums (l.drop m))) w1 := ((HRD.out.below hb1).from_ m).conv 4 (cap - m) hld
  have HB1 := Lib.hid hb1; clear hb1 hr2 ho
  refine hK.out _ _ hS2 (fun _ => ?_)
  clear hK K
  refine wpAnyH_more (S' := fun w' => (convert 23 9 (.slice A2 (byt (S : Int) 4).length cap2)).run Tryd.prog w' = .ok (.string (strOfNums (byt (S : Int) 4))) w' ∧ (convert 23 9 (.slice (some ⟨b, off + m, none⟩) 4 (cap - m))).run Tryd.prog w' = .ok (.string (strOfNums (l.drop m))) w') (fun w' h => h.2) _ _ _ _ ?_
  have hS7 := And.intro hcv2 hS2
  clear hcv2 hS2 hHeld
  refine wpAnyH_take (i := 5) (v := ?_) rfl (by kernel_rfl) (by kernel_rfl) (by kernel_rfl) (fun _ _ _ h => h) (Or.inl ⟨by rfl, ?yldq⟩) (by assumption) ?_
  case yldq => (intro w hSw; (try dsimp only at hSw); go_simp; try with_reducible rfl)
  try simp only [Act.put, List.setIfInBounds_toArray, List.set_cons_zero, List.set_cons_succ, List.getElem_toArray, List.getElem_cons_succ, List.getElem_cons_zero]
  refine wpAnyH_take (i := 10) (v := ?_) rfl (by kernel_rfl) (by kernel_rfl) (by kernel_rfl) (fun _ _ _ h => h) (Or.inl ⟨by rfl, ?yldq⟩) (by assumption) ?_
  case yldq => (intro w hSw; (try dsimp only at hSw); go_simp; try with_reducible rfl)
  try simp only [Act.put, List.setIfInBounds_toArray, List.set_cons_zero, List.set_cons_succ, List.getElem_toArray, List.getElem_cons_succ, List.getElem_cons_zero]
  refine wpAnyH_done (by kernel_rfl) ?_ _
  clear hS7
  have hcm : byt (S : Int) 4 = l.drop m ↔ Sld l := by
    unfold Sld; rw [hn, Nat.add_sub_cancel, HS.out]
    exact ⟨fun e => ⟨by omega, e⟩, fun e => e.2⟩
  have hq : ((strOfNums (byt (S : Int) 4)).toList == (strOfNums (l.drop m)).toList) = t := by
    rw [Bool.eq_iff_iff, ht, ← hcm, beq_iff_eq]
    exact ⟨fun e => str_inj hbv hdv (str_toList e), fun e => by rw [e]⟩
  have HBB := (Below.refl w.heap.size w).drew.trans (HB1.out.mono (Nat.le_refl _))
  have HB := Lib.hid HBB
  clear hcm ht hbv hdv HBB HS
  rw [hq]
  clear hq
  cases t
  all_goals go_wp2
  all_goals go_ret2
  all_goals exact ⟨rfl, HB.out⟩
theorem flip_arith : ∀ j, j < 8 → ∀ x, x < 256 → x ^^^ 2 ^ j = if x / 2 ^ j % 2 = 1 then x - 2 ^ j else x + 2 ^ j := by decide +kernel
theorem rturn_no (b off n cap : Nat) (l : List Int) (q : Int) (w : World) (hr : Rd w (some ⟨b, off, none⟩) l) (hn : l.length = n) (hm : n ≤ 9000) (hb : ¬ HasBit l q) (hq0 : -9223372036854775808 ≤ q) (hq1 : q ≤ 9223372036854775807) : Calls Tryd.prog 15 #[.slice (some ⟨b, off, none⟩) n cap, .int .i64 q] w fun e w' => Owned w.heap.size l e w w' := by
  obtain ⟨i0, hi, hz0, hz1, hz2⟩ := info_parts info_u8
  have hb2 : q < 0 ∨ (0 ≤ q ∧ ¬ q / 8 < n) := by
    by_cases h0 : 0 ≤ q
    · exact Or.inr ⟨h0, fun h => hb ⟨h0, by rw [hn]; exact h⟩⟩
    · exact Or.inl (by omega)
  have HN := Lib.hid hn; have HR := Lib.hid hr; have HQ := Lib.hid hb2; clear hr hn hb hb2
  go_enter Tryd.func15, Tryd.ntmps15
  go_wp2_with (at_builtin; refine wpList_append_own _ rfl (.tmp 8) (.tmp 9) 23 rfl w.heap.size 5 i0 (.int .u8 0) 1 1 Tryd.underlying23 hi hz0 hz1 hz2 rfl (by decide) _ 0 [] rfl ?c0 ⟨b, off, none⟩ n cap (l.map (Value.int .u8)) rfl ?c1 ?c2 ?c3 ?c4 ?c5 ?c6 ?_)
  case c0 => exact World.ownsRow_lit w #[] 0 (Nat.le_refl _) (by unfold maxLen; omega) (by simp)
  case c1 => exact HN.out
  case c2 =>
    intro j u hj
    have := Rd.cells (HR.out.below ((Below.refl _ _).alloc (Nat.le_refl _) (.cells #[] 5))) j (.int .u8 u) (by rw [List.getElem?_map, hj]; rfl)
    rwa [Go.WideShapes.add_plain] at this
  case c3 => exact fun _ _ => rfl
  case c4 => unfold maxLen; omega
  case c5 => omega
  intro v' w2 hown hgrow _
  have ho : OwnV w.heap.size l v' w2 := by unfold OwnV; rw [HN.out]; simpa using hown
  have HB2 : Hid (Below w.heap.size w w2) := ((Below.refl _ _).alloc (Nat.le_refl _) _).grown hgrow (by simp) (fun k hk => by simp [Value.ownBlock] at hk; subst hk; exact Nat.le_refl _)
  have HO := Lib.hid ho
  clear hown hgrow ho
  rcases HQ.out with h0 | ⟨h0, h8⟩
  · go_wp2
    go_ret
    exact ⟨_, rfl, HO.out, HB2.out⟩
  · go_wp2
    go_ret
    exact ⟨_, rfl, HO.out, HB2.out⟩
theorem rturn_yes (b off n cap : Nat) (l : List Int) (q : Nat) (w : World) (hr : Rd w (some ⟨b, off, none⟩) l) (hn : l.length = n) (hm : n ≤ 9000) (hb : q / 8 < n) : Calls Tryd.prog 15 #[.slice (some ⟨b, off, none⟩) n cap, .int .i64 (q : Int)] w fun e w' => Owned w.heap.size (l.set (q / 8) (flip (l.getD (q / 8) 0) (q % 8))) e w w' := by
  obtain ⟨i0, hi, hz0, hz1, hz2⟩ := info_parts info_u8
  have HN := Lib.hid hn; have HR := Lib.hid hr; clear hr
  have hx := HR.out.1.getD (q / 8)
  obtain ⟨x, hX⟩ : ∃ x : Nat, (x : Int) = l.getD (q / 8) 0 := ⟨(l.getD (q / 8) 0).toNat, by omega⟩
  have hx2 : x < 256 := by omega
  have hq8 : ((q : Int) / 8) < (n : Int) := by omega
  have hj8 : q % 8 < 8 := by omega
  have hp1 : 2 ^ (q % 8) ≤ 128 := Nat.pow_le_pow_right (show 0 < 2 by decide) (show q % 8 ≤ 7 by omega)
  have hp0 : 0 < 2 ^ (q % 8) := Nat.two_pow_pos _
  have hfl := flip_arith (q % 8) hj8 x hx2
  have hFL : flip x (q % 8) = ((x ^^^ 2 ^ (q % 8) : Nat) : Int) := by unfold flip; rw [Int.toNat_natCast]
  rw [hfl] at hFL
  obtain ⟨p, hP⟩ : ∃ p, p = 2 ^ (q % 8) := ⟨_, rfl⟩
  rw [← hP] at hp1 hp0 hFL
  obtain ⟨d, hD⟩ : ∃ d, d = x / p := ⟨_, rfl⟩
  rw [← hD] at hFL
  have hDI : (x : Int) / (p : Int) = (d : Int) := by rw [hD]; rfl
  have hpz : ¬ (p : Int) = 0 := by omega
  have hpz2 : ¬ p = 0 := by omega
  have HP := Lib.hid hP; clear hP hD
  rw [← hX]
  have HX := Lib.hid hX; have HFL := Lib.hid hFL
  clear hx hX hfl hFL hn
  go_enter Tryd.func15, Tryd.ntmps15
  go_wp2_with (at_builtin; refine wpList_append_own _ rfl (.tmp 8) (.tmp 9) 23 rfl w.heap.size 5 i0 (.int .u8 0) 1 1 Tryd.underlying23 hi hz0 hz1 hz2 rfl (by decide) _ 0 [] rfl ?c0 ⟨b, off, none⟩ n cap (l.map (Value.int .u8)) rfl ?c1 ?c2 ?c3 ?c4 ?c5 ?c6 ?_)
  case c0 => exact World.ownsRow_lit w #[] 0 (Nat.le_refl _) (by unfold maxLen; omega) (by simp)
  case c1 => rw [List.length_map, HN.out]; omega
  case c2 => exact fun j u hj => Rd.cells (HR.out.below ((Below.refl _ _).alloc (Nat.le_refl _) _)) j u hj
  case c3 => intro u hu; simp only [List.mem_map] at hu; obtain ⟨x, _, rfl⟩ := hu; rfl
  case c4 => unfold maxLen; omega
  case c5 => omega
  case c6 => simp
  intro v' w2 hown hgrow _
  have HB2 : Hid (Below w.heap.size w w2) := ((Below.refl _ _).alloc (Nat.le_refl _) _).grown hgrow (by simp) (fun k hk => by simp [Value.ownBlock] at hk; subst hk; exact Nat.le_refl _)
  obtain ⟨g, cap', hv⟩ : ∃ g cap', v' = .slice (some ⟨g, 0, none⟩) n cap' := by
    rcases hown.2 with ⟨rfl, h0⟩ | ⟨g, cap', cur, rfl, _⟩
    · exfalso; omega
    · exact ⟨g, cap', rfl⟩
  subst hv
  have HO := Lib.hid hown
  clear hown hgrow
  have hcell : w2.cell? ⟨g, q / 8, none⟩ = some (.int .u8 (x : Int)) := by
    rw [HO.out.cellAt (q / 8) (by omega), List.getElem?_map, HX.out, List.getD_eq_getElem?_getD, List.getElem?_eq_getElem (by rw [HN.out]; exact hb)]; rfl
  have hf := HO.out.frozenAt (q / 8)
  go_wp2
  go_loop [6, 7] (fun v i => ∃ k : Nat, k ≤ q % 8 ∧ i = .int .i64 (k : Int) ∧ v = .int .u8 ((2 ^ k : Nat) : Int)) (fun _ i => q % 8 - (intOf i).toNat)
  case atStart => exact ⟨0, Nat.zero_le _, rfl, rfl⟩
  case round =>
    obtain ⟨k, hk, rfl, rfl⟩ := hrel
    by_cases hlt : k < q % 8
    · have h1 : 2 ^ k ≤ 64 := Nat.pow_le_pow_right (show 0 < 2 by decide) (show k ≤ 6 by omega)
      have h2 : 2 ^ (k + 1) = 2 ^ k * 2 := Nat.pow_succ ..
      have h3 : (k : Int) < (q : Int) % 8 := by omega
      generalize 2 ^ k = y at h1 h2
      generalize hz : 2 ^ (k + 1) = z at h2
      have HZ := Lib.hid hz; clear hz hcell hf
      go_wp2
      go_round
      case rel => exact ⟨k + 1, by omega, by go_num, int_eq (by rw [HZ.out]; omega)⟩
      case measure => simp [intOf]; omega
    · obtain rfl : k = q % 8 := by omega
      have h3 : ¬ ((q % 8 : Nat) : Int) < (q : Int) % 8 := by omega
      rw [← HP.out]
      by_cases hodd : d % 2 = 1
      · have h4 : ((d : Int) % 2 == 1) = true := by simp; omega
        have h5 : p ≤ x := by
          rcases Nat.lt_or_ge x p with h | h
          · have h6 : (x : Int) / (p : Int) = 0 := Int.ediv_eq_zero_of_lt (by omega) (by omega)
            rw [hDI] at h6; omega
          · exact h
        have hF := HFL.out
        rw [if_pos hodd] at hF
        have HF := Lib.hid hF; clear hF hp0
        go_wp2
        go_ret
        have ho3 := (HO.out.stored (q / 8) (.int .u8 ((x : Int) - p))).1
        have hb3 := HB2.out.setCell (p := ⟨g, q / 8, none⟩) (HO.out.lt g rfl).1 (.int .u8 ((x : Int) - p))
        rw [← List.map_set] at ho3
        rw [HF.out, show ((x - p : Nat) : Int) = (x : Int) - p from by omega]
        refine ⟨_, rfl, ?_, hb3⟩
        unfold OwnV
        rw [List.length_set, HN.out]; exact ho3
      · have h4 : ((d : Int) % 2 == 1) = false := by simp; omega
        have hF := HFL.out
        rw [if_neg hodd] at hF
        have h5 := flip_fit x (q % 8) (by omega) hj8
        rw [hF] at h5
        have HF := Lib.hid hF; clear hF hp0
        go_wp2
        go_ret
        have ho3 := (HO.out.stored (q / 8) (.int .u8 ((x : Int) + p))).1
        have hb3 := HB2.out.setCell (p := ⟨g, q / 8, none⟩) (HO.out.lt g rfl).1 (.int .u8 ((x : Int) + p))
        rw [← List.map_set] at ho3
        rw [HF.out, show ((x + p : Nat) : Int) = (x : Int) + p from by omega]
        refine ⟨_, rfl, ?_, hb3⟩
        unfold OwnV
        rw [List.length_set, HN.out]; exact ho3
theorem rturn_any (b off n cap : Nat) (l : List Int) (q : Int) (w : World) (hr : Rd w (some ⟨b, off, none⟩) l) (hn : l.length = n) (hm : n ≤ 9000) (hq0 : -9223372036854775808 ≤ q) (hq1 : q ≤ 9223372036854775807) : Calls Tryd.prog 15 #[.slice (some ⟨b, off, none⟩) n cap, .int .i64 q] w fun e w' => Owned w.heap.size (turn l q) e w w' := by
  by_cases hb : HasBit l q
  · have e1 : turn l q = l.set (q / 8).toNat (flip (l.getD (q / 8).toNat 0) (q % 8).toNat) := by unfold turn; rw [if_pos hb]
    obtain ⟨j, rfl⟩ : ∃ j : Nat, q = j := ⟨q.toNat, by have := hb.1; omega⟩
    rw [e1, show ((j : Int) / 8).toNat = j / 8 from by omega, show ((j : Int) % 8).toNat = j % 8 from by omega]
    exact rturn_yes b off n cap l j w hr hn hm (by have := hb.2; omega)
  · have e1 : turn l q = l := by unfold turn; rw [if_neg hb]
    rw [e1]
    exact rturn_no b off n cap l q w hr hn hm hb hq0 hq1
end Go.Proofs.YtmdfopbigkfbnaaDoor
