/-
  What each function of the document's answer for layer 2 (package runrigref02) answers and leaves in memory: contracts over the translation. Each says its own conditions.
-/
import Derived.Test.YtkddhjbdijegoaaDoorTxt15
namespace Go.Proofs.YtkddhjbdijegoaaDoor
open Go.RowKit
set_option linter.unusedVariables false

theorem rhas_any (s : Nat) (n : Int) (w : World) (hs : s < 65536) : Calls Tryd.prog 47 #[.int .u16 s, .int .i64 n] w fun e w' => e = .returned (.bool (hasN s n)) ∧ w = w' := by
  by_cases h : 0 ≤ n
  · by_cases h' : 15 < n
    · have hx : hasN s n = false := has_not ((nd_not n).2 (by omega))
      have HX := Lib.hid hx; clear hx
      go_enter Tryd.func47, Tryd.ntmps47
      go_wp2
      go_ret
      exact ⟨by rw [HX.out]; rfl, rfl⟩
    · obtain ⟨m, rfl⟩ : ∃ m : Nat, n = m := ⟨n.toNat, by omega⟩
      go_enter Tryd.func47, Tryd.ntmps47
      go_wp2
      go_loop [0, 5] (fun v i => ∃ k : Nat, k ≤ m ∧ i = .int .i64 (k : Int) ∧ v = .int .u16 (s / 2 ^ k : Nat)) (fun _ i => m - (intOf i).toNat)
      case atStart => exact ⟨0, Nat.zero_le _, rfl, by simp⟩
      case round =>
        obtain ⟨k, hk, rfl, rfl⟩ := hrel
        obtain ⟨q, hq⟩ : ∃ q, q = s / 2 ^ k := ⟨_, rfl⟩
        have hql : q < 65536 := by rw [hq]; exact Nat.lt_of_le_of_lt (Nat.div_le_self _ _) hs
        have hqn : s / 2 ^ (k + 1) = q / 2 := by rw [hq, Nat.pow_succ, Nat.div_div_eq_div_mul]
        rw [← hq]
        have HQ := Lib.hid hq; have HN := Lib.hid hqn; clear hq hqn
        by_cases h0 : k < m
        · go_wp2
          go_round
          case rel => exact ⟨k + 1, by omega, by go_num, int_eqN (by rw [HN.out]; omega)⟩
          case measure => simp [intOf]; omega
        · go_wp2
          obtain rfl : k = m := by omega
          go_ret
          refine ⟨congrArg (fun b => Ending.returned (Value.bool b)) ?_, rfl⟩
          rw [has_nat _ _ (by omega), Nat.testBit_eq_decide_div_mod_eq, ← HQ.out]
          rcases Nat.mod_two_eq_zero_or_one q with e | e
          · rw [show (q : Int) % 2 = 0 from by omega, e]; rfl
          · rw [show (q : Int) % 2 = 1 from by omega, e]; rfl
  · have hx : hasN s n = false := has_not ((nd_not n).2 (by omega))
    have HX := Lib.hid hx; clear hx
    go_enter Tryd.func47, Tryd.ntmps47
    go_wp2
    go_ret
    exact ⟨by rw [HX.out]; rfl, rfl⟩
theorem rlist_any (s : Nat) (w : World) (hs : s < 65536) : Calls Tryd.prog 37 #[.int .u16 s] w fun e w' => OwnedN w.heap.size (ints (upto s 16)) e w w' := by
  obtain ⟨i0, hi, hz0, hz1, hz2⟩ := info_parts info_int
  go_enter Tryd.func37, Tryd.ntmps37
  go_wp2
  go_loopw [3, 4] (fun v i wr => ∃ (k : Nat) (y : Value), k ≤ 16 ∧ i = .int .i64 k ∧ y = v ∧ OwnN w.heap.size (ints (upto s k)) y wr ∧ Below w.heap.size w wr) (fun _ i _ => 16 - (intOf i).toNat)
  case atStart => exact ⟨0, _, Nat.zero_le _, rfl, rfl, World.ownsRow_nil _ _ _ _, Below.refl _ _⟩
  case round =>
    obtain ⟨k, VL, hk, rfl, rfl, ho, hb⟩ := hrel
    have HB := Lib.hid hb; clear hb
    by_cases h0 : k < 16
    · by_cases ht : s.testBit k = true
      · have hh : hasN s k = true := by rw [has_nat _ _ h0, ht]
        have hs1 : ints (upto s (k + 1)) = ints (upto s k) ++ [(k : Int)] := ints_succ (Nat.le_refl _) ht (fun j h1 h2 => by omega)
        have hl1 := upto_len s k
        have ho1 : wr.ownsRow w.heap.size 3 1 VL (upto s k).length ((ints (upto s k)).map (Value.int .i64)) := by have := ho; unfold OwnN at this; rwa [ints_len] at this
        have HS := Lib.hid hs1; have HO := Lib.hid ho1; have HH := Lib.hid hh
        clear hs1 ho ho1 ht hh
        go_wp2_with fail
        refine (rhas_any s k _ hs).mono ?_
        rw [HH.out]
        rintro e w' ⟨rfl, rfl⟩
        go_wp2_with (at_builtin; refine wpList_append_own _ rfl _ _ 56 rfl w.heap.size 3 i0 (.int .i64 0) 1 8 Tryd.underlying56 hi hz0 hz1 hz2 rfl (by decide) _ (upto s k).length _ rfl (HO.out.alloc _) ⟨wr.heap.size, 0, none⟩ 1 1 [.int .i64 k] rfl rfl ?c1 ?c2 ?c3 ?c4 ?c5 ?_)
        case c1 => exact cell_one_new _ _ _
        case c2 => intro u hu; simp at hu; subst hu; rfl
        case c3 => unfold maxLen; omega
        case c4 => omega
        case c5 => have := HB.out.size; simp; omega
        intro v' w5 hown' hgrow _
        have ho5 : OwnN w.heap.size (ints (upto s (k + 1))) v' w5 := by
          unfold OwnN
          rw [HS.out, List.map_append, List.length_append, ints_len]
          exact hown'
        have hb5 : Below w.heap.size w w5 := (HB.out.alloc (by have := HB.out.size; omega) _).grown hgrow (by have := HB.out.size; simp; omega) (fun j hj => (HO.out.lt j hj).1)
        have HO5 := Lib.hid ho5; have HB5 := Lib.hid hb5; clear hown' hgrow ho5 hb5 HO HS
        go_wp2
        go_roundw
        case rel => exact ⟨k + 1, v', by omega, by go_num, rfl, HO5.out, HB5.out⟩
        case measure => simp [intOf]; omega
      · rw [Bool.not_eq_true] at ht
        have hh : hasN s k = false := by rw [has_nat _ _ h0, ht]
        have he : upto s (k + 1) = upto s k := by rw [upto_succ, ht]; simp
        have HE := Lib.hid he; have HO := Lib.hid ho; have HH := Lib.hid hh
        clear he ho ht hh
        go_wp2_with fail
        refine (rhas_any s k _ hs).mono ?_
        rw [HH.out]
        rintro e w' ⟨rfl, rfl⟩
        go_wp2
        go_roundw
        case rel => exact ⟨k + 1, VL, by omega, by go_num, rfl, by rw [HE.out]; exact HO.out, HB.out⟩
        case measure => simp [intOf]; omega
    · obtain rfl : k = 16 := by omega
      have HO := Lib.hid ho; clear ho
      go_wp2
      go_ret
      exact ⟨_, rfl, HO.out, HB.out⟩
theorem dig1 (c : Nat) (h : ¬ (9 : Int) < c) : Lib.decDigits c = [48 + UInt8.ofNat (c % 10)] := by
  have : ∀ c, c < 10 → [UInt8.ofNat (48 + c)] = [48 + UInt8.ofNat (c % 10)] := by decide
  rw [Lib.decDigits_one (by omega)]; exact this c (by omega)
theorem dig2 (c : Nat) (h : (9 : Int) < c) (h16 : c < 16) : Lib.decDigits c = [49, 48 + UInt8.ofNat (c % 10)] := by
  have : ∀ c, c < 16 → 9 < c → [UInt8.ofNat (48 + c / 10), UInt8.ofNat (48 + c % 10)] = [49, 48 + UInt8.ofNat (c % 10)] := by decide
  rw [Lib.decDigits_two (by omega) (by omega)]; exact this c h16 (by omega)
theorem rtext_any (s : Nat) (w : World) (hs : s < 65536) : Calls Tryd.prog 29 #[.int .u16 s] w fun e w' => e = .returned (.string ⟨(txt s).toArray⟩) ∧ Below w.heap.size w w' := by
  have h16 := upto_len s 16
  go_enter Tryd.func29, Tryd.ntmps29
  go_wp2_with fail
  refine (rlist_any s _ hs).mono ?_
  rintro e w1 ⟨y, rfl, ho, hb⟩
  obtain ⟨A, cap, rfl, hr⟩ := ho.rd (by intro n hn; obtain ⟨i, hi, rfl⟩ := List.mem_map.1 hn; have := (mem_upto.1 hi).1; omega) (by rw [ints_len]; omega)
  rw [ints_len]
  have HB := Lib.hid hb; have HR := Lib.hid hr; clear hb hr ho
  obtain ⟨L, hL⟩ : ∃ L, L = upto s 16 := ⟨_, rfl⟩
  have hmem : ∀ i ∈ L, i < 16 := fun i hi => by rw [hL] at hi; exact (mem_upto.1 hi).1
  rw [← hL] at h16 HR ⊢
  have HL := Lib.hid hL; have HM := Lib.hid hmem; clear hL hmem
  go_wp2
  go_loop [3, 9] (fun v i => ∃ k : Nat, k ≤ L.length ∧ i = .int .i64 k ∧ v = .string ⟨(Lib.join (decs (L.take k)) [44]).toArray⟩) (fun _ i => L.length - (intOf i).toNat)
  case atStart => exact ⟨0, Nat.zero_le _, rfl, rfl⟩
  case round =>
    obtain ⟨k, hk, rfl, rfl⟩ := hrel
    by_cases h0 : k < L.length
    · obtain ⟨b, off, rfl, hc⟩ := HR.out.2.2 (by rw [ints_len]; omega)
      have hcell := hc k (by rw [ints_len]; exact h0)
      have hg : (ints L).getD k 0 = (L.getD k 0 : Nat) := by
        unfold ints; rw [List.getD_eq_getElem?_getD, List.getElem?_map, List.getD_eq_getElem?_getD, List.getElem?_eq_getElem h0]; rfl
      rw [hg] at hcell
      have hi16 : L.getD k 0 < 16 := HM.out _ (by rw [List.getD_eq_getElem?_getD, List.getElem?_eq_getElem h0]; exact List.getElem_mem h0)
      have hds : decs (L.take (k + 1)) = decs (L.take k) ++ [Lib.decDigits (L.getD k 0)] := by
        unfold decs
        rw [List.take_succ_eq_append_getElem h0, List.map_append, List.getD_eq_getElem?_getD, List.getElem?_eq_getElem h0]; rfl
      obtain ⟨c, hC⟩ : ∃ c, c = L.getD k 0 := ⟨_, rfl⟩
      rw [← hC] at hcell hi16 hds
      have hj : Lib.join (decs (L.take (k + 1))) [44] = (if k = 0 then Lib.decDigits c else Lib.join (decs (L.take k)) [44] ++ 44 :: Lib.decDigits c) := by
        rw [hds, join_snoc]
        by_cases hk0 : k = 0
        · subst hk0; rfl
        · rw [if_neg hk0, if_neg]
          intro e
          have h5 : (decs (L.take k)).length = k := by unfold decs; rw [List.length_map, List.length_take, Nat.min_eq_left hk]
          rw [e] at h5
          exact hk0 h5.symm
      obtain ⟨T, hT⟩ : ∃ T, T = Lib.join (decs (L.take k)) [44] := ⟨_, rfl⟩
      have hT0 : k = 0 → T = [] := fun e => by subst e; rw [hT]; rfl
      have hTl : T.length ≤ 48 := by
        rw [hT]
        exact Nat.le_trans (join_len _ (fun i hi => HM.out i (List.mem_of_mem_take hi))) (by rw [List.length_take]; omega)
      have hx : ByteArray.extract ⟨#[48, 49, 50, 51, 52, 53, 54, 55, 56, 57]⟩ (c % 10) (c % 10 + 1) = ⟨#[UInt8.ofNat (48 + c % 10)]⟩ := by
        have h10 : c % 10 < 10 := Nat.mod_lt _ (by decide)
        generalize c % 10 = d at h10
        have : ∀ d, d < 10 → ByteArray.extract ⟨#[48, 49, 50, 51, 52, 53, 54, 55, 56, 57]⟩ d (d + 1) = ⟨#[UInt8.ofNat (48 + d)]⟩ := by decide
        exact this d h10
      rw [← hT] at hj ⊢
      have HJ := Lib.hid hj; clear hc hC hg hds hj hT
      by_cases hk0 : k = 0
      · obtain rfl := hT0 hk0
        subst hk0
        rw [Nat.add_zero] at hcell
        by_cases h9 : (9 : Int) < c
        · go_wp2
          go_round
          case rel => exact ⟨0 + 1, by omega, by go_num, by
            rw [HJ.out, if_pos rfl, dig2 c h9 hi16]
            simp [ByteArray.mk_append_mk]⟩
          case measure => simp [intOf]; omega
        · go_wp2
          go_round
          case rel => exact ⟨0 + 1, by omega, by go_num, by
            rw [HJ.out, if_pos rfl, dig1 c h9]
            simp [ByteArray.mk_append_mk]⟩
          case measure => simp [intOf]; omega
      · have hk1 : (0 : Int) < k := by omega
        by_cases h9 : (9 : Int) < c
        · go_wp2
          go_round
          case rel => exact ⟨k + 1, by omega, by go_num, by
            rw [HJ.out, if_neg hk0, dig2 c h9 hi16]
            simp [ByteArray.mk_append_mk]⟩
          case measure => simp [intOf]; omega
        · go_wp2
          go_round
          case rel => exact ⟨k + 1, by omega, by go_num, by
            rw [HJ.out, if_neg hk0, dig1 c h9]
            simp [ByteArray.mk_append_mk]⟩
          case measure => simp [intOf]; omega
    · obtain rfl : k = L.length := by omega
      rw [List.take_of_length_le (Nat.le_refl _)]
      have HL2 := HL
      by_cases hz : s = 0
      · subst hz
        obtain rfl : L = [] := by rw [HL.out]; exact upto_zero
        go_wp2
        go_ret
        exact ⟨rfl, HB.out⟩
      · have hne : L ≠ [] := fun e => hz (upto_ne hs (by rw [← HL.out, e]))
        have htx : txt s = Lib.join (decs L) [44] := by unfold txt; rw [if_neg hz, ← HL.out]
        rw [← htx]
        have hnn : txt s ≠ [] := by
          rw [htx]
          cases L with
          | nil => exact absurd rfl hne
          | cons c r =>
            show Lib.join (Lib.decDigits c :: decs r) [44] ≠ []
            rw [Lib.join_cons]
            have hc := HM.out c (by simp)
            intro e
            have := congrArg List.length (List.append_eq_nil_iff.1 e).1
            by_cases h9 : (9 : Int) < c
            · rw [dig2 c h9 hc] at this; simp at this
            · rw [dig1 c h9] at this; simp at this
        have hq : (txt s).isEmpty = false := by cases h : txt s with
          | nil => exact absurd h hnn
          | cons _ _ => rfl
        clear hne htx hnn
        go_wp2
        go_ret
        exact ⟨rfl, HB.out⟩
end Go.Proofs.YtkddhjbdijegoaaDoor
