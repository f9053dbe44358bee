/-
  The walk of NodesAdds: for every set and every int it returns true and changes nothing that was there. The library's table of 32 numbers reads as its text lays it.
-/
import Derived.Test.YtkdllcbnmchgeaaDoorLaw02
namespace Go.Proofs.YtkdllcbnmchgeaaDoor
open Go.RowKit
set_option linter.unusedVariables false

/-- the first one that isn't below n, or -1 -/
def fnd (n : Int) (l : List Nat) : Int := match l.find? (fun i : Nat => decide (n ≤ (i : Int))) with | some i => (i : Int) | none => -1
theorem fnd_snoc (n : Int) (l : List Nat) (c : Nat) : fnd n (l ++ [c]) = if fnd n l < 0 then (if n ≤ (c : Int) then (c : Int) else -1) else fnd n l := by
  unfold fnd
  rw [List.find?_append]
  cases h : l.find? (fun i : Nat => decide (n ≤ (i : Int))) with
  | some i => simp; omega
  | none =>
    by_cases hc : n ≤ (c : Int)
    · simp [hc]
    · simp [hc]
theorem fnd_lo (n : Int) (l : List Nat) : -1 ≤ fnd n l := by unfold fnd; split <;> omega
theorem fnd_upto (s : Nat) (n : Int) : ∀ k, (fnd n (upto s k) = -1 ∧ ∀ i : Nat, n ≤ i → i < k → s.testBit i = false) ∨ ∃ i : Nat, fnd n (upto s k) = i ∧ n ≤ i ∧ i < k ∧ s.testBit i = true ∧ ∀ j : Nat, n ≤ j → j < i → s.testBit j = false
  | 0 => .inl ⟨rfl, fun i _ h => by omega⟩
  | k + 1 => by
    rw [upto_succ]
    rcases fnd_upto s n k with ⟨h1, h2⟩ | ⟨i, h1, h2, h3, h4, h5⟩
    · by_cases ht : s.testBit k = true
      · rw [if_pos ht, fnd_snoc, h1, if_pos (by decide)]
        by_cases hn : n ≤ (k : Int)
        · rw [if_pos hn]
          exact .inr ⟨k, rfl, hn, by omega, ht, fun j q1 q2 => h2 j q1 q2⟩
        · rw [if_neg hn]
          exact .inl ⟨rfl, fun i q1 q2 => by omega⟩
      · rw [if_neg ht, List.append_nil]
        refine .inl ⟨h1, fun i q1 q2 => ?_⟩
        rcases Nat.lt_or_ge i k with h | h
        · exact h2 i q1 h
        · obtain rfl : i = k := by omega
          simpa using ht
    · refine .inr ⟨i, ?_, h2, by omega, h4, h5⟩
      split
      · rw [fnd_snoc, h1, if_neg (by omega)]
      · rw [List.append_nil, h1]
theorem fnd_next (s : Nat) (n : Int) : NextIs s n (fnd n (upto s 16)) := by
  rcases fnd_upto s n 16 with ⟨h1, h2⟩ | ⟨i, h1, h2, h3, h4, h5⟩
  · exact .inl ⟨h1, h2⟩
  · exact .inr ⟨i, h1, h2, h3, h4, h5⟩
theorem has_self_or (s : Nat) (n : Int) (h : nd n = true) : hasN (s ||| bitN n) n = true := by
  have := (nd_iff n).1 h
  obtain ⟨k, rfl⟩ : ∃ k : Nat, n = k := ⟨n.toNat, by omega⟩
  rw [has_or s k k (by omega)]; simp
theorem has_self_drop {s : Nat} (hs : s < 65536) (n : Int) : hasN (lessN s (bitN n)) n = false := by
  by_cases h : nd n = true
  · have := (nd_iff n).1 h
    obtain ⟨k, rfl⟩ : ∃ k : Nat, n = k := ⟨n.toNat, by omega⟩
    rw [has_drop hs k k (by omega)]; simp
  · exact has_not (by simpa using h)
set_option maxHeartbeats 1000000 in
theorem adds_walk (s : Nat) (n : Int) (w : World) (hs : s < 65536) (n0 : -9223372036854775808 ≤ n) (n1 : n ≤ 9223372036854775807) (hT : Tz w) : Calls Tryd.prog 4 #[.int .u16 s, .int .i64 n] w fun e w' => e = .returned (.bool true) ∧ Below w.heap.size w w' := by
  have HT := Lib.hid hT; clear hT
  have hA : s ||| bitN n < 65536 := or_lt hs (bitN_lt n)
  have hD : lessN s (bitN n) < 65536 := lessN_lt hs
  obtain ⟨a, ea⟩ : ∃ a, a = s ||| bitN n := ⟨_, rfl⟩
  obtain ⟨d, ed⟩ : ∃ d, d = lessN s (bitN n) := ⟨_, rfl⟩
  have k1 : ∀ k : Nat, k < 16 → ¬ (n = k) → hasN a k = hasN s k := fun k hk h => by rw [ea, has_or s n k hk, decide_eq_false h, Bool.or_false]
  have k2 : ∀ k : Nat, k < 16 → ¬ (n = k) → hasN d k = hasN s k := fun k hk h => by rw [ed, has_drop hs n k hk, decide_eq_false h]; simp
  have ha1 : ∀ w0, Calls Tryd.prog 16 #[.int .u16 s, .int .i64 n] w0 fun e w' => e = .returned (.int .u16 (a : Nat)) ∧ w0 = w' := fun w0 => by rw [ea]; exact add_any s n w0 hs n0 n1
  have hd1 : ∀ w0, Calls Tryd.prog 17 #[.int .u16 s, .int .i64 n] w0 fun e w' => e = .returned (.int .u16 (d : Nat)) ∧ w0 = w' := fun w0 => by rw [ed]; exact drop_any s n w0 hs n0 n1
  have hs2 : hasN d n = false := by rw [ed]; exact has_self_drop hs n
  have hcase : (0 ≤ n ∧ n < 16 ∧ hasN a n = true) ∨ (n < 0 ∧ hasN a n = false ∧ a = s ∧ d = s) ∨ (16 ≤ n ∧ hasN a n = false ∧ a = s ∧ d = s) := by
    by_cases h : nd n = true
    · have := (nd_iff n).1 h
      exact .inl ⟨this.1, this.2, by rw [ea]; exact has_self_or s n h⟩
    · have h' : nd n = false := by simpa using h
      have q : hasN a n = false ∧ a = s ∧ d = s := ⟨has_not h', by rw [ea]; exact or_not h', by rw [ed]; exact drop_not hs h'⟩
      rcases (nd_not n).1 h' with h2 | h2
      · exact .inr (.inl ⟨h2, q⟩)
      · exact .inr (.inr ⟨h2, q⟩)
  rw [← ea] at hA; rw [← ed] at hD
  have K1 := Lib.hid k1; have K2 := Lib.hid k2; have HA1 := Lib.hid ha1; have HD1 := Lib.hid hd1; have HS2 := Lib.hid hs2
  clear ea ed k1 k2 ha1 hd1 hs2
  have h16 := upto_len s 16
  have fin : ∀ (w1 : World) (hT1 : Tz w1), Calls Tryd.prog 18 #[.int .u16 s, .int .i64 n] w1 fun e w' => e = .returned (.int .i64 (fnd n (upto s 16))) ∧ w1 = w' := fun w1 hT1 => by
    refine (next_any s n w1 hs hT1).mono ?_
    rintro e w' ⟨r, rfl, hr, rfl⟩
    rw [hr.unique (fnd_next s n)]
    exact ⟨rfl, rfl⟩
  have FIN := Lib.hid fin; clear fin
  obtain ⟨L, hL⟩ : ∃ L, L = upto s 16 := ⟨_, rfl⟩
  have hlist : ∀ w0, Calls Tryd.prog 14 #[.int .u16 s] w0 fun e w' => Owned w0.heap.size (ints L) e w0 w' := fun w0 => by rw [hL]; exact rlist_any s w0 hs
  have hmem : ∀ n ∈ ints L, -9223372036854775808 ≤ n ∧ n ≤ 9223372036854775807 := by
    intro n hn; obtain ⟨i, hi, rfl⟩ := List.mem_map.1 hn
    rw [hL] at hi
    have := (mem_upto.1 hi).1; omega
  rw [← hL] at FIN h16
  have HLI := Lib.hid hlist; have HM := Lib.hid hmem; clear hL hlist hmem
  have hcase2 : (0 ≤ n ∧ n < 16 ∧ hasN a n = true ∧ True ∧ True) ∨ (n < 0 ∧ True ∧ hasN a n = false ∧ ((a : Int) != (s : Int)) = false ∧ ((d : Int) != (s : Int)) = false) ∨ (16 ≤ n ∧ True ∧ hasN a n = false ∧ ((a : Int) != (s : Int)) = false ∧ ((d : Int) != (s : Int)) = false) := by
    rcases hcase with ⟨h1, h2, h3⟩ | ⟨h1, h2, h3, h4⟩ | ⟨h1, h2, h3, h4⟩
    · exact .inl ⟨h1, h2, h3, trivial, trivial⟩
    · exact .inr (.inl ⟨h1, trivial, h2, by rw [h3]; simp, by rw [h4]; simp⟩)
    · exact .inr (.inr ⟨h1, trivial, h2, by rw [h3]; simp, by rw [h4]; simp⟩)
  clear hcase
  rcases hcase2 with ⟨c1', c2', hs1, q1, q2⟩ | ⟨c1', c2', hs1, q1, q2⟩ | ⟨c1', c2', hs1, q1, q2⟩
  all_goals
    have HS1 := Lib.hid hs1; clear hs1
    go_enter Tryd.func4, Tryd.ntmps4
    go_wp2_with fail
    refine (first_any _ HT.out).mono ?_
    rintro e w1 ⟨rfl, hb1⟩
    have HT1 := Lib.hid (HT.out.below hb1); have HB1 := Lib.hid hb1; clear hb1
    go_wp2_with fail
    refine (HA1.out _).mono ?_
    rintro e w2 ⟨rfl, rfl⟩
    go_wp2_with fail
    refine (HD1.out _).mono ?_
    rintro e w2 ⟨rfl, rfl⟩
    go_wp2_with fail
    refine (rhas_any a n _ hA).mono ?_
    rw [HS1.out]
    rintro e w2 ⟨rfl, rfl⟩
    go_wp2_with fail
    refine (rhas_any d n _ hD).mono ?_
    rw [HS2.out]
    rintro e w2 ⟨rfl, rfl⟩
    go_wp2
    clear q1 q2
    go_loop [8] (fun i => ∃ k : Nat, k ≤ 16 ∧ i = .int .i64 (k : Int)) (fun i => 16 - (intOf i).toNat)
    case atStart => exact ⟨0, Nat.zero_le _, rfl⟩
    case round =>
      obtain ⟨k, hk, rfl⟩ := hrel
      by_cases h0 : k < 16
      · by_cases hkn : (k : Int) = n
        · try (exfalso; omega)
          all_goals go_wp2
          all_goals go_round
          all_goals first | exact ⟨k + 1, by omega, by go_num⟩ | (simp [intOf]; omega)
        · have r1 := rhas_any a k w1 hA
          have r2 := rhas_any d k w1 hD
          have r3 := rhas_any s k w1 hs
          rw [K1.out k h0 (fun e => hkn e.symm)] at r1
          rw [K2.out k h0 (fun e => hkn e.symm)] at r2
          generalize hasN s k = x at r1 r2 r3
          have R1 := Lib.hid r1; have R2 := Lib.hid r2; have R3 := Lib.hid r3
          clear r1 r2 r3
          cases x
          all_goals
            go_wp2_with fail
            refine R1.out.mono ?_
            rintro e w2 ⟨rfl, rfl⟩
            go_wp2_with fail
            refine R3.out.mono ?_
            rintro e w2 ⟨rfl, rfl⟩
            go_wp2_with fail
            refine R2.out.mono ?_
            rintro e w2 ⟨rfl, rfl⟩
            go_wp2_with fail
            refine R3.out.mono ?_
            rintro e w2 ⟨rfl, rfl⟩
            go_wp2
            go_round
            case rel => exact ⟨k + 1, by omega, by go_num⟩
            case measure => simp [intOf]; omega
      · obtain rfl : k = 16 := by omega
        go_wp2_with fail
        refine (HLI.out _).mono ?_
        rintro e w3 ⟨y, rfl, ho, hb3⟩
        obtain ⟨A, cap, rfl, hr⟩ := ho.rd HM.out (by rw [ints_len]; omega)
        rw [ints_len]
        have HT3 := Lib.hid (HT1.out.below hb3); have HB3 := Lib.hid hb3; have HR := Lib.hid hr; clear hb3 hr ho
        go_wp2
        go_loop [9, 78] (fun v i => ∃ k : Nat, k ≤ L.length ∧ i = .int .i64 (k : Int) ∧ v = .int .i64 (fnd n (L.take k))) (fun _ i => L.length - (intOf i).toNat)
        case atStart => exact ⟨0, Nat.zero_le _, rfl, rfl⟩
        case round =>
          obtain ⟨k, hk, rfl, rfl⟩ := hrel
          by_cases h0 : k < L.length
          · obtain ⟨b, off, rfl, hc⟩ := HR.out.2.2 (by rw [ints_len]; omega)
            have hcell := hc k (by rw [ints_len]; exact h0)
            have hg : (ints L).getD k 0 = (L.getD k 0 : Nat) := by
              unfold ints; rw [List.getD_eq_getElem?_getD, List.getElem?_map, List.getD_eq_getElem?_getD, List.getElem?_eq_getElem h0]; rfl
            rw [hg] at hcell
            have hf : fnd n (L.take (k + 1)) = _ := (congrArg (fnd n) (List.take_succ_eq_append_getElem h0)).trans (fnd_snoc n (L.take k) _)
            rw [show L[k] = L.getD k 0 from by rw [List.getD_eq_getElem?_getD, List.getElem?_eq_getElem h0]; rfl] at hf
            have hlo := fnd_lo n (L.take k)
            generalize L.getD k 0 = c at hcell hf
            generalize fnd n (L.take k) = v at hf hlo ⊢
            have HF := Lib.hid hf; clear hc hg hf
            by_cases h1 : n ≤ (c : Int)
            · by_cases h2 : v < 0
              · go_wp2
                go_round
                case rel => exact ⟨k + 1, by omega, by go_num, int_eq (by rw [HF.out, if_pos h2, if_pos h1])⟩
                case measure => simp [intOf]; omega
              · go_wp2
                go_round
                case rel => exact ⟨k + 1, by omega, by go_num, int_eq (by rw [HF.out, if_neg h2])⟩
                case measure => simp [intOf]; omega
            · go_wp2
              go_round
              case rel => exact ⟨k + 1, by omega, by go_num, int_eq (by
                rw [HF.out]
                by_cases h2 : v < 0
                · rw [if_pos h2, if_neg h1]; omega
                · rw [if_neg h2])⟩
              case measure => simp [intOf]; omega
          · obtain rfl : k = L.length := by omega
            rw [List.take_of_length_le (Nat.le_refl _)]
            go_wp2_with fail
            refine (FIN.out _ HT3.out).mono ?_
            rintro e w4 ⟨rfl, rfl⟩
            generalize fnd n L = v
            go_wp2
            go_ret
            refine ⟨?_, HB1.out.trans (HB3.out.mono HB1.out.size)⟩
            simp
end Go.Proofs.YtkdllcbnmchgeaaDoor
