/-
  The walk of NodesSets: for every slice of ints and every int it returns true and changes nothing that was there. The library's table of 32 numbers reads as its text lays it.
-/
import Derived.Test.YtkdllcbnmchgeaaDoorLaw02
import Derived.Laws.BytesArg
namespace Go.Proofs.YtkdllcbnmchgeaaDoor
open Go.RowKit
set_option linter.unusedVariables false

theorem rd_of_row {w : World} {a : Option Addr} {len cap : Nat} {zs : List Int}
    (h : (a = none ∧ len = 0 ∧ cap = 0 ∧ zs = []) ∨ ∃ x, a = some x ∧ len ≤ cap ∧ cap ≤ maxLen ∧ zs.length = cap ∧ (∀ i, i < zs.length → w.cell? (x.add i) = some (.int .i64 (zs.getD i 0))) ∧ ∀ n ∈ zs, (Lit.int .i64 n).wf = true) :
    Rd w a (zs.take len) ∧ (zs.take len).length = len := by
  rcases h with ⟨rfl, rfl, rfl, rfl⟩ | ⟨x, rfl, hl, hm, hz, hc, hw⟩
  · exact ⟨⟨by simp, fun n hn => by simp at hn, fun h => by simp at h⟩, rfl⟩
  · have e : (zs.take len).length = len := by rw [List.length_take]; omega
    unfold maxLen at hm
    refine ⟨⟨by omega, fun n hn => i64_fit (hw n (List.mem_of_mem_take hn)), fun h0 => ?_⟩, e⟩
    obtain ⟨b, off, rfl, hc'⟩ := ints_at hc (by omega)
    refine ⟨b, off, rfl, fun i hi => ?_⟩
    rw [hc' i (by omega), List.getD_eq_getElem?_getD, List.getD_eq_getElem?_getD, List.getElem?_take_of_lt (by omega)]
theorem has_mem (l : List Int) (k : Int) (h : k ∈ l) : hasN (ofN l) k = nd k := by
  by_cases hn : nd k = true
  · have := (nd_iff k).1 hn
    obtain ⟨i, rfl⟩ : ∃ i : Nat, k = i := ⟨k.toNat, by omega⟩
    rw [has_nat _ _ (by omega), tb_ofN l i (by omega), decide_eq_true h, hn]
  · have h' : nd k = false := by simpa using hn
    rw [has_not h', h']
set_option maxHeartbeats 1000000 in
theorem sets_walk (A : Option Addr) (len cap : Nat) (l : List Int) (n : Int) (w : World) (hr : Rd w A l) (hn : l.length = len) (n0 : -9223372036854775808 ≤ n) (n1 : n ≤ 9223372036854775807) (hT : Tz w) : Calls Tryd.prog 3 #[.slice A len cap, .int .i64 n] w fun e w' => e = .returned (.bool true) ∧ Below w.heap.size w w' := by
  subst hn
  have HT := Lib.hid hT; have HR := Lib.hid hr; clear hT hr
  by_cases hl : 100 < l.length
  · go_enter Tryd.func3, Tryd.ntmps3
    go_wp2_with fail
    refine (first_any _ HT.out).mono ?_
    rintro e w1 ⟨rfl, hb1⟩
    have HB1 := Lib.hid hb1; clear hb1
    go_wp2
    go_ret
    exact ⟨rfl, HB1.out⟩
  · have hs := ofN_lt l
    have hm := has_mem l
    obtain ⟨s, es⟩ : ∃ s, s = ofN l := ⟨_, rfl⟩
    have f1 : ∀ w0, Rd w0 A l → Calls Tryd.prog 8 #[.slice A l.length cap] w0 fun e w' => e = .returned (.int .u16 (s : Nat)) ∧ w0 = w' := fun w0 h => by rw [es]; exact of_any A _ cap l w0 h rfl
    have f2 : ∀ w0, Rd w0 A l → Calls Tryd.prog 9 #[.slice A l.length cap] w0 fun e w' => e = .returned (.int .u16 (s : Nat)) ∧ w0 = w' := fun w0 h => by rw [es]; exact rof_any A _ cap l w0 h rfl
    rw [← es] at hs hm
    have h16 := upto_len s 16
    have hmem : ∀ n ∈ ints (upto s 16), -9223372036854775808 ≤ n ∧ n ≤ 9223372036854775807 := by
      intro n hn; obtain ⟨i, hi, rfl⟩ := List.mem_map.1 hn
      have := (mem_upto.1 hi).1; omega
    have F1 := Lib.hid f1; have F2 := Lib.hid f2; have HM := Lib.hid hm; have HE := Lib.hid hmem; clear es f1 f2 hm hmem
    have r1 : ∀ w0, Calls Tryd.prog 10 #[.int .u16 s, .int .i64 n] w0 fun e w' => e = .returned (.bool (hasN s n)) ∧ w0 = w' := fun w0 => has_any s n w0 hs n0 n1
    have r2 : ∀ w0, Calls Tryd.prog 11 #[.int .u16 s, .int .i64 n] w0 fun e w' => e = .returned (.bool (hasN s n)) ∧ w0 = w' := fun w0 => rhas_any s n w0 hs
    generalize hasN s n = x at r1 r2
    have R1 := Lib.hid r1; have R2 := Lib.hid r2; clear r1 r2
    cases x
    all_goals
      go_enter Tryd.func3, Tryd.ntmps3
      go_wp2_with fail
      refine (first_any _ HT.out).mono ?_
      rintro e w1 ⟨rfl, hb1⟩
      have HT1 := Lib.hid (HT.out.below hb1); have HR1 := Lib.hid (HR.out.below hb1); have HB1 := Lib.hid hb1; clear hb1
      go_wp2_with fail
      refine (F1.out _ HR1.out).mono ?_
      rintro e w2 ⟨rfl, rfl⟩
      go_wp2_with fail
      refine (F2.out _ HR1.out).mono ?_
      rintro e w2 ⟨rfl, rfl⟩
      go_wp2_with fail
      refine (R1.out _).mono ?_
      rintro e w2 ⟨rfl, rfl⟩
      go_wp2_with fail
      refine (R2.out _).mono ?_
      rintro e w2 ⟨rfl, rfl⟩
      go_wp2_with fail
      refine (list_any s _ hs HT1.out).mono ?_
      rintro e w3 ⟨y3, rfl, ho3, hb3⟩
      obtain ⟨A3, cap3, rfl, hr3⟩ := ho3.rd HE.out (by rw [ints_len]; omega)
      have HB3 := Lib.hid hb3; have HR3 := Lib.hid hr3; clear hb3 hr3 ho3
      go_wp2_with fail
      refine (rlist_any s _ hs).mono ?_
      rintro e w4 ⟨y4, rfl, ho4, hb4⟩
      obtain ⟨A4, cap4, rfl, hr4⟩ := ho4.rd HE.out (by rw [ints_len]; omega)
      have HB4 := Lib.hid hb4; have HR4 := Lib.hid hr4; have HR34 := Lib.hid (HR3.out.below hb4); clear hb4 hr4 ho4
      go_wp2_with fail
      refine (rsame_eq A3 A4 _ _ cap3 cap4 (ints (upto s 16)) _ HR34.out HR4.out rfl rfl).mono ?_
      rintro e w5 ⟨rfl, hb5⟩
      have HB5 := Lib.hid hb5; clear hb5
      go_wp2_with fail
      refine (len_any s _ hs).mono ?_
      rintro e w6 ⟨rfl, hb6⟩
      have HB6 := Lib.hid hb6; clear hb6
      go_wp2_with fail
      refine (rlist_any s _ hs).mono ?_
      rintro e w7 ⟨y7, rfl, ho7, hb7⟩
      obtain ⟨A7, cap7, rfl, hr7⟩ := ho7.rd HE.out (by rw [ints_len]; omega)
      have HB7 := Lib.hid hb7; clear hb7 hr7 ho7
      rw [ints_len]
      have q1 := HB1.out.size
      have q3 := HB3.out.size
      have q4 := HB4.out.size
      have q5 := HB5.out.size
      have q6 := HB6.out.size
      have hd : Below w1.heap.size w1 w7 := (((HB3.out.trans (HB4.out.mono q3)).trans (HB5.out.mono (by omega))).trans (HB6.out.mono (by omega))).trans (HB7.out.mono (by omega))
      have HD := Lib.hid hd; have HR7 := Lib.hid (HR1.out.below hd); clear hd q1 q3 q4 q5 q6
      go_wp2
      go_loop [46] (fun i => ∃ k : Nat, k ≤ l.length ∧ i = .int .i64 (k : Int)) (fun i => l.length - (intOf i).toNat)
      case atStart => exact ⟨0, Nat.zero_le _, rfl⟩
      case round =>
        obtain ⟨k, hk, rfl⟩ := hrel
        by_cases h0 : k < l.length
        · obtain ⟨b, off, rfl, hc⟩ := HR7.out.2.2 (by omega)
          have hcell := hc k h0
          have hq := HR7.out.2.1 _ (getD_mem h0)
          have hx := HM.out _ (getD_mem h0)
          generalize l.getD k 0 = c at hcell hq hx
          have rr := has_any s c w7 hs hq.1 hq.2
          rw [hx] at rr
          have RR := Lib.hid rr
          clear hc rr hx hq
          by_cases g0 : 0 ≤ c
          · by_cases g1 : c < 16
            all_goals
              go_wp2_with fail
              refine RR.out.mono ?_
              first | rw [(nd_iff c).2 ⟨g0, g1⟩] | rw [(nd_not c).2 (by omega)]
              rintro e w8 ⟨rfl, rfl⟩
              go_wp2
              go_round
              case rel => exact ⟨k + 1, by omega, by go_num⟩
              case measure => simp [intOf]; omega
          · go_wp2_with fail
            refine RR.out.mono ?_
            rw [(nd_not c).2 (by omega)]
            rintro e w8 ⟨rfl, rfl⟩
            go_wp2
            go_round
            case rel => exact ⟨k + 1, by omega, by go_num⟩
            case measure => simp [intOf]; omega
        · obtain rfl : k = l.length := by omega
          go_wp2
          go_ret
          exact ⟨rfl, HB1.out.trans (HD.out.mono HB1.out.size)⟩
end Go.Proofs.YtkdllcbnmchgeaaDoor
