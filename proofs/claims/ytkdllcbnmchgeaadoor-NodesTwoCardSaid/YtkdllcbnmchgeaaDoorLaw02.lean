/-
  Layer 2's laws: what 'first' answers, and each law's walk. The library's table of 32 numbers reads as its text lays it; else no conditions but that the arguments are of their types.
-/
import Derived.Test.YtkdllcbnmchgeaaDoorRef02
import Derived.Test.YtkdllcbnmchgeaaDoorRows
import Derived.MakeChecks
import Derived.Lib.LaidTab
namespace Go.Proofs.YtkdllcbnmchgeaaDoor
open Go.RowKit
set_option linter.unusedVariables false

/-- out of the row's condition: the library's table -/
theorem tz_of_laid (laid : List (String × DataW Unit)) {W : World} (he : laid = Rows.nodesSetsRow.laid) (h : laidMetH Tryd.prog laid W) : Tz W := by
  subst he
  rw [MakeChecks.laidMetH_plain _ _ _ (by kernel_rfl)] at h
  have gN : Tryd.prog.globalNamed "math/bits.deBruijn32tab" = some 0 := by kernel_rfl
  have gT : (Tryd.prog.globals[0]?).map (·.type) = some 42 := by kernel_rfl
  have hT : Lib.TabIs Tryd.prog W "math/bits.deBruijn32tab" .u8 (ints deB) := Lib.tabIs_of_head gN gT Tryd.underlying42 Tryd.underlying5 (by kernel_rfl) (by kernel_rfl) h
  intro i hi
  have := hT.cell gN i hi
  rw [this]
  refine congrArg some (int_eq ?_)
  have hl : i < deB.length := hi
  unfold ints
  rw [List.getD_eq_getElem?_getD, List.getElem?_map, List.getD_eq_getElem?_getD, List.getElem?_eq_getElem hl]; rfl
theorem u16_nat {a : Int} (h : (Lit.int .u16 a).wf = true) : ∃ n : Nat, a = n ∧ n < 65536 := by
  simp [Lit.wf, IntKind.min, IntKind.max, IntKind.signed, IntKind.bits] at h
  exact ⟨a.toNat, by omega, by omega⟩
theorem i64_fit {a : Int} (h : (Lit.int .i64 a).wf = true) : -9223372036854775808 ≤ a ∧ a ≤ 9223372036854775807 := by
  simpa [Lit.wf, IntKind.min, IntKind.max, IntKind.signed, IntKind.bits] using h
theorem rd_new (w : World) (cs : List Int) (n : Nat) (h : ∀ n ∈ cs, -9223372036854775808 ≤ n ∧ n ≤ 9223372036854775807) (hn : cs.length = n) (hm : n ≤ 9223372036854775807) : Rd (w.alloc (.cells (cs.map (Value.int .i64)).toArray 3)) (some ⟨w.heap.size, 0, none⟩) cs := by
  subst hn
  refine ⟨hm, h, fun _ => ⟨w.heap.size, 0, rfl, fun i hi => ?_⟩⟩
  rw [Nat.zero_add, cell_of_row (w.alloc (.cells (cs.map (Value.int .i64)).toArray 3)) w.heap.size i _ 3 (0, 0) (heap_alloc_new w _)]
  simp [List.getD_eq_getElem?_getD, hi]
theorem g1 (w0 : World) : Calls Tryd.prog 8 #[.slice (some ⟨w0.heap.size, 0, none⟩) 5 5] (w0.alloc (.cells #[.int .i64 3, .int .i64 0, .int .i64 3, .int .i64 16, .int .i64 (-1)] 3)) fun e w' => e = .returned (.int .u16 9) ∧ (w0.alloc (.cells #[.int .i64 3, .int .i64 0, .int .i64 3, .int .i64 16, .int .i64 (-1)] 3)) = w' :=
  of_any _ 5 5 [3, 0, 3, 16, -1] _ (rd_new w0 _ 5 (by intro n hn; simp at hn; omega) rfl (by omega)) rfl
theorem txt9 : txt 9 = [48, 44, 51] := by
  have h : upto 9 16 = [0, 3] := by decide
  unfold txt
  rw [if_neg (by decide), h]
  show Lib.join [Lib.decDigits 0, Lib.decDigits 3] [44] = _
  rw [dig1 0 (by decide), dig1 3 (by decide)]
  decide
theorem g2 (w0 : World) (hT : Tz w0) : Calls Tryd.prog 22 #[.int .u16 9] w0 fun e w' => e = .returned (.string ⟨#[48, 44, 51]⟩) ∧ Below w0.heap.size w0 w' := by
  have := text_any 9 w0 (by decide) hT
  rwa [txt9] at this
theorem g3 (w0 : World) (hT : Tz w0) : Calls Tryd.prog 18 #[.int .u16 9, .int .i64 1] w0 fun e w' => e = .returned (.int .i64 3) ∧ w0 = w' := by
  refine (next_any 9 1 w0 (by decide) hT).mono ?_
  rintro e w' ⟨r, rfl, h, rfl⟩
  have h3 : NextIs 9 1 3 := .inr ⟨3, rfl, by decide, by decide, by decide, fun j h1 h2 => by
    obtain rfl | rfl : j = 1 ∨ j = 2 := by omega
    · decide
    · decide⟩
  rw [h.unique h3]
  exact ⟨rfl, rfl⟩
theorem g4 (w0 : World) : Calls Tryd.prog 15 #[.int .u16 9] w0 fun e w' => e = .returned (.int .i64 2) ∧ Below w0.heap.size w0 w' := by
  have := len_any 9 w0 (by decide)
  rwa [show (upto 9 16).length = 2 from by decide] at this
theorem g5 (w0 : World) : Calls Tryd.prog 10 #[.int .u16 9, .int .i64 1] w0 fun e w' => e = .returned (.bool false) ∧ w0 = w' := has_any 9 1 w0 (by decide) (by decide) (by decide)
theorem g6 (w0 : World) (hT : Tz w0) : Calls Tryd.prog 22 #[.int .u16 0] w0 fun e w' => e = .returned (.string ⟨#[45]⟩) ∧ Below w0.heap.size w0 w' := text_any 0 w0 (by decide) hT
theorem first_any (w : World) (hT : Tz w) : Calls Tryd.prog 7 #[] w fun e w' => e = .returned (.bool true) ∧ Below w.heap.size w w' := by
  have HT := Lib.hid hT; clear hT
  go_enter Tryd.func7, Tryd.ntmps7
  go_wp2_with fail
  refine (g1 _).mono ?_
  rintro e w1 ⟨rfl, rfl⟩
  have h0 : Below w.heap.size w (w.alloc (.cells #[.int .i64 3, .int .i64 0, .int .i64 3, .int .i64 16, .int .i64 (-1)] 3)) := (Below.refl _ _).alloc (Nat.le_refl _) _
  have HT1 := Lib.hid (HT.out.below h0); have H0 := Lib.hid h0; clear h0
  go_wp2_with fail
  refine (g2 _ HT1.out).mono ?_
  rintro e w2 ⟨rfl, hb2⟩
  have HT2 := Lib.hid (HT1.out.below hb2); have HB2 := Lib.hid hb2; clear hb2
  go_wp2_with fail
  refine (g3 _ HT2.out).mono ?_
  rintro e w3 ⟨rfl, rfl⟩
  go_wp2_with fail
  refine (g4 _).mono ?_
  rintro e w4 ⟨rfl, hb4⟩
  have HT4 := Lib.hid (HT2.out.below hb4); have HB4 := Lib.hid hb4; clear hb4
  go_wp2_with fail
  refine (g5 _).mono ?_
  rintro e w5 ⟨rfl, rfl⟩
  go_wp2_with fail
  refine (g6 _ HT4.out).mono ?_
  rintro e w6 ⟨rfl, hb6⟩
  have HB6 := Lib.hid hb6; clear hb6
  go_wp2
  go_ret
  have q0 := H0.out.size
  have q2 := HB2.out.size
  have q4 := HB4.out.size
  refine ⟨rfl, ?_⟩
  exact ((H0.out.trans (HB2.out.mono q0)).trans (HB4.out.mono (by omega))).trans (HB6.out.mono (by omega))
theorem count_walk (a b : Nat) (w : World) (ha : a < 65536) (hb : b < 65536) (hT : Tz w) : Calls Tryd.prog 6 #[.int .u16 a, .int .u16 b] w fun e w' => e = .returned (.bool true) ∧ Below w.heap.size w w' := by
  have HT := Lib.hid hT; clear hT
  have hl1 : lessN a b < 65536 := lessN_lt ha
  have hl2 : lessN a (lessN a b) < 65536 := lessN_lt ha
  have hj : a ||| b < 65536 := or_lt ha hb
  have c1' := count_two ha hb
  have c2' := in_both ha hb
  have c3' := in_join ha hb
  have c4' := in_in ha hb
  have c5' := of_list ha
  have n1 := upto_len (a ||| b) 16
  have n2 := upto_len (lessN a (lessN a b)) 16
  have n3 := upto_len a 16
  have n4 := upto_len b 16
  have C1 := Lib.hid c1'; have C2 := Lib.hid c2'; have C3 := Lib.hid c3'; have C4 := Lib.hid c4'; have C5 := Lib.hid c5'
  clear c1' c2' c3' c4' c5'
  go_enter Tryd.func6, Tryd.ntmps6
  go_wp2_with fail
  refine (first_any _ HT.out).mono ?_
  rintro e w1 ⟨rfl, hb1⟩
  have HT1 := Lib.hid (HT.out.below hb1); have HB1 := Lib.hid hb1; clear hb1
  go_wp2_with fail
  refine (less_any a b _ ha hb).mono ?_
  rintro e w2 ⟨rfl, rfl⟩
  go_wp2_with fail
  refine (less_any a _ _ ha hl1).mono ?_
  rintro e w2 ⟨rfl, rfl⟩
  go_wp2_with fail
  refine (join_any a b _ ha hb).mono ?_
  rintro e w2 ⟨rfl, rfl⟩
  go_wp2_with fail
  refine (len_any _ _ hj).mono ?_
  rintro e w2 ⟨rfl, hb2⟩
  have HT2 := Lib.hid (HT1.out.below hb2); have HB2 := Lib.hid hb2; clear hb2
  go_wp2_with fail
  refine (len_any _ _ hl2).mono ?_
  rintro e w3 ⟨rfl, hb3⟩
  have HT3 := Lib.hid (HT2.out.below hb3); have HB3 := Lib.hid hb3; clear hb3
  go_wp2_with fail
  refine (len_any _ _ ha).mono ?_
  rintro e w4 ⟨rfl, hb4⟩
  have HT4 := Lib.hid (HT3.out.below hb4); have HB4 := Lib.hid hb4; clear hb4
  go_wp2_with fail
  refine (len_any _ _ hb).mono ?_
  rintro e w5 ⟨rfl, hb5⟩
  have HT5 := Lib.hid (HT4.out.below hb5); have HB5 := Lib.hid hb5; clear hb5
  have hs : (((upto (a ||| b) 16).length : Int) + ((upto (lessN a (lessN a b)) 16).length : Int) == ((upto a 16).length : Int) + ((upto b 16).length : Int)) = true := by
    have := C1.out; simp; omega
  have hi2 := in_any (lessN a (lessN a b)) b w5 hl2 hb
  have hi3 := in_any a (a ||| b) w5 ha hj
  have hi4 := in_any a b w5 ha hb
  have hi5 := in_any b a w5 hb ha
  rw [C2.out] at hi2
  rw [C3.out] at hi3
  have he : ((a : Int) == (b : Int)) = (inN a b && inN b a) := by
    rw [C4.out]
    by_cases h : a = b
    · subst h; simp
    · rw [decide_eq_false h]; simp; omega
  generalize inN a b = x at hi4 he
  generalize inN b a = y at hi5 he
  have HI2 := Lib.hid hi2; have HI3 := Lib.hid hi3; have HI4 := Lib.hid hi4; have HI5 := Lib.hid hi5
  clear hi2 hi3 hi4 hi5
  cases x <;> cases y
  all_goals
    go_wp2_with fail
    refine HI2.out.mono ?_
    rintro e w6 ⟨rfl, rfl⟩
    go_wp2_with fail
    refine (join_any a b _ ha hb).mono ?_
    rintro e w6 ⟨rfl, rfl⟩
    go_wp2_with fail
    refine HI3.out.mono ?_
    rintro e w6 ⟨rfl, rfl⟩
    go_wp2_with fail
    refine HI4.out.mono ?_
    rintro e w6 ⟨rfl, rfl⟩
    go_wp2_with fail
    try (refine HI5.out.mono ?_; rintro e w6 ⟨rfl, rfl⟩; go_wp2_with fail)
    refine (list_any a _ ha HT5.out).mono ?_
    rintro e w7 ⟨y7, rfl, ho7, hb7⟩
    obtain ⟨A, cap, rfl, hr⟩ := ho7.rd (by intro n hn; obtain ⟨i, hi, rfl⟩ := List.mem_map.1 hn; have := (mem_upto.1 hi).1; omega) (by rw [ints_len]; omega)
    have HB7 := Lib.hid hb7; have HR := Lib.hid hr; clear hb7 hr ho7
    go_wp2_with fail
    refine (of_any A _ cap _ _ HR.out rfl).mono ?_
    rintro e w8 ⟨rfl, rfl⟩
    rw [show ofN (ints (upto a 16)) = a from C5.out]
    go_wp2
    go_ret
    have q1 := HB1.out.size
    have q2 := HB2.out.size
    have q3 := HB3.out.size
    have q4 := HB4.out.size
    have q5 := HB5.out.size
    exact ⟨rfl, ((((HB1.out.trans (HB2.out.mono q1)).trans (HB3.out.mono (by omega))).trans (HB4.out.mono (by omega))).trans (HB5.out.mono (by omega))).trans (HB7.out.mono (by omega))⟩
end Go.Proofs.YtkdllcbnmchgeaaDoor
