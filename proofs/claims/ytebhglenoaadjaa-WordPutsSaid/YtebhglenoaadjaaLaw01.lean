/-
  Layer 1's laws: what 'first' answers, and each law's walk. No conditions but that the arguments are of their types.
-/
import Derived.Test.YtebhglenoaadjaaRef01
import Derived.Laws.BytesArg
namespace Go.Proofs.Ytebhglenoaadjaa
open Go.RowKit
set_option linter.unusedVariables false

theorem Rd.conv {w : World} {A : Option Addr} {l : List Int} (h : Rd w A l) (n cap : Nat) (hn : l.length = n) : (convert 22 9 (.slice A n cap)).run Try.prog w = .ok (.string (strOfNums l)) w := by
  subst hn
  by_cases hl : 0 < l.length
  · obtain ⟨b, off, rfl, hc⟩ := h.2.2 hl
    exact run_convert_bytes_arg w 22 5 Try.underlying22 Try.underlying5 b off _ cap l rfl hc _ Try.underlying9
  · obtain rfl : l = [] := List.length_eq_zero_iff.1 (by omega)
    rw [run_convert_bytes_string w 22 9 5 _ _ cap Try.underlying22 Try.underlying5 Try.underlying9]
    cases A with
    | none => simp [Conv.bytesToString, strOfNums]; rfl
    | some a =>
      have hl : (loadCells a 0).run Try.prog w = .ok (([] : List Int).map (Value.int .u8)).toArray w := run_loadCells_list (P := Try.prog) w a [] (fun j v hj => by simp at hj)
      exact run_bytesToString w a 0 cap [] hl
theorem rd_new (w : World) (cs : List Int) (n : Nat) (h : Byt cs) (hn : cs.length = n) (hm : n ≤ 9223372036854775807) : Rd (w.alloc (.cells (cs.map (Value.int .u8)).toArray 5)) (some ⟨w.heap.size, 0, none⟩) cs := by
  subst hn
  refine ⟨h, hm, fun _ => ⟨w.heap.size, 0, rfl, fun i hi => ?_⟩⟩
  rw [Nat.zero_add, cell_of_row (w.alloc (.cells (cs.map (Value.int .u8)).toArray 5)) w.heap.size i _ 5 (0, 0) (heap_alloc_new w _)]
  simp [List.getD_eq_getElem?_getD, hi]
theorem byt3 : Byt [52, 18, 255] := by intro n hn; simp at hn; omega
theorem byt1 : Byt [1] := by intro n hn; simp at hn; omega
theorem sz1 : SzI 1 := .inl rfl
theorem sz2 : SzI 2 := .inr (.inl rfl)
theorem sz4 : SzI 4 := .inr (.inr (.inl rfl))
theorem sz8 : SzI 8 := .inr (.inr (.inr rfl))
theorem g1 : ∀ w0 : World, Calls Try.prog 8 #[.slice (some ⟨w0.heap.size, 0, none⟩) 3 3, .int .i64 0, .int .i64 2] (w0.alloc (.cells #[.int .u8 52, .int .u8 18, .int .u8 255] 5)) fun e w' => e = .returned (.tuple #[.int .u64 4660, .bool true]) ∧ (w0.alloc (.cells #[.int .u8 52, .int .u8 18, .int .u8 255] 5)) = w' :=
    fun w0 => get_yes _ 3 [52, 18, 255] 3 0 2 _ (rd_new w0 _ 3 byt3 rfl (by omega)) rfl ⟨sz2, by omega, by omega⟩
theorem g2 : ∀ (A : Option Addr) (w0 : World), Calls Try.prog 8 #[.slice A 1 1, .int .i64 0, .int .i64 2] w0 fun e w' => e = .returned (.tuple #[.int .u64 0, .bool false]) ∧ w0 = w' :=
    fun A w0 => get_no _ 1 1 0 2 _ (by omega) (fun h => by have := h.2.2; omega)
theorem g3 : ∀ w0 : World, Calls Try.prog 16 #[.int .u64 128, .int .i64 1] w0 fun e w' => e = .returned (.int .u64 18446744073709551488) ∧ w0 = w' := fun w0 => sign_yes 128 1 w0 sz1 (by omega) (by omega)
theorem g4 : ∀ w0 : World, Calls Try.prog 19 #[.int .u64 12, .int .i64 4] w0 fun e w' => e = .returned (.bool true) ∧ w0 = w' := fun w0 => aligned_yes 12 4 w0 sz4 (by omega) (by omega)
theorem g5 : ∀ w0 : World, Calls Try.prog 19 #[.int .u64 12, .int .i64 8] w0 fun e w' => e = .returned (.bool false) ∧ w0 = w' := fun w0 => aligned_yes 12 8 w0 sz8 (by omega) (by omega)
theorem g6 : ∀ w0 : World, Calls Try.prog 18 #[.int .u64 258, .int .i64 2] w0 fun e w' => Made w0.heap.size [2, 1] e w0 w' := fun w0 => bytes_yes 258 2 w0 sz2 (by omega) (by omega)
theorem first_any (w : World) : Calls Try.prog 7 #[] w fun e w' => e = .returned (.bool true) ∧ Below w.heap.size w w' := by
  go_enter Try.func7, Try.ntmps7
  go_wp2_with fail
  refine (g1 _).mono ?_
  rintro e w1 ⟨rfl, rfl⟩
  go_wp2_with fail
  refine (g2 _ _).mono ?_
  rintro e w2 ⟨rfl, rfl⟩
  go_wp2_with fail
  refine (g3 _).mono ?_
  rintro e w2 ⟨rfl, rfl⟩
  go_wp2_with fail
  refine (g4 _).mono ?_
  rintro e w2 ⟨rfl, rfl⟩
  go_wp2_with fail
  refine (g5 _).mono ?_
  rintro e w2 ⟨rfl, rfl⟩
  go_wp2_with fail
  refine (g6 _).mono ?_
  rintro e w6 ⟨y, rfl, hy, hb⟩
  obtain ⟨A, cap, rfl, hr⟩ := hy.own.rd (byt_Byt 2 258) (by decide)
  have hcv := hr.conv 2 cap rfl
  have HB := Lib.hid hb; clear hb hr hy
  go_wp2
  go_ret
  refine ⟨congrArg (fun b => Ending.returned (Value.bool b)) (by kernel_rfl), ?_⟩
  exact (((Below.refl _ _).alloc (Nat.le_refl _) _).alloc (by simp) _).trans (HB.out.mono (by simp; omega))
theorem rd_of_row {w : World} {a : Option Addr} {len cap : Nat} {zs : List Int}
    (h : (a = none ∧ len = 0 ∧ cap = 0 ∧ zs = []) ∨ ∃ x, a = some x ∧ len ≤ cap ∧ cap ≤ maxLen ∧ zs.length = cap ∧ (∀ i, i < zs.length → w.cell? (x.add i) = some (.int .u8 (zs.getD i 0))) ∧ ∀ n ∈ zs, (Lit.int .u8 n).wf = true) :
    Rd w a (zs.take len) ∧ (zs.take len).length = len := by
  rcases h with ⟨rfl, rfl, rfl, rfl⟩ | ⟨x, rfl, hl, hm, hz, hc, hw⟩
  · exact ⟨⟨Byt.nil, by simp, fun h => by simp at h⟩, rfl⟩
  · have e : (zs.take len).length = len := by rw [List.length_take]; omega
    unfold maxLen at hm
    refine ⟨⟨fun n hn => ?_, by omega, fun h0 => ?_⟩, e⟩
    · have := hw n (List.mem_of_mem_take hn)
      simpa [Lit.wf, IntKind.min, IntKind.max, IntKind.signed, IntKind.bits] using this
    · obtain ⟨b, off, rfl, hc'⟩ := ints_at hc (by omega)
      refine ⟨b, off, rfl, fun i hi => ?_⟩
      rw [hc' i (by omega), List.getD_eq_getElem?_getD, List.getD_eq_getElem?_getD, List.getElem?_take_of_lt (by omega)]
theorem gets_walk (A : Option Addr) (n cap : Nat) (l : List Int) (a s : Int) (w : World) (hr : Rd w A l) (hn : l.length = n) :
    Calls Try.prog 3 #[.slice A n cap, .int .i64 a, .int .i64 s] w fun e w' => e = .returned (.bool true) ∧ Below w.heap.size w w' := by
  have hm : n ≤ 9223372036854775807 := by have := hr.2.1; omega
  by_cases hin : InB n a s
  · have hs := hin.1
    obtain ⟨s', rfl, _⟩ := hs.nat
    obtain ⟨a', rfl⟩ : ∃ a' : Nat, a = a' := ⟨a.toNat, by have := hin.2.1; omega⟩
    have HN := Lib.hid hn; have HR := Lib.hid hr; clear hn hr
    go_enter Try.func3, Try.ntmps3
    go_wp2_with fail
    refine (first_any _).mono ?_
    rintro e w1 ⟨rfl, hb1⟩
    have hr1 := HR.out.below hb1
    have HR1 := Lib.hid hr1; have HB1 := Lib.hid hb1; clear hr1 hb1
    go_wp2_with fail
    refine (get_yes A n l cap a' s' _ HR1.out HN.out hin).mono ?_
    rintro e w2 ⟨rfl, rfl⟩
    go_wp2_with fail
    refine (rget_yes A n l cap a' s' _ HR1.out HN.out hin).mono ?_
    rintro e w2 ⟨rfl, hb2⟩
    have HB2 := Lib.hid hb2; clear hb2
    go_wp2_with fail
    refine (size_yes _ _ hs).mono ?_
    rintro e w3 ⟨rfl, rfl⟩
    go_wp2_with fail
    refine (rsize_yes _ _ hs).mono ?_
    rintro e w3 ⟨rfl, hb3⟩
    have HB3 := Lib.hid hb3; clear hb3
    go_wp2
    go_ret
    have a1 := HB1.out.size
    have a2 := HB2.out.size
    exact ⟨rfl, (HB1.out.trans (HB2.out.mono a1)).trans (HB3.out.mono (by omega))⟩
  · have HN := Lib.hid hn; have HR := Lib.hid hr; clear hn hr
    by_cases hs : SzI s
    all_goals
      go_enter Try.func3, Try.ntmps3
      go_wp2_with fail
      refine (first_any _).mono ?_
      rintro e w1 ⟨rfl, hb1⟩
      have HB1 := Lib.hid hb1; clear hb1
      go_wp2_with fail
      refine (get_no A n cap a s _ hm hin).mono ?_
      rintro e w2 ⟨rfl, rfl⟩
      go_wp2_with fail
      refine (rget_no A n cap a s _ hm hin).mono ?_
      rintro e w2 ⟨rfl, hb2⟩
      have HB2 := Lib.hid hb2; clear hb2
      go_wp2_with fail
      first | refine (size_yes _ _ hs).mono ?_ | refine (size_no _ _ hs).mono ?_
      rintro e w3 ⟨rfl, rfl⟩
      go_wp2_with fail
      first | refine (rsize_yes _ _ hs).mono ?_ | refine (rsize_no _ _ hs).mono ?_
      rintro e w3 ⟨rfl, hb3⟩
      have HB3 := Lib.hid hb3; clear hb3
      go_wp2
      go_ret
      have a1 := HB1.out.size
      have a2 := HB2.out.size
      exact ⟨rfl, (HB1.out.trans (HB2.out.mono a1)).trans (HB3.out.mono (by omega))⟩
end Go.Proofs.Ytebhglenoaadjaa
