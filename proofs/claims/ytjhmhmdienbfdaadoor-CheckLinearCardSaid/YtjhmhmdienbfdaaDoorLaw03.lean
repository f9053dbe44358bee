/-
  Layer 3's laws: what 'first' answers, and CheckSums' and CheckOpens' walks. The program's table of 16 numbers reads as its text lays it; else no conditions but that the arguments are of their types.
-/
import Derived.Test.YtjhmhmdienbfdaaDoorRef03
import Derived.Test.YtjhmhmdienbfdaaDoorFirst
import Derived.Test.YtjhmhmdienbfdaaDoorRows
import Derived.MakeChecks
import Derived.Lib.LaidTab
import Derived.Lib.SmallJoins
namespace Go.Proofs.YtjhmhmdienbfdaaDoor
open Go.RowKit
set_option linter.unusedVariables false
set_option linter.unusedSimpArgs false

/-- out of the row's condition: the program's table -/
theorem tz_of_laid (laid : List (String × DataW Unit)) {W : World} (he : laid = Rows.checkSumsRow.laid) (h : laidMetH Tryd.prog laid W) : Mv W := by
  subst he
  rw [MakeChecks.laidMetH_plain _ _ _ (by kernel_rfl)] at h
  have gN : Tryd.prog.globalNamed "runrig/check.moved" = some 0 := by kernel_rfl
  have gT : (Tryd.prog.globals[0]?).map (·.type) = some 35 := by kernel_rfl
  have hT : Lib.TabIs Tryd.prog W "runrig/check.moved" .u32 (mvd.map Int.ofNat) := Lib.tabIs_of_head gN gT Tryd.underlying35 Tryd.underlying24 (by kernel_rfl) (by kernel_rfl) h
  intro i hi
  have := hT.cell gN i hi
  rw [this]
  refine congrArg some (int_eq ?_)
  have hl : i < mvd.length := hi
  rw [List.getD_eq_getElem?_getD, List.getElem?_map, List.getD_eq_getElem?_getD, List.getElem?_eq_getElem hl]; rfl
theorem i64_fit {a : Int} (h : (Lit.int .i64 a).wf = true) : -9223372036854775808 ≤ a ∧ a ≤ 9223372036854775807 := by
  simpa [Lit.wf, IntKind.min, IntKind.max, IntKind.signed, IntKind.bits] using h
theorem own_rd {w : World} {B g n : Nat} {l : List Int} (h : w.ownsRow B 5 1 (.slice (some ⟨g, 0, none⟩) n n) n (l.map (Value.int .u8))) (hb : Byt l) (hm : n ≤ 9223372036854775807) : Rd w (some ⟨g, 0, none⟩) l ∧ l.length = n := by
  have hl : l.length = n := by have := h.1; simpa using this
  subst hl
  have ho : OwnV B l (.slice (some ⟨g, 0, none⟩) l.length l.length) w := h
  obtain ⟨A, cap, e, hr⟩ := ho.rd hb hm
  injection e with e1 _ _
  subst e1
  exact ⟨hr, rfl⟩
theorem rd_lit (w : World) (cs : List Int) (n : Nat) (fr : Nat × Nat) (h : Byt cs) (hn : cs.length = n) (hm : n ≤ 9223372036854775807) : Rd (w.alloc (.cells (cs.map (Value.int .u8)).toArray 5 fr)) (some ⟨w.heap.size, 0, none⟩) cs := by
  subst hn
  refine ⟨h, hm, fun _ => ⟨w.heap.size, 0, rfl, fun i hi => ?_⟩⟩
  rw [Nat.zero_add, cell_of_row (w.alloc (.cells (cs.map (Value.int .u8)).toArray 5 fr)) w.heap.size i _ 5 fr (heap_alloc_new w _)]
  simp [List.getD_eq_getElem?_getD, hi]
theorem abc_seal : sealed [97, 98, 99] = [97, 98, 99, 194, 65, 36, 53] := by decide +kernel
theorem abc_byt : Byt [97, 98, 99] := by intro n hn; simp at hn; omega
theorem few_byt : Byt [1, 2, 3] := by intro n hn; simp at hn; omega
theorem dig_byt : Byt [49, 50, 51, 52, 53, 54, 55, 56, 57] := by intro n hn; simp at hn; omega
theorem first_any (w : World) (hT : Mv w) : Calls Tryd.prog 7 #[] w fun e w' => e = .returned (.bool true) ∧ Below w.heap.size w w' := by
  have HT := Lib.hid hT; clear hT
  have kc := fun (w : World) (C : Array Value) (n c : Nat) => Lib.run_convert_bytes_const (P := Tryd.prog) w 22 5 C n c Tryd.underlying22 Tryd.underlying5
  go_enter Tryd.func7, Tryd.ntmps7
  go_wp2_with fail
  have h0 : Below w.heap.size w (w.alloc (.cells #[.int .u8 97, .int .u8 98, .int .u8 99] 5 (3, 4))) := (Below.refl _ _).alloc (Nat.le_refl _) _
  have H0 := Lib.hid h0; have HT0 := Lib.hid (HT.out.below h0); clear h0
  refine (seal_any _ 3 3 [97, 98, 99] _ (rd_lit w [97, 98, 99] 3 _ abc_byt rfl (by omega)) rfl (by omega) HT0.out).mono ?_
  rintro e w1 ⟨g, rfl, ho, hb⟩
  obtain ⟨hr1, hn1⟩ := own_rd ho (seal_Byt abc_byt) (by omega)
  have HR1 := Lib.hid hr1; have HN1 := Lib.hid hn1; have H1 := Lib.hid (H0.out.trans (hb.mono H0.out.size)); have HT1 := Lib.hid (HT0.out.below hb); clear ho hb hr1 hn1
  go_wp2_with fail
  refine (open_yes _ 3 7 _ _ HR1.out HN1.out (by omega) (by omega) HT1.out (seal_sld _)).mono ?_
  rintro e w2 ⟨g2, rfl, ho, hb⟩
  rw [show List.take 3 (sealed [97, 98, 99]) = [97, 98, 99] from by rw [abc_seal]; rfl] at ho
  obtain ⟨hr2, hn2⟩ := own_rd ho abc_byt (by omega)
  have HR2 := Lib.hid hr2; have H2 := Lib.hid (H1.out.trans (hb.mono H1.out.size)); have HT2 := Lib.hid (HT1.out.below hb); clear ho hb hr2 hn2
  go_wp2_with fail
  have h3 : Below w.heap.size w (w2.alloc (.cells #[.int .u8 1, .int .u8 2, .int .u8 3] 5)) := H2.out.alloc H2.out.size _
  have b3 : Below w2.heap.size w2 (w2.alloc (.cells #[.int .u8 1, .int .u8 2, .int .u8 3] 5)) := (Below.refl _ _).alloc (Nat.le_refl _) _
  have HT3 := Lib.hid (HT2.out.below b3); have HR3 := Lib.hid (HR2.out.below b3); have H3 := Lib.hid h3; clear h3 b3
  refine (open_no _ 3 3 [1, 2, 3] _ (rd_new w2 [1, 2, 3] 3 few_byt rfl (by omega)) rfl (by omega) HT3.out (fun h => by have := h.1; simp at this)).mono ?_
  rintro e w3 ⟨rfl, hw3⟩
  change w2.alloc (.cells #[.int .u8 1, .int .u8 2, .int .u8 3] 5) = w3 at hw3
  rw [hw3] at HT3 HR3 H3
  clear hw3
  have h4 : Below w.heap.size w (w3.alloc (.cells #[.int .u8 49, .int .u8 50, .int .u8 51, .int .u8 52, .int .u8 53, .int .u8 54, .int .u8 55, .int .u8 56, .int .u8 57] 5 (9, 10))) := H3.out.alloc H3.out.size _
  have b4 : Below w3.heap.size w3 (w3.alloc (.cells #[.int .u8 49, .int .u8 50, .int .u8 51, .int .u8 52, .int .u8 53, .int .u8 54, .int .u8 55, .int .u8 56, .int .u8 57] 5 (9, 10))) := (Below.refl _ _).alloc (Nat.le_refl _) _
  have HT4 := Lib.hid (HT3.out.below b4); have H4 := Lib.hid h4
  have hcv := (HR3.out.below b4).conv 3 3 rfl
  clear h4 b4
  go_wp2_with fail
  refine (sum_any _ 9 9 [49, 50, 51, 52, 53, 54, 55, 56, 57] _ (rd_lit w3 _ 9 _ dig_byt rfl (by omega)) rfl HT4.out).mono ?_
  rintro e w4 ⟨rfl, hw4⟩
  rw [show sm [49, 50, 51, 52, 53, 54, 55, 56, 57] = 3421780262 from by decide +kernel]
  change w3.alloc (.cells #[.int .u8 49, .int .u8 50, .int .u8 51, .int .u8 52, .int .u8 53, .int .u8 54, .int .u8 55, .int .u8 56, .int .u8 57] 5 (9, 10)) = w4 at hw4
  rw [hw4] at HT4 H4 hcv
  clear hw4
  go_wp2_with fail
  refine (sum_any none 0 0 [] _ ⟨Byt.nil, by simp, fun h => by simp at h⟩ rfl HT4.out).mono ?_
  rintro e w5 ⟨rfl, rfl⟩
  rw [show sm [] = 0 from by decide +kernel]
  have hst : (strOfNums [97, 98, 99]).toList = [97, 98, 99] := by rw [ByteArray.toList_eq]; rfl
  go_wp2
  go_ret
  exact ⟨rfl, H4.out⟩
set_option maxHeartbeats 1000000 in
theorem sums_walk (A : Option Addr) (n cap : Nat) (l : List Int) (w : World) (hr : Rd w A l) (hn : l.length = n) (hT : Mv w) : Calls Tryd.prog 3 #[.slice A n cap] w fun e w' => e = .returned (.bool true) ∧ Below w.heap.size w w' := by
  have HT := Lib.hid hT; have HR := Lib.hid hr; have HN := Lib.hid hn; clear hT hr hn
  by_cases hbig : 3000 < n
  · go_enter Tryd.func3, Tryd.ntmps3
    go_wp2_with fail
    refine (first_any _ HT.out).mono ?_
    rintro e w1 ⟨rfl, hb1⟩
    have HB1 := Lib.hid hb1; clear hb1
    go_wp2
    go_ret
    exact ⟨rfl, HB1.out⟩
  · go_enter Tryd.func3, Tryd.ntmps3
    go_wp2_with fail
    refine (first_any _ HT.out).mono ?_
    rintro e w1 ⟨rfl, hb1⟩
    have hb2 := hb1.drew
    obtain ⟨w2, hw2⟩ : ∃ x, x = w1.drew := ⟨_, rfl⟩
    have HT2 := Lib.hid (HT.out.below hb2); have HR2 := Lib.hid (HR.out.below hb2); have HB2 := Lib.hid hb2; clear hb1 hb2
    rw [← hw2] at HT2 HR2 HB2
    have hbyt := byt_Byt 4 (sm l : Int)
    have h32 := sm_lt HR2.out.1
    have hlen : (sealed l).length = n + 4 := by rw [seal_len, HN.out]
    have hcv2 : ∀ w', Below w2.heap.size w2 w' → (convert 22 9 (.slice A n cap)).run Tryd.prog w' = .ok (.string (strOfNums l)) w' := fun w' hb => (HR2.out.below hb).conv n cap HN.out
    go_wp2_with fail
    refine wp_region_held_drew (S := fun w' => Below w2.heap.size w2 w') (by kernel_rfl) (by rw [hw2]; exact Below.refl _ _) (fun hHeld => ?_)
    rw [← hw2] at hHeld ⊢
    clear hw2
    simp only [List.size_toArray, List.length_cons, List.length_nil, Nat.reduceAdd]
    rw [show Array.replicate 19 false = [false, false, false, false, false, false, false, false, false, false, false, false, false, false, false, false, false, false, false].toArray from rfl]
    refine wpAnyH_take (i := 0) (v := ?_) rfl (by kernel_rfl) (by kernel_rfl) (by kernel_rfl) (fun _ _ _ h => h) (Or.inl ⟨by rfl, ?yldq⟩) (by assumption) ?_
    case yldq => (intro w hSw; (try dsimp only at hSw); go_simp; try with_reducible rfl)
    try simp only [Act.put, List.setIfInBounds_toArray, List.set_cons_zero, List.set_cons_succ, List.getElem_toArray, List.getElem_cons_succ, List.getElem_cons_zero]
    refine wpAnyH_take (i := 2) (v := ?_) rfl (by kernel_rfl) (by kernel_rfl) (by kernel_rfl) (fun _ _ _ h => h) (Or.inl ⟨by rfl, ?yldq⟩) (by assumption) ?_
    case yldq => (intro w hSw; (try dsimp only at hSw); go_simp; try with_reducible rfl)
    try simp only [Act.put, List.setIfInBounds_toArray, List.set_cons_zero, List.set_cons_succ, List.getElem_toArray, List.getElem_cons_succ, List.getElem_cons_zero]
    refine wpAnyH_enter (i := 1) (v := _) rfl (by kernel_rfl) (by kernel_rfl) (by kernel_rfl) (fun _ _ _ h => h) ⟨by rfl, fun w hSw => ⟨_, _, ?yldr, sum_any A n cap l w (HR2.out.below hSw) HN.out (HT2.out.below hSw)⟩⟩ (by assumption) ?_
    case yldr => (go_simp; try with_reducible rfl)
    try simp only [Act.put, List.setIfInBounds_toArray, List.set_cons_zero, List.set_cons_succ, List.getElem_toArray, List.getElem_cons_succ, List.getElem_cons_zero]
    refine wpAnyH_enter (i := 3) (v := _) rfl (by kernel_rfl) (by kernel_rfl) (by kernel_rfl) (fun _ _ _ h => h) ⟨by rfl, fun w hSw => ⟨_, _, ?yldr, rsum_any A n cap l w (HR2.out.below hSw) HN.out⟩⟩ (by assumption) ?_
    case yldr => (go_simp; try with_reducible rfl)
    try simp only [Act.put, List.setIfInBounds_toArray, List.set_cons_zero, List.set_cons_succ, List.getElem_toArray, List.getElem_cons_succ, List.getElem_cons_zero]
    refine wpAnyH_take (i := 4) (v := ?_) rfl (by kernel_rfl) (by kernel_rfl) (by kernel_rfl) (fun _ _ _ h => h) (Or.inl ⟨by rfl, ?yldq⟩) (by assumption) ?_
    case yldq => (intro w hSw; (try dsimp only at hSw); go_simp; try with_reducible rfl)
    try simp only [Act.put, List.setIfInBounds_toArray, List.set_cons_zero, List.set_cons_succ, List.getElem_toArray, List.getElem_cons_succ, List.getElem_cons_zero]
    refine wpAnyH_take (i := 5) (v := ?_) rfl (by kernel_rfl) (by kernel_rfl) (by kernel_rfl) (fun _ _ _ h => h) (Or.inl ⟨by rfl, ?yldq⟩) (by assumption) ?_
    case yldq => (intro w hSw; (try dsimp only at hSw); go_simp; try with_reducible rfl)
    try simp only [Act.put, List.setIfInBounds_toArray, List.set_cons_zero, List.set_cons_succ, List.getElem_toArray, List.getElem_cons_succ, List.getElem_cons_zero]
    refine wpAnyH_take (i := 6) (v := ?_) rfl (by kernel_rfl) (by kernel_rfl) (by kernel_rfl) (fun _ _ _ h => h) (Or.inl ⟨by rfl, ?yldq⟩) (by assumption) ?_
    case yldq => (intro w hSw; (try dsimp only at hSw); go_simp; try with_reducible rfl)
    try simp only [Act.put, List.setIfInBounds_toArray, List.set_cons_zero, List.set_cons_succ, List.getElem_toArray, List.getElem_cons_succ, List.getElem_cons_zero]
    refine wpAnyH_take (i := 9) (v := ?_) rfl (by kernel_rfl) (by kernel_rfl) (by kernel_rfl) (fun _ _ _ h => h) (Or.inl ⟨by rfl, ?yldq⟩) (by assumption) ?_
    case yldq => (intro w hSw; (try dsimp only at hSw); go_simp; try with_reducible rfl)
    try simp only [Act.put, List.setIfInBounds_toArray, List.set_cons_zero, List.set_cons_succ, List.getElem_toArray, List.getElem_cons_succ, List.getElem_cons_zero]
    refine wpAnyH_take (i := 10) (v := ?_) rfl (by kernel_rfl) (by kernel_rfl) (by kernel_rfl) (fun _ _ _ h => h) (Or.inl ⟨by rfl, ?yldq⟩) (by assumption) ?_
    case yldq => (intro w hSw; (try dsimp only at hSw); go_simp; try with_reducible rfl)
    try simp only [Act.put, List.setIfInBounds_toArray, List.set_cons_zero, List.set_cons_succ, List.getElem_toArray, List.getElem_cons_succ, List.getElem_cons_zero]
    refine wpAnyH_take (i := 11) (v := ?_) rfl (by kernel_rfl) (by kernel_rfl) (by kernel_rfl) (fun _ _ _ h => h) (Or.inl ⟨by rfl, ?yldq⟩) (by assumption) ?_
    case yldq => (intro w hSw; (try dsimp only at hSw); go_simp; try with_reducible rfl)
    try simp only [Act.put, List.setIfInBounds_toArray, List.set_cons_zero, List.set_cons_succ, List.getElem_toArray, List.getElem_cons_succ, List.getElem_cons_zero]
    refine wpAnyH_ready (rs := [7]) (by kernel_rfl) (by simp) ?_
    refine AllReadyH.cons rfl (fun K hK => ?_) AllReadyH.nil
    go_simp
    refine (seal_any A n cap l _ HR2.out HN.out (by omega) HT2.out).mono ?_
    rintro e w3 ⟨g, rfl, ho3, hb3⟩
    obtain ⟨hr3, -⟩ := own_rd ho3 (seal_Byt HR2.out.1) (by omega)
    refine hK.out _ _ hb3 (fun _ => ?_)
    clear hK K hHeld ho3
    refine wpAnyH_more (S' := fun w' => Below w3.heap.size w3 w') (fun w' h => hb3.trans (h.mono hb3.size)) _ _ _ _ ?_
    have HR3 := Lib.hid hr3; have HB3 := Lib.hid hb3
    have hcv3 : ∀ w', Below w3.heap.size w3 w' → (convert 22 9 (.slice (some ⟨g, 0, none⟩) (n + 4) (n + 4))).run Tryd.prog w' = .ok (.string (strOfNums (sealed l))) w' := fun w' hb => (HR3.out.below hb).conv (n + 4) (n + 4) hlen
    have hHeld3 : Below w3.heap.size w3 w3 := Below.refl _ _
    clear hr3 hb3 hcv2
    refine wpAnyH_take (i := 8) (v := ?_) rfl (by kernel_rfl) (by kernel_rfl) (by kernel_rfl) (fun _ _ _ h => h) (Or.inl ⟨by rfl, ?yldq⟩) (by assumption) ?_
    case yldq => (intro w hSw; (try dsimp only at hSw); go_simp; try with_reducible rfl)
    try simp only [Act.put, List.setIfInBounds_toArray, List.set_cons_zero, List.set_cons_succ, List.getElem_toArray, List.getElem_cons_succ, List.getElem_cons_zero]
    refine wpAnyH_enter (i := 12) (v := _) rfl (by kernel_rfl) (by kernel_rfl) (by kernel_rfl) (fun _ _ _ h => h) ⟨by rfl, fun w hSw => ⟨_, _, ?yldr, rsum_any A n cap l w (HR2.out.below (HB3.out.trans (hSw.mono HB3.out.size))) HN.out⟩⟩ (by assumption) ?_
    case yldr => (go_simp; try with_reducible rfl)
    try simp only [Act.put, List.setIfInBounds_toArray, List.set_cons_zero, List.set_cons_succ, List.getElem_toArray, List.getElem_cons_succ, List.getElem_cons_zero]
    refine wpAnyH_ready (rs := [13]) (by kernel_rfl) (by simp) ?_
    refine AllReadyH.cons rfl (fun K hK => ?_) AllReadyH.nil
    go_simp
    refine (rtail_any _ _ (by omega) (by omega)).mono ?_
    rintro e w4 ⟨y, rfl, ho4, hb4⟩
    obtain ⟨A4, cap4, rfl, hr4⟩ := ho4.rd hbyt (by rw [byt_len]; omega)
    rw [byt_len] at *
    refine hK.out _ _ hb4 (fun _ => ?_)
    clear hK K hHeld3 ho4 hcv3
    refine wpAnyH_more (S' := fun w' => Below w4.heap.size w4 w') (fun w' h => hb4.trans (h.mono hb4.size)) _ _ _ _ ?_
    have HR4 := Lib.hid hr4; have HB4 := Lib.hid hb4
    have hcv4 : ∀ w', Below w4.heap.size w4 w' → (convert 22 9 (.slice A4 4 cap4)).run Tryd.prog w' = .ok (.string (strOfNums (byt (sm l : Int) 4))) w' := fun w' hb => (HR4.out.below hb).conv 4 cap4 (byt_len _ _)
    have hHeld4 : Below w4.heap.size w4 w4 := Below.refl _ _
    clear hr4 hb4
    have hz1 : (strOfNums l).size = n := by rw [← HN.out]; simp [strOfNums, ByteArray.size]
    have hz2 : (strOfNums (byt (sm l : Int) 4)).size = 4 := by simp [strOfNums, ByteArray.size, byt_len]
    have hz3 : ¬ 9223372036854775807 < n + 4 := by omega
    have hst : strOfNums (sealed l) = strOfNums l ++ strOfNums (byt (sm l : Int) 4) := by unfold sealed; rw [strOfNums_app]
    refine wpAnyH_take (i := 14) (v := ?_) rfl (by kernel_rfl) (by kernel_rfl) (by kernel_rfl) (fun _ _ _ h => h) (Or.inl ⟨by rfl, ?yldq⟩) (by assumption) ?_
    case yldq => (intro w hSw; (try dsimp only at hSw); go_simp; try with_reducible rfl)
    try simp only [Act.put, List.setIfInBounds_toArray, List.set_cons_zero, List.set_cons_succ, List.getElem_toArray, List.getElem_cons_succ, List.getElem_cons_zero]
    refine wpAnyH_take (i := 15) (v := ?_) rfl (by kernel_rfl) (by kernel_rfl) (by kernel_rfl) (fun _ _ _ h => h) (Or.inl ⟨by rfl, ?yldq⟩) (by assumption) ?_
    case yldq => (intro w hSw; (try dsimp only at hSw); go_simp; try with_reducible rfl)
    try simp only [Act.put, List.setIfInBounds_toArray, List.set_cons_zero, List.set_cons_succ, List.getElem_toArray, List.getElem_cons_succ, List.getElem_cons_zero]
    refine wpAnyH_take (i := 16) (v := ?_) rfl (by kernel_rfl) (by kernel_rfl) (by kernel_rfl) (fun _ _ _ h => h) (Or.inl ⟨by rfl, ?yldq⟩) (by assumption) ?_
    case yldq => (intro w hSw; (try dsimp only at hSw); go_simp; try with_reducible rfl)
    try simp only [Act.put, List.setIfInBounds_toArray, List.set_cons_zero, List.set_cons_succ, List.getElem_toArray, List.getElem_cons_succ, List.getElem_cons_zero]
    refine wpAnyH_take (i := 17) (v := ?_) rfl (by kernel_rfl) (by kernel_rfl) (by kernel_rfl) (fun _ _ _ h => h) (Or.inl ⟨by rfl, ?yldq⟩) (by assumption) ?_
    case yldq => (intro w hSw; (try dsimp only at hSw); go_simp; try with_reducible rfl)
    try simp only [Act.put, List.setIfInBounds_toArray, List.set_cons_zero, List.set_cons_succ, List.getElem_toArray, List.getElem_cons_succ, List.getElem_cons_zero]
    refine wpAnyH_take (i := 18) (v := ?_) rfl (by kernel_rfl) (by kernel_rfl) (by kernel_rfl) (fun _ _ _ h => h) (Or.inl ⟨by rfl, ?yldq⟩) (by assumption) ?_
    case yldq => (intro w hSw; (try dsimp only at hSw); go_simp; try with_reducible rfl)
    try simp only [Act.put, List.setIfInBounds_toArray, List.set_cons_zero, List.set_cons_succ, List.getElem_toArray, List.getElem_cons_succ, List.getElem_cons_zero]
    refine wpAnyH_done (by kernel_rfl) ?_ _
    clear hHeld4 hcv4
    go_wp2
    go_ret
    exact ⟨rfl, HB2.out.trans (HB3.out.trans (HB4.out.mono HB3.out.size) |>.mono HB2.out.size)⟩
theorem open_yes' (A : Option Addr) (n m cap : Nat) (l : List Int) (w : World) (e : n = m + 4) (hr : Rd w A l) (hn : l.length = n) (hcap : n ≤ cap) (hm : n ≤ 4000) (hT : Mv w) (h : Sld l) : Calls Tryd.prog 12 #[.slice A n cap] w fun e w' => ∃ g, e = .returned (.tuple #[.slice (some ⟨g, 0, none⟩) m m, .bool true]) ∧ w'.ownsRow w.heap.size 5 1 (.slice (some ⟨g, 0, none⟩) m m) m ((l.take m).map (Value.int .u8)) ∧ Below w.heap.size w w' := by
  subst e; exact open_yes A m cap l w hr hn hcap (by omega) hT h
theorem ropen_more' (A : Option Addr) (n m cap : Nat) (l : List Int) (t : Bool) (w : World) (e : n = m + 4) (hr : Rd w A l) (hn : l.length = n) (hcap : n ≤ cap) (ht : t = true ↔ Sld l) : Calls Tryd.prog 13 #[.slice A n cap] w fun e w' => e = .returned (.tuple #[if t then .slice A m cap else .slice none 0 0, .bool t]) ∧ Below w.heap.size w w' := by
  subst e; exact ropen_more A m cap l t w hr hn hcap ht
theorem opens_walk (A : Option Addr) (n cap : Nat) (l : List Int) (w : World) (hr : Rd w A l) (hn : l.length = n) (hcap : n ≤ cap) (hT : Mv w) : Calls Tryd.prog 4 #[.slice A n cap] w fun e w' => e = .returned (.bool true) ∧ Below w.heap.size w w' := by
  have HT := Lib.hid hT; have HR := Lib.hid hr; have HN := Lib.hid hn; clear hT hr hn
  have hcvn' : ∀ w0 : World, (convert 22 9 (.slice none 0 0)).run Tryd.prog w0 = .ok (.string (strOfNums [])) w0 := fun w0 => Rd.conv (w := w0) (l := []) ⟨Byt.nil, by decide, fun h => by simp at h⟩ 0 0 rfl
  have HCV := Lib.hid hcvn'; clear hcvn'
  by_cases hbig : 3000 < n
  · go_enter Tryd.func4, Tryd.ntmps4
    go_wp2_with fail
    refine (first_any _ HT.out).mono ?_
    rintro e w1 ⟨rfl, hb1⟩
    have HB1 := Lib.hid hb1; clear hb1
    go_wp2
    go_ret
    exact ⟨rfl, HB1.out⟩
  · by_cases hs : Sld l
    · obtain ⟨m, hnm⟩ : ∃ m, n = m + 4 := ⟨n - 4, by have := hs.1; rw [HN.out] at this; omega⟩
      have HNM := Lib.hid hnm
      have hlm : (l.take m).length = m := by rw [List.length_take, HN.out]; omega
      clear hnm
      have HS := Lib.hid hs; clear hs
      go_enter Tryd.func4, Tryd.ntmps4
      go_wp2_with fail
      refine (first_any _ HT.out).mono ?_
      rintro e w1 ⟨rfl, hb1⟩
      have HR1 := Lib.hid (HR.out.below hb1); have HT1 := Lib.hid (HT.out.below hb1); have HB1 := Lib.hid hb1; clear hb1
      go_wp2_with fail
      refine (open_yes' A n m cap l _ HNM.out HR1.out HN.out hcap (by omega) HT1.out HS.out).mono ?_
      rintro e w2 ⟨g, rfl, ho, hb2⟩
      obtain ⟨hr2, -⟩ := own_rd ho (HR.out.1.take m) (by have := HNM.out; omega)
      have HO := Lib.hid hr2; have HR2 := Lib.hid (HR1.out.below hb2); have HB2 := Lib.hid (HB1.out.trans (hb2.mono HB1.out.size)); clear hb2 ho hr2
      go_wp2_with fail
      refine (ropen_more' A n m cap l true _ HNM.out HR2.out HN.out hcap ⟨fun _ => HS.out, fun _ => rfl⟩).mono ?_
      rintro e w3 ⟨rfl, hb3⟩
      have hcv1 := (HO.out.below hb3).conv m m hlm
      have hcv2 := ((HR2.out.below hb3).upto m).conv m cap hlm
      have HB3 := Lib.hid (HB2.out.trans (hb3.mono HB2.out.size)); clear hb3
      rw [if_pos rfl]
      go_wp2
      go_ret
      exact ⟨rfl, HB3.out⟩
    · by_cases h4 : n < 4
      · have HS := Lib.hid hs; clear hs
        go_enter Tryd.func4, Tryd.ntmps4
        go_wp2_with fail
        refine (first_any _ HT.out).mono ?_
        rintro e w1 ⟨rfl, hb1⟩
        have HR1 := Lib.hid (HR.out.below hb1); have HT1 := Lib.hid (HT.out.below hb1); have HB1 := Lib.hid hb1; clear hb1
        go_wp2_with fail
        refine (open_no A n cap l _ HR1.out HN.out hcap HT1.out HS.out).mono ?_
        rintro e w2 ⟨rfl, rfl⟩
        go_wp2_with fail
        refine (ropen_few A n cap _ h4).mono ?_
        rintro e w2 ⟨rfl, rfl⟩
        have hcvn := fun w0 => HCV.out w0
        go_wp2
        go_ret
        exact ⟨rfl, HB1.out⟩
      · obtain ⟨m, hnm⟩ : ∃ m, n = m + 4 := ⟨n - 4, by omega⟩
        have HNM := Lib.hid hnm; clear hnm h4
        have HS := Lib.hid hs; clear hs
        go_enter Tryd.func4, Tryd.ntmps4
        go_wp2_with fail
        refine (first_any _ HT.out).mono ?_
        rintro e w1 ⟨rfl, hb1⟩
        have HR1 := Lib.hid (HR.out.below hb1); have HT1 := Lib.hid (HT.out.below hb1); have HB1 := Lib.hid hb1; clear hb1
        go_wp2_with fail
        refine (open_no A n cap l _ HR1.out HN.out hcap HT1.out HS.out).mono ?_
        rintro e w2 ⟨rfl, rfl⟩
        go_wp2_with fail
        refine (ropen_more' A n m cap l false _ HNM.out HR1.out HN.out hcap ⟨fun h => (by cases h), fun h => absurd h HS.out⟩).mono ?_
        rintro e w3 ⟨rfl, hb3⟩
        have HB3 := Lib.hid (HB1.out.trans (hb3.mono HB1.out.size)); clear hb3
        rw [if_neg (by decide)]
        have hcvn := fun w0 => HCV.out w0
        go_wp2
        go_ret
        exact ⟨rfl, HB3.out⟩
end Go.Proofs.YtjhmhmdienbfdaaDoor
