/-
  What tlb.New answers: contracts over the translation. Each says its own conditions.
-/
import Derived.Test.YtgnjbjbgfhjakaaGreatTlbB11
import Derived.Laws.OwnMore
namespace Go.Proofs.YtgnjbjbgfhjakaaGreat
open Go.RowKit
set_option linter.unusedVariables false
set_option linter.unusedSimpArgs false
attribute [local go_sem] setCell_drewN alloc_drewN

/-- the sets' slices while they are made: k of n -/
def layS (g : Nat → Nat) (n m k : Nat) : List Value := (List.range n).map (fun i => if i < k then .slice (some ⟨g i, 0, none⟩) m m else .slice none 0 0)
theorem layS_set (g : Nat → Nat) {n m k G : Nat} (hk : k < n) : (layS g n m k).set k (.slice (some ⟨G, 0, none⟩) m m) = layS (fun j => if j = k then G else g j) n m (k + 1) := by
  apply List.ext_getElem?
  intro i
  unfold layS
  by_cases hi : i = k
  · subst hi
    rw [List.getElem?_set_self (by simpa using hk)]
    simp [hk]
  · rw [List.getElem?_set_ne (by omega)]
    simp only [List.getElem?_map, List.getElem?_range]
    by_cases hn : i < n
    · rw [List.getElem?_range hn]
      simp only [Option.map_some, hi, if_false]
      by_cases h2 : i < k
      · rw [if_pos h2, if_pos (by omega)]
      · rw [if_neg h2, if_neg (by omega)]
    · rw [List.getElem?_eq_none (by simp; omega)]; rfl
theorem layS_zero (g : Nat → Nat) (n m : Nat) : layS g n m 0 = List.replicate n (.slice none 0 0) := by
  unfold layS
  apply List.ext_getElem?
  intro i
  by_cases hn : i < n
  · simp [hn]
  · rw [List.getElem?_eq_none (by simp; omega), List.getElem?_eq_none (by simp; omega)]
theorem layS_all (g : Nat → Nat) (n m : Nat) : layS g n m n = (List.range n).map (fun i => .slice (some ⟨g i, 0, none⟩) m m) := by
  unfold layS
  apply List.map_congr_left
  intro i hi
  rw [List.mem_range] at hi
  rw [if_pos hi]
theorem rowZ (m : Nat) : (madeCells (wyv zw).cells (m * 15)).toList = rowC (fun _ => zw) m := by
  apply List.ext_getElem?
  intro i
  unfold madeCells
  rw [Array.toList_map, Array.toList_range]
  by_cases hi : i < m * 15
  · have e : i = i / 15 * 15 + i % 15 := by omega
    have hlt : i % 15 < 15 := Nat.mod_lt _ (by decide)
    have hq : i / 15 < m := by omega
    have h2 : (rowC (fun _ => zw) m)[i]? = (wyC zw)[i % 15]? := by
      conv => lhs; rw [e]
      exact rowC_at _ _ _ _ hq hlt
    rw [h2, List.getElem?_map, List.getElem?_range hi]
    show some ((wyv zw).cells[i % 15]!) = _
    generalize i % 15 = r at hlt
    have : r = 0 ∨ r = 1 ∨ r = 2 ∨ r = 3 ∨ r = 4 ∨ r = 5 ∨ r = 6 ∨ r = 7 ∨ r = 8 ∨ r = 9 ∨ r = 10 ∨ r = 11 ∨ r = 12 ∨ r = 13 ∨ r = 14 := by omega
    rcases this with rfl | rfl | rfl | rfl | rfl | rfl | rfl | rfl | rfl | rfl | rfl | rfl | rfl | rfl | rfl <;> rfl
  · rw [List.getElem?_eq_none (by simp; omega), List.getElem?_eq_none (by rw [rowC_len]; omega)]
/-- may a buffer have so many sets and ways? -/
def rightT (n m : Int) : Bool := (decide (n = 1) || decide (n = 2) || decide (n = 4) || decide (n = 8) || decide (n = 16) || decide (n = 32) || decide (n = 64)) && (decide (1 ≤ m) && decide (m ≤ 8))
theorem infoY : (Tryz.prog.info? 161).map (fun i => (i.zero, i.size, i.bytes)) = some (some (wyv zw), 15, 64) := by kernel_rfl
theorem infoS : (Tryz.prog.info? 133).map (fun i => (i.zero, i.size, i.bytes)) = some (some (.slice none 0 0), 1, 24) := by kernel_rfl
set_option maxHeartbeats 4000000 in
theorem tlb_new (n m : Nat) (w : World) (hr : rightT n m = true) : Calls Tryz.prog 33 #[.int .i64 n, .int .i64 m] w fun e w' => ∃ b sp g, e = .returned (.tuple #[.pointer (some ⟨b, 0, none⟩), .int .i64 0]) ∧ Buf w' b sp g n m (fun _ _ => zw) ∧ (∀ k, FpT b sp g n k → w.heap.size ≤ k) ∧ Below w.heap.size w w' := by
  have hn : n = 1 ∨ n = 2 ∨ n = 4 ∨ n = 8 ∨ n = 16 ∨ n = 32 ∨ n = 64 := by simp [rightT] at hr; omega
  have hm : 1 ≤ m ∧ m ≤ 8 := by simp [rightT] at hr; omega
  obtain ⟨m0, m1⟩ := hm
  have n0 : 0 < n := by omega
  have n1 : n ≤ 64 := by omega
  have e1 : IntKind.i64.wrap ((n : Int) - 1) = (n : Int) - 1 := by simp [IntKind.wrap, IntKind.bits, IntKind.signed]; omega
  have e2 : bits .and .i64 (n : Int) ((n : Int) - 1) = 0 := by rcases hn with rfl | rfl | rfl | rfl | rfl | rfl | rfl <;> rfl
  have i1 : (1 : Int) ≤ (n : Int) := by omega
  have i2 : (n : Int) ≤ 64 := by omega
  have i3 : (1 : Int) ≤ (m : Int) := by omega
  have i4 : (m : Int) ≤ 8 := by omega
  clear hn hr
  obtain ⟨i0, hi, hz0, hz1, hz2⟩ := info_parts infoY
  obtain ⟨j0, hj, hy0, hy1, hy2⟩ := info_parts infoS
  have hmk := fun w => run_make (P := Tryz.prog) w 130 133 j0 (.slice none 0 0) Tryz.underlying130 hj hy0 .i64 .i64 (n : Int) (n : Int) (by omega) (Int.le_refl _) (by rw [hy2]; omega) (by omega)
  have hmw := fun w => run_make (P := Tryz.prog) w 133 161 i0 (wyv zw) Tryz.underlying133 hi hz0 .i64 .i64 (m : Int) (m : Int) (by omega) (Int.le_refl _) (by rw [hz2]; omega) (by omega)
  simp only [Int.toNat_natCast, hy1, hz1, Nat.mul_one] at hmk hmw
  obtain ⟨SC, hSC⟩ : ∃ SC, SC = madeCells (Value.slice none 0 0).cells n := ⟨_, rfl⟩
  obtain ⟨WC, hWC⟩ : ∃ WC, WC = madeCells (wyv zw).cells (m * 15) := ⟨_, rfl⟩
  rw [← hSC] at hmk
  rw [← hWC] at hmw
  have sc : SC.toList = layS (fun _ => 0) n m 0 := by
    rw [hSC, layS_zero]; exact toList_madeCells_one _ _
  have wc : WC.toList = rowC (fun _ => zw) m := by rw [hWC]; exact rowZ m
  clear hSC hWC
  have SCH := Lib.hid sc; have WCH := Lib.hid wc; have HMW := Lib.hid hmw; clear sc wc hmw hi hz0 hz1 hz2 hj hy0 hy1 hy2
  go_enter Tryz.func33, Tryz.ntmps33
  go_wp2
  obtain ⟨W1, hW⟩ : ∃ W, W = (w.alloc (.cells SC 133)).alloc (.cells #[.slice (some ⟨w.heap.size, 0, none⟩) n n] 132) := ⟨_, rfl⟩
  have b0 : Blk W1 w.heap.size SC.toList 133 := by
    have h := (Blk.new w SC.toList 133)
    simp only [Array.toArray_toList] at h
    rw [hW]; exact h.alloc _
  have b1 : Blk W1 (w.heap.size + 1) [.slice (some ⟨w.heap.size, 0, none⟩) n n] 132 := by
    rw [hW]; exact Blk.nextn _ _ _ _ (by simp)
  have l1 : Below w.heap.size w W1 := by rw [hW]; exact ((Below.refl _ _).alloc (Nat.le_refl _) _).alloc (by simp) _
  rw [SCH.out] at b0
  have hz : w.heap.size + 2 ≤ W1.heap.size := by rw [hW]; simp
  obtain ⟨BB, hBB⟩ : ∃ B, B = w.heap.size + 1 := ⟨_, rfl⟩
  obtain ⟨SP, hSP⟩ : ∃ B, B = w.heap.size := ⟨_, rfl⟩
  rw [← hW]
  try rw [← hBB]
  rw [← hBB] at b1
  rw [← hSP] at b0 b1
  rw [← hSP]
  have hbs : SP < BB := by omega
  have hbz : BB < W1.heap.size := by omega
  have hs0 : w.heap.size ≤ SP := by omega
  clear hW
  have HB0 := Lib.hid b0; have HB1 := Lib.hid b1; have HL1 := Lib.hid l1; have HHB := Lib.hid hBB; have HHS := Lib.hid hSP
  have HS0 := Lib.hid hs0
  clear b0 b1 l1 hBB hSP hs0 hz
  go_loopw [38] (fun i wr => ∃ (k : Nat) (g : Nat → Nat), k ≤ n ∧ i = .int .i64 k ∧ Blk wr BB [.slice (some ⟨SP, 0, none⟩) n n] 132 ∧ Blk wr SP (layS g n m k) 133 ∧ (∀ j, j < k → Blk wr (g j) (rowC (fun _ => zw) m) 161 ∧ BB < g j) ∧ (∀ i j, i < k → j < k → g i = g j → i = j) ∧ Below SP w wr ∧ BB < wr.heap.size) (fun i _ => n - (intOf i).toNat)
  case atStart => exact ⟨0, fun _ => 0, Nat.zero_le _, rfl, HB1.out, HB0.out, (fun j hj => by omega), (fun i j hi => by omega), HHS.out ▸ HL1.out, hbz⟩
  case round =>
    obtain ⟨k, g, hk, rfl, hb, hs, hrw, hgi, hbl, hsz⟩ := hrel
    by_cases hlt : k < n
    · have hki : (k : Int) < (n : Int) := by omega
      have hmk2 := HMW.out wr.drew
      obtain ⟨W2, hW2⟩ : ∃ W, W = wr.drew.alloc (.cells WC 161) := ⟨_, rfl⟩
      rw [← hW2] at hmk2
      have c2 : Chg no wr W2 := by rw [hW2]; exact (Chg.drew no wr).trans (Chg.alloc _ _ _)
      have n2 : Blk W2 wr.heap.size (rowC (fun _ => zw) m) 161 := by
        rw [hW2, ← WCH.out]
        have h := (Blk.new wr.drew WC.toList 161)
        simp only [Array.toArray_toList] at h
        exact h
      have z2 : W2.heap.size = wr.heap.size + 1 := by rw [hW2]; simp
      have s2 := hs.chg c2 (fun h => h)
      have mf : ∀ o, W2.frozen? ⟨SP, o, none⟩ = false := fun o => s2.free o
      have mc : W2.cell? ⟨SP, k, none⟩ = some (.slice none 0 0) := by
        rw [s2.cell]; unfold layS; simp [hlt]
      have hgs : wr.drew.heap.size = wr.heap.size := rfl
      rw [hgs] at hmk2
      have HB := Lib.hid hb; have HS := Lib.hid hs; have HRW := Lib.hid hrw; have HGI := Lib.hid hgi; have HBL := Lib.hid hbl; have HC2 := Lib.hid c2; have HN2 := Lib.hid n2; have HS2 := Lib.hid s2; have HZ2 := Lib.hid z2
      clear hb hs hrw hgi hbl c2 n2 s2 z2 hW2
      go_wp2
      have cb : wr.cell? ⟨BB, 0, none⟩ = some (.slice (some ⟨SP, 0, none⟩) n n) := HB.out.cell 0
      refine wp_region_held_drew (S := fun w' => w'.cell? ⟨BB, 0, none⟩ = some (.slice (some ⟨SP, 0, none⟩) n n)) (by kernel_rfl) cb (fun hHeld => ?_)
      simp only [List.size_toArray, List.length_cons, List.length_nil, Nat.reduceAdd]
      rw [show Array.replicate 9 false = [false, false, false, false, false, false, false, false, false].toArray from rfl]
      refine wpAnyH_take (i := 0) (v := ?_) rfl (by kernel_rfl) (by kernel_rfl) (by kernel_rfl) (fun _ _ _ h => h) (Or.inl ⟨by rfl, ?yldq⟩) (by assumption) ?_
      case yldq => (intro w hSw; (try dsimp only at hSw); go_simp; try with_reducible rfl)
      try simp only [Act.put, List.setIfInBounds_toArray, List.set_cons_zero, List.set_cons_succ, List.getElem_toArray, List.getElem_cons_succ, List.getElem_cons_zero]
      refine wpAnyH_take (i := 1) (v := ?_) rfl (by kernel_rfl) (by kernel_rfl) (by kernel_rfl) (fun _ _ _ h => h) (Or.inl ⟨by rfl, ?yldq⟩) (by assumption) ?_
      case yldq => (intro w hSw; (try dsimp only at hSw); go_simp; try with_reducible rfl)
      try simp only [Act.put, List.setIfInBounds_toArray, List.set_cons_zero, List.set_cons_succ, List.getElem_toArray, List.getElem_cons_succ, List.getElem_cons_zero]
      refine wpAnyH_take (i := 2) (v := ?_) rfl (by kernel_rfl) (by kernel_rfl) (by kernel_rfl) (fun _ _ _ h => h) (Or.inl ⟨by rfl, ?yldq⟩) (by assumption) ?_
      case yldq => (intro w hSw; (try dsimp only at hSw); go_simp; try with_reducible rfl)
      try simp only [Act.put, List.setIfInBounds_toArray, List.set_cons_zero, List.set_cons_succ, List.getElem_toArray, List.getElem_cons_succ, List.getElem_cons_zero]
      refine wpAnyH_take (i := 3) (v := ?_) rfl (by kernel_rfl) (by kernel_rfl) (by kernel_rfl) (fun _ _ _ h => h) (Or.inl ⟨by rfl, ?yldq⟩) (by assumption) ?_
      case yldq => (intro w hSw; (try dsimp only at hSw); go_simp; try with_reducible rfl)
      try simp only [Act.put, List.setIfInBounds_toArray, List.set_cons_zero, List.set_cons_succ, List.getElem_toArray, List.getElem_cons_succ, List.getElem_cons_zero]
      refine wpAnyH_take (i := 4) (v := ?_) rfl (by kernel_rfl) (by kernel_rfl) (by kernel_rfl) (fun _ _ _ h => h) (Or.inl ⟨by rfl, ?yldq⟩) (by assumption) ?_
      case yldq => (intro w hSw; (try dsimp only at hSw); go_simp; try with_reducible rfl)
      try simp only [Act.put, List.setIfInBounds_toArray, List.set_cons_zero, List.set_cons_succ, List.getElem_toArray, List.getElem_cons_succ, List.getElem_cons_zero]
      refine wpAnyH_take (i := 5) (v := ?_) rfl (by kernel_rfl) (by kernel_rfl) (by kernel_rfl) (fun _ _ _ h => h) (Or.inl ⟨by rfl, ?yldq⟩) (by assumption) ?_
      case yldq => (intro w hSw; (try dsimp only at hSw); go_simp; try with_reducible rfl)
      try simp only [Act.put, List.setIfInBounds_toArray, List.set_cons_zero, List.set_cons_succ, List.getElem_toArray, List.getElem_cons_succ, List.getElem_cons_zero]
      refine wpAnyH_ready (rs := [6]) (by kernel_rfl) (by simp) ?_
      refine AllReadyH.cons rfl (fun K hK => ?_) AllReadyH.nil
      go_simp
      have cb2 : W2.cell? ⟨BB, 0, none⟩ = some (.slice (some ⟨SP, 0, none⟩) n n) := (HB.out.chg HC2.out (fun h => h)).cell 0
      refine hK.out _ _ cb2 (fun _ => ?_)
      clear hK K
      refine wpAnyH_take (i := 7) (v := ?_) rfl (by kernel_rfl) (by kernel_rfl) (by kernel_rfl) (fun _ _ _ h => h) (Or.inl ⟨by rfl, ?yldq⟩) (by assumption) ?_
      case yldq => (intro w hSw; (try dsimp only at hSw); go_simp; try with_reducible rfl)
      try simp only [Act.put, List.setIfInBounds_toArray, List.set_cons_zero, List.set_cons_succ, List.getElem_toArray, List.getElem_cons_succ, List.getElem_cons_zero]
      refine wpAnyH_ready (rs := [8]) (by kernel_rfl) (by simp) ?_
      refine AllReadyH.cons rfl (fun K hK => ?_) AllReadyH.nil
      go_simp
      have hne : BB ≠ SP := by omega
      have cb3 : (W2.setCell ⟨SP, k, none⟩ (.slice (some ⟨wr.heap.size, 0, none⟩) m m)).cell? ⟨BB, 0, none⟩ = some (.slice (some ⟨SP, 0, none⟩) n n) := (cell_other W2 ⟨BB, 0, none⟩ ⟨SP, k, none⟩ _ hne).trans cb2
      refine hK.out _ _ cb3 (fun _ => ?_)
      clear hK K
      refine wpAnyH_done (by kernel_rfl) ?_ _
      have B3 := (HB.out.chg HC2.out (fun h => h)).other ⟨SP, k, none⟩ (.slice (some ⟨wr.heap.size, 0, none⟩) m m) hne
      have S3 := HS2.out.set k (.slice (some ⟨wr.heap.size, 0, none⟩) m m)
      rw [layS_set g hlt] at S3
      have R3 : ∀ j, j < k + 1 → Blk (W2.setCell ⟨SP, k, none⟩ (.slice (some ⟨wr.heap.size, 0, none⟩) m m)) ((fun j => if j = k then wr.heap.size else g j) j) (rowC (fun _ => zw) m) 161 ∧ BB < (fun j => if j = k then wr.heap.size else g j) j := by
        intro j hj
        dsimp only
        by_cases e : j = k
        · rw [if_pos e]
          exact ⟨HN2.out.other ⟨SP, k, none⟩ _ (by dsimp only; omega), hsz⟩
        · rw [if_neg e]
          obtain ⟨h1, h2⟩ := HRW.out j (by omega)
          exact ⟨(h1.chg HC2.out (fun h => h)).other ⟨SP, k, none⟩ _ (by dsimp only; omega), h2⟩
      have I3 : ∀ i j, i < k + 1 → j < k + 1 → (fun j => if j = k then wr.heap.size else g j) i = (fun j => if j = k then wr.heap.size else g j) j → i = j := by
        intro i j h1 h2 h3
        dsimp only at h3
        by_cases e : i = k
        · by_cases e' : j = k
          · omega
          · rw [if_pos e, if_neg e'] at h3
            have := (HRW.out j (by omega)).1.lt
            omega
        · by_cases e' : j = k
          · rw [if_neg e, if_pos e'] at h3
            have := (HRW.out i (by omega)).1.lt
            omega
          · rw [if_neg e, if_neg e'] at h3
            exact HGI.out i j (by omega) (by omega) h3
      have L3 : Below SP w (W2.setCell ⟨SP, k, none⟩ (.slice (some ⟨wr.heap.size, 0, none⟩) m m)) :=
        Below.setCell (HBL.out.trans (HC2.out.none.mono (by omega))) (by dsimp only; omega) _
      have Z3 : BB < (W2.setCell ⟨SP, k, none⟩ (.slice (some ⟨wr.heap.size, 0, none⟩) m m)).heap.size := by
        have := HZ2.out
        simp [World.setCell]; omega
      have P3 := Lib.hid (And.intro B3 (And.intro S3 (And.intro R3 (And.intro I3 (And.intro L3 Z3)))))
      obtain ⟨W3, hW3⟩ : ∃ W, W = W2.setCell ⟨SP, k, none⟩ (.slice (some ⟨wr.heap.size, 0, none⟩) m m) := ⟨_, rfl⟩
      rw [← hW3] at P3 ⊢
      clear B3 S3 R3 I3 L3 Z3 cb cb2 cb3 mf mc hW3
      go_wp2
      exact ⟨⟨k + 1, _, hlt, by go_num, P3.out⟩, by simp [intOf]; omega⟩
    · obtain rfl : k = n := by omega
      have HB := Lib.hid hb; have HS := Lib.hid hs; have HRW := Lib.hid hrw; have HGI := Lib.hid hgi; have HBL := Lib.hid hbl
      clear hb hs hrw hgi hbl
      go_wp2
      go_ret2
      refine ⟨_, _, g, rfl, ⟨HB.out, layS_all g k m ▸ HS.out, fun i hi => (HRW.out i hi).1, by omega, by omega, by omega, by omega, by omega, fun i hi => by have := (HRW.out i hi).2; omega, HGI.out, fun _ _ _ _ => by decide⟩, ?_, HBL.out.mono HS0.out⟩
      have hs0 := HS0.out
      rintro j (rfl | rfl | ⟨i, hi, rfl⟩)
      · omega
      · omega
      · have := (HRW.out i hi).2; omega
theorem pow_and : ∀ k : Fin 65, 0 < k.val → (bits .and .i64 (k.val : Int) ((k.val : Int) - 1) == 0) = (k.val == 1 || k.val == 2 || k.val == 4 || k.val == 8 || k.val == 16 || k.val == 32 || k.val == 64) := by decide +kernel
theorem new_at (n m : Int) (w : World) (h : (n < 1 ∨ 64 < n) ∨ (1 ≤ n ∧ n ≤ 64 ∧ (m < 1 ∨ 8 < m ∨ bits .and .i64 n (n - 1) ≠ 0))) : Calls Tryz.prog 33 #[.int .i64 n, .int .i64 m] w fun e w' => e = .returned (.tuple #[.pointer none, .int .i64 2]) ∧ w = w' := by
  rcases h with (h | h) | ⟨h1, h2, h⟩
  · go_enter Tryz.func33, Tryz.ntmps33
    go_wp2
    go_ret2
    exact ⟨rfl, rfl⟩
  · have h1 : 1 ≤ n := by omega
    go_enter Tryz.func33, Tryz.ntmps33
    go_wp2
    go_ret2
    exact ⟨rfl, rfl⟩
  · have e1 : IntKind.i64.wrap (n - 1) = n - 1 := by simp [IntKind.wrap, IntKind.bits, IntKind.signed]; omega
    by_cases e2 : bits .and .i64 n (n - 1) = 0
    · by_cases h3 : m < 1
      · clear h
        go_enter Tryz.func33, Tryz.ntmps33
        go_wp2
        go_ret2
        exact ⟨rfl, rfl⟩
      · have h4 : 8 < m := by
          rcases h with h | h | h
          · exact absurd h h3
          · exact h
          · exact absurd e2 h
        have h3 : 1 ≤ m := by omega
        clear h
        go_enter Tryz.func33, Tryz.ntmps33
        go_wp2
        go_ret2
        exact ⟨rfl, rfl⟩
    · have e2 : (bits .and .i64 n (n - 1) == 0) = false := by simpa using e2
      clear h
      go_enter Tryz.func33, Tryz.ntmps33
      go_wp2
      go_ret2
      exact ⟨rfl, rfl⟩
theorem tlb_new_bad (n m : Int) (w : World) (h : rightT n m = false) : Calls Tryz.prog 33 #[.int .i64 n, .int .i64 m] w fun e w' => e = .returned (.tuple #[.pointer none, .int .i64 2]) ∧ w = w' := by
  refine new_at n m w ?_
  by_cases h0 : n < 1 ∨ 64 < n
  · exact .inl h0
  · refine .inr ⟨by omega, by omega, ?_⟩
    by_cases h1 : m < 1
    · exact .inl h1
    · by_cases h2 : 8 < m
      · exact .inr (.inl h2)
      · refine .inr (.inr (fun e => ?_))
        obtain ⟨k, rfl⟩ : ∃ k : Nat, n = k := ⟨n.toNat, by omega⟩
        have hp := pow_and ⟨k, by omega⟩ (by show 0 < k; omega)
        rw [beq_iff_eq.2 e] at hp
        have hp := hp.symm
        simp only [Bool.or_eq_true, beq_iff_eq] at hp
        have hr : rightT (k : Int) m = true := by unfold rightT; simp; omega
        rw [hr] at h
        cases h
end Go.Proofs.YtgnjbjbgfhjakaaGreat
