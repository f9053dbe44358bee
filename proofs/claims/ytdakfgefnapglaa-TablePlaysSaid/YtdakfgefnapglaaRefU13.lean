/-
  What Unmap of package runrigref13 answers and leaves in memory: a contract over the translation, which says its own conditions.
-/
import Derived.Test.YtdakfgefnapglaaRefD13
namespace Go.Proofs.Ytdakfgefnapglaa
open Go.RowKit
set_option linter.unusedVariables false
set_option linter.unusedSimpArgs false
attribute [local go_sem] setCell_drewN alloc_drewN

theorem rows_take (L : List Pg) (i : Nat) (h : i ≤ L.length) : (rowS pgC L).take (i * 12) = rowS pgC (L.take i) := by
  have e : rowS pgC L = rowS pgC (L.take i) ++ rowS pgC (L.drop i) := by rw [← rowS_app, List.take_append_drop]
  have hl : (rowS pgC (L.take i)).length = i * 12 := by rw [rowS_len pgC_len, List.length_take, Nat.min_eq_left h]
  rw [e, ← hl, List.take_left]
theorem src_take {w : World} {g cap : Nat} {L : List Pg} (c : Nat) (h : LiesS pgC 12 w (.slice (some ⟨g, 0, none⟩) L.length cap) L) (i : Nat) (hi : i ≤ L.length) : Src w (.slice (some ⟨g, 0, none⟩) i c) i (rowS pgC (L.take i)) := by
  refine .inr ⟨_, c, rfl, fun j u hj => ?_⟩
  obtain ⟨A, cap2, hv, _, _, hc⟩ := h
  have hlt : j < i * 12 := by
    have := (List.getElem?_eq_some_iff.1 hj).1
    rw [rowS_len pgC_len, List.length_take, Nat.min_eq_left hi] at this
    exact this
  obtain ⟨g2, hA, hc⟩ := hc (by omega)
  rw [hA] at hv
  injection hv with h1 _ _
  injection h1 with h1
  injection h1 with h1
  subst h1
  have hq : j / 12 < L.length := by omega
  have h2 := hc (j / 12) hq (j % 12) (Nat.mod_lt _ (by decide))
  have h3 := rowS_at pgC_len (L.take i) (j / 12) (j % 12) (by rw [List.length_take]; omega) (Nat.mod_lt _ (by decide))
  rw [show j / 12 * 12 + j % 12 = j from by omega] at h2 h3
  rw [hj, List.getElem_take] at h3
  rw [Go.WideShapes.add_plain, Nat.zero_add, h2, ← h3]
theorem src_drop {w : World} {g cap : Nat} {L : List Pg} (c : Nat) (h : LiesS pgC 12 w (.slice (some ⟨g, 0, none⟩) L.length cap) L) (i : Nat) (hi : i < L.length) : Src w (.slice (some ⟨g, (i + 1) * 12, none⟩) (L.length - (i + 1)) c) (L.length - (i + 1)) (rowS pgC (L.drop (i + 1))) := by
  refine .inr ⟨_, c, rfl, fun j u hj => ?_⟩
  obtain ⟨A, cap2, hv, _, _, hc⟩ := h
  have hlt : j < (L.length - (i + 1)) * 12 := by
    have := (List.getElem?_eq_some_iff.1 hj).1
    rw [rowS_len pgC_len, List.length_drop] at this
    exact this
  obtain ⟨g2, hA, hc⟩ := hc (by omega)
  rw [hA] at hv
  injection hv with h1 _ _
  injection h1 with h1
  injection h1 with h1
  subst h1
  have hq : j / 12 < L.length - (i + 1) := by omega
  have h2 := hc (i + 1 + j / 12) (by omega) (j % 12) (Nat.mod_lt _ (by decide))
  have h3 := rowS_at pgC_len (L.drop (i + 1)) (j / 12) (j % 12) (by rw [List.length_drop]; omega) (Nat.mod_lt _ (by decide))
  rw [show j / 12 * 12 + j % 12 = j from by omega] at h3
  rw [show (i + 1 + j / 12) * 12 + j % 12 = (i + 1) * 12 + j from by omega] at h2
  rw [hj, List.getElem_drop] at h3
  rw [Go.WideShapes.add_plain, h2, ← h3]
theorem LiesS.below {w w' : World} {v : Value} {L : List Pg} (h : LiesS pgC 12 w v L) (hb : Below w.heap.size w w') : LiesS pgC 12 w' v L := by
  obtain ⟨A, cap, hv, h1, h2, hc⟩ := h
  refine ⟨A, cap, hv, h1, h2, fun h0 => ?_⟩
  obtain ⟨g, hA, hc⟩ := hc h0
  refine ⟨g, hA, fun i hi j hj => ?_⟩
  have h3 := hc i hi j hj
  have hs : ∃ u, (pgC L[i])[j]? = some u := ⟨_, List.getElem?_eq_getElem hj⟩
  obtain ⟨u, hu⟩ := hs
  rw [hu] at h3 ⊢
  exact (World.cell?_of_block (w := w) (a := ⟨g, i * 12 + j, none⟩) (hb.block g (cell_lt h3))).trans h3
theorem own_sliceG {w : World} {B e s n : Nat} {v : Value} {xs : List Value} (h : w.ownsRow B e s v n xs) : ∃ A c, v = .slice A n c := by
  rcases h.2 with ⟨rfl, h0⟩ | ⟨g, cap, cur, rfl, _⟩
  · exact ⟨none, 0, by rw [h0]⟩
  · exact ⟨_, _, rfl⟩
set_option maxHeartbeats 4000000 in
theorem runmap_any (rp va : Nat) (vL vT : Value) (S : Tt) (first n fs : Nat) (w : World) (h : RfT w rp vL vT S first n fs) (hv : va < 18446744073709551616) (hlen : S.L.length ≤ 1000) :
    Calls Try.prog 19 #[.pointer (some ⟨rp, 0, none⟩), .int .u64 va] w fun r w' => r = .returned (.tuple #[pv (unmT va S).2.1, .int .i64 (unmT va S).2.2]) ∧ ∃ vL', RfT w' rp vL' vT (unmT va S).1 first n fs ∧ (∀ k, vL'.ownBlock = some k → vL.ownBlock = some k ∨ w.heap.size ≤ k) ∧ Chg (fun k => k = rp) w w' := by
  have hh := fun w' (hb : Below w.heap.size w w') => holds_any rp va vL vT S first n fs w' (h.any (Chg.of_below hb)) hv
  have hK0 := h.blk
  have hlt0 := hK0.lt
  have HR := Lib.hid h; have K0 := Lib.hid hK0
  obtain ⟨RR, hRR⟩ : ∃ R, R = unmT va S := ⟨_, rfl⟩
  rw [← hRR]
  unfold unmT at hRR
  cases hho : hold S.L va with
  | none =>
    rw [hho] at hh hRR
    replace hh : ∀ w', Below w.heap.size w w' → Calls Try.prog 20 #[.pointer (some ⟨rp, 0, none⟩), .int .u64 va] w' fun e w'' => e = .returned (.int .i64 (-1)) ∧ Chg no w' w'' := hh
    dsimp only at hRR
    have HH := Lib.hid hh; have HRR := Lib.hid hRR
    clear h hK0 hh hho hRR
    go_enter Try.func19, Try.ntmps19
    go_wp2_with fail
    have nb0 : Blk (w.alloc (.cells #[.bool false, .bool false, .bool false, .bool false, .bool false, .bool false, .bool false, .bool false, .int .i64 0, .int .u64 0] 39)) (w.heap.size) [.bool false, .bool false, .bool false, .bool false, .bool false, .bool false, .bool false, .bool false, .int .i64 0, .int .u64 0] 39 := Blk.new w [.bool false, .bool false, .bool false, .bool false, .bool false, .bool false, .bool false, .bool false, .int .i64 0, .int .u64 0] 39
    have nls : Below w.heap.size w w := (Below.refl w.heap.size w)
    have nl0 := nls.alloc nls.size (.cells #[.bool false, .bool false, .bool false, .bool false, .bool false, .bool false, .bool false, .bool false, .int .i64 0, .int .u64 0] 39)
    have nl : Below w.heap.size w (w.alloc (.cells #[.bool false, .bool false, .bool false, .bool false, .bool false, .bool false, .bool false, .bool false, .int .i64 0, .int .u64 0] 39)) := nl0; clear nls nl0
    obtain ⟨B1, hB0⟩ : ∃ B, B = w.heap.size := ⟨_, rfl⟩
    obtain ⟨W1, hW⟩ : ∃ W, W = (w.alloc (.cells #[.bool false, .bool false, .bool false, .bool false, .bool false, .bool false, .bool false, .bool false, .int .i64 0, .int .u64 0] 39)) := ⟨_, rfl⟩
    rw [← hW] at nl nb0
    rw [← hB0] at nb0
    rw [← hW]
    try rw [← hB0]
    have K1_0 := Lib.hid nb0
    have G1 : Hid (w.heap.size ≤ B1) := Lib.hid (by have := (Nat.le_refl w.heap.size); omega)
    have L1 := Lib.hid nl
    clear nl hW nb0 hB0
    refine (HH.out _ L1.out).mono ?_
    rintro e w2 ⟨rfl, hb⟩
    have L2 := Lib.hid (L1.out.trans (hb.none.mono L1.out.size))
    have K2_0 := Lib.hid (K1_0.out.below hb.none K1_0.out.lt)
    clear hb K1_0
    have m0_0 : w2.cell? ⟨B1, 0, none⟩ = some _ := K2_0.out.cell 0
    have m0_1 : w2.cell? ⟨B1, 1, none⟩ = some _ := K2_0.out.cell 1
    have m0_2 : w2.cell? ⟨B1, 2, none⟩ = some _ := K2_0.out.cell 2
    have m0_3 : w2.cell? ⟨B1, 3, none⟩ = some _ := K2_0.out.cell 3
    have m0_4 : w2.cell? ⟨B1, 4, none⟩ = some _ := K2_0.out.cell 4
    have m0_5 : w2.cell? ⟨B1, 5, none⟩ = some _ := K2_0.out.cell 5
    have m0_6 : w2.cell? ⟨B1, 6, none⟩ = some _ := K2_0.out.cell 6
    have m0_7 : w2.cell? ⟨B1, 7, none⟩ = some _ := K2_0.out.cell 7
    have m0_8 : w2.cell? ⟨B1, 8, none⟩ = some _ := K2_0.out.cell 8
    have m0_9 : w2.cell? ⟨B1, 9, none⟩ = some _ := K2_0.out.cell 9
    have mlt0 : B1 < w2.heap.size := K2_0.out.lt
    have mf0 : ∀ o, w2.frozen? ⟨B1, o, none⟩ = false := fun o => K2_0.out.free o
    go_wp2
    clear m0_0 m0_1 m0_2 m0_3 m0_4 m0_5 m0_6 m0_7 m0_8 m0_9 mlt0 mf0
    obtain ⟨W3, hW3⟩ : ∃ W9, W9 = ((((((((((w2.setCell ⟨B1, 0, none⟩ (.bool false)).setCell ⟨B1, 1, none⟩ (.bool false)).setCell ⟨B1, 2, none⟩ (.bool false)).setCell ⟨B1, 3, none⟩ (.bool false)).setCell ⟨B1, 4, none⟩ (.bool false)).setCell ⟨B1, 5, none⟩ (.bool false)).setCell ⟨B1, 6, none⟩ (.bool false)).setCell ⟨B1, 7, none⟩ (.bool false)).setCell ⟨B1, 8, none⟩ (.int .i64 0)).setCell ⟨B1, 9, none⟩ (.int .u64 0)) := ⟨_, rfl⟩
    rw [← hW3]
    have b3 : Blk W3 B1 [.bool false, .bool false, .bool false, .bool false, .bool false, .bool false, .bool false, .bool false, .int .i64 0, .int .u64 0] 39 := hW3 ▸ ((((((((((K2_0.out.set 0 (.bool false)).set 1 (.bool false)).set 2 (.bool false)).set 3 (.bool false)).set 4 (.bool false)).set 5 (.bool false)).set 6 (.bool false)).set 7 (.bool false)).set 8 (.int .i64 0)).set 9 (.int .u64 0))
    have l3 : Below w.heap.size w W3 := hW3 ▸ (Below.setCell (Below.setCell (Below.setCell (Below.setCell (Below.setCell (Below.setCell (Below.setCell (Below.setCell (Below.setCell (Below.setCell L2.out G1.out _) G1.out _) G1.out _) G1.out _) G1.out _) G1.out _) G1.out _) G1.out _) G1.out _) G1.out _)
    clear hW3
    have r0 : W3.cell? ⟨B1, 0, none⟩ = some _ := b3.cell 0
    have r1 : W3.cell? ⟨B1, 1, none⟩ = some _ := b3.cell 1
    have r2 : W3.cell? ⟨B1, 2, none⟩ = some _ := b3.cell 2
    have r3 : W3.cell? ⟨B1, 3, none⟩ = some _ := b3.cell 3
    have r4 : W3.cell? ⟨B1, 4, none⟩ = some _ := b3.cell 4
    have r5 : W3.cell? ⟨B1, 5, none⟩ = some _ := b3.cell 5
    have r6 : W3.cell? ⟨B1, 6, none⟩ = some _ := b3.cell 6
    have r7 : W3.cell? ⟨B1, 7, none⟩ = some _ := b3.cell 7
    have r8 : W3.cell? ⟨B1, 8, none⟩ = some _ := b3.cell 8
    have r9 : W3.cell? ⟨B1, 9, none⟩ = some _ := b3.cell 9
    have Q3 := Lib.hid b3; have QL := Lib.hid l3; clear b3 l3
    refine bodyPost_ret (v := .tuple #[.agg #[.bool false, .bool false, .bool false, .bool false, .bool false, .bool false, .bool false, .bool false, .int .i64 0, .int .u64 0], .int .i64 51]) (by simp [results, Try.results19, go_sem, r0, r1, r2, r3, r4, r5, r6, r7, r8, r9]) rfl ?_
    rw [HRR.out]
    exact ⟨rfl, vL, HR.out.any (Chg.of_below QL.out), fun k hk => .inl hk, Chg.of_below QL.out⟩
  | some i =>
    have hil := hold_lt hho
    have hlies := h.liesL
    obtain ⟨A, cap, hvL, hcl, hcm, hcell⟩ := hlies
    obtain ⟨g0, rfl, hcells⟩ := hcell (by omega)
    replace hcells := hcells i hil
    rw [← entOf_at hil] at hcells
    have hg0 : g0 < w.heap.size := cell_lt (hcells 0 (by omega))
    rw [hho] at hh hRR
    replace hh : ∀ w', Below w.heap.size w w' → Calls Try.prog 20 #[.pointer (some ⟨rp, 0, none⟩), .int .u64 va] w' fun e w'' => e = .returned (.int .i64 (i : Int)) ∧ Chg no w' w'' := hh
    dsimp only at hRR
    obtain ⟨len, hle⟩ : ∃ k, k = S.L.length := ⟨_, rfl⟩
    have hilt : i < len := by omega
    have hlcap : len ≤ cap := by omega
    have hlen' : len ≤ 1000 := by omega
    subst hvL
    have hrow : ∀ w', Below w.heap.size w w' → w'.cell? ⟨rp, 0, none⟩ = some (.slice (some ⟨g0, 0, none⟩) len cap) := fun w' hb => by
      rw [hle]; exact (hK0.below hb hlt0).cell 0
    have hl0 := h.liesL
    have hsrcA : ∀ w' c, Below w.heap.size w w' → Src w' (.slice (some ⟨g0, 0, none⟩) i c) i (rowS pgC (S.L.take i)) := fun w' c hb => src_take c (LiesS.below hl0 hb) i (Nat.le_of_lt hil)
    have hsrcB : ∀ w' c, Below w.heap.size w w' → Src w' (.slice (some ⟨g0, (i + 1) * 12, none⟩) (len - (i + 1)) c) (len - (i + 1)) (rowS pgC (S.L.drop (i + 1))) := fun w' c hb => by rw [hle]; exact src_drop c (LiesS.below hl0 hb) i hil
    obtain ⟨A2, hA2⟩ : ∃ A, (if cap = i + 1 then (some ⟨g0, 0, none⟩ : Option Addr) else some ⟨g0, (i + 1) * 12, none⟩) = A := ⟨_, rfl⟩
    replace hsrcB : ∀ w' c, Below w.heap.size w w' → Src w' (.slice A2 (len - (i + 1)) c) (len - (i + 1)) (rowS pgC (S.L.drop (i + 1))) := fun w' c hb => by
      by_cases he : cap = i + 1
      · rw [if_pos he] at hA2
        subst hA2
        have hd : S.L.drop (i + 1) = [] := List.drop_eq_nil_of_le (by omega)
        rw [hd]
        exact .inr ⟨_, c, rfl, fun j u hj => by simp [rowS] at hj⟩
      · rw [if_neg he] at hA2
        subst hA2
        exact hsrcB w' c hb
    generalize entOf S.L i = m at hRR hcells
    obtain ⟨xv, xl, v, r, x1, x, u, g, a, d, rsw, ppn⟩ := m
    have d0 : ∀ w', Below w.heap.size w w' → w'.cell? ⟨g0, i * 12 + 2, none⟩ = some (.bool v) := fun w' hb => (World.cell?_of_block (w := w) (a := ⟨g0, i * 12 + 2, none⟩) (hb.block g0 hg0)).trans (hcells 2 (by omega))
    have d1 : ∀ w', Below w.heap.size w w' → w'.cell? ⟨g0, i * 12 + 2 + 1, none⟩ = some (.bool r) := fun w' hb => (World.cell?_of_block (w := w) (a := ⟨g0, i * 12 + 2 + 1, none⟩) (hb.block g0 hg0)).trans (hcells 3 (by omega))
    have d2 : ∀ w', Below w.heap.size w w' → w'.cell? ⟨g0, i * 12 + 2 + 2, none⟩ = some (.bool x1) := fun w' hb => (World.cell?_of_block (w := w) (a := ⟨g0, i * 12 + 2 + 2, none⟩) (hb.block g0 hg0)).trans (hcells 4 (by omega))
    have d3 : ∀ w', Below w.heap.size w w' → w'.cell? ⟨g0, i * 12 + 2 + 3, none⟩ = some (.bool x) := fun w' hb => (World.cell?_of_block (w := w) (a := ⟨g0, i * 12 + 2 + 3, none⟩) (hb.block g0 hg0)).trans (hcells 5 (by omega))
    have d4 : ∀ w', Below w.heap.size w w' → w'.cell? ⟨g0, i * 12 + 2 + 4, none⟩ = some (.bool u) := fun w' hb => (World.cell?_of_block (w := w) (a := ⟨g0, i * 12 + 2 + 4, none⟩) (hb.block g0 hg0)).trans (hcells 6 (by omega))
    have d5 : ∀ w', Below w.heap.size w w' → w'.cell? ⟨g0, i * 12 + 2 + 5, none⟩ = some (.bool g) := fun w' hb => (World.cell?_of_block (w := w) (a := ⟨g0, i * 12 + 2 + 5, none⟩) (hb.block g0 hg0)).trans (hcells 7 (by omega))
    have d6 : ∀ w', Below w.heap.size w w' → w'.cell? ⟨g0, i * 12 + 2 + 6, none⟩ = some (.bool a) := fun w' hb => (World.cell?_of_block (w := w) (a := ⟨g0, i * 12 + 2 + 6, none⟩) (hb.block g0 hg0)).trans (hcells 8 (by omega))
    have d7 : ∀ w', Below w.heap.size w w' → w'.cell? ⟨g0, i * 12 + 2 + 7, none⟩ = some (.bool d) := fun w' hb => (World.cell?_of_block (w := w) (a := ⟨g0, i * 12 + 2 + 7, none⟩) (hb.block g0 hg0)).trans (hcells 9 (by omega))
    have d8 : ∀ w', Below w.heap.size w w' → w'.cell? ⟨g0, i * 12 + 2 + 8, none⟩ = some (.int .i64 rsw) := fun w' hb => (World.cell?_of_block (w := w) (a := ⟨g0, i * 12 + 2 + 8, none⟩) (hb.block g0 hg0)).trans (hcells 10 (by omega))
    have d9 : ∀ w', Below w.heap.size w w' → w'.cell? ⟨g0, i * 12 + 2 + 9, none⟩ = some (.int .u64 (ppn : Int)) := fun w' hb => (World.cell?_of_block (w := w) (a := ⟨g0, i * 12 + 2 + 9, none⟩) (hb.block g0 hg0)).trans (hcells 11 (by omega))
    have hlA : (rowS pgC (S.L.take i)).length = i * 12 := by rw [rowS_len pgC_len, List.length_take, Nat.min_eq_left (by omega)]
    have hlB : (rowS pgC (S.L.drop (i + 1))).length = (len - (i + 1)) * 12 := by rw [rowS_len pgC_len, List.length_drop, hle]
    have herase : rowS pgC (S.L.take i) ++ rowS pgC (S.L.drop (i + 1)) = rowS pgC (S.L.eraseIdx i) := by rw [List.eraseIdx_eq_take_drop_succ, rowS_app]
    have hle2 : i + (len - (i + 1)) = (S.L.eraseIdx i).length := by rw [List.length_eraseIdx, if_pos hil]; omega
    have HH := Lib.hid hh; have HROW := Lib.hid hrow; have HSA := Lib.hid hsrcA; have HSB := Lib.hid hsrcB; have HLA := Lib.hid hlA; have HLB := Lib.hid hlB; have HER := Lib.hid herase; have HLE2 := Lib.hid hle2; have HRR := Lib.hid hRR
    have D0 := Lib.hid d0; have D1 := Lib.hid d1; have D2 := Lib.hid d2; have D3 := Lib.hid d3; have D4 := Lib.hid d4; have D5 := Lib.hid d5; have D6 := Lib.hid d6; have D7 := Lib.hid d7; have D8 := Lib.hid d8; have D9 := Lib.hid d9; 
    clear h hK0 hh hrow hsrcA hsrcB hlA hlB herase hle2 hRR hho hcells hcell hcl hl0 hle hil hlen hcm d0 d1 d2 d3 d4 d5 d6 d7 d8 d9
    go_enter Try.func19, Try.ntmps19
    go_wp2_with fail
    have nb0 : Blk (w.alloc (.cells #[.bool false, .bool false, .bool false, .bool false, .bool false, .bool false, .bool false, .bool false, .int .i64 0, .int .u64 0] 39)) (w.heap.size) [.bool false, .bool false, .bool false, .bool false, .bool false, .bool false, .bool false, .bool false, .int .i64 0, .int .u64 0] 39 := Blk.new w [.bool false, .bool false, .bool false, .bool false, .bool false, .bool false, .bool false, .bool false, .int .i64 0, .int .u64 0] 39
    have nls : Below w.heap.size w w := (Below.refl w.heap.size w)
    have nl0 := nls.alloc nls.size (.cells #[.bool false, .bool false, .bool false, .bool false, .bool false, .bool false, .bool false, .bool false, .int .i64 0, .int .u64 0] 39)
    have nl : Below w.heap.size w (w.alloc (.cells #[.bool false, .bool false, .bool false, .bool false, .bool false, .bool false, .bool false, .bool false, .int .i64 0, .int .u64 0] 39)) := nl0; clear nls nl0
    obtain ⟨B1, hB0⟩ : ∃ B, B = w.heap.size := ⟨_, rfl⟩
    obtain ⟨W1, hW⟩ : ∃ W, W = (w.alloc (.cells #[.bool false, .bool false, .bool false, .bool false, .bool false, .bool false, .bool false, .bool false, .int .i64 0, .int .u64 0] 39)) := ⟨_, rfl⟩
    rw [← hW] at nl nb0
    rw [← hB0] at nb0
    rw [← hW]
    try rw [← hB0]
    have K1_0 := Lib.hid nb0
    have G1 : Hid (w.heap.size ≤ B1) := Lib.hid (by have := (Nat.le_refl w.heap.size); omega)
    have L1 := Lib.hid nl
    clear nl hW nb0 hB0
    refine (HH.out _ L1.out).mono ?_
    rintro e w2 ⟨rfl, hb⟩
    have L2 := Lib.hid (L1.out.trans (hb.none.mono L1.out.size))
    have K2_0 := Lib.hid (K1_0.out.below hb.none K1_0.out.lt)
    clear hb K1_0
    have r0 := HROW.out _ L2.out
    have d0 := D0.out _ L2.out
    have d1 := D1.out _ L2.out
    have d2 := D2.out _ L2.out
    have d3 := D3.out _ L2.out
    have d4 := D4.out _ L2.out
    have d5 := D5.out _ L2.out
    have d6 := D6.out _ L2.out
    have d7 := D7.out _ L2.out
    have d8 := D8.out _ L2.out
    have d9 := D9.out _ L2.out
    have i1 : (i : Int) < (len : Int) := by omega
    have i2 : ¬ (i : Int) < 0 := by omega
    go_wp2_with fail
    clear r0 d0 d1 d2 d3 d4 d5 d6 d7 d8 d9
    have nb0 : Blk (w2.alloc (.cells #[.bool v, .bool r, .bool x1, .bool x, .bool u, .bool g, .bool a, .bool d, .int .i64 rsw, .int .u64 (ppn : Int)] 39)) (w2.heap.size) [.bool v, .bool r, .bool x1, .bool x, .bool u, .bool g, .bool a, .bool d, .int .i64 rsw, .int .u64 (ppn : Int)] 39 := Blk.new w2 [.bool v, .bool r, .bool x1, .bool x, .bool u, .bool g, .bool a, .bool d, .int .i64 rsw, .int .u64 (ppn : Int)] 39
    have nls : Below w.heap.size w w2 := L2.out
    have nl0 := nls.alloc nls.size (.cells #[.bool v, .bool r, .bool x1, .bool x, .bool u, .bool g, .bool a, .bool d, .int .i64 rsw, .int .u64 (ppn : Int)] 39)
    have nl : Below w.heap.size w (w2.alloc (.cells #[.bool v, .bool r, .bool x1, .bool x, .bool u, .bool g, .bool a, .bool d, .int .i64 rsw, .int .u64 (ppn : Int)] 39)) := nl0; clear nls nl0
    have o0 : Blk (w2.alloc (.cells #[.bool v, .bool r, .bool x1, .bool x, .bool u, .bool g, .bool a, .bool d, .int .i64 rsw, .int .u64 (ppn : Int)] 39)) B1 [.bool false, .bool false, .bool false, .bool false, .bool false, .bool false, .bool false, .bool false, .int .i64 0, .int .u64 0] 39 := (K2_0.out.alloc (.cells #[.bool v, .bool r, .bool x1, .bool x, .bool u, .bool g, .bool a, .bool d, .int .i64 rsw, .int .u64 (ppn : Int)] 39))
    have d3_0 : B1 < w2.heap.size := K2_0.out.lt
    obtain ⟨B3, hB0⟩ : ∃ B, B = w2.heap.size := ⟨_, rfl⟩
    obtain ⟨W3, hW⟩ : ∃ W, W = (w2.alloc (.cells #[.bool v, .bool r, .bool x1, .bool x, .bool u, .bool g, .bool a, .bool d, .int .i64 rsw, .int .u64 (ppn : Int)] 39)) := ⟨_, rfl⟩
    rw [← hW] at nl nb0 o0
    rw [← hB0] at nb0
    rw [← hW]
    try rw [← hB0]
    have K3_0 := Lib.hid o0
    have K3_1 := Lib.hid nb0
    have G3 : Hid (w.heap.size ≤ B3) := Lib.hid (by have := L2.out.size; omega)
    have x3_0_0 : B1 ≠ B3 := by omega
    have X3_0_0 := Lib.hid x3_0_0; clear x3_0_0
    have L3 := Lib.hid nl
    clear nl hW nb0 hB0 o0 d3_0 K2_0
    obtain ⟨N3, hN3⟩ : ∃ N, N = W3.heap.size := ⟨_, rfl⟩
    have n1 : w.heap.size ≤ N3 := by rw [hN3]; exact L3.out.size
    have n2 : B1 < N3 := by rw [hN3]; exact K3_0.out.lt
    have n3 : B3 < N3 := by rw [hN3]; exact K3_1.out.lt
    have hc : Chg no w W3.drew := (Chg.of_below (F := no) L3.out).trans (Chg.drew _ _)
    have k1 : Blk W3.drew B1 [.bool false, .bool false, .bool false, .bool false, .bool false, .bool false, .bool false, .bool false, .int .i64 0, .int .u64 0] 39 := Blk.drewN K3_0.out 1
    have k3 : Blk W3.drew B3 [.bool v, .bool r, .bool x1, .bool x, .bool u, .bool g, .bool a, .bool d, .int .i64 rsw, .int .u64 (ppn : Int)] 39 := Blk.drewN K3_1.out 1
    have hz : N3 ≤ W3.drew.heap.size := Nat.le_of_eq hN3
    have p1 : (i : Int) < (len : Int) := i1
    have p2 : (i : Int) ≤ (cap : Int) := by omega
    have p3 : i ≤ cap := by omega
    have p4 : IntKind.i64.wrap ((i : Int) + 1) = (i : Int) + 1 := by simp [IntKind.wrap, IntKind.bits, IntKind.signed]; omega
    have p5 : ((i : Int) + 1).toNat = i + 1 := by omega
    have p6 : (i : Int) + 1 ≤ (len : Int) := by omega
    have p7 : i + 1 ≤ len := by omega
    have p8 : (len : Int) ≤ (cap : Int) := by omega
    have p9 : (0 : Int) ≤ (i : Int) + 1 := by omega
    refine wp_region_held_drew (S := fun _ => True) (by kernel_rfl) trivial (fun hHeld => ?_)
    obtain ⟨W4, hW4⟩ : ∃ W, W = W3.drew := ⟨_, rfl⟩
    rw [← hW4] at hc k1 k3 hz ⊢
    have HC := Lib.hid hc; have HK1 := Lib.hid k1; have HK3 := Lib.hid k3
    clear hW4 hc k1 k3 K3_0 K3_1
    simp only [List.size_toArray, List.length_cons, List.length_nil, Nat.reduceAdd]
    rw [show Array.replicate 20 false = [false, false, false, false, false, false, false, false, false, false, false, false, false, false, false, false, false, false, false, false].toArray from rfl]
    refine wpAnyH_take (i := 0) (v := ?_) rfl (by kernel_rfl) (by kernel_rfl) (by kernel_rfl) (fun _ _ _ h => h) (Or.inl ⟨by rfl, ?yldq⟩) (by assumption) ?_
    case yldq => (intro w hSw; (try dsimp only at hSw); go_simp; try with_reducible rfl)
    try simp only [Act.put, List.setIfInBounds_toArray, List.set_cons_zero, List.set_cons_succ, List.getElem_toArray, List.getElem_cons_succ, List.getElem_cons_zero]
    refine wpAnyH_take (i := 2) (v := ?_) rfl (by kernel_rfl) (by kernel_rfl) (by kernel_rfl) (fun _ _ _ h => h) (Or.inl ⟨by rfl, ?yldq⟩) (by assumption) ?_
    case yldq => (intro w hSw; (try dsimp only at hSw); go_simp; try with_reducible rfl)
    try simp only [Act.put, List.setIfInBounds_toArray, List.set_cons_zero, List.set_cons_succ, List.getElem_toArray, List.getElem_cons_succ, List.getElem_cons_zero]
    refine wpAnyH_take (i := 3) (v := ?_) rfl (by kernel_rfl) (by kernel_rfl) (by kernel_rfl) (fun _ _ _ h => h) (Or.inl ⟨by rfl, ?yldq⟩) (by assumption) ?_
    case yldq => (intro w hSw; (try dsimp only at hSw); go_simp; try with_reducible rfl)
    try simp only [Act.put, List.setIfInBounds_toArray, List.set_cons_zero, List.set_cons_succ, List.getElem_toArray, List.getElem_cons_succ, List.getElem_cons_zero]
    refine wpAnyH_take (i := 4) (v := ?_) rfl (by kernel_rfl) (by kernel_rfl) (by kernel_rfl) (fun _ _ _ h => h) (Or.inl ⟨by rfl, ?yldq⟩) (by assumption) ?_
    case yldq => (intro w hSw; (try dsimp only at hSw); go_simp; try with_reducible rfl)
    try simp only [Act.put, List.setIfInBounds_toArray, List.set_cons_zero, List.set_cons_succ, List.getElem_toArray, List.getElem_cons_succ, List.getElem_cons_zero]
    refine wpAnyH_take (i := 6) (v := ?_) rfl (by kernel_rfl) (by kernel_rfl) (by kernel_rfl) (fun _ _ _ h => h) (Or.inl ⟨by rfl, ?yldq⟩) (by assumption) ?_
    case yldq => (intro w hSw; (try dsimp only at hSw); go_simp; try with_reducible rfl)
    try simp only [Act.put, List.setIfInBounds_toArray, List.set_cons_zero, List.set_cons_succ, List.getElem_toArray, List.getElem_cons_succ, List.getElem_cons_zero]
    refine wpAnyH_take (i := 9) (v := ?_) rfl (by kernel_rfl) (by kernel_rfl) (by kernel_rfl) (fun _ _ _ h => h) (Or.inl ⟨by rfl, ?yldq⟩) (by assumption) ?_
    case yldq => (intro w hSw; (try dsimp only at hSw); go_simp; try with_reducible rfl)
    try simp only [Act.put, List.setIfInBounds_toArray, List.set_cons_zero, List.set_cons_succ, List.getElem_toArray, List.getElem_cons_succ, List.getElem_cons_zero]
    refine wpAnyH_take (i := 10) (v := ?_) rfl (by kernel_rfl) (by kernel_rfl) (by kernel_rfl) (fun _ _ _ h => h) (Or.inl ⟨by rfl, ?yldq⟩) (by assumption) ?_
    case yldq => (intro w hSw; (try dsimp only at hSw); go_simp; try with_reducible rfl)
    try simp only [Act.put, List.setIfInBounds_toArray, List.set_cons_zero, List.set_cons_succ, List.getElem_toArray, List.getElem_cons_succ, List.getElem_cons_zero]
    refine wpAnyH_take (i := 11) (v := ?_) rfl (by kernel_rfl) (by kernel_rfl) (by kernel_rfl) (fun _ _ _ h => h) (Or.inl ⟨by rfl, ?yldq⟩) (by assumption) ?_
    case yldq => (intro w hSw; (try dsimp only at hSw); go_simp; try with_reducible rfl)
    try simp only [Act.put, List.setIfInBounds_toArray, List.set_cons_zero, List.set_cons_succ, List.getElem_toArray, List.getElem_cons_succ, List.getElem_cons_zero]
    refine wpAnyH_take (i := 13) (v := ?_) rfl (by kernel_rfl) (by kernel_rfl) (by kernel_rfl) (fun _ _ _ h => h) (Or.inl ⟨by rfl, ?yldq⟩) (by assumption) ?_
    case yldq => (intro w hSw; (try dsimp only at hSw); go_simp; try with_reducible rfl)
    try simp only [Act.put, List.setIfInBounds_toArray, List.set_cons_zero, List.set_cons_succ, List.getElem_toArray, List.getElem_cons_succ, List.getElem_cons_zero]
    refine wpAnyH_take (i := 14) (v := ?_) rfl (by kernel_rfl) (by kernel_rfl) (by kernel_rfl) (fun _ _ _ h => h) (Or.inl ⟨by rfl, ?yldq⟩) (by assumption) ?_
    case yldq => (intro w hSw; (try dsimp only at hSw); go_simp; try with_reducible rfl)
    try simp only [Act.put, List.setIfInBounds_toArray, List.set_cons_zero, List.set_cons_succ, List.getElem_toArray, List.getElem_cons_succ, List.getElem_cons_zero]
    refine wpAnyH_ready (rs := [1, 5, 12]) (by kernel_rfl) (by simp) ?_
    refine AllReadyH.cons rfl (fun K hK => ?_) (AllReadyH.cons rfl (fun K hK => ?_) (AllReadyH.cons rfl (fun K hK => ?_) (AllReadyH.nil)))
    · go_simp
      refine hK.out _ _ trivial (fun _ => ?_)
      clear hK K
      have hc5 := HC.out.thenAlloc (.cells #[] 60)
      have q1 := HK1.out.alloc (.cells #[] 60)
      have q3 := HK3.out.alloc (.cells #[] 60)
      have ho5 := own_baseG (own_lit0 W4 60 12) hz
      have hz5 : N3 ≤ (W4.alloc (.cells #[] 60)).heap.size := Nat.le_trans hz (Below.refl 0 W4 |>.alloc (Nat.zero_le _) _).size
      obtain ⟨b5, hb5⟩ : ∃ b, b = W4.heap.size := ⟨_, rfl⟩
      rw [← hb5] at ho5
      have hbn : N3 ≤ b5 := by rw [hb5]; exact hz
      obtain ⟨W5, hW5⟩ : ∃ W, W = W4.alloc (.cells #[] 60) := ⟨_, rfl⟩
      rw [← hW5] at hc5 q1 q3 ho5 hz5 ⊢
      try rw [← hb5]
      have HC5 := Lib.hid hc5; have HK15 := Lib.hid q1; have HK35 := Lib.hid q3; have HO5 := Lib.hid ho5
      clear hc5 q1 q3 ho5 hz hW5 hb5
      have hz := hz5
      clear hz5
      refine wpAnyH_ready (rs := [5, 12]) (by kernel_rfl) (by simp) ?_
      refine AllReadyH.cons rfl (fun K hK => ?_) (AllReadyH.cons rfl (fun K hK => ?_) (AllReadyH.nil))
      · have r0 := HROW.out W5 HC5.out.none
        go_simp
        refine hK.out _ _ trivial (fun _ => ?_)
        clear hK K r0
        refine wpAnyH_take (i := 7) (v := ?_) rfl (by kernel_rfl) (by kernel_rfl) (by kernel_rfl) (fun _ _ _ h => h) (Or.inl ⟨by rfl, ?yldq⟩) (by assumption) ?_
        case yldq => (intro w hSw; (try dsimp only at hSw); go_simp; try with_reducible rfl)
        try simp only [Act.put, List.setIfInBounds_toArray, List.set_cons_zero, List.set_cons_succ, List.getElem_toArray, List.getElem_cons_succ, List.getElem_cons_zero]
        refine wpAnyH_ready (rs := [8, 12]) (by kernel_rfl) (by simp) ?_
        refine AllReadyH.cons rfl (fun K hK => ?_) (AllReadyH.cons rfl (fun K hK => ?_) (AllReadyH.nil))
        · rw [if_pos (by rfl)]
          refine wp_append_M _ _ rfl N3 _ 0 [] rfl HO5.out _ i (rowS pgC (S.L.take i)) rfl (HSA.out _ _ HC5.out.none) HLA.out (rowS_one pgC_one _) (by omega) hz ?_
          intro v6 w6 hown6 hgr6
          have hg6 := grown_chg (B := N3) hgr6 (fun k hk => by injection hk with hk; rw [← hk]; exact hbn)
          have hc6 := HC5.out.newerB hg6 n1
          have q1 := HK15.out.chg hg6 (fun h => absurd n2 (Nat.not_lt.2 h))
          have q3 := HK35.out.chg hg6 (fun h => absurd n3 (Nat.not_lt.2 h))
          have hz6 : N3 ≤ w6.heap.size := Nat.le_trans hz hg6.size
          rw [Nat.zero_add, List.nil_append] at hown6
          refine hK.out _ _ trivial (fun _ => ?_)
          have HC6 := Lib.hid hc6; have HK16 := Lib.hid q1; have HK36 := Lib.hid q3; have HO6 := Lib.hid hown6
          clear hK K hc6 q1 q3 hown6 hz hgr6 hg6
          have hz := hz6
          clear hz6
          refine wpAnyH_ready (rs := [12]) (by kernel_rfl) (by simp) ?_
          refine AllReadyH.cons rfl (fun K hK => ?_) (AllReadyH.nil)
          have r0 := HROW.out w6 HC6.out.none
          go_simp
          refine hK.out _ _ trivial (fun _ => ?_)
          clear hK K r0
          refine wpAnyH_take (i := 15) (v := ?_) rfl (by kernel_rfl) (by kernel_rfl) (by kernel_rfl) (fun _ _ _ h => h) (Or.inl ⟨by rfl, ?yldq⟩) (by assumption) ?_
          case yldq => (intro w hSw; (try dsimp only at hSw); go_simp; try with_reducible rfl)
          try simp only [Act.put, List.setIfInBounds_toArray, List.set_cons_zero, List.set_cons_succ, List.getElem_toArray, List.getElem_cons_succ, List.getElem_cons_zero]
          refine wpAnyH_ready (rs := [16]) (by kernel_rfl) (by simp) ?_
          refine AllReadyH.cons rfl (fun K hK => ?_) (AllReadyH.nil)
          rw [if_pos (by rfl)]
          refine wp_append_M _ _ rfl N3 v6 i (rowS pgC (S.L.take i)) rfl HO6.out _ (len - (i + 1)) (rowS pgC (S.L.drop (i + 1))) rfl (HSB.out _ _ HC6.out.none) HLB.out (rowS_one pgC_one _) (by omega) hz ?_
          intro v7 w7 hown7 hgr7
          have hg7 := grown_chg (B := N3) hgr7 (fun k hk => (HO6.out.lt k hk).1)
          have hc7 := HC6.out.newerB hg7 n1
          have q1 := HK16.out.chg hg7 (fun h => absurd n2 (Nat.not_lt.2 h))
          have q3 := HK36.out.chg hg7 (fun h => absurd n3 (Nat.not_lt.2 h))
          rw [HER.out, HLE2.out] at hown7
          refine hK.out _ _ trivial (fun _ => ?_)
          have HC7 := Lib.hid hc7; have HK17 := Lib.hid q1; have HK37 := Lib.hid q3; have HO7 := Lib.hid hown7
          clear hK K hc7 q1 q3 hown7 hgr7 hg7
          obtain ⟨A7, c7, hv7⟩ := own_sliceG HO7.out
          subst hv7
          refine wpAnyH_take (i := 17) (v := ?_) rfl (by kernel_rfl) (by kernel_rfl) (by kernel_rfl) (fun _ _ _ h => h) (Or.inl ⟨by rfl, ?yldq⟩) (by assumption) ?_
          case yldq => (intro w hSw; (try dsimp only at hSw); go_simp; try with_reducible rfl)
          try simp only [Act.put, List.setIfInBounds_toArray, List.set_cons_zero, List.set_cons_succ, List.getElem_toArray, List.getElem_cons_succ, List.getElem_cons_zero]
          refine wpAnyH_take (i := 18) (v := ?_) rfl (by kernel_rfl) (by kernel_rfl) (by kernel_rfl) (fun _ _ _ h => h) (Or.inl ⟨by rfl, ?yldq⟩) (by assumption) ?_
          case yldq => (intro w hSw; (try dsimp only at hSw); go_simp; try with_reducible rfl)
          try simp only [Act.put, List.setIfInBounds_toArray, List.set_cons_zero, List.set_cons_succ, List.getElem_toArray, List.getElem_cons_succ, List.getElem_cons_zero]
          have hrp7 := K0.out.chg HC7.out (fun h => h)
          have q0 : w7.cell? ⟨rp, 0, none⟩ = some _ := hrp7.cell 0
          have qf := hrp7.free 0
          have qlt := hrp7.lt
          have HRP7 := Lib.hid hrp7
          clear hrp7
          refine wpAnyH_ready (rs := [19]) (by kernel_rfl) (by simp) ?_
          refine AllReadyH.cons rfl (fun K hK => ?_) AllReadyH.nil
          go_simp
          refine hK.out _ _ trivial (fun _ => ?_)
          clear hK K q0 qf qlt
          refine wpAnyH_done (by kernel_rfl) ?_ _
          have hcs := Chg.setCell (F := fun k => k = rp) w7 ⟨rp, 0, none⟩ (.slice A7 (S.L.eraseIdx i).length c7) rfl
          have hr8 := HRP7.out.set 0 (.slice A7 (S.L.eraseIdx i).length c7)
          have hb1 := HK17.out.chg hcs (fun h => by have h : B1 = rp := h; have := G1.out; omega)
          have hb3 := HK37.out.chg hcs (fun h => by have h : B3 = rp := h; have := G3.out; omega)
          have hown8 := own_chgG HO7.out hcs (fun k hk e => absurd (HO7.out.lt k hk).1 (by have e : k = rp := e; omega))
          have hc8 := HC7.out.of_no.trans hcs
          obtain ⟨W8, hW8⟩ : ∃ W, W = w7.setCell ⟨rp, 0, none⟩ (.slice A7 (S.L.eraseIdx i).length c7) := ⟨_, rfl⟩
          rw [← hW8] at hcs hr8 hb1 hb3 hown8 hc8 ⊢
          have a0 := hb1.cell 0; have c0x := hb3.cell 0
          have a1 := hb1.cell 1; have c1x := hb3.cell 1
          have a2 := hb1.cell 2; have c2x := hb3.cell 2
          have a3 := hb1.cell 3; have c3x := hb3.cell 3
          have a4 := hb1.cell 4; have c4x := hb3.cell 4
          have a5 := hb1.cell 5; have c5x := hb3.cell 5
          have a6 := hb1.cell 6; have c6x := hb3.cell 6
          have a7 := hb1.cell 7; have c7x := hb3.cell 7
          have a8 := hb1.cell 8; have c8x := hb3.cell 8
          have a9 := hb1.cell 9; have c9x := hb3.cell 9
          have fz : ∀ o, W8.frozen? ⟨B1, o, none⟩ = false := fun o => hb1.free o
          have alt := hb1.lt
          have clt := hb3.lt
          have HR8 := Lib.hid hr8; have HB1 := Lib.hid hb1; have HOW8 := Lib.hid hown8; have HC8 := Lib.hid hc8
          clear hcs hr8 hb1 hb3 hown8 hc8 hW8
          go_wp2
          clear fz alt clt a0 c0x a1 c1x a2 c2x a3 c3x a4 c4x a5 c5x a6 c6x a7 c7x a8 c8x a9 c9x
          have hb1 := HB1.out
          obtain ⟨W9, hW9⟩ : ∃ W, W = ((((((((((W8.setCell ⟨B1, 0, none⟩ (.bool v)).setCell ⟨B1, 1, none⟩ (.bool r)).setCell ⟨B1, 2, none⟩ (.bool x1)).setCell ⟨B1, 3, none⟩ (.bool x)).setCell ⟨B1, 4, none⟩ (.bool u)).setCell ⟨B1, 5, none⟩ (.bool g)).setCell ⟨B1, 6, none⟩ (.bool a)).setCell ⟨B1, 7, none⟩ (.bool d)).setCell ⟨B1, 8, none⟩ (.int .i64 rsw)).setCell ⟨B1, 9, none⟩ (.int .u64 (ppn : Int))) := ⟨_, rfl⟩
          rw [← hW9]
          have b9 : Blk W9 B1 [.bool v, .bool r, .bool x1, .bool x, .bool u, .bool g, .bool a, .bool d, .int .i64 rsw, .int .u64 (ppn : Int)] 39 := hW9 ▸ ((((((((((hb1.set 0 (.bool v)).set 1 (.bool r)).set 2 (.bool x1)).set 3 (.bool x)).set 4 (.bool u)).set 5 (.bool g)).set 6 (.bool a)).set 7 (.bool d)).set 8 (.int .i64 rsw)).set 9 (.int .u64 (ppn : Int)))
          have c9 : Chg (fun k => k = B1) W8 W9 := by
            rw [hW9]
            iterate 10 refine Chg.setc ?_ _ _ (.inl rfl)
            exact Chg.refl _ _
          clear hW9 hb1
          have r0 : W9.cell? ⟨B1, 0, none⟩ = some _ := b9.cell 0
          have r1 : W9.cell? ⟨B1, 1, none⟩ = some _ := b9.cell 1
          have r2 : W9.cell? ⟨B1, 2, none⟩ = some _ := b9.cell 2
          have r3 : W9.cell? ⟨B1, 3, none⟩ = some _ := b9.cell 3
          have r4 : W9.cell? ⟨B1, 4, none⟩ = some _ := b9.cell 4
          have r5 : W9.cell? ⟨B1, 5, none⟩ = some _ := b9.cell 5
          have r6 : W9.cell? ⟨B1, 6, none⟩ = some _ := b9.cell 6
          have r7 : W9.cell? ⟨B1, 7, none⟩ = some _ := b9.cell 7
          have r8 : W9.cell? ⟨B1, 8, none⟩ = some _ := b9.cell 8
          have r9 : W9.cell? ⟨B1, 9, none⟩ = some _ := b9.cell 9
          have HC9 := Lib.hid c9
          clear b9 c9
          refine bodyPost_ret (v := .tuple #[.agg #[.bool v, .bool r, .bool x1, .bool x, .bool u, .bool g, .bool a, .bool d, .int .i64 rsw, .int .u64 (ppn : Int)], .int .i64 0]) (by simp [results, Try.results19, go_sem, r0, r1, r2, r3, r4, r5, r6, r7, r8, r9]) rfl ?_
          clear r0 r1 r2 r3 r4 r5 r6 r7 r8 r9
          rw [HRR.out]
          have hBrp : ∀ k, k = B1 → k < w.heap.size → False := fun k h1 h2 => by have := G1.out; omega
          have hcE : Chg (fun k => k = rp) w W9 := ⟨HC9.out.os.trans HC8.out.os, HC9.out.tape.trans HC8.out.tape, HC9.out.output.trans HC8.out.output, Nat.le_trans HC8.out.size HC9.out.size, fun k hk hne => (HC9.out.block k (Nat.lt_of_lt_of_le hk HC8.out.size) (fun h => hBrp k h hk)).trans (HC8.out.block k hk hne)⟩
          refine ⟨rfl, (.slice A7 (S.L.eraseIdx i).length c7), ⟨HR8.out.chg HC9.out (fun h => hBrp _ h hlt0), own_chgG (own_baseG HOW8.out (Nat.zero_le _)) HC9.out (fun k hk h => absurd (HOW8.out.lt k hk).1 (by have h : k = B1 := h; omega)), own_chgG HR.out.ownT hcE (fun k hk e => HR.out.neT (e ▸ hk)), ?_, HR.out.neT⟩, fun k hk => .inr (Nat.le_trans n1 (HOW8.out.lt k hk).1), hcE⟩
          intro hk
          exact absurd (HOW8.out.lt _ hk).1 (by omega)
        · have r0 := HROW.out W5 HC5.out.none
          go_simp
          refine hK.out _ _ trivial (fun _ => ?_)
          clear hK K r0
          refine wpAnyH_take (i := 15) (v := ?_) rfl (by kernel_rfl) (by kernel_rfl) (by kernel_rfl) (fun _ _ _ h => h) (Or.inl ⟨by rfl, ?yldq⟩) (by assumption) ?_
          case yldq => (intro w hSw; (try dsimp only at hSw); go_simp; try with_reducible rfl)
          try simp only [Act.put, List.setIfInBounds_toArray, List.set_cons_zero, List.set_cons_succ, List.getElem_toArray, List.getElem_cons_succ, List.getElem_cons_zero]
          refine wpAnyH_ready (rs := [8]) (by kernel_rfl) (by simp) ?_
          refine AllReadyH.cons rfl (fun K hK => ?_) (AllReadyH.nil)
          rw [if_pos (by rfl)]
          refine wp_append_M _ _ rfl N3 _ 0 [] rfl HO5.out _ i (rowS pgC (S.L.take i)) rfl (HSA.out _ _ HC5.out.none) HLA.out (rowS_one pgC_one _) (by omega) hz ?_
          intro v6 w6 hown6 hgr6
          have hg6 := grown_chg (B := N3) hgr6 (fun k hk => by injection hk with hk; rw [← hk]; exact hbn)
          have hc6 := HC5.out.newerB hg6 n1
          have q1 := HK15.out.chg hg6 (fun h => absurd n2 (Nat.not_lt.2 h))
          have q3 := HK35.out.chg hg6 (fun h => absurd n3 (Nat.not_lt.2 h))
          have hz6 : N3 ≤ w6.heap.size := Nat.le_trans hz hg6.size
          rw [Nat.zero_add, List.nil_append] at hown6
          refine hK.out _ _ trivial (fun _ => ?_)
          have HC6 := Lib.hid hc6; have HK16 := Lib.hid q1; have HK36 := Lib.hid q3; have HO6 := Lib.hid hown6
          clear hK K hc6 q1 q3 hown6 hz hgr6 hg6
          have hz := hz6
          clear hz6
          refine wpAnyH_ready (rs := [16]) (by kernel_rfl) (by simp) ?_
          refine AllReadyH.cons rfl (fun K hK => ?_) (AllReadyH.nil)
          rw [if_pos (by rfl)]
          refine wp_append_M _ _ rfl N3 v6 i (rowS pgC (S.L.take i)) rfl HO6.out _ (len - (i + 1)) (rowS pgC (S.L.drop (i + 1))) rfl (HSB.out _ _ HC6.out.none) HLB.out (rowS_one pgC_one _) (by omega) hz ?_
          intro v7 w7 hown7 hgr7
          have hg7 := grown_chg (B := N3) hgr7 (fun k hk => (HO6.out.lt k hk).1)
          have hc7 := HC6.out.newerB hg7 n1
          have q1 := HK16.out.chg hg7 (fun h => absurd n2 (Nat.not_lt.2 h))
          have q3 := HK36.out.chg hg7 (fun h => absurd n3 (Nat.not_lt.2 h))
          rw [HER.out, HLE2.out] at hown7
          refine hK.out _ _ trivial (fun _ => ?_)
          have HC7 := Lib.hid hc7; have HK17 := Lib.hid q1; have HK37 := Lib.hid q3; have HO7 := Lib.hid hown7
          clear hK K hc7 q1 q3 hown7 hgr7 hg7
          obtain ⟨A7, c7, hv7⟩ := own_sliceG HO7.out
          subst hv7
          refine wpAnyH_take (i := 17) (v := ?_) rfl (by kernel_rfl) (by kernel_rfl) (by kernel_rfl) (fun _ _ _ h => h) (Or.inl ⟨by rfl, ?yldq⟩) (by assumption) ?_
          case yldq => (intro w hSw; (try dsimp only at hSw); go_simp; try with_reducible rfl)
          try simp only [Act.put, List.setIfInBounds_toArray, List.set_cons_zero, List.set_cons_succ, List.getElem_toArray, List.getElem_cons_succ, List.getElem_cons_zero]
          refine wpAnyH_take (i := 18) (v := ?_) rfl (by kernel_rfl) (by kernel_rfl) (by kernel_rfl) (fun _ _ _ h => h) (Or.inl ⟨by rfl, ?yldq⟩) (by assumption) ?_
          case yldq => (intro w hSw; (try dsimp only at hSw); go_simp; try with_reducible rfl)
          try simp only [Act.put, List.setIfInBounds_toArray, List.set_cons_zero, List.set_cons_succ, List.getElem_toArray, List.getElem_cons_succ, List.getElem_cons_zero]
          have hrp7 := K0.out.chg HC7.out (fun h => h)
          have q0 : w7.cell? ⟨rp, 0, none⟩ = some _ := hrp7.cell 0
          have qf := hrp7.free 0
          have qlt := hrp7.lt
          have HRP7 := Lib.hid hrp7
          clear hrp7
          refine wpAnyH_ready (rs := [19]) (by kernel_rfl) (by simp) ?_
          refine AllReadyH.cons rfl (fun K hK => ?_) AllReadyH.nil
          go_simp
          refine hK.out _ _ trivial (fun _ => ?_)
          clear hK K q0 qf qlt
          refine wpAnyH_done (by kernel_rfl) ?_ _
          have hcs := Chg.setCell (F := fun k => k = rp) w7 ⟨rp, 0, none⟩ (.slice A7 (S.L.eraseIdx i).length c7) rfl
          have hr8 := HRP7.out.set 0 (.slice A7 (S.L.eraseIdx i).length c7)
          have hb1 := HK17.out.chg hcs (fun h => by have h : B1 = rp := h; have := G1.out; omega)
          have hb3 := HK37.out.chg hcs (fun h => by have h : B3 = rp := h; have := G3.out; omega)
          have hown8 := own_chgG HO7.out hcs (fun k hk e => absurd (HO7.out.lt k hk).1 (by have e : k = rp := e; omega))
          have hc8 := HC7.out.of_no.trans hcs
          obtain ⟨W8, hW8⟩ : ∃ W, W = w7.setCell ⟨rp, 0, none⟩ (.slice A7 (S.L.eraseIdx i).length c7) := ⟨_, rfl⟩
          rw [← hW8] at hcs hr8 hb1 hb3 hown8 hc8 ⊢
          have a0 := hb1.cell 0; have c0x := hb3.cell 0
          have a1 := hb1.cell 1; have c1x := hb3.cell 1
          have a2 := hb1.cell 2; have c2x := hb3.cell 2
          have a3 := hb1.cell 3; have c3x := hb3.cell 3
          have a4 := hb1.cell 4; have c4x := hb3.cell 4
          have a5 := hb1.cell 5; have c5x := hb3.cell 5
          have a6 := hb1.cell 6; have c6x := hb3.cell 6
          have a7 := hb1.cell 7; have c7x := hb3.cell 7
          have a8 := hb1.cell 8; have c8x := hb3.cell 8
          have a9 := hb1.cell 9; have c9x := hb3.cell 9
          have fz : ∀ o, W8.frozen? ⟨B1, o, none⟩ = false := fun o => hb1.free o
          have alt := hb1.lt
          have clt := hb3.lt
          have HR8 := Lib.hid hr8; have HB1 := Lib.hid hb1; have HOW8 := Lib.hid hown8; have HC8 := Lib.hid hc8
          clear hcs hr8 hb1 hb3 hown8 hc8 hW8
          go_wp2
          clear fz alt clt a0 c0x a1 c1x a2 c2x a3 c3x a4 c4x a5 c5x a6 c6x a7 c7x a8 c8x a9 c9x
          have hb1 := HB1.out
          obtain ⟨W9, hW9⟩ : ∃ W, W = ((((((((((W8.setCell ⟨B1, 0, none⟩ (.bool v)).setCell ⟨B1, 1, none⟩ (.bool r)).setCell ⟨B1, 2, none⟩ (.bool x1)).setCell ⟨B1, 3, none⟩ (.bool x)).setCell ⟨B1, 4, none⟩ (.bool u)).setCell ⟨B1, 5, none⟩ (.bool g)).setCell ⟨B1, 6, none⟩ (.bool a)).setCell ⟨B1, 7, none⟩ (.bool d)).setCell ⟨B1, 8, none⟩ (.int .i64 rsw)).setCell ⟨B1, 9, none⟩ (.int .u64 (ppn : Int))) := ⟨_, rfl⟩
          rw [← hW9]
          have b9 : Blk W9 B1 [.bool v, .bool r, .bool x1, .bool x, .bool u, .bool g, .bool a, .bool d, .int .i64 rsw, .int .u64 (ppn : Int)] 39 := hW9 ▸ ((((((((((hb1.set 0 (.bool v)).set 1 (.bool r)).set 2 (.bool x1)).set 3 (.bool x)).set 4 (.bool u)).set 5 (.bool g)).set 6 (.bool a)).set 7 (.bool d)).set 8 (.int .i64 rsw)).set 9 (.int .u64 (ppn : Int)))
          have c9 : Chg (fun k => k = B1) W8 W9 := by
            rw [hW9]
            iterate 10 refine Chg.setc ?_ _ _ (.inl rfl)
            exact Chg.refl _ _
          clear hW9 hb1
          have r0 : W9.cell? ⟨B1, 0, none⟩ = some _ := b9.cell 0
          have r1 : W9.cell? ⟨B1, 1, none⟩ = some _ := b9.cell 1
          have r2 : W9.cell? ⟨B1, 2, none⟩ = some _ := b9.cell 2
          have r3 : W9.cell? ⟨B1, 3, none⟩ = some _ := b9.cell 3
          have r4 : W9.cell? ⟨B1, 4, none⟩ = some _ := b9.cell 4
          have r5 : W9.cell? ⟨B1, 5, none⟩ = some _ := b9.cell 5
          have r6 : W9.cell? ⟨B1, 6, none⟩ = some _ := b9.cell 6
          have r7 : W9.cell? ⟨B1, 7, none⟩ = some _ := b9.cell 7
          have r8 : W9.cell? ⟨B1, 8, none⟩ = some _ := b9.cell 8
          have r9 : W9.cell? ⟨B1, 9, none⟩ = some _ := b9.cell 9
          have HC9 := Lib.hid c9
          clear b9 c9
          refine bodyPost_ret (v := .tuple #[.agg #[.bool v, .bool r, .bool x1, .bool x, .bool u, .bool g, .bool a, .bool d, .int .i64 rsw, .int .u64 (ppn : Int)], .int .i64 0]) (by simp [results, Try.results19, go_sem, r0, r1, r2, r3, r4, r5, r6, r7, r8, r9]) rfl ?_
          clear r0 r1 r2 r3 r4 r5 r6 r7 r8 r9
          rw [HRR.out]
          have hBrp : ∀ k, k = B1 → k < w.heap.size → False := fun k h1 h2 => by have := G1.out; omega
          have hcE : Chg (fun k => k = rp) w W9 := ⟨HC9.out.os.trans HC8.out.os, HC9.out.tape.trans HC8.out.tape, HC9.out.output.trans HC8.out.output, Nat.le_trans HC8.out.size HC9.out.size, fun k hk hne => (HC9.out.block k (Nat.lt_of_lt_of_le hk HC8.out.size) (fun h => hBrp k h hk)).trans (HC8.out.block k hk hne)⟩
          refine ⟨rfl, (.slice A7 (S.L.eraseIdx i).length c7), ⟨HR8.out.chg HC9.out (fun h => hBrp _ h hlt0), own_chgG (own_baseG HOW8.out (Nat.zero_le _)) HC9.out (fun k hk h => absurd (HOW8.out.lt k hk).1 (by have h : k = B1 := h; omega)), own_chgG HR.out.ownT hcE (fun k hk e => HR.out.neT (e ▸ hk)), ?_, HR.out.neT⟩, fun k hk => .inr (Nat.le_trans n1 (HOW8.out.lt k hk).1), hcE⟩
          intro hk
          exact absurd (HOW8.out.lt _ hk).1 (by omega)
      · have r0 := HROW.out W5 HC5.out.none
        go_simp
        refine hK.out _ _ trivial (fun _ => ?_)
        clear hK K r0
        refine wpAnyH_take (i := 15) (v := ?_) rfl (by kernel_rfl) (by kernel_rfl) (by kernel_rfl) (fun _ _ _ h => h) (Or.inl ⟨by rfl, ?yldq⟩) (by assumption) ?_
        case yldq => (intro w hSw; (try dsimp only at hSw); go_simp; try with_reducible rfl)
        try simp only [Act.put, List.setIfInBounds_toArray, List.set_cons_zero, List.set_cons_succ, List.getElem_toArray, List.getElem_cons_succ, List.getElem_cons_zero]
        refine wpAnyH_ready (rs := [5]) (by kernel_rfl) (by simp) ?_
        refine AllReadyH.cons rfl (fun K hK => ?_) (AllReadyH.nil)
        have r0 := HROW.out W5 HC5.out.none
        go_simp
        refine hK.out _ _ trivial (fun _ => ?_)
        clear hK K r0
        refine wpAnyH_take (i := 7) (v := ?_) rfl (by kernel_rfl) (by kernel_rfl) (by kernel_rfl) (fun _ _ _ h => h) (Or.inl ⟨by rfl, ?yldq⟩) (by assumption) ?_
        case yldq => (intro w hSw; (try dsimp only at hSw); go_simp; try with_reducible rfl)
        try simp only [Act.put, List.setIfInBounds_toArray, List.set_cons_zero, List.set_cons_succ, List.getElem_toArray, List.getElem_cons_succ, List.getElem_cons_zero]
        refine wpAnyH_ready (rs := [8]) (by kernel_rfl) (by simp) ?_
        refine AllReadyH.cons rfl (fun K hK => ?_) (AllReadyH.nil)
        rw [if_pos (by rfl)]
        refine wp_append_M _ _ rfl N3 _ 0 [] rfl HO5.out _ i (rowS pgC (S.L.take i)) rfl (HSA.out _ _ HC5.out.none) HLA.out (rowS_one pgC_one _) (by omega) hz ?_
        intro v6 w6 hown6 hgr6
        have hg6 := grown_chg (B := N3) hgr6 (fun k hk => by injection hk with hk; rw [← hk]; exact hbn)
        have hc6 := HC5.out.newerB hg6 n1
        have q1 := HK15.out.chg hg6 (fun h => absurd n2 (Nat.not_lt.2 h))
        have q3 := HK35.out.chg hg6 (fun h => absurd n3 (Nat.not_lt.2 h))
        have hz6 : N3 ≤ w6.heap.size := Nat.le_trans hz hg6.size
        rw [Nat.zero_add, List.nil_append] at hown6
        refine hK.out _ _ trivial (fun _ => ?_)
        have HC6 := Lib.hid hc6; have HK16 := Lib.hid q1; have HK36 := Lib.hid q3; have HO6 := Lib.hid hown6
        clear hK K hc6 q1 q3 hown6 hz hgr6 hg6
        have hz := hz6
        clear hz6
        refine wpAnyH_ready (rs := [16]) (by kernel_rfl) (by simp) ?_
        refine AllReadyH.cons rfl (fun K hK => ?_) (AllReadyH.nil)
        rw [if_pos (by rfl)]
        refine wp_append_M _ _ rfl N3 v6 i (rowS pgC (S.L.take i)) rfl HO6.out _ (len - (i + 1)) (rowS pgC (S.L.drop (i + 1))) rfl (HSB.out _ _ HC6.out.none) HLB.out (rowS_one pgC_one _) (by omega) hz ?_
        intro v7 w7 hown7 hgr7
        have hg7 := grown_chg (B := N3) hgr7 (fun k hk => (HO6.out.lt k hk).1)
        have hc7 := HC6.out.newerB hg7 n1
        have q1 := HK16.out.chg hg7 (fun h => absurd n2 (Nat.not_lt.2 h))
        have q3 := HK36.out.chg hg7 (fun h => absurd n3 (Nat.not_lt.2 h))
        rw [HER.out, HLE2.out] at hown7
        refine hK.out _ _ trivial (fun _ => ?_)
        have HC7 := Lib.hid hc7; have HK17 := Lib.hid q1; have HK37 := Lib.hid q3; have HO7 := Lib.hid hown7
        clear hK K hc7 q1 q3 hown7 hgr7 hg7
        obtain ⟨A7, c7, hv7⟩ := own_sliceG HO7.out
        subst hv7
        refine wpAnyH_take (i := 17) (v := ?_) rfl (by kernel_rfl) (by kernel_rfl) (by kernel_rfl) (fun _ _ _ h => h) (Or.inl ⟨by rfl, ?yldq⟩) (by assumption) ?_
        case yldq => (intro w hSw; (try dsimp only at hSw); go_simp; try with_reducible rfl)
        try simp only [Act.put, List.setIfInBounds_toArray, List.set_cons_zero, List.set_cons_succ, List.getElem_toArray, List.getElem_cons_succ, List.getElem_cons_zero]
        refine wpAnyH_take (i := 18) (v := ?_) rfl (by kernel_rfl) (by kernel_rfl) (by kernel_rfl) (fun _ _ _ h => h) (Or.inl ⟨by rfl, ?yldq⟩) (by assumption) ?_
        case yldq => (intro w hSw; (try dsimp only at hSw); go_simp; try with_reducible rfl)
        try simp only [Act.put, List.setIfInBounds_toArray, List.set_cons_zero, List.set_cons_succ, List.getElem_toArray, List.getElem_cons_succ, List.getElem_cons_zero]
        have hrp7 := K0.out.chg HC7.out (fun h => h)
        have q0 : w7.cell? ⟨rp, 0, none⟩ = some _ := hrp7.cell 0
        have qf := hrp7.free 0
        have qlt := hrp7.lt
        have HRP7 := Lib.hid hrp7
        clear hrp7
        refine wpAnyH_ready (rs := [19]) (by kernel_rfl) (by simp) ?_
        refine AllReadyH.cons rfl (fun K hK => ?_) AllReadyH.nil
        go_simp
        refine hK.out _ _ trivial (fun _ => ?_)
        clear hK K q0 qf qlt
        refine wpAnyH_done (by kernel_rfl) ?_ _
        have hcs := Chg.setCell (F := fun k => k = rp) w7 ⟨rp, 0, none⟩ (.slice A7 (S.L.eraseIdx i).length c7) rfl
        have hr8 := HRP7.out.set 0 (.slice A7 (S.L.eraseIdx i).length c7)
        have hb1 := HK17.out.chg hcs (fun h => by have h : B1 = rp := h; have := G1.out; omega)
        have hb3 := HK37.out.chg hcs (fun h => by have h : B3 = rp := h; have := G3.out; omega)
        have hown8 := own_chgG HO7.out hcs (fun k hk e => absurd (HO7.out.lt k hk).1 (by have e : k = rp := e; omega))
        have hc8 := HC7.out.of_no.trans hcs
        obtain ⟨W8, hW8⟩ : ∃ W, W = w7.setCell ⟨rp, 0, none⟩ (.slice A7 (S.L.eraseIdx i).length c7) := ⟨_, rfl⟩
        rw [← hW8] at hcs hr8 hb1 hb3 hown8 hc8 ⊢
        have a0 := hb1.cell 0; have c0x := hb3.cell 0
        have a1 := hb1.cell 1; have c1x := hb3.cell 1
        have a2 := hb1.cell 2; have c2x := hb3.cell 2
        have a3 := hb1.cell 3; have c3x := hb3.cell 3
        have a4 := hb1.cell 4; have c4x := hb3.cell 4
        have a5 := hb1.cell 5; have c5x := hb3.cell 5
        have a6 := hb1.cell 6; have c6x := hb3.cell 6
        have a7 := hb1.cell 7; have c7x := hb3.cell 7
        have a8 := hb1.cell 8; have c8x := hb3.cell 8
        have a9 := hb1.cell 9; have c9x := hb3.cell 9
        have fz : ∀ o, W8.frozen? ⟨B1, o, none⟩ = false := fun o => hb1.free o
        have alt := hb1.lt
        have clt := hb3.lt
        have HR8 := Lib.hid hr8; have HB1 := Lib.hid hb1; have HOW8 := Lib.hid hown8; have HC8 := Lib.hid hc8
        clear hcs hr8 hb1 hb3 hown8 hc8 hW8
        go_wp2
        clear fz alt clt a0 c0x a1 c1x a2 c2x a3 c3x a4 c4x a5 c5x a6 c6x a7 c7x a8 c8x a9 c9x
        have hb1 := HB1.out
        obtain ⟨W9, hW9⟩ : ∃ W, W = ((((((((((W8.setCell ⟨B1, 0, none⟩ (.bool v)).setCell ⟨B1, 1, none⟩ (.bool r)).setCell ⟨B1, 2, none⟩ (.bool x1)).setCell ⟨B1, 3, none⟩ (.bool x)).setCell ⟨B1, 4, none⟩ (.bool u)).setCell ⟨B1, 5, none⟩ (.bool g)).setCell ⟨B1, 6, none⟩ (.bool a)).setCell ⟨B1, 7, none⟩ (.bool d)).setCell ⟨B1, 8, none⟩ (.int .i64 rsw)).setCell ⟨B1, 9, none⟩ (.int .u64 (ppn : Int))) := ⟨_, rfl⟩
        rw [← hW9]
        have b9 : Blk W9 B1 [.bool v, .bool r, .bool x1, .bool x, .bool u, .bool g, .bool a, .bool d, .int .i64 rsw, .int .u64 (ppn : Int)] 39 := hW9 ▸ ((((((((((hb1.set 0 (.bool v)).set 1 (.bool r)).set 2 (.bool x1)).set 3 (.bool x)).set 4 (.bool u)).set 5 (.bool g)).set 6 (.bool a)).set 7 (.bool d)).set 8 (.int .i64 rsw)).set 9 (.int .u64 (ppn : Int)))
        have c9 : Chg (fun k => k = B1) W8 W9 := by
          rw [hW9]
          iterate 10 refine Chg.setc ?_ _ _ (.inl rfl)
          exact Chg.refl _ _
        clear hW9 hb1
        have r0 : W9.cell? ⟨B1, 0, none⟩ = some _ := b9.cell 0
        have r1 : W9.cell? ⟨B1, 1, none⟩ = some _ := b9.cell 1
        have r2 : W9.cell? ⟨B1, 2, none⟩ = some _ := b9.cell 2
        have r3 : W9.cell? ⟨B1, 3, none⟩ = some _ := b9.cell 3
        have r4 : W9.cell? ⟨B1, 4, none⟩ = some _ := b9.cell 4
        have r5 : W9.cell? ⟨B1, 5, none⟩ = some _ := b9.cell 5
        have r6 : W9.cell? ⟨B1, 6, none⟩ = some _ := b9.cell 6
        have r7 : W9.cell? ⟨B1, 7, none⟩ = some _ := b9.cell 7
        have r8 : W9.cell? ⟨B1, 8, none⟩ = some _ := b9.cell 8
        have r9 : W9.cell? ⟨B1, 9, none⟩ = some _ := b9.cell 9
        have HC9 := Lib.hid c9
        clear b9 c9
        refine bodyPost_ret (v := .tuple #[.agg #[.bool v, .bool r, .bool x1, .bool x, .bool u, .bool g, .bool a, .bool d, .int .i64 rsw, .int .u64 (ppn : Int)], .int .i64 0]) (by simp [results, Try.results19, go_sem, r0, r1, r2, r3, r4, r5, r6, r7, r8, r9]) rfl ?_
        clear r0 r1 r2 r3 r4 r5 r6 r7 r8 r9
        rw [HRR.out]
        have hBrp : ∀ k, k = B1 → k < w.heap.size → False := fun k h1 h2 => by have := G1.out; omega
        have hcE : Chg (fun k => k = rp) w W9 := ⟨HC9.out.os.trans HC8.out.os, HC9.out.tape.trans HC8.out.tape, HC9.out.output.trans HC8.out.output, Nat.le_trans HC8.out.size HC9.out.size, fun k hk hne => (HC9.out.block k (Nat.lt_of_lt_of_le hk HC8.out.size) (fun h => hBrp k h hk)).trans (HC8.out.block k hk hne)⟩
        refine ⟨rfl, (.slice A7 (S.L.eraseIdx i).length c7), ⟨HR8.out.chg HC9.out (fun h => hBrp _ h hlt0), own_chgG (own_baseG HOW8.out (Nat.zero_le _)) HC9.out (fun k hk h => absurd (HOW8.out.lt k hk).1 (by have h : k = B1 := h; omega)), own_chgG HR.out.ownT hcE (fun k hk e => HR.out.neT (e ▸ hk)), ?_, HR.out.neT⟩, fun k hk => .inr (Nat.le_trans n1 (HOW8.out.lt k hk).1), hcE⟩
        intro hk
        exact absurd (HOW8.out.lt _ hk).1 (by omega)
    · have r0 := HROW.out W4 HC.out.none
      go_simp
      refine hK.out _ _ trivial (fun _ => ?_)
      clear hK K r0
      refine wpAnyH_take (i := 7) (v := ?_) rfl (by kernel_rfl) (by kernel_rfl) (by kernel_rfl) (fun _ _ _ h => h) (Or.inl ⟨by rfl, ?yldq⟩) (by assumption) ?_
      case yldq => (intro w hSw; (try dsimp only at hSw); go_simp; try with_reducible rfl)
      try simp only [Act.put, List.setIfInBounds_toArray, List.set_cons_zero, List.set_cons_succ, List.getElem_toArray, List.getElem_cons_succ, List.getElem_cons_zero]
      refine wpAnyH_ready (rs := [1, 12]) (by kernel_rfl) (by simp) ?_
      refine AllReadyH.cons rfl (fun K hK => ?_) (AllReadyH.cons rfl (fun K hK => ?_) (AllReadyH.nil))
      · go_simp
        refine hK.out _ _ trivial (fun _ => ?_)
        clear hK K
        have hc5 := HC.out.thenAlloc (.cells #[] 60)
        have q1 := HK1.out.alloc (.cells #[] 60)
        have q3 := HK3.out.alloc (.cells #[] 60)
        have ho5 := own_baseG (own_lit0 W4 60 12) hz
        have hz5 : N3 ≤ (W4.alloc (.cells #[] 60)).heap.size := Nat.le_trans hz (Below.refl 0 W4 |>.alloc (Nat.zero_le _) _).size
        obtain ⟨b5, hb5⟩ : ∃ b, b = W4.heap.size := ⟨_, rfl⟩
        rw [← hb5] at ho5
        have hbn : N3 ≤ b5 := by rw [hb5]; exact hz
        obtain ⟨W5, hW5⟩ : ∃ W, W = W4.alloc (.cells #[] 60) := ⟨_, rfl⟩
        rw [← hW5] at hc5 q1 q3 ho5 hz5 ⊢
        try rw [← hb5]
        have HC5 := Lib.hid hc5; have HK15 := Lib.hid q1; have HK35 := Lib.hid q3; have HO5 := Lib.hid ho5
        clear hc5 q1 q3 ho5 hz hW5 hb5
        have hz := hz5
        clear hz5
        refine wpAnyH_ready (rs := [8, 12]) (by kernel_rfl) (by simp) ?_
        refine AllReadyH.cons rfl (fun K hK => ?_) (AllReadyH.cons rfl (fun K hK => ?_) (AllReadyH.nil))
        · rw [if_pos (by rfl)]
          refine wp_append_M _ _ rfl N3 _ 0 [] rfl HO5.out _ i (rowS pgC (S.L.take i)) rfl (HSA.out _ _ HC5.out.none) HLA.out (rowS_one pgC_one _) (by omega) hz ?_
          intro v6 w6 hown6 hgr6
          have hg6 := grown_chg (B := N3) hgr6 (fun k hk => by injection hk with hk; rw [← hk]; exact hbn)
          have hc6 := HC5.out.newerB hg6 n1
          have q1 := HK15.out.chg hg6 (fun h => absurd n2 (Nat.not_lt.2 h))
          have q3 := HK35.out.chg hg6 (fun h => absurd n3 (Nat.not_lt.2 h))
          have hz6 : N3 ≤ w6.heap.size := Nat.le_trans hz hg6.size
          rw [Nat.zero_add, List.nil_append] at hown6
          refine hK.out _ _ trivial (fun _ => ?_)
          have HC6 := Lib.hid hc6; have HK16 := Lib.hid q1; have HK36 := Lib.hid q3; have HO6 := Lib.hid hown6
          clear hK K hc6 q1 q3 hown6 hz hgr6 hg6
          have hz := hz6
          clear hz6
          refine wpAnyH_ready (rs := [12]) (by kernel_rfl) (by simp) ?_
          refine AllReadyH.cons rfl (fun K hK => ?_) (AllReadyH.nil)
          have r0 := HROW.out w6 HC6.out.none
          go_simp
          refine hK.out _ _ trivial (fun _ => ?_)
          clear hK K r0
          refine wpAnyH_take (i := 15) (v := ?_) rfl (by kernel_rfl) (by kernel_rfl) (by kernel_rfl) (fun _ _ _ h => h) (Or.inl ⟨by rfl, ?yldq⟩) (by assumption) ?_
          case yldq => (intro w hSw; (try dsimp only at hSw); go_simp; try with_reducible rfl)
          try simp only [Act.put, List.setIfInBounds_toArray, List.set_cons_zero, List.set_cons_succ, List.getElem_toArray, List.getElem_cons_succ, List.getElem_cons_zero]
          refine wpAnyH_ready (rs := [16]) (by kernel_rfl) (by simp) ?_
          refine AllReadyH.cons rfl (fun K hK => ?_) (AllReadyH.nil)
          rw [if_pos (by rfl)]
          refine wp_append_M _ _ rfl N3 v6 i (rowS pgC (S.L.take i)) rfl HO6.out _ (len - (i + 1)) (rowS pgC (S.L.drop (i + 1))) rfl (HSB.out _ _ HC6.out.none) HLB.out (rowS_one pgC_one _) (by omega) hz ?_
          intro v7 w7 hown7 hgr7
          have hg7 := grown_chg (B := N3) hgr7 (fun k hk => (HO6.out.lt k hk).1)
          have hc7 := HC6.out.newerB hg7 n1
          have q1 := HK16.out.chg hg7 (fun h => absurd n2 (Nat.not_lt.2 h))
          have q3 := HK36.out.chg hg7 (fun h => absurd n3 (Nat.not_lt.2 h))
          rw [HER.out, HLE2.out] at hown7
          refine hK.out _ _ trivial (fun _ => ?_)
          have HC7 := Lib.hid hc7; have HK17 := Lib.hid q1; have HK37 := Lib.hid q3; have HO7 := Lib.hid hown7
          clear hK K hc7 q1 q3 hown7 hgr7 hg7
          obtain ⟨A7, c7, hv7⟩ := own_sliceG HO7.out
          subst hv7
          refine wpAnyH_take (i := 17) (v := ?_) rfl (by kernel_rfl) (by kernel_rfl) (by kernel_rfl) (fun _ _ _ h => h) (Or.inl ⟨by rfl, ?yldq⟩) (by assumption) ?_
          case yldq => (intro w hSw; (try dsimp only at hSw); go_simp; try with_reducible rfl)
          try simp only [Act.put, List.setIfInBounds_toArray, List.set_cons_zero, List.set_cons_succ, List.getElem_toArray, List.getElem_cons_succ, List.getElem_cons_zero]
          refine wpAnyH_take (i := 18) (v := ?_) rfl (by kernel_rfl) (by kernel_rfl) (by kernel_rfl) (fun _ _ _ h => h) (Or.inl ⟨by rfl, ?yldq⟩) (by assumption) ?_
          case yldq => (intro w hSw; (try dsimp only at hSw); go_simp; try with_reducible rfl)
          try simp only [Act.put, List.setIfInBounds_toArray, List.set_cons_zero, List.set_cons_succ, List.getElem_toArray, List.getElem_cons_succ, List.getElem_cons_zero]
          have hrp7 := K0.out.chg HC7.out (fun h => h)
          have q0 : w7.cell? ⟨rp, 0, none⟩ = some _ := hrp7.cell 0
          have qf := hrp7.free 0
          have qlt := hrp7.lt
          have HRP7 := Lib.hid hrp7
          clear hrp7
          refine wpAnyH_ready (rs := [19]) (by kernel_rfl) (by simp) ?_
          refine AllReadyH.cons rfl (fun K hK => ?_) AllReadyH.nil
          go_simp
          refine hK.out _ _ trivial (fun _ => ?_)
          clear hK K q0 qf qlt
          refine wpAnyH_done (by kernel_rfl) ?_ _
          have hcs := Chg.setCell (F := fun k => k = rp) w7 ⟨rp, 0, none⟩ (.slice A7 (S.L.eraseIdx i).length c7) rfl
          have hr8 := HRP7.out.set 0 (.slice A7 (S.L.eraseIdx i).length c7)
          have hb1 := HK17.out.chg hcs (fun h => by have h : B1 = rp := h; have := G1.out; omega)
          have hb3 := HK37.out.chg hcs (fun h => by have h : B3 = rp := h; have := G3.out; omega)
          have hown8 := own_chgG HO7.out hcs (fun k hk e => absurd (HO7.out.lt k hk).1 (by have e : k = rp := e; omega))
          have hc8 := HC7.out.of_no.trans hcs
          obtain ⟨W8, hW8⟩ : ∃ W, W = w7.setCell ⟨rp, 0, none⟩ (.slice A7 (S.L.eraseIdx i).length c7) := ⟨_, rfl⟩
          rw [← hW8] at hcs hr8 hb1 hb3 hown8 hc8 ⊢
          have a0 := hb1.cell 0; have c0x := hb3.cell 0
          have a1 := hb1.cell 1; have c1x := hb3.cell 1
          have a2 := hb1.cell 2; have c2x := hb3.cell 2
          have a3 := hb1.cell 3; have c3x := hb3.cell 3
          have a4 := hb1.cell 4; have c4x := hb3.cell 4
          have a5 := hb1.cell 5; have c5x := hb3.cell 5
          have a6 := hb1.cell 6; have c6x := hb3.cell 6
          have a7 := hb1.cell 7; have c7x := hb3.cell 7
          have a8 := hb1.cell 8; have c8x := hb3.cell 8
          have a9 := hb1.cell 9; have c9x := hb3.cell 9
          have fz : ∀ o, W8.frozen? ⟨B1, o, none⟩ = false := fun o => hb1.free o
          have alt := hb1.lt
          have clt := hb3.lt
          have HR8 := Lib.hid hr8; have HB1 := Lib.hid hb1; have HOW8 := Lib.hid hown8; have HC8 := Lib.hid hc8
          clear hcs hr8 hb1 hb3 hown8 hc8 hW8
          go_wp2
          clear fz alt clt a0 c0x a1 c1x a2 c2x a3 c3x a4 c4x a5 c5x a6 c6x a7 c7x a8 c8x a9 c9x
          have hb1 := HB1.out
          obtain ⟨W9, hW9⟩ : ∃ W, W = ((((((((((W8.setCell ⟨B1, 0, none⟩ (.bool v)).setCell ⟨B1, 1, none⟩ (.bool r)).setCell ⟨B1, 2, none⟩ (.bool x1)).setCell ⟨B1, 3, none⟩ (.bool x)).setCell ⟨B1, 4, none⟩ (.bool u)).setCell ⟨B1, 5, none⟩ (.bool g)).setCell ⟨B1, 6, none⟩ (.bool a)).setCell ⟨B1, 7, none⟩ (.bool d)).setCell ⟨B1, 8, none⟩ (.int .i64 rsw)).setCell ⟨B1, 9, none⟩ (.int .u64 (ppn : Int))) := ⟨_, rfl⟩
          rw [← hW9]
          have b9 : Blk W9 B1 [.bool v, .bool r, .bool x1, .bool x, .bool u, .bool g, .bool a, .bool d, .int .i64 rsw, .int .u64 (ppn : Int)] 39 := hW9 ▸ ((((((((((hb1.set 0 (.bool v)).set 1 (.bool r)).set 2 (.bool x1)).set 3 (.bool x)).set 4 (.bool u)).set 5 (.bool g)).set 6 (.bool a)).set 7 (.bool d)).set 8 (.int .i64 rsw)).set 9 (.int .u64 (ppn : Int)))
          have c9 : Chg (fun k => k = B1) W8 W9 := by
            rw [hW9]
            iterate 10 refine Chg.setc ?_ _ _ (.inl rfl)
            exact Chg.refl _ _
          clear hW9 hb1
          have r0 : W9.cell? ⟨B1, 0, none⟩ = some _ := b9.cell 0
          have r1 : W9.cell? ⟨B1, 1, none⟩ = some _ := b9.cell 1
          have r2 : W9.cell? ⟨B1, 2, none⟩ = some _ := b9.cell 2
          have r3 : W9.cell? ⟨B1, 3, none⟩ = some _ := b9.cell 3
          have r4 : W9.cell? ⟨B1, 4, none⟩ = some _ := b9.cell 4
          have r5 : W9.cell? ⟨B1, 5, none⟩ = some _ := b9.cell 5
          have r6 : W9.cell? ⟨B1, 6, none⟩ = some _ := b9.cell 6
          have r7 : W9.cell? ⟨B1, 7, none⟩ = some _ := b9.cell 7
          have r8 : W9.cell? ⟨B1, 8, none⟩ = some _ := b9.cell 8
          have r9 : W9.cell? ⟨B1, 9, none⟩ = some _ := b9.cell 9
          have HC9 := Lib.hid c9
          clear b9 c9
          refine bodyPost_ret (v := .tuple #[.agg #[.bool v, .bool r, .bool x1, .bool x, .bool u, .bool g, .bool a, .bool d, .int .i64 rsw, .int .u64 (ppn : Int)], .int .i64 0]) (by simp [results, Try.results19, go_sem, r0, r1, r2, r3, r4, r5, r6, r7, r8, r9]) rfl ?_
          clear r0 r1 r2 r3 r4 r5 r6 r7 r8 r9
          rw [HRR.out]
          have hBrp : ∀ k, k = B1 → k < w.heap.size → False := fun k h1 h2 => by have := G1.out; omega
          have hcE : Chg (fun k => k = rp) w W9 := ⟨HC9.out.os.trans HC8.out.os, HC9.out.tape.trans HC8.out.tape, HC9.out.output.trans HC8.out.output, Nat.le_trans HC8.out.size HC9.out.size, fun k hk hne => (HC9.out.block k (Nat.lt_of_lt_of_le hk HC8.out.size) (fun h => hBrp k h hk)).trans (HC8.out.block k hk hne)⟩
          refine ⟨rfl, (.slice A7 (S.L.eraseIdx i).length c7), ⟨HR8.out.chg HC9.out (fun h => hBrp _ h hlt0), own_chgG (own_baseG HOW8.out (Nat.zero_le _)) HC9.out (fun k hk h => absurd (HOW8.out.lt k hk).1 (by have h : k = B1 := h; omega)), own_chgG HR.out.ownT hcE (fun k hk e => HR.out.neT (e ▸ hk)), ?_, HR.out.neT⟩, fun k hk => .inr (Nat.le_trans n1 (HOW8.out.lt k hk).1), hcE⟩
          intro hk
          exact absurd (HOW8.out.lt _ hk).1 (by omega)
        · have r0 := HROW.out W5 HC5.out.none
          go_simp
          refine hK.out _ _ trivial (fun _ => ?_)
          clear hK K r0
          refine wpAnyH_take (i := 15) (v := ?_) rfl (by kernel_rfl) (by kernel_rfl) (by kernel_rfl) (fun _ _ _ h => h) (Or.inl ⟨by rfl, ?yldq⟩) (by assumption) ?_
          case yldq => (intro w hSw; (try dsimp only at hSw); go_simp; try with_reducible rfl)
          try simp only [Act.put, List.setIfInBounds_toArray, List.set_cons_zero, List.set_cons_succ, List.getElem_toArray, List.getElem_cons_succ, List.getElem_cons_zero]
          refine wpAnyH_ready (rs := [8]) (by kernel_rfl) (by simp) ?_
          refine AllReadyH.cons rfl (fun K hK => ?_) (AllReadyH.nil)
          rw [if_pos (by rfl)]
          refine wp_append_M _ _ rfl N3 _ 0 [] rfl HO5.out _ i (rowS pgC (S.L.take i)) rfl (HSA.out _ _ HC5.out.none) HLA.out (rowS_one pgC_one _) (by omega) hz ?_
          intro v6 w6 hown6 hgr6
          have hg6 := grown_chg (B := N3) hgr6 (fun k hk => by injection hk with hk; rw [← hk]; exact hbn)
          have hc6 := HC5.out.newerB hg6 n1
          have q1 := HK15.out.chg hg6 (fun h => absurd n2 (Nat.not_lt.2 h))
          have q3 := HK35.out.chg hg6 (fun h => absurd n3 (Nat.not_lt.2 h))
          have hz6 : N3 ≤ w6.heap.size := Nat.le_trans hz hg6.size
          rw [Nat.zero_add, List.nil_append] at hown6
          refine hK.out _ _ trivial (fun _ => ?_)
          have HC6 := Lib.hid hc6; have HK16 := Lib.hid q1; have HK36 := Lib.hid q3; have HO6 := Lib.hid hown6
          clear hK K hc6 q1 q3 hown6 hz hgr6 hg6
          have hz := hz6
          clear hz6
          refine wpAnyH_ready (rs := [16]) (by kernel_rfl) (by simp) ?_
          refine AllReadyH.cons rfl (fun K hK => ?_) (AllReadyH.nil)
          rw [if_pos (by rfl)]
          refine wp_append_M _ _ rfl N3 v6 i (rowS pgC (S.L.take i)) rfl HO6.out _ (len - (i + 1)) (rowS pgC (S.L.drop (i + 1))) rfl (HSB.out _ _ HC6.out.none) HLB.out (rowS_one pgC_one _) (by omega) hz ?_
          intro v7 w7 hown7 hgr7
          have hg7 := grown_chg (B := N3) hgr7 (fun k hk => (HO6.out.lt k hk).1)
          have hc7 := HC6.out.newerB hg7 n1
          have q1 := HK16.out.chg hg7 (fun h => absurd n2 (Nat.not_lt.2 h))
          have q3 := HK36.out.chg hg7 (fun h => absurd n3 (Nat.not_lt.2 h))
          rw [HER.out, HLE2.out] at hown7
          refine hK.out _ _ trivial (fun _ => ?_)
          have HC7 := Lib.hid hc7; have HK17 := Lib.hid q1; have HK37 := Lib.hid q3; have HO7 := Lib.hid hown7
          clear hK K hc7 q1 q3 hown7 hgr7 hg7
          obtain ⟨A7, c7, hv7⟩ := own_sliceG HO7.out
          subst hv7
          refine wpAnyH_take (i := 17) (v := ?_) rfl (by kernel_rfl) (by kernel_rfl) (by kernel_rfl) (fun _ _ _ h => h) (Or.inl ⟨by rfl, ?yldq⟩) (by assumption) ?_
          case yldq => (intro w hSw; (try dsimp only at hSw); go_simp; try with_reducible rfl)
          try simp only [Act.put, List.setIfInBounds_toArray, List.set_cons_zero, List.set_cons_succ, List.getElem_toArray, List.getElem_cons_succ, List.getElem_cons_zero]
          refine wpAnyH_take (i := 18) (v := ?_) rfl (by kernel_rfl) (by kernel_rfl) (by kernel_rfl) (fun _ _ _ h => h) (Or.inl ⟨by rfl, ?yldq⟩) (by assumption) ?_
          case yldq => (intro w hSw; (try dsimp only at hSw); go_simp; try with_reducible rfl)
          try simp only [Act.put, List.setIfInBounds_toArray, List.set_cons_zero, List.set_cons_succ, List.getElem_toArray, List.getElem_cons_succ, List.getElem_cons_zero]
          have hrp7 := K0.out.chg HC7.out (fun h => h)
          have q0 : w7.cell? ⟨rp, 0, none⟩ = some _ := hrp7.cell 0
          have qf := hrp7.free 0
          have qlt := hrp7.lt
          have HRP7 := Lib.hid hrp7
          clear hrp7
          refine wpAnyH_ready (rs := [19]) (by kernel_rfl) (by simp) ?_
          refine AllReadyH.cons rfl (fun K hK => ?_) AllReadyH.nil
          go_simp
          refine hK.out _ _ trivial (fun _ => ?_)
          clear hK K q0 qf qlt
          refine wpAnyH_done (by kernel_rfl) ?_ _
          have hcs := Chg.setCell (F := fun k => k = rp) w7 ⟨rp, 0, none⟩ (.slice A7 (S.L.eraseIdx i).length c7) rfl
          have hr8 := HRP7.out.set 0 (.slice A7 (S.L.eraseIdx i).length c7)
          have hb1 := HK17.out.chg hcs (fun h => by have h : B1 = rp := h; have := G1.out; omega)
          have hb3 := HK37.out.chg hcs (fun h => by have h : B3 = rp := h; have := G3.out; omega)
          have hown8 := own_chgG HO7.out hcs (fun k hk e => absurd (HO7.out.lt k hk).1 (by have e : k = rp := e; omega))
          have hc8 := HC7.out.of_no.trans hcs
          obtain ⟨W8, hW8⟩ : ∃ W, W = w7.setCell ⟨rp, 0, none⟩ (.slice A7 (S.L.eraseIdx i).length c7) := ⟨_, rfl⟩
          rw [← hW8] at hcs hr8 hb1 hb3 hown8 hc8 ⊢
          have a0 := hb1.cell 0; have c0x := hb3.cell 0
          have a1 := hb1.cell 1; have c1x := hb3.cell 1
          have a2 := hb1.cell 2; have c2x := hb3.cell 2
          have a3 := hb1.cell 3; have c3x := hb3.cell 3
          have a4 := hb1.cell 4; have c4x := hb3.cell 4
          have a5 := hb1.cell 5; have c5x := hb3.cell 5
          have a6 := hb1.cell 6; have c6x := hb3.cell 6
          have a7 := hb1.cell 7; have c7x := hb3.cell 7
          have a8 := hb1.cell 8; have c8x := hb3.cell 8
          have a9 := hb1.cell 9; have c9x := hb3.cell 9
          have fz : ∀ o, W8.frozen? ⟨B1, o, none⟩ = false := fun o => hb1.free o
          have alt := hb1.lt
          have clt := hb3.lt
          have HR8 := Lib.hid hr8; have HB1 := Lib.hid hb1; have HOW8 := Lib.hid hown8; have HC8 := Lib.hid hc8
          clear hcs hr8 hb1 hb3 hown8 hc8 hW8
          go_wp2
          clear fz alt clt a0 c0x a1 c1x a2 c2x a3 c3x a4 c4x a5 c5x a6 c6x a7 c7x a8 c8x a9 c9x
          have hb1 := HB1.out
          obtain ⟨W9, hW9⟩ : ∃ W, W = ((((((((((W8.setCell ⟨B1, 0, none⟩ (.bool v)).setCell ⟨B1, 1, none⟩ (.bool r)).setCell ⟨B1, 2, none⟩ (.bool x1)).setCell ⟨B1, 3, none⟩ (.bool x)).setCell ⟨B1, 4, none⟩ (.bool u)).setCell ⟨B1, 5, none⟩ (.bool g)).setCell ⟨B1, 6, none⟩ (.bool a)).setCell ⟨B1, 7, none⟩ (.bool d)).setCell ⟨B1, 8, none⟩ (.int .i64 rsw)).setCell ⟨B1, 9, none⟩ (.int .u64 (ppn : Int))) := ⟨_, rfl⟩
          rw [← hW9]
          have b9 : Blk W9 B1 [.bool v, .bool r, .bool x1, .bool x, .bool u, .bool g, .bool a, .bool d, .int .i64 rsw, .int .u64 (ppn : Int)] 39 := hW9 ▸ ((((((((((hb1.set 0 (.bool v)).set 1 (.bool r)).set 2 (.bool x1)).set 3 (.bool x)).set 4 (.bool u)).set 5 (.bool g)).set 6 (.bool a)).set 7 (.bool d)).set 8 (.int .i64 rsw)).set 9 (.int .u64 (ppn : Int)))
          have c9 : Chg (fun k => k = B1) W8 W9 := by
            rw [hW9]
            iterate 10 refine Chg.setc ?_ _ _ (.inl rfl)
            exact Chg.refl _ _
          clear hW9 hb1
          have r0 : W9.cell? ⟨B1, 0, none⟩ = some _ := b9.cell 0
          have r1 : W9.cell? ⟨B1, 1, none⟩ = some _ := b9.cell 1
          have r2 : W9.cell? ⟨B1, 2, none⟩ = some _ := b9.cell 2
          have r3 : W9.cell? ⟨B1, 3, none⟩ = some _ := b9.cell 3
          have r4 : W9.cell? ⟨B1, 4, none⟩ = some _ := b9.cell 4
          have r5 : W9.cell? ⟨B1, 5, none⟩ = some _ := b9.cell 5
          have r6 : W9.cell? ⟨B1, 6, none⟩ = some _ := b9.cell 6
          have r7 : W9.cell? ⟨B1, 7, none⟩ = some _ := b9.cell 7
          have r8 : W9.cell? ⟨B1, 8, none⟩ = some _ := b9.cell 8
          have r9 : W9.cell? ⟨B1, 9, none⟩ = some _ := b9.cell 9
          have HC9 := Lib.hid c9
          clear b9 c9
          refine bodyPost_ret (v := .tuple #[.agg #[.bool v, .bool r, .bool x1, .bool x, .bool u, .bool g, .bool a, .bool d, .int .i64 rsw, .int .u64 (ppn : Int)], .int .i64 0]) (by simp [results, Try.results19, go_sem, r0, r1, r2, r3, r4, r5, r6, r7, r8, r9]) rfl ?_
          clear r0 r1 r2 r3 r4 r5 r6 r7 r8 r9
          rw [HRR.out]
          have hBrp : ∀ k, k = B1 → k < w.heap.size → False := fun k h1 h2 => by have := G1.out; omega
          have hcE : Chg (fun k => k = rp) w W9 := ⟨HC9.out.os.trans HC8.out.os, HC9.out.tape.trans HC8.out.tape, HC9.out.output.trans HC8.out.output, Nat.le_trans HC8.out.size HC9.out.size, fun k hk hne => (HC9.out.block k (Nat.lt_of_lt_of_le hk HC8.out.size) (fun h => hBrp k h hk)).trans (HC8.out.block k hk hne)⟩
          refine ⟨rfl, (.slice A7 (S.L.eraseIdx i).length c7), ⟨HR8.out.chg HC9.out (fun h => hBrp _ h hlt0), own_chgG (own_baseG HOW8.out (Nat.zero_le _)) HC9.out (fun k hk h => absurd (HOW8.out.lt k hk).1 (by have h : k = B1 := h; omega)), own_chgG HR.out.ownT hcE (fun k hk e => HR.out.neT (e ▸ hk)), ?_, HR.out.neT⟩, fun k hk => .inr (Nat.le_trans n1 (HOW8.out.lt k hk).1), hcE⟩
          intro hk
          exact absurd (HOW8.out.lt _ hk).1 (by omega)
      · have r0 := HROW.out W4 HC.out.none
        go_simp
        refine hK.out _ _ trivial (fun _ => ?_)
        clear hK K r0
        refine wpAnyH_take (i := 15) (v := ?_) rfl (by kernel_rfl) (by kernel_rfl) (by kernel_rfl) (fun _ _ _ h => h) (Or.inl ⟨by rfl, ?yldq⟩) (by assumption) ?_
        case yldq => (intro w hSw; (try dsimp only at hSw); go_simp; try with_reducible rfl)
        try simp only [Act.put, List.setIfInBounds_toArray, List.set_cons_zero, List.set_cons_succ, List.getElem_toArray, List.getElem_cons_succ, List.getElem_cons_zero]
        refine wpAnyH_ready (rs := [1]) (by kernel_rfl) (by simp) ?_
        refine AllReadyH.cons rfl (fun K hK => ?_) (AllReadyH.nil)
        go_simp
        refine hK.out _ _ trivial (fun _ => ?_)
        clear hK K
        have hc5 := HC.out.thenAlloc (.cells #[] 60)
        have q1 := HK1.out.alloc (.cells #[] 60)
        have q3 := HK3.out.alloc (.cells #[] 60)
        have ho5 := own_baseG (own_lit0 W4 60 12) hz
        have hz5 : N3 ≤ (W4.alloc (.cells #[] 60)).heap.size := Nat.le_trans hz (Below.refl 0 W4 |>.alloc (Nat.zero_le _) _).size
        obtain ⟨b5, hb5⟩ : ∃ b, b = W4.heap.size := ⟨_, rfl⟩
        rw [← hb5] at ho5
        have hbn : N3 ≤ b5 := by rw [hb5]; exact hz
        obtain ⟨W5, hW5⟩ : ∃ W, W = W4.alloc (.cells #[] 60) := ⟨_, rfl⟩
        rw [← hW5] at hc5 q1 q3 ho5 hz5 ⊢
        try rw [← hb5]
        have HC5 := Lib.hid hc5; have HK15 := Lib.hid q1; have HK35 := Lib.hid q3; have HO5 := Lib.hid ho5
        clear hc5 q1 q3 ho5 hz hW5 hb5
        have hz := hz5
        clear hz5
        refine wpAnyH_ready (rs := [8]) (by kernel_rfl) (by simp) ?_
        refine AllReadyH.cons rfl (fun K hK => ?_) (AllReadyH.nil)
        rw [if_pos (by rfl)]
        refine wp_append_M _ _ rfl N3 _ 0 [] rfl HO5.out _ i (rowS pgC (S.L.take i)) rfl (HSA.out _ _ HC5.out.none) HLA.out (rowS_one pgC_one _) (by omega) hz ?_
        intro v6 w6 hown6 hgr6
        have hg6 := grown_chg (B := N3) hgr6 (fun k hk => by injection hk with hk; rw [← hk]; exact hbn)
        have hc6 := HC5.out.newerB hg6 n1
        have q1 := HK15.out.chg hg6 (fun h => absurd n2 (Nat.not_lt.2 h))
        have q3 := HK35.out.chg hg6 (fun h => absurd n3 (Nat.not_lt.2 h))
        have hz6 : N3 ≤ w6.heap.size := Nat.le_trans hz hg6.size
        rw [Nat.zero_add, List.nil_append] at hown6
        refine hK.out _ _ trivial (fun _ => ?_)
        have HC6 := Lib.hid hc6; have HK16 := Lib.hid q1; have HK36 := Lib.hid q3; have HO6 := Lib.hid hown6
        clear hK K hc6 q1 q3 hown6 hz hgr6 hg6
        have hz := hz6
        clear hz6
        refine wpAnyH_ready (rs := [16]) (by kernel_rfl) (by simp) ?_
        refine AllReadyH.cons rfl (fun K hK => ?_) (AllReadyH.nil)
        rw [if_pos (by rfl)]
        refine wp_append_M _ _ rfl N3 v6 i (rowS pgC (S.L.take i)) rfl HO6.out _ (len - (i + 1)) (rowS pgC (S.L.drop (i + 1))) rfl (HSB.out _ _ HC6.out.none) HLB.out (rowS_one pgC_one _) (by omega) hz ?_
        intro v7 w7 hown7 hgr7
        have hg7 := grown_chg (B := N3) hgr7 (fun k hk => (HO6.out.lt k hk).1)
        have hc7 := HC6.out.newerB hg7 n1
        have q1 := HK16.out.chg hg7 (fun h => absurd n2 (Nat.not_lt.2 h))
        have q3 := HK36.out.chg hg7 (fun h => absurd n3 (Nat.not_lt.2 h))
        rw [HER.out, HLE2.out] at hown7
        refine hK.out _ _ trivial (fun _ => ?_)
        have HC7 := Lib.hid hc7; have HK17 := Lib.hid q1; have HK37 := Lib.hid q3; have HO7 := Lib.hid hown7
        clear hK K hc7 q1 q3 hown7 hgr7 hg7
        obtain ⟨A7, c7, hv7⟩ := own_sliceG HO7.out
        subst hv7
        refine wpAnyH_take (i := 17) (v := ?_) rfl (by kernel_rfl) (by kernel_rfl) (by kernel_rfl) (fun _ _ _ h => h) (Or.inl ⟨by rfl, ?yldq⟩) (by assumption) ?_
        case yldq => (intro w hSw; (try dsimp only at hSw); go_simp; try with_reducible rfl)
        try simp only [Act.put, List.setIfInBounds_toArray, List.set_cons_zero, List.set_cons_succ, List.getElem_toArray, List.getElem_cons_succ, List.getElem_cons_zero]
        refine wpAnyH_take (i := 18) (v := ?_) rfl (by kernel_rfl) (by kernel_rfl) (by kernel_rfl) (fun _ _ _ h => h) (Or.inl ⟨by rfl, ?yldq⟩) (by assumption) ?_
        case yldq => (intro w hSw; (try dsimp only at hSw); go_simp; try with_reducible rfl)
        try simp only [Act.put, List.setIfInBounds_toArray, List.set_cons_zero, List.set_cons_succ, List.getElem_toArray, List.getElem_cons_succ, List.getElem_cons_zero]
        have hrp7 := K0.out.chg HC7.out (fun h => h)
        have q0 : w7.cell? ⟨rp, 0, none⟩ = some _ := hrp7.cell 0
        have qf := hrp7.free 0
        have qlt := hrp7.lt
        have HRP7 := Lib.hid hrp7
        clear hrp7
        refine wpAnyH_ready (rs := [19]) (by kernel_rfl) (by simp) ?_
        refine AllReadyH.cons rfl (fun K hK => ?_) AllReadyH.nil
        go_simp
        refine hK.out _ _ trivial (fun _ => ?_)
        clear hK K q0 qf qlt
        refine wpAnyH_done (by kernel_rfl) ?_ _
        have hcs := Chg.setCell (F := fun k => k = rp) w7 ⟨rp, 0, none⟩ (.slice A7 (S.L.eraseIdx i).length c7) rfl
        have hr8 := HRP7.out.set 0 (.slice A7 (S.L.eraseIdx i).length c7)
        have hb1 := HK17.out.chg hcs (fun h => by have h : B1 = rp := h; have := G1.out; omega)
        have hb3 := HK37.out.chg hcs (fun h => by have h : B3 = rp := h; have := G3.out; omega)
        have hown8 := own_chgG HO7.out hcs (fun k hk e => absurd (HO7.out.lt k hk).1 (by have e : k = rp := e; omega))
        have hc8 := HC7.out.of_no.trans hcs
        obtain ⟨W8, hW8⟩ : ∃ W, W = w7.setCell ⟨rp, 0, none⟩ (.slice A7 (S.L.eraseIdx i).length c7) := ⟨_, rfl⟩
        rw [← hW8] at hcs hr8 hb1 hb3 hown8 hc8 ⊢
        have a0 := hb1.cell 0; have c0x := hb3.cell 0
        have a1 := hb1.cell 1; have c1x := hb3.cell 1
        have a2 := hb1.cell 2; have c2x := hb3.cell 2
        have a3 := hb1.cell 3; have c3x := hb3.cell 3
        have a4 := hb1.cell 4; have c4x := hb3.cell 4
        have a5 := hb1.cell 5; have c5x := hb3.cell 5
        have a6 := hb1.cell 6; have c6x := hb3.cell 6
        have a7 := hb1.cell 7; have c7x := hb3.cell 7
        have a8 := hb1.cell 8; have c8x := hb3.cell 8
        have a9 := hb1.cell 9; have c9x := hb3.cell 9
        have fz : ∀ o, W8.frozen? ⟨B1, o, none⟩ = false := fun o => hb1.free o
        have alt := hb1.lt
        have clt := hb3.lt
        have HR8 := Lib.hid hr8; have HB1 := Lib.hid hb1; have HOW8 := Lib.hid hown8; have HC8 := Lib.hid hc8
        clear hcs hr8 hb1 hb3 hown8 hc8 hW8
        go_wp2
        clear fz alt clt a0 c0x a1 c1x a2 c2x a3 c3x a4 c4x a5 c5x a6 c6x a7 c7x a8 c8x a9 c9x
        have hb1 := HB1.out
        obtain ⟨W9, hW9⟩ : ∃ W, W = ((((((((((W8.setCell ⟨B1, 0, none⟩ (.bool v)).setCell ⟨B1, 1, none⟩ (.bool r)).setCell ⟨B1, 2, none⟩ (.bool x1)).setCell ⟨B1, 3, none⟩ (.bool x)).setCell ⟨B1, 4, none⟩ (.bool u)).setCell ⟨B1, 5, none⟩ (.bool g)).setCell ⟨B1, 6, none⟩ (.bool a)).setCell ⟨B1, 7, none⟩ (.bool d)).setCell ⟨B1, 8, none⟩ (.int .i64 rsw)).setCell ⟨B1, 9, none⟩ (.int .u64 (ppn : Int))) := ⟨_, rfl⟩
        rw [← hW9]
        have b9 : Blk W9 B1 [.bool v, .bool r, .bool x1, .bool x, .bool u, .bool g, .bool a, .bool d, .int .i64 rsw, .int .u64 (ppn : Int)] 39 := hW9 ▸ ((((((((((hb1.set 0 (.bool v)).set 1 (.bool r)).set 2 (.bool x1)).set 3 (.bool x)).set 4 (.bool u)).set 5 (.bool g)).set 6 (.bool a)).set 7 (.bool d)).set 8 (.int .i64 rsw)).set 9 (.int .u64 (ppn : Int)))
        have c9 : Chg (fun k => k = B1) W8 W9 := by
          rw [hW9]
          iterate 10 refine Chg.setc ?_ _ _ (.inl rfl)
          exact Chg.refl _ _
        clear hW9 hb1
        have r0 : W9.cell? ⟨B1, 0, none⟩ = some _ := b9.cell 0
        have r1 : W9.cell? ⟨B1, 1, none⟩ = some _ := b9.cell 1
        have r2 : W9.cell? ⟨B1, 2, none⟩ = some _ := b9.cell 2
        have r3 : W9.cell? ⟨B1, 3, none⟩ = some _ := b9.cell 3
        have r4 : W9.cell? ⟨B1, 4, none⟩ = some _ := b9.cell 4
        have r5 : W9.cell? ⟨B1, 5, none⟩ = some _ := b9.cell 5
        have r6 : W9.cell? ⟨B1, 6, none⟩ = some _ := b9.cell 6
        have r7 : W9.cell? ⟨B1, 7, none⟩ = some _ := b9.cell 7
        have r8 : W9.cell? ⟨B1, 8, none⟩ = some _ := b9.cell 8
        have r9 : W9.cell? ⟨B1, 9, none⟩ = some _ := b9.cell 9
        have HC9 := Lib.hid c9
        clear b9 c9
        refine bodyPost_ret (v := .tuple #[.agg #[.bool v, .bool r, .bool x1, .bool x, .bool u, .bool g, .bool a, .bool d, .int .i64 rsw, .int .u64 (ppn : Int)], .int .i64 0]) (by simp [results, Try.results19, go_sem, r0, r1, r2, r3, r4, r5, r6, r7, r8, r9]) rfl ?_
        clear r0 r1 r2 r3 r4 r5 r6 r7 r8 r9
        rw [HRR.out]
        have hBrp : ∀ k, k = B1 → k < w.heap.size → False := fun k h1 h2 => by have := G1.out; omega
        have hcE : Chg (fun k => k = rp) w W9 := ⟨HC9.out.os.trans HC8.out.os, HC9.out.tape.trans HC8.out.tape, HC9.out.output.trans HC8.out.output, Nat.le_trans HC8.out.size HC9.out.size, fun k hk hne => (HC9.out.block k (Nat.lt_of_lt_of_le hk HC8.out.size) (fun h => hBrp k h hk)).trans (HC8.out.block k hk hne)⟩
        refine ⟨rfl, (.slice A7 (S.L.eraseIdx i).length c7), ⟨HR8.out.chg HC9.out (fun h => hBrp _ h hlt0), own_chgG (own_baseG HOW8.out (Nat.zero_le _)) HC9.out (fun k hk h => absurd (HOW8.out.lt k hk).1 (by have h : k = B1 := h; omega)), own_chgG HR.out.ownT hcE (fun k hk e => HR.out.neT (e ▸ hk)), ?_, HR.out.neT⟩, fun k hk => .inr (Nat.le_trans n1 (HOW8.out.lt k hk).1), hcE⟩
        intro hk
        exact absurd (HOW8.out.lt _ hk).1 (by omega)
    · have r0 := HROW.out W4 HC.out.none
      go_simp
      refine hK.out _ _ trivial (fun _ => ?_)
      clear hK K r0
      refine wpAnyH_take (i := 15) (v := ?_) rfl (by kernel_rfl) (by kernel_rfl) (by kernel_rfl) (fun _ _ _ h => h) (Or.inl ⟨by rfl, ?yldq⟩) (by assumption) ?_
      case yldq => (intro w hSw; (try dsimp only at hSw); go_simp; try with_reducible rfl)
      try simp only [Act.put, List.setIfInBounds_toArray, List.set_cons_zero, List.set_cons_succ, List.getElem_toArray, List.getElem_cons_succ, List.getElem_cons_zero]
      refine wpAnyH_ready (rs := [1, 5]) (by kernel_rfl) (by simp) ?_
      refine AllReadyH.cons rfl (fun K hK => ?_) (AllReadyH.cons rfl (fun K hK => ?_) (AllReadyH.nil))
      · go_simp
        refine hK.out _ _ trivial (fun _ => ?_)
        clear hK K
        have hc5 := HC.out.thenAlloc (.cells #[] 60)
        have q1 := HK1.out.alloc (.cells #[] 60)
        have q3 := HK3.out.alloc (.cells #[] 60)
        have ho5 := own_baseG (own_lit0 W4 60 12) hz
        have hz5 : N3 ≤ (W4.alloc (.cells #[] 60)).heap.size := Nat.le_trans hz (Below.refl 0 W4 |>.alloc (Nat.zero_le _) _).size
        obtain ⟨b5, hb5⟩ : ∃ b, b = W4.heap.size := ⟨_, rfl⟩
        rw [← hb5] at ho5
        have hbn : N3 ≤ b5 := by rw [hb5]; exact hz
        obtain ⟨W5, hW5⟩ : ∃ W, W = W4.alloc (.cells #[] 60) := ⟨_, rfl⟩
        rw [← hW5] at hc5 q1 q3 ho5 hz5 ⊢
        try rw [← hb5]
        have HC5 := Lib.hid hc5; have HK15 := Lib.hid q1; have HK35 := Lib.hid q3; have HO5 := Lib.hid ho5
        clear hc5 q1 q3 ho5 hz hW5 hb5
        have hz := hz5
        clear hz5
        refine wpAnyH_ready (rs := [5]) (by kernel_rfl) (by simp) ?_
        refine AllReadyH.cons rfl (fun K hK => ?_) (AllReadyH.nil)
        have r0 := HROW.out W5 HC5.out.none
        go_simp
        refine hK.out _ _ trivial (fun _ => ?_)
        clear hK K r0
        refine wpAnyH_take (i := 7) (v := ?_) rfl (by kernel_rfl) (by kernel_rfl) (by kernel_rfl) (fun _ _ _ h => h) (Or.inl ⟨by rfl, ?yldq⟩) (by assumption) ?_
        case yldq => (intro w hSw; (try dsimp only at hSw); go_simp; try with_reducible rfl)
        try simp only [Act.put, List.setIfInBounds_toArray, List.set_cons_zero, List.set_cons_succ, List.getElem_toArray, List.getElem_cons_succ, List.getElem_cons_zero]
        refine wpAnyH_ready (rs := [8]) (by kernel_rfl) (by simp) ?_
        refine AllReadyH.cons rfl (fun K hK => ?_) (AllReadyH.nil)
        rw [if_pos (by rfl)]
        refine wp_append_M _ _ rfl N3 _ 0 [] rfl HO5.out _ i (rowS pgC (S.L.take i)) rfl (HSA.out _ _ HC5.out.none) HLA.out (rowS_one pgC_one _) (by omega) hz ?_
        intro v6 w6 hown6 hgr6
        have hg6 := grown_chg (B := N3) hgr6 (fun k hk => by injection hk with hk; rw [← hk]; exact hbn)
        have hc6 := HC5.out.newerB hg6 n1
        have q1 := HK15.out.chg hg6 (fun h => absurd n2 (Nat.not_lt.2 h))
        have q3 := HK35.out.chg hg6 (fun h => absurd n3 (Nat.not_lt.2 h))
        have hz6 : N3 ≤ w6.heap.size := Nat.le_trans hz hg6.size
        rw [Nat.zero_add, List.nil_append] at hown6
        refine hK.out _ _ trivial (fun _ => ?_)
        have HC6 := Lib.hid hc6; have HK16 := Lib.hid q1; have HK36 := Lib.hid q3; have HO6 := Lib.hid hown6
        clear hK K hc6 q1 q3 hown6 hz hgr6 hg6
        have hz := hz6
        clear hz6
        refine wpAnyH_ready (rs := [16]) (by kernel_rfl) (by simp) ?_
        refine AllReadyH.cons rfl (fun K hK => ?_) (AllReadyH.nil)
        rw [if_pos (by rfl)]
        refine wp_append_M _ _ rfl N3 v6 i (rowS pgC (S.L.take i)) rfl HO6.out _ (len - (i + 1)) (rowS pgC (S.L.drop (i + 1))) rfl (HSB.out _ _ HC6.out.none) HLB.out (rowS_one pgC_one _) (by omega) hz ?_
        intro v7 w7 hown7 hgr7
        have hg7 := grown_chg (B := N3) hgr7 (fun k hk => (HO6.out.lt k hk).1)
        have hc7 := HC6.out.newerB hg7 n1
        have q1 := HK16.out.chg hg7 (fun h => absurd n2 (Nat.not_lt.2 h))
        have q3 := HK36.out.chg hg7 (fun h => absurd n3 (Nat.not_lt.2 h))
        rw [HER.out, HLE2.out] at hown7
        refine hK.out _ _ trivial (fun _ => ?_)
        have HC7 := Lib.hid hc7; have HK17 := Lib.hid q1; have HK37 := Lib.hid q3; have HO7 := Lib.hid hown7
        clear hK K hc7 q1 q3 hown7 hgr7 hg7
        obtain ⟨A7, c7, hv7⟩ := own_sliceG HO7.out
        subst hv7
        refine wpAnyH_take (i := 17) (v := ?_) rfl (by kernel_rfl) (by kernel_rfl) (by kernel_rfl) (fun _ _ _ h => h) (Or.inl ⟨by rfl, ?yldq⟩) (by assumption) ?_
        case yldq => (intro w hSw; (try dsimp only at hSw); go_simp; try with_reducible rfl)
        try simp only [Act.put, List.setIfInBounds_toArray, List.set_cons_zero, List.set_cons_succ, List.getElem_toArray, List.getElem_cons_succ, List.getElem_cons_zero]
        refine wpAnyH_take (i := 18) (v := ?_) rfl (by kernel_rfl) (by kernel_rfl) (by kernel_rfl) (fun _ _ _ h => h) (Or.inl ⟨by rfl, ?yldq⟩) (by assumption) ?_
        case yldq => (intro w hSw; (try dsimp only at hSw); go_simp; try with_reducible rfl)
        try simp only [Act.put, List.setIfInBounds_toArray, List.set_cons_zero, List.set_cons_succ, List.getElem_toArray, List.getElem_cons_succ, List.getElem_cons_zero]
        have hrp7 := K0.out.chg HC7.out (fun h => h)
        have q0 : w7.cell? ⟨rp, 0, none⟩ = some _ := hrp7.cell 0
        have qf := hrp7.free 0
        have qlt := hrp7.lt
        have HRP7 := Lib.hid hrp7
        clear hrp7
        refine wpAnyH_ready (rs := [19]) (by kernel_rfl) (by simp) ?_
        refine AllReadyH.cons rfl (fun K hK => ?_) AllReadyH.nil
        go_simp
        refine hK.out _ _ trivial (fun _ => ?_)
        clear hK K q0 qf qlt
        refine wpAnyH_done (by kernel_rfl) ?_ _
        have hcs := Chg.setCell (F := fun k => k = rp) w7 ⟨rp, 0, none⟩ (.slice A7 (S.L.eraseIdx i).length c7) rfl
        have hr8 := HRP7.out.set 0 (.slice A7 (S.L.eraseIdx i).length c7)
        have hb1 := HK17.out.chg hcs (fun h => by have h : B1 = rp := h; have := G1.out; omega)
        have hb3 := HK37.out.chg hcs (fun h => by have h : B3 = rp := h; have := G3.out; omega)
        have hown8 := own_chgG HO7.out hcs (fun k hk e => absurd (HO7.out.lt k hk).1 (by have e : k = rp := e; omega))
        have hc8 := HC7.out.of_no.trans hcs
        obtain ⟨W8, hW8⟩ : ∃ W, W = w7.setCell ⟨rp, 0, none⟩ (.slice A7 (S.L.eraseIdx i).length c7) := ⟨_, rfl⟩
        rw [← hW8] at hcs hr8 hb1 hb3 hown8 hc8 ⊢
        have a0 := hb1.cell 0; have c0x := hb3.cell 0
        have a1 := hb1.cell 1; have c1x := hb3.cell 1
        have a2 := hb1.cell 2; have c2x := hb3.cell 2
        have a3 := hb1.cell 3; have c3x := hb3.cell 3
        have a4 := hb1.cell 4; have c4x := hb3.cell 4
        have a5 := hb1.cell 5; have c5x := hb3.cell 5
        have a6 := hb1.cell 6; have c6x := hb3.cell 6
        have a7 := hb1.cell 7; have c7x := hb3.cell 7
        have a8 := hb1.cell 8; have c8x := hb3.cell 8
        have a9 := hb1.cell 9; have c9x := hb3.cell 9
        have fz : ∀ o, W8.frozen? ⟨B1, o, none⟩ = false := fun o => hb1.free o
        have alt := hb1.lt
        have clt := hb3.lt
        have HR8 := Lib.hid hr8; have HB1 := Lib.hid hb1; have HOW8 := Lib.hid hown8; have HC8 := Lib.hid hc8
        clear hcs hr8 hb1 hb3 hown8 hc8 hW8
        go_wp2
        clear fz alt clt a0 c0x a1 c1x a2 c2x a3 c3x a4 c4x a5 c5x a6 c6x a7 c7x a8 c8x a9 c9x
        have hb1 := HB1.out
        obtain ⟨W9, hW9⟩ : ∃ W, W = ((((((((((W8.setCell ⟨B1, 0, none⟩ (.bool v)).setCell ⟨B1, 1, none⟩ (.bool r)).setCell ⟨B1, 2, none⟩ (.bool x1)).setCell ⟨B1, 3, none⟩ (.bool x)).setCell ⟨B1, 4, none⟩ (.bool u)).setCell ⟨B1, 5, none⟩ (.bool g)).setCell ⟨B1, 6, none⟩ (.bool a)).setCell ⟨B1, 7, none⟩ (.bool d)).setCell ⟨B1, 8, none⟩ (.int .i64 rsw)).setCell ⟨B1, 9, none⟩ (.int .u64 (ppn : Int))) := ⟨_, rfl⟩
        rw [← hW9]
        have b9 : Blk W9 B1 [.bool v, .bool r, .bool x1, .bool x, .bool u, .bool g, .bool a, .bool d, .int .i64 rsw, .int .u64 (ppn : Int)] 39 := hW9 ▸ ((((((((((hb1.set 0 (.bool v)).set 1 (.bool r)).set 2 (.bool x1)).set 3 (.bool x)).set 4 (.bool u)).set 5 (.bool g)).set 6 (.bool a)).set 7 (.bool d)).set 8 (.int .i64 rsw)).set 9 (.int .u64 (ppn : Int)))
        have c9 : Chg (fun k => k = B1) W8 W9 := by
          rw [hW9]
          iterate 10 refine Chg.setc ?_ _ _ (.inl rfl)
          exact Chg.refl _ _
        clear hW9 hb1
        have r0 : W9.cell? ⟨B1, 0, none⟩ = some _ := b9.cell 0
        have r1 : W9.cell? ⟨B1, 1, none⟩ = some _ := b9.cell 1
        have r2 : W9.cell? ⟨B1, 2, none⟩ = some _ := b9.cell 2
        have r3 : W9.cell? ⟨B1, 3, none⟩ = some _ := b9.cell 3
        have r4 : W9.cell? ⟨B1, 4, none⟩ = some _ := b9.cell 4
        have r5 : W9.cell? ⟨B1, 5, none⟩ = some _ := b9.cell 5
        have r6 : W9.cell? ⟨B1, 6, none⟩ = some _ := b9.cell 6
        have r7 : W9.cell? ⟨B1, 7, none⟩ = some _ := b9.cell 7
        have r8 : W9.cell? ⟨B1, 8, none⟩ = some _ := b9.cell 8
        have r9 : W9.cell? ⟨B1, 9, none⟩ = some _ := b9.cell 9
        have HC9 := Lib.hid c9
        clear b9 c9
        refine bodyPost_ret (v := .tuple #[.agg #[.bool v, .bool r, .bool x1, .bool x, .bool u, .bool g, .bool a, .bool d, .int .i64 rsw, .int .u64 (ppn : Int)], .int .i64 0]) (by simp [results, Try.results19, go_sem, r0, r1, r2, r3, r4, r5, r6, r7, r8, r9]) rfl ?_
        clear r0 r1 r2 r3 r4 r5 r6 r7 r8 r9
        rw [HRR.out]
        have hBrp : ∀ k, k = B1 → k < w.heap.size → False := fun k h1 h2 => by have := G1.out; omega
        have hcE : Chg (fun k => k = rp) w W9 := ⟨HC9.out.os.trans HC8.out.os, HC9.out.tape.trans HC8.out.tape, HC9.out.output.trans HC8.out.output, Nat.le_trans HC8.out.size HC9.out.size, fun k hk hne => (HC9.out.block k (Nat.lt_of_lt_of_le hk HC8.out.size) (fun h => hBrp k h hk)).trans (HC8.out.block k hk hne)⟩
        refine ⟨rfl, (.slice A7 (S.L.eraseIdx i).length c7), ⟨HR8.out.chg HC9.out (fun h => hBrp _ h hlt0), own_chgG (own_baseG HOW8.out (Nat.zero_le _)) HC9.out (fun k hk h => absurd (HOW8.out.lt k hk).1 (by have h : k = B1 := h; omega)), own_chgG HR.out.ownT hcE (fun k hk e => HR.out.neT (e ▸ hk)), ?_, HR.out.neT⟩, fun k hk => .inr (Nat.le_trans n1 (HOW8.out.lt k hk).1), hcE⟩
        intro hk
        exact absurd (HOW8.out.lt _ hk).1 (by omega)
      · have r0 := HROW.out W4 HC.out.none
        go_simp
        refine hK.out _ _ trivial (fun _ => ?_)
        clear hK K r0
        refine wpAnyH_take (i := 7) (v := ?_) rfl (by kernel_rfl) (by kernel_rfl) (by kernel_rfl) (fun _ _ _ h => h) (Or.inl ⟨by rfl, ?yldq⟩) (by assumption) ?_
        case yldq => (intro w hSw; (try dsimp only at hSw); go_simp; try with_reducible rfl)
        try simp only [Act.put, List.setIfInBounds_toArray, List.set_cons_zero, List.set_cons_succ, List.getElem_toArray, List.getElem_cons_succ, List.getElem_cons_zero]
        refine wpAnyH_ready (rs := [1]) (by kernel_rfl) (by simp) ?_
        refine AllReadyH.cons rfl (fun K hK => ?_) (AllReadyH.nil)
        go_simp
        refine hK.out _ _ trivial (fun _ => ?_)
        clear hK K
        have hc5 := HC.out.thenAlloc (.cells #[] 60)
        have q1 := HK1.out.alloc (.cells #[] 60)
        have q3 := HK3.out.alloc (.cells #[] 60)
        have ho5 := own_baseG (own_lit0 W4 60 12) hz
        have hz5 : N3 ≤ (W4.alloc (.cells #[] 60)).heap.size := Nat.le_trans hz (Below.refl 0 W4 |>.alloc (Nat.zero_le _) _).size
        obtain ⟨b5, hb5⟩ : ∃ b, b = W4.heap.size := ⟨_, rfl⟩
        rw [← hb5] at ho5
        have hbn : N3 ≤ b5 := by rw [hb5]; exact hz
        obtain ⟨W5, hW5⟩ : ∃ W, W = W4.alloc (.cells #[] 60) := ⟨_, rfl⟩
        rw [← hW5] at hc5 q1 q3 ho5 hz5 ⊢
        try rw [← hb5]
        have HC5 := Lib.hid hc5; have HK15 := Lib.hid q1; have HK35 := Lib.hid q3; have HO5 := Lib.hid ho5
        clear hc5 q1 q3 ho5 hz hW5 hb5
        have hz := hz5
        clear hz5
        refine wpAnyH_ready (rs := [8]) (by kernel_rfl) (by simp) ?_
        refine AllReadyH.cons rfl (fun K hK => ?_) (AllReadyH.nil)
        rw [if_pos (by rfl)]
        refine wp_append_M _ _ rfl N3 _ 0 [] rfl HO5.out _ i (rowS pgC (S.L.take i)) rfl (HSA.out _ _ HC5.out.none) HLA.out (rowS_one pgC_one _) (by omega) hz ?_
        intro v6 w6 hown6 hgr6
        have hg6 := grown_chg (B := N3) hgr6 (fun k hk => by injection hk with hk; rw [← hk]; exact hbn)
        have hc6 := HC5.out.newerB hg6 n1
        have q1 := HK15.out.chg hg6 (fun h => absurd n2 (Nat.not_lt.2 h))
        have q3 := HK35.out.chg hg6 (fun h => absurd n3 (Nat.not_lt.2 h))
        have hz6 : N3 ≤ w6.heap.size := Nat.le_trans hz hg6.size
        rw [Nat.zero_add, List.nil_append] at hown6
        refine hK.out _ _ trivial (fun _ => ?_)
        have HC6 := Lib.hid hc6; have HK16 := Lib.hid q1; have HK36 := Lib.hid q3; have HO6 := Lib.hid hown6
        clear hK K hc6 q1 q3 hown6 hz hgr6 hg6
        have hz := hz6
        clear hz6
        refine wpAnyH_ready (rs := [16]) (by kernel_rfl) (by simp) ?_
        refine AllReadyH.cons rfl (fun K hK => ?_) (AllReadyH.nil)
        rw [if_pos (by rfl)]
        refine wp_append_M _ _ rfl N3 v6 i (rowS pgC (S.L.take i)) rfl HO6.out _ (len - (i + 1)) (rowS pgC (S.L.drop (i + 1))) rfl (HSB.out _ _ HC6.out.none) HLB.out (rowS_one pgC_one _) (by omega) hz ?_
        intro v7 w7 hown7 hgr7
        have hg7 := grown_chg (B := N3) hgr7 (fun k hk => (HO6.out.lt k hk).1)
        have hc7 := HC6.out.newerB hg7 n1
        have q1 := HK16.out.chg hg7 (fun h => absurd n2 (Nat.not_lt.2 h))
        have q3 := HK36.out.chg hg7 (fun h => absurd n3 (Nat.not_lt.2 h))
        rw [HER.out, HLE2.out] at hown7
        refine hK.out _ _ trivial (fun _ => ?_)
        have HC7 := Lib.hid hc7; have HK17 := Lib.hid q1; have HK37 := Lib.hid q3; have HO7 := Lib.hid hown7
        clear hK K hc7 q1 q3 hown7 hgr7 hg7
        obtain ⟨A7, c7, hv7⟩ := own_sliceG HO7.out
        subst hv7
        refine wpAnyH_take (i := 17) (v := ?_) rfl (by kernel_rfl) (by kernel_rfl) (by kernel_rfl) (fun _ _ _ h => h) (Or.inl ⟨by rfl, ?yldq⟩) (by assumption) ?_
        case yldq => (intro w hSw; (try dsimp only at hSw); go_simp; try with_reducible rfl)
        try simp only [Act.put, List.setIfInBounds_toArray, List.set_cons_zero, List.set_cons_succ, List.getElem_toArray, List.getElem_cons_succ, List.getElem_cons_zero]
        refine wpAnyH_take (i := 18) (v := ?_) rfl (by kernel_rfl) (by kernel_rfl) (by kernel_rfl) (fun _ _ _ h => h) (Or.inl ⟨by rfl, ?yldq⟩) (by assumption) ?_
        case yldq => (intro w hSw; (try dsimp only at hSw); go_simp; try with_reducible rfl)
        try simp only [Act.put, List.setIfInBounds_toArray, List.set_cons_zero, List.set_cons_succ, List.getElem_toArray, List.getElem_cons_succ, List.getElem_cons_zero]
        have hrp7 := K0.out.chg HC7.out (fun h => h)
        have q0 : w7.cell? ⟨rp, 0, none⟩ = some _ := hrp7.cell 0
        have qf := hrp7.free 0
        have qlt := hrp7.lt
        have HRP7 := Lib.hid hrp7
        clear hrp7
        refine wpAnyH_ready (rs := [19]) (by kernel_rfl) (by simp) ?_
        refine AllReadyH.cons rfl (fun K hK => ?_) AllReadyH.nil
        go_simp
        refine hK.out _ _ trivial (fun _ => ?_)
        clear hK K q0 qf qlt
        refine wpAnyH_done (by kernel_rfl) ?_ _
        have hcs := Chg.setCell (F := fun k => k = rp) w7 ⟨rp, 0, none⟩ (.slice A7 (S.L.eraseIdx i).length c7) rfl
        have hr8 := HRP7.out.set 0 (.slice A7 (S.L.eraseIdx i).length c7)
        have hb1 := HK17.out.chg hcs (fun h => by have h : B1 = rp := h; have := G1.out; omega)
        have hb3 := HK37.out.chg hcs (fun h => by have h : B3 = rp := h; have := G3.out; omega)
        have hown8 := own_chgG HO7.out hcs (fun k hk e => absurd (HO7.out.lt k hk).1 (by have e : k = rp := e; omega))
        have hc8 := HC7.out.of_no.trans hcs
        obtain ⟨W8, hW8⟩ : ∃ W, W = w7.setCell ⟨rp, 0, none⟩ (.slice A7 (S.L.eraseIdx i).length c7) := ⟨_, rfl⟩
        rw [← hW8] at hcs hr8 hb1 hb3 hown8 hc8 ⊢
        have a0 := hb1.cell 0; have c0x := hb3.cell 0
        have a1 := hb1.cell 1; have c1x := hb3.cell 1
        have a2 := hb1.cell 2; have c2x := hb3.cell 2
        have a3 := hb1.cell 3; have c3x := hb3.cell 3
        have a4 := hb1.cell 4; have c4x := hb3.cell 4
        have a5 := hb1.cell 5; have c5x := hb3.cell 5
        have a6 := hb1.cell 6; have c6x := hb3.cell 6
        have a7 := hb1.cell 7; have c7x := hb3.cell 7
        have a8 := hb1.cell 8; have c8x := hb3.cell 8
        have a9 := hb1.cell 9; have c9x := hb3.cell 9
        have fz : ∀ o, W8.frozen? ⟨B1, o, none⟩ = false := fun o => hb1.free o
        have alt := hb1.lt
        have clt := hb3.lt
        have HR8 := Lib.hid hr8; have HB1 := Lib.hid hb1; have HOW8 := Lib.hid hown8; have HC8 := Lib.hid hc8
        clear hcs hr8 hb1 hb3 hown8 hc8 hW8
        go_wp2
        clear fz alt clt a0 c0x a1 c1x a2 c2x a3 c3x a4 c4x a5 c5x a6 c6x a7 c7x a8 c8x a9 c9x
        have hb1 := HB1.out
        obtain ⟨W9, hW9⟩ : ∃ W, W = ((((((((((W8.setCell ⟨B1, 0, none⟩ (.bool v)).setCell ⟨B1, 1, none⟩ (.bool r)).setCell ⟨B1, 2, none⟩ (.bool x1)).setCell ⟨B1, 3, none⟩ (.bool x)).setCell ⟨B1, 4, none⟩ (.bool u)).setCell ⟨B1, 5, none⟩ (.bool g)).setCell ⟨B1, 6, none⟩ (.bool a)).setCell ⟨B1, 7, none⟩ (.bool d)).setCell ⟨B1, 8, none⟩ (.int .i64 rsw)).setCell ⟨B1, 9, none⟩ (.int .u64 (ppn : Int))) := ⟨_, rfl⟩
        rw [← hW9]
        have b9 : Blk W9 B1 [.bool v, .bool r, .bool x1, .bool x, .bool u, .bool g, .bool a, .bool d, .int .i64 rsw, .int .u64 (ppn : Int)] 39 := hW9 ▸ ((((((((((hb1.set 0 (.bool v)).set 1 (.bool r)).set 2 (.bool x1)).set 3 (.bool x)).set 4 (.bool u)).set 5 (.bool g)).set 6 (.bool a)).set 7 (.bool d)).set 8 (.int .i64 rsw)).set 9 (.int .u64 (ppn : Int)))
        have c9 : Chg (fun k => k = B1) W8 W9 := by
          rw [hW9]
          iterate 10 refine Chg.setc ?_ _ _ (.inl rfl)
          exact Chg.refl _ _
        clear hW9 hb1
        have r0 : W9.cell? ⟨B1, 0, none⟩ = some _ := b9.cell 0
        have r1 : W9.cell? ⟨B1, 1, none⟩ = some _ := b9.cell 1
        have r2 : W9.cell? ⟨B1, 2, none⟩ = some _ := b9.cell 2
        have r3 : W9.cell? ⟨B1, 3, none⟩ = some _ := b9.cell 3
        have r4 : W9.cell? ⟨B1, 4, none⟩ = some _ := b9.cell 4
        have r5 : W9.cell? ⟨B1, 5, none⟩ = some _ := b9.cell 5
        have r6 : W9.cell? ⟨B1, 6, none⟩ = some _ := b9.cell 6
        have r7 : W9.cell? ⟨B1, 7, none⟩ = some _ := b9.cell 7
        have r8 : W9.cell? ⟨B1, 8, none⟩ = some _ := b9.cell 8
        have r9 : W9.cell? ⟨B1, 9, none⟩ = some _ := b9.cell 9
        have HC9 := Lib.hid c9
        clear b9 c9
        refine bodyPost_ret (v := .tuple #[.agg #[.bool v, .bool r, .bool x1, .bool x, .bool u, .bool g, .bool a, .bool d, .int .i64 rsw, .int .u64 (ppn : Int)], .int .i64 0]) (by simp [results, Try.results19, go_sem, r0, r1, r2, r3, r4, r5, r6, r7, r8, r9]) rfl ?_
        clear r0 r1 r2 r3 r4 r5 r6 r7 r8 r9
        rw [HRR.out]
        have hBrp : ∀ k, k = B1 → k < w.heap.size → False := fun k h1 h2 => by have := G1.out; omega
        have hcE : Chg (fun k => k = rp) w W9 := ⟨HC9.out.os.trans HC8.out.os, HC9.out.tape.trans HC8.out.tape, HC9.out.output.trans HC8.out.output, Nat.le_trans HC8.out.size HC9.out.size, fun k hk hne => (HC9.out.block k (Nat.lt_of_lt_of_le hk HC8.out.size) (fun h => hBrp k h hk)).trans (HC8.out.block k hk hne)⟩
        refine ⟨rfl, (.slice A7 (S.L.eraseIdx i).length c7), ⟨HR8.out.chg HC9.out (fun h => hBrp _ h hlt0), own_chgG (own_baseG HOW8.out (Nat.zero_le _)) HC9.out (fun k hk h => absurd (HOW8.out.lt k hk).1 (by have h : k = B1 := h; omega)), own_chgG HR.out.ownT hcE (fun k hk e => HR.out.neT (e ▸ hk)), ?_, HR.out.neT⟩, fun k hk => .inr (Nat.le_trans n1 (HOW8.out.lt k hk).1), hcE⟩
        intro hk
        exact absurd (HOW8.out.lt _ hk).1 (by omega)
end Go.Proofs.Ytdakfgefnapglaa
