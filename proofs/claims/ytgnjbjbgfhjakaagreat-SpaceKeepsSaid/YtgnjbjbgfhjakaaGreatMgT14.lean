/-
  What Find and Map of package table answer: contracts over the translation. Each says its own conditions. What Change and Unmap of package table answer: contracts over the translation. Each says its own conditions. What New, Root and Used of package table answer: contracts over the translation. Each says its own conditions. What list and Pages of package table answer: all pages, table by table. Contracts over the translation, which say their own conditions.
-/
import Derived.Test.YtgnjbjbgfhjakaaGreatTblD14
import Derived.Test.YtgnjbjbgfhjakaaGreatFindP10
import Derived.Test.YtgnjbjbgfhjakaaGreatRow14
namespace Go.Proofs.YtgnjbjbgfhjakaaGreat
open Go.RowKit
set_option linter.unusedVariables false
set_option linter.unusedSimpArgs false
attribute [local go_sem] setCell_drewN alloc_drewN

set_option maxHeartbeats 4000000 in
theorem find13_any {first n U ut : Nat} {w : World} {tp mp sp : Nat} {Fm Gs : Nat → Prop} {C : Nat → List Int} {c : Nat} (va : Nat) (hfm : first < 1048577) (h : TW 0 n n (first : Int) w tp mp sp Fm Gs C c ut U) (hva : va < 18446744073709551616) :
    Calls Tryz.prog 40 #[.pointer (some ⟨tp, 0, none⟩), .int .u64 (va : Int)] w fun r w' => r = .returned (.tuple #[lfv (findW n (Mw C) ⟨true, 0, first⟩ va).1, .int .i64 ((findW n (Mw C) ⟨true, 0, first⟩ va).2 : Nat)]) ∧ Below w.heap.size w w' := by
  have hf := hfm
  have h1 := fun w' (hb : Below w.heap.size w w') => wfind_any mp n c va ⟨true, 0, first⟩ C Fm w' (h.below hb).mem hva (by dsimp only; omega)
  have hwr : IntKind.u64.wrap (first : Int) = (first : Int) := by rw [wrap_u64B]; omega
  have hB := h.blk
  generalize findW n (Mw C) ⟨true, 0, first⟩ va = Z at *
  obtain ⟨⟨⟨v, r, x1, x, u, g, a, d, rsw, pn⟩, lv, pl⟩, er⟩ := Z
  unfold lfv sv at *
  dsimp only at *
  have H1 := Lib.hid h1; have HB := Lib.hid hB; clear h1 hB h hva hf hfm
  go_enter Tryz.func40, Tryz.ntmps40
  go_wp2_with fail
  have nb0 := Blk.new w [.bool false, .bool false, .bool false, .bool false, .bool false, .bool false, .bool false, .bool false, .int .i64 0, .int .u64 0, .int .i64 0, .int .u64 0] 41
  have nls : Below w.heap.size w w := (Below.refl w.heap.size w)
  have nl0 := nls.alloc nls.size (.cells #[.bool false, .bool false, .bool false, .bool false, .bool false, .bool false, .bool false, .bool false, .int .i64 0, .int .u64 0, .int .i64 0, .int .u64 0] 41)
  have nl : Below w.heap.size w (w.alloc (.cells #[.bool false, .bool false, .bool false, .bool false, .bool false, .bool false, .bool false, .bool false, .int .i64 0, .int .u64 0, .int .i64 0, .int .u64 0] 41)) := nl0; clear nls nl0
  have o0 : Blk (w.alloc (.cells #[.bool false, .bool false, .bool false, .bool false, .bool false, .bool false, .bool false, .bool false, .int .i64 0, .int .u64 0, .int .i64 0, .int .u64 0] 41)) tp [.pointer (some ⟨mp, 0, none⟩), .pointer (some ⟨sp, 0, none⟩), .int .i64 (first : Int), .int .i64 (ut : Int)] 138 := (HB.out.alloc (.cells #[.bool false, .bool false, .bool false, .bool false, .bool false, .bool false, .bool false, .bool false, .int .i64 0, .int .u64 0, .int .i64 0, .int .u64 0] 41))
  have d1_0 : tp < w.heap.size := HB.out.lt
  obtain ⟨B1, hB0⟩ : ∃ B, B = w.heap.size := ⟨_, rfl⟩
  obtain ⟨W1, hW⟩ : ∃ W, W = (w.alloc (.cells #[.bool false, .bool false, .bool false, .bool false, .bool false, .bool false, .bool false, .bool false, .int .i64 0, .int .u64 0, .int .i64 0, .int .u64 0] 41)) := ⟨_, rfl⟩
  rw [← hW] at nl nb0 o0
  rw [← hB0] at nb0
  rw [← hW]
  try rw [← hB0]
  have K1_0 := Lib.hid o0
  have K1_1 := Lib.hid nb0
  have G1 : Hid (w.heap.size ≤ B1) := Lib.hid (by have := (Nat.le_refl w.heap.size); omega)
  have x1_0_0 : tp ≠ B1 := by omega
  have X1_0_0 := Lib.hid x1_0_0; clear x1_0_0
  have L1 := Lib.hid nl
  clear nl hW nb0 hB0 o0 d1_0 HB
  go_wp2_with fail
  refine wp_region_held_drew (S := fun w' => Blk w' tp [.pointer (some ⟨mp, 0, none⟩), .pointer (some ⟨sp, 0, none⟩), .int .i64 (first : Int), .int .i64 (ut : Int)] 138) (by kernel_rfl) K1_0.out (fun hHeld => ?_)
  simp only [List.size_toArray, List.length_cons, List.length_nil, Nat.reduceAdd]
  rw [show Array.replicate 16 false = [false, false, false, false, false, false, false, false, false, false, false, false, false, false, false, false].toArray from rfl]
  refine wpAnyH_take (i := 0) (v := ?_) rfl (by kernel_rfl) (by kernel_rfl) (by kernel_rfl) (fun _ _ _ h => h) (Or.inl ⟨by rfl, ?yldq⟩) (by assumption) ?_
  case yldq => (intro w hSw; (try dsimp only at hSw); go_simp; try with_reducible rfl)
  try simp only [Act.put, List.setIfInBounds_toArray, List.set_cons_zero, List.set_cons_succ, List.getElem_toArray, List.getElem_cons_succ, List.getElem_cons_zero]
  refine wpAnyH_take (i := 1) (v := ?_) rfl (by kernel_rfl) (by kernel_rfl) (by kernel_rfl) (fun _ _ _ h => h) (Or.inl ⟨by rfl, ?yldq⟩) (by assumption) ?_
  case yldq => (intro w hSw; (try dsimp only at hSw); go_simp; try with_reducible rfl)
  try simp only [Act.put, List.setIfInBounds_toArray, List.set_cons_zero, List.set_cons_succ, List.getElem_toArray, List.getElem_cons_succ, List.getElem_cons_zero]
  refine wpAnyH_take (i := 2) (v := ?_) rfl (by kernel_rfl) (by kernel_rfl) (by kernel_rfl) (fun _ _ _ h => h) (Or.inl ⟨by rfl, ?yldq⟩) (by assumption) ?_
  case yldq => (intro w hSw; (try dsimp only at hSw); go_simp; try with_reducible rfl)
  try simp only [Act.put, List.setIfInBounds_toArray, List.set_cons_zero, List.set_cons_succ, List.getElem_toArray, List.getElem_cons_succ, List.getElem_cons_zero]
  refine wpAnyH_take (i := 3) (v := _) rfl (by kernel_rfl) (by kernel_rfl) (by kernel_rfl) (fun _ _ _ h => h) (Or.inl ⟨by rfl, fun w hSw => yield_tab0 _ _ _ rfl rfl hSw⟩) (by assumption) ?_
  try simp only [Act.put, List.setIfInBounds_toArray, List.set_cons_zero, List.set_cons_succ, List.getElem_toArray, List.getElem_cons_succ, List.getElem_cons_zero]
  refine wpAnyH_take (i := 4) (v := ?_) rfl (by kernel_rfl) (by kernel_rfl) (by kernel_rfl) (fun _ _ _ h => h) (Or.inl ⟨by rfl, ?yldq⟩) (by assumption) ?_
  case yldq => (intro w hSw; (try dsimp only at hSw); go_simp; try with_reducible rfl)
  try simp only [Act.put, List.setIfInBounds_toArray, List.set_cons_zero, List.set_cons_succ, List.getElem_toArray, List.getElem_cons_succ, List.getElem_cons_zero]
  refine wpAnyH_take (i := 5) (v := ?_) rfl (by kernel_rfl) (by kernel_rfl) (by kernel_rfl) (fun _ _ _ h => h) (Or.inl ⟨by rfl, ?yldq⟩) (by assumption) ?_
  case yldq => (intro w hSw; (try dsimp only at hSw); go_simp; try with_reducible rfl)
  try simp only [Act.put, List.setIfInBounds_toArray, List.set_cons_zero, List.set_cons_succ, List.getElem_toArray, List.getElem_cons_succ, List.getElem_cons_zero]
  refine wpAnyH_take (i := 6) (v := ?_) rfl (by kernel_rfl) (by kernel_rfl) (by kernel_rfl) (fun _ _ _ h => h) (Or.inl ⟨by rfl, ?yldq⟩) (by assumption) ?_
  case yldq => (intro w hSw; (try dsimp only at hSw); go_simp; try with_reducible rfl)
  try simp only [Act.put, List.setIfInBounds_toArray, List.set_cons_zero, List.set_cons_succ, List.getElem_toArray, List.getElem_cons_succ, List.getElem_cons_zero]
  refine wpAnyH_take (i := 7) (v := _) rfl (by kernel_rfl) (by kernel_rfl) (by kernel_rfl) (fun _ _ _ h => h) (Or.inl ⟨by rfl, fun w hSw => yield_tab2 _ _ _ rfl rfl hSw⟩) (by assumption) ?_
  try simp only [Act.put, List.setIfInBounds_toArray, List.set_cons_zero, List.set_cons_succ, List.getElem_toArray, List.getElem_cons_succ, List.getElem_cons_zero]
  refine wpAnyH_take (i := 8) (v := ?_) rfl (by kernel_rfl) (by kernel_rfl) (by kernel_rfl) (fun _ _ _ h => h) (Or.inl ⟨by rfl, ?yldq⟩) (by assumption) ?_
  case yldq => (intro w hSw; (try dsimp only at hSw); go_simp; try with_reducible rfl)
  try simp only [Act.put, List.setIfInBounds_toArray, List.set_cons_zero, List.set_cons_succ, List.getElem_toArray, List.getElem_cons_succ, List.getElem_cons_zero]
  refine wpAnyH_take (i := 9) (v := ?_) rfl (by kernel_rfl) (by kernel_rfl) (by kernel_rfl) (fun _ _ _ h => h) (Or.inl ⟨by rfl, ?yldq⟩) (by assumption) ?_
  case yldq => (intro w hSw; (try dsimp only at hSw); go_simp; try with_reducible rfl)
  try simp only [Act.put, List.setIfInBounds_toArray, List.set_cons_zero, List.set_cons_succ, List.getElem_toArray, List.getElem_cons_succ, List.getElem_cons_zero]
  refine wpAnyH_take (i := 10) (v := ?_) rfl (by kernel_rfl) (by kernel_rfl) (by kernel_rfl) (fun _ _ _ h => h) (Or.inl ⟨by rfl, ?yldq⟩) (by assumption) ?_
  case yldq => (intro w hSw; (try dsimp only at hSw); go_simp; try with_reducible rfl)
  try simp only [Act.put, List.setIfInBounds_toArray, List.set_cons_zero, List.set_cons_succ, List.getElem_toArray, List.getElem_cons_succ, List.getElem_cons_zero]
  refine wpAnyH_ready (rs := [11]) (by kernel_rfl) (by simp) ?_
  refine AllReadyH.cons rfl (fun K hK => ?_) AllReadyH.nil
  go_simp
  refine (H1.out _ (L1.out.drew)).mono ?_
  rintro e w2 ⟨rfl, hb⟩
  have L2 := Lib.hid ((L1.out.drew).trans (hb.mono L1.out.size))
  have K2_0 := Lib.hid ((Blk.drewN K1_0.out 1).below hb K1_0.out.lt)
  have K2_1 := Lib.hid ((Blk.drewN K1_1.out 1).below hb K1_1.out.lt)
  clear hb K1_0 K1_1
  refine hK.out _ _ K2_0.out (fun hS11 => ?_)
  clear hK K
  refine wpAnyH_take (i := 12) (v := ?_) rfl (by kernel_rfl) (by kernel_rfl) (by kernel_rfl) (fun _ _ _ h => h) (Or.inl ⟨by rfl, ?yldq⟩) (by assumption) ?_
  case yldq => (intro w hSw; (try dsimp only at hSw); go_simp; try with_reducible rfl)
  try simp only [Act.put, List.setIfInBounds_toArray, List.set_cons_zero, List.set_cons_succ, List.getElem_toArray, List.getElem_cons_succ, List.getElem_cons_zero]
  refine wpAnyH_take (i := 13) (v := ?_) rfl (by kernel_rfl) (by kernel_rfl) (by kernel_rfl) (fun _ _ _ h => h) (Or.inl ⟨by rfl, ?yldq⟩) (by assumption) ?_
  case yldq => (intro w hSw; (try dsimp only at hSw); go_simp; try with_reducible rfl)
  try simp only [Act.put, List.setIfInBounds_toArray, List.set_cons_zero, List.set_cons_succ, List.getElem_toArray, List.getElem_cons_succ, List.getElem_cons_zero]
  refine wpAnyH_ready (rs := [14]) (by kernel_rfl) (by simp) ?_
  refine AllReadyH.cons rfl (fun K hK => ?_) AllReadyH.nil
  have m1_0 := K2_1.out.c0
  have m1_1 := K2_1.out.c1
  have m1_2 := K2_1.out.c2
  have m1_3 := K2_1.out.c3
  have m1_4 := K2_1.out.c4
  have m1_5 := K2_1.out.c5
  have m1_6 := K2_1.out.c6
  have m1_7 := K2_1.out.c7
  have m1_8 := K2_1.out.c8
  have m1_9 := K2_1.out.c9
  have m1_10 := K2_1.out.c10
  have m1_11 := K2_1.out.c11
  have mlt1 : B1 < w2.heap.size := K2_1.out.lt
  have mf1 : ∀ o, w2.frozen? ⟨B1, o, none⟩ = false := fun o => K2_1.out.free o
  go_simp
  clear m1_0 m1_1 m1_2 m1_3 m1_4 m1_5 m1_6 m1_7 m1_8 m1_9 m1_10 m1_11 mlt1 mf1
  obtain ⟨W3, hW⟩ : ∃ W9, W9 = ((((((((((((w2.setCell ⟨B1, 0, none⟩ (.bool v)).setCell ⟨B1, 1, none⟩ (.bool r)).setCell ⟨B1, 2, none⟩ (.bool x1)).setCell ⟨B1, 3, none⟩ (.bool x)).setCell ⟨B1, 4, none⟩ (.bool u)).setCell ⟨B1, 5, none⟩ (.bool g)).setCell ⟨B1, 6, none⟩ (.bool a)).setCell ⟨B1, 7, none⟩ (.bool d)).setCell ⟨B1, 8, none⟩ (.int .i64 rsw)).setCell ⟨B1, 9, none⟩ (.int .u64 (pn : Int))).setCell ⟨B1, 10, none⟩ (.int .i64 (lv : Int))).setCell ⟨B1, 11, none⟩ (.int .u64 (pl : Int))) := ⟨_, rfl⟩
  rw [← hW]
  have K3_0 := Lib.hid (show Blk W3 tp [.pointer (some ⟨mp, 0, none⟩), .pointer (some ⟨sp, 0, none⟩), .int .i64 (first : Int), .int .i64 (ut : Int)] 138 from hW ▸ ((((((((((((K2_0.out.other ⟨B1, 0, none⟩ (.bool v) X1_0_0.out).other ⟨B1, 1, none⟩ (.bool r) X1_0_0.out).other ⟨B1, 2, none⟩ (.bool x1) X1_0_0.out).other ⟨B1, 3, none⟩ (.bool x) X1_0_0.out).other ⟨B1, 4, none⟩ (.bool u) X1_0_0.out).other ⟨B1, 5, none⟩ (.bool g) X1_0_0.out).other ⟨B1, 6, none⟩ (.bool a) X1_0_0.out).other ⟨B1, 7, none⟩ (.bool d) X1_0_0.out).other ⟨B1, 8, none⟩ (.int .i64 rsw) X1_0_0.out).other ⟨B1, 9, none⟩ (.int .u64 (pn : Int)) X1_0_0.out).other ⟨B1, 10, none⟩ (.int .i64 (lv : Int)) X1_0_0.out).other ⟨B1, 11, none⟩ (.int .u64 (pl : Int)) X1_0_0.out))
  have K3_1 := Lib.hid (show Blk W3 B1 [.bool v, .bool r, .bool x1, .bool x, .bool u, .bool g, .bool a, .bool d, .int .i64 rsw, .int .u64 (pn : Int), .int .i64 (lv : Int), .int .u64 (pl : Int)] 41 from hW ▸ ((((((((((((K2_1.out.set 0 (.bool v)).set 1 (.bool r)).set 2 (.bool x1)).set 3 (.bool x)).set 4 (.bool u)).set 5 (.bool g)).set 6 (.bool a)).set 7 (.bool d)).set 8 (.int .i64 rsw)).set 9 (.int .u64 (pn : Int))).set 10 (.int .i64 (lv : Int))).set 11 (.int .u64 (pl : Int))))
  have L3 := Lib.hid (show Below w.heap.size w W3 from hW ▸ (Below.setCell (Below.setCell (Below.setCell (Below.setCell (Below.setCell (Below.setCell (Below.setCell (Below.setCell (Below.setCell (Below.setCell (Below.setCell (Below.setCell L2.out G1.out _) G1.out _) G1.out _) G1.out _) G1.out _) G1.out _) G1.out _) G1.out _) G1.out _) G1.out _) G1.out _) G1.out _))
  clear hW K2_0 K2_1
  refine hK.out _ _ K3_0.out (fun hS14 => ?_)
  clear hK K
  refine wpAnyH_take (i := 15) (v := ?_) rfl (by kernel_rfl) (by kernel_rfl) (by kernel_rfl) (fun _ _ _ h => h) (Or.inl ⟨by rfl, ?yldq⟩) (by assumption) ?_
  case yldq => (intro w hSw; (try dsimp only at hSw); go_simp; try with_reducible rfl)
  try simp only [Act.put, List.setIfInBounds_toArray, List.set_cons_zero, List.set_cons_succ, List.getElem_toArray, List.getElem_cons_succ, List.getElem_cons_zero]
  refine wpAnyH_done (by kernel_rfl) ?_ _
  go_wp2
  have rr0 := K3_1.out.c0
  have rr1 := K3_1.out.c1
  have rr2 := K3_1.out.c2
  have rr3 := K3_1.out.c3
  have rr4 := K3_1.out.c4
  have rr5 := K3_1.out.c5
  have rr6 := K3_1.out.c6
  have rr7 := K3_1.out.c7
  have rr8 := K3_1.out.c8
  have rr9 := K3_1.out.c9
  have rr10 := K3_1.out.c10
  have rr11 := K3_1.out.c11
  refine bodyPost_ret (v := .tuple #[.agg #[.bool v, .bool r, .bool x1, .bool x, .bool u, .bool g, .bool a, .bool d, .int .i64 rsw, .int .u64 (pn : Int), .int .i64 (lv : Int), .int .u64 (pl : Int)], .int .i64 (er : Nat)]) (by simp [results, Tryz.results40, go_sem, rr0, rr1, rr2, rr3, rr4, rr5, rr6, rr7, rr8, rr9, rr10, rr11]) rfl ⟨rfl, L3.out⟩
set_option maxHeartbeats 8000000 in
theorem map13_any {first n : Nat} {w : World} {tp mp sp : Nat} {Fm Gs : Nat → Prop} {C : Nat → List Int} {S : Tt} {c : Nat} (va : Nat) (l : Int) (e : Ent) (h : TS first n w tp mp sp Fm Gs C S c) (hva : va < 18446744073709551616) (hl : -9223372036854775808 ≤ l ∧ l ≤ 9223372036854775807) (hr : -9223372036854775808 ≤ e.rsw ∧ e.rsw ≤ 9223372036854775807) (hp : e.ppn < 18446744073709551616) (hn : c < 970) :
    Calls Tryz.prog 75 #[.pointer (some ⟨tp, 0, none⟩), .int .u64 (va : Int), .int .i64 l, pv e] w fun r w' => r = .returned (.int .i64 (mapT first n va l e S).2) ∧ ∃ Fm' Gs' C', TS first n w' tp mp sp Fm' Gs' C' (mapT first n va l e S).1 (c + 5) ∧ Nx w w' tp mp Fm Gs Fm' Gs' ∧ Keep first (mapT first n va l e S).1.T C C' ∧ Sub S.T (mapT first n va l e S).1.T := by
  have h1 := fun w => Calls.belowE (can_any va w hva)
  have h2 := fun w => page13_any e l w hr hp
  have h3 := fun w' (lv : Nat) (hb : Below w.heap.size w w') (hc : canN va = true) (hlv : lv < 3) => room13_any va lv (h.below hb) hc hva hlv (by omega)
  have h4 := fun (w' : World) (lv f : Nat) (Fm' Gs' : Nat → Prop) (C' : Nat → List Int) (S' : Tt) (hT : TS first n w' tp mp sp Fm' Gs' C' S' (c + 4)) (hc : canN va = true) (hlv : lv < 3) (hm : mayE e lv = true) (hf : frmT first S'.T va lv = some f) (hk : kid first S'.T va lv = none) (hpg : pg S'.L va lv = none) =>
    show Calls Tryz.prog 99 #[.pointer (some ⟨tp, 0, none⟩), .int .u64 ((f * 4096 + 8 * fld va (12 + 9 * lv) 9 : Nat) : Int), pv e] w' fun r w'' => r = .returned (.int .i64 0) ∧ ∃ F' C'', TS first n w'' tp mp sp F' Gs' C'' ⟨S'.L ++ [⟨bas va lv, lv, e⟩], S'.T, S'.used⟩ (c + 5) ∧ Nx w' w'' tp mp Fm' Gs' F' Gs' ∧ Keep first S'.T C' C'' from by
      obtain ⟨ut, hW, hR⟩ := hT
      have hfl := frm_lt hR hf
      have hp9 := place_frame f (fld9 va lv)
      refine (lay13_any tp mp sp n (c + 4) (f * 4096 + 8 * fld va (12 + 9 * lv) 9) first ut e C' Fm' w' hW.blk hW.mem (place_8 _ _) (by rw [hp9]; exact hfl.2.1) (by omega) hW.mt hr hp).mono ?_
      rintro r w'' ⟨rfl, F', hM, hx, hc'⟩
      have hw := hW.wrote hM hx hc'
      exact ⟨rfl, F', _, ⟨ut, hw.1, addPage13 hR (fun g => (hW.mem.byt g).2) hc hva hlv hf hm hk hpg⟩, hw.2, fun q hq => stC_frame (fld9 va lv) (fun e => hq (e ▸ frm_tf hf))⟩
  have hme : ∀ lv : Nat, l = lv → mayE e l = true → mayE e (lv : Int) = true := fun lv h1 h2 => h1 ▸ h2
  obtain ⟨Z, hZ⟩ : ∃ Z, Z = mapT first n va l e S := ⟨_, rfl⟩
  rw [← hZ]
  unfold mapT at hZ
  have e1 : canN va = false ∨ mayE e l = false → Z = (S, 2) := fun h => by rw [hZ, if_neg (by rcases h with h | h <;> simp [h])]
  have hml : mayE e l = true → 0 ≤ l ∧ l < 3 := fun h => by
    rcases Decidable.em (0 ≤ l ∧ l < 3) with h2 | h2
    · exact h2
    · rw [mayE_no e l h2] at h; cases h
  have e2 : canN va = true → mayE e l = true → Z = if (roomP first n va l.toNat (2 - l.toNat) S).2 = 0 then (⟨(roomP first n va l.toNat (2 - l.toNat) S).1.L ++ [⟨bas va l.toNat, l.toNat, e⟩], (roomP first n va l.toNat (2 - l.toNat) S).1.T, (roomP first n va l.toNat (2 - l.toNat) S).1.used⟩, 0) else roomP first n va l.toNat (2 - l.toNat) S := fun h h' => by rw [hZ, if_pos (by simp [h, h'])]
  clear hZ
  obtain ⟨CV, hCV⟩ : ∃ CV, CV = canN va := ⟨_, rfl⟩
  obtain ⟨MV, hMV⟩ : ∃ MV, MV = mayE e l := ⟨_, rfl⟩
  rw [← hCV] at h1 e1 e2
  rw [← hMV] at h2 e1 e2 hml
  have HCV := Lib.hid hCV; have HMV := Lib.hid hMV; have HT := Lib.hid h
  have H1 := Lib.hid h1; have H2 := Lib.hid h2; have H3 := Lib.hid h3; have H4 := Lib.hid h4; have E1 := Lib.hid e1; have E2 := Lib.hid e2; have HML := Lib.hid hml; have HME := Lib.hid hme
  clear h1 h2 h3 h4 e1 e2 hml hme hCV hMV h hva hl
  obtain ⟨P, hP⟩ : ∃ P, P = pv e := ⟨_, rfl⟩
  obtain ⟨EE, hEE⟩ : ∃ EE, EE = e := ⟨_, rfl⟩
  have HEE := Lib.hid hEE
  clear hEE hr hp
  rw [← hP] at H2 H4
  obtain ⟨v, r, x1, x, u, g, a, d, rsw, ppn⟩ := e
  unfold pv at hP ⊢
  dsimp only at hP ⊢
  subst hP
  go_enter Tryz.func75, Tryz.ntmps75
  go_wp2_with fail
  have nb0 := Blk.new w [.bool v, .bool r, .bool x1, .bool x, .bool u, .bool g, .bool a, .bool d, .int .i64 rsw, .int .u64 (ppn : Int)] 39
  have nls : Below w.heap.size w w := (Below.refl w.heap.size w)
  have nl0 := nls.alloc nls.size (.cells #[.bool v, .bool r, .bool x1, .bool x, .bool u, .bool g, .bool a, .bool d, .int .i64 rsw, .int .u64 (ppn : Int)] 39)
  have nl : Below w.heap.size w (w.alloc (.cells #[.bool v, .bool r, .bool x1, .bool x, .bool u, .bool g, .bool a, .bool d, .int .i64 rsw, .int .u64 (ppn : Int)] 39)) := nl0; clear nls nl0
  obtain ⟨B1, hB0⟩ : ∃ B, B = w.heap.size := ⟨_, rfl⟩
  obtain ⟨W1, hW⟩ : ∃ W, W = (w.alloc (.cells #[.bool v, .bool r, .bool x1, .bool x, .bool u, .bool g, .bool a, .bool d, .int .i64 rsw, .int .u64 (ppn : Int)] 39)) := ⟨_, rfl⟩
  rw [← hW] at nl nb0
  rw [← hB0] at nb0
  rw [← hW]
  try rw [← hB0]
  have K1_0 := Lib.hid nb0
  have G1 : Hid (w.heap.size ≤ B1) := Lib.hid (by have := (Nat.le_refl w.heap.size); omega)
  have L1 := Lib.hid nl
  clear nl hW nb0 hB0
  go_wp2_with fail
  refine (H1.out _).mono ?_
  rintro e w2 ⟨rfl, hb⟩
  have L2 := Lib.hid (L1.out.trans (hb.mono L1.out.size))
  have K2_0 := Lib.hid (K1_0.out.below hb K1_0.out.lt)
  clear hb K1_0
  cases CV
  · obtain rfl := E1.out (.inl rfl)
    go_wp2
    go_ret
    exact ⟨rfl, Fm, Gs, C, (HT.out.below L2.out).mono (by omega), Nx.below L2.out, Keep.refl C, fun _ h => h⟩
  · have m0_0 := K2_0.out.c0
    have m0_1 := K2_0.out.c1
    have m0_2 := K2_0.out.c2
    have m0_3 := K2_0.out.c3
    have m0_4 := K2_0.out.c4
    have m0_5 := K2_0.out.c5
    have m0_6 := K2_0.out.c6
    have m0_7 := K2_0.out.c7
    have m0_8 := K2_0.out.c8
    have m0_9 := K2_0.out.c9
    have mlt0 : B1 < w2.heap.size := K2_0.out.lt
    go_wp2_with fail
    clear m0_0 m0_1 m0_2 m0_3 m0_4 m0_5 m0_6 m0_7 m0_8 m0_9 mlt0
    refine (H2.out _).mono ?_
    rintro e w3 ⟨rfl, hb⟩
    have L3 := Lib.hid (L2.out.trans (hb.mono L2.out.size))
    have K3_0 := Lib.hid (K2_0.out.below hb K2_0.out.lt)
    clear hb K2_0
    cases MV
    · obtain rfl := E1.out (.inr rfl)
      go_wp2
      go_ret
      exact ⟨rfl, Fm, Gs, C, (HT.out.below L3.out).mono (by omega), Nx.below L3.out, Keep.refl C, fun _ h => h⟩
    · obtain ⟨l0, l3⟩ := HML.out (by trivial)
      obtain ⟨lv, rfl⟩ : ∃ k : Nat, l = k := ⟨l.toNat, by omega⟩
      have hz := E2.out (by trivial) (by trivial)
      rw [Int.toNat_natCast] at hz
      have hlv : lv < 3 := by omega
      have hrm := H3.out _ lv L3.out HCV.out.symm hlv
      have hm := HME.out lv rfl HMV.out.symm
      generalize roomP first n va lv (2 - lv) S = R at *
      obtain ⟨S1, er⟩ := R
      dsimp only at hrm hz
      have HZ := Lib.hid hz; have HR := Lib.hid hrm; have HM := Lib.hid hm
      clear hz hrm hm l0 l3
      go_wp2_with fail
      refine HR.out.mono ?_
      rintro e w9 ⟨A, rfl, Fm1, Gs1, C1, hT1, hN1, hk1, hs1, hpl⟩
      have hbx := K3_0.out.chg hN1.2 (fun hq => by
        obtain ⟨u0, hW0, _⟩ := HT.out
        have := hW0.lt _ hq
        have := G1.out
        omega)
      have HT1 := Lib.hid hT1; have HN1 := Lib.hid ((Nx.below (A := Fm) (B := Gs) (tp := tp) (mp := mp) L3.out).trans hN1); have HPL := Lib.hid hpl; have HBX := Lib.hid hbx; have HK1 := Lib.hid hk1; have HS1 := Lib.hid hs1
      clear hT1 hN1 hpl hbx hk1 hs1
      by_cases her : er = 0
      · subst her
        obtain ⟨f, hf, hA, hk, hpg⟩ := HPL.out rfl
        have hlay := H4.out w9 lv f Fm1 Gs1 C1 S1 HT1.out HCV.out.symm hlv (by first | exact HM.out | (rw [HEE.out]; exact HM.out)) hf hk hpg
        rw [← hA] at hlay
        have HLAY := Lib.hid hlay; clear hlay hf hA hk hpg
        have hz := HZ.out
        rw [if_pos rfl] at hz
        have HZ2 := Lib.hid hz; clear hz
        have m0_0 := HBX.out.c0
        have m0_1 := HBX.out.c1
        have m0_2 := HBX.out.c2
        have m0_3 := HBX.out.c3
        have m0_4 := HBX.out.c4
        have m0_5 := HBX.out.c5
        have m0_6 := HBX.out.c6
        have m0_7 := HBX.out.c7
        have m0_8 := HBX.out.c8
        have m0_9 := HBX.out.c9
        have mlt0 : B1 < w9.heap.size := HBX.out.lt
        go_wp2_with fail
        clear m0_0 m0_1 m0_2 m0_3 m0_4 m0_5 m0_6 m0_7 m0_8 m0_9 mlt0
        refine HLAY.out.mono ?_
        rintro e w10 ⟨rfl, F', C2, hT2, hN2, hk2⟩
        have HT2 := Lib.hid hT2; have HN2 := Lib.hid (HN1.out.trans hN2); have HK2 := Lib.hid (HK1.out.trans hk2 (fun _ h => h)); clear hT2 hN2 hk2
        go_wp2
        go_ret
        rw [HZ2.out]
        exact ⟨rfl, F', Gs1, C2, HT2.out, HN2.out, HK2.out, HS1.out⟩
      · have her2 : (er != 0) = true := by simp [her]
        have hz := HZ.out
        rw [if_neg her] at hz
        have HZ2 := Lib.hid hz; clear hz
        go_wp2
        go_ret
        rw [HZ2.out]
        exact ⟨rfl, Fm1, Gs1, C1, HT1.out.mono (by omega), HN1.out, HK1.out, HS1.out⟩
end Go.Proofs.YtgnjbjbgfhjakaaGreat

namespace Go.Proofs.YtgnjbjbgfhjakaaGreat
open Go.RowKit
set_option linter.unusedVariables false
set_option linter.unusedSimpArgs false
attribute [local go_sem] setCell_drewN alloc_drewN

theorem pag_at {L : List Pg} {va l i : Nat} (h : pagI L va l = some i) : ∃ hi : i < L.length, pg L va l = some L[i] ∧ L[i].lv = l := by
  obtain ⟨hi, hp, hf⟩ := idx_some h
  exact ⟨hi, hf, (isP_iff.1 hp).1⟩
theorem hold_idx {L : List Pg} {va : Nat} {m : Pg} (h : holdP L va = some m) : ∃ i, hold L va = some i ∧ pagI L va m.lv = some i ∧ entOf L i = m := by
  unfold holdP at h
  unfold hold
  split at h
  · rename_i hc
    rw [if_pos hc]
    cases h0 : pagI L va 0 with
    | some i =>
      obtain ⟨hi, hp, hl⟩ := pag_at h0
      rw [hp] at h
      obtain rfl := Option.some.inj h
      exact ⟨i, rfl, by rw [hl]; exact h0, entOf_at hi⟩
    | none =>
      have p0 : pg L va 0 = none := idx_none.1 h0
      rw [p0] at h
      cases h1 : pagI L va 1 with
      | some i =>
        obtain ⟨hi, hp, hl⟩ := pag_at h1
        rw [hp] at h
        obtain rfl := Option.some.inj h
        exact ⟨i, rfl, by rw [hl]; exact h1, entOf_at hi⟩
      | none =>
        have p1 : pg L va 1 = none := idx_none.1 h1
        rw [p1] at h
        cases h2 : pagI L va 2 with
        | some i =>
          obtain ⟨hi, hp, hl⟩ := pag_at h2
          rw [hp] at h
          obtain rfl := Option.some.inj h
          exact ⟨i, rfl, by rw [hl]; exact h2, entOf_at hi⟩
        | none =>
          have p2 : pg L va 2 = none := idx_none.1 h2
          rw [p2] at h
          cases h
  · cases h
theorem hold_no {L : List Pg} {va : Nat} (h : holdP L va = none) : hold L va = none := by
  unfold holdP at h
  unfold hold
  split at h
  · rename_i hc
    rw [if_pos hc]
    have key : ∀ l, pg L va l = none → pagI L va l = none := fun l h => idx_none.2 h
    cases p0 : pg L va 0 with
    | some m => rw [p0] at h; cases h
    | none =>
      rw [p0] at h
      cases p1 : pg L va 1 with
      | some m => rw [p1] at h; cases h
      | none =>
        rw [p1] at h
        cases p2 : pg L va 2 with
        | some m => rw [p2] at h; cases h
        | none => rw [key 0 p0, key 1 p1, key 2 p2]; rfl
  · rename_i hc; rw [if_neg hc]
/-- what Find answers, said by the tables -/
theorem find13_two {first n : Nat} {w : World} {tp mp sp : Nat} {Fm Gs : Nat → Prop} {C : Nat → List Int} {S : Tt} {c : Nat} (va : Nat) (h : TS first n w tp mp sp Fm Gs C S c) (hva : va < 18446744073709551616) :
    (∃ m f i, holdP S.L va = some m ∧ hold S.L va = some i ∧ entOf S.L i = m ∧ pagI S.L va m.lv = some i ∧ m.lv < 3 ∧ m.va = bas va m.lv ∧ canN va = true ∧ frmT first S.T va m.lv = some f ∧ fitE m.e = true ∧
      ∀ w', Below w.heap.size w w' → Calls Tryz.prog 40 #[.pointer (some ⟨tp, 0, none⟩), .int .u64 (va : Int)] w' fun r w'' => r = .returned (.tuple #[lfv ⟨m.e, m.lv, f * 4096 + 8 * fld va (12 + 9 * m.lv) 9⟩, .int .i64 0]) ∧ Below w'.heap.size w' w'') ∨
    (holdP S.L va = none ∧ hold S.L va = none ∧ ∀ w', Below w.heap.size w w' → Calls Tryz.prog 40 #[.pointer (some ⟨tp, 0, none⟩), .int .u64 (va : Int)] w' fun r w'' => r = .returned (.tuple #[lfv zl, .int .i64 51]) ∧ Below w'.heap.size w' w'') := by
  obtain ⟨ut, hW, hR⟩ := h
  have h1 := fun w' (hb : Below w.heap.size w w') => find13_any va (by have := hR.rootLt; have := hR.fits; have := hR.most; omega) (hW.below hb) hva
  unfold findW at h1
  cases hc : canN va with
  | false =>
    have hn : holdP S.L va = none := by unfold holdP; rw [hc]; rfl
    rw [hc] at h1
    exact .inr ⟨hn, hold_no hn, h1⟩
  | true =>
    rw [hc] at h1
    replace h1 : ∀ w', Below w.heap.size w w' → Calls Tryz.prog 40 #[.pointer (some ⟨tp, 0, none⟩), .int .u64 (va : Int)] w' fun r w'' => r = .returned (.tuple #[lfv (fnd n (Mw C) va 3 first).1, .int .i64 ((fnd n (Mw C) va 3 first).2 : Nat)]) ∧ Below w'.heap.size w' w'' := h1
    rcases fnd_hold hR hc with ⟨m, l, f, hh, rfl, hl, hp, hf, he⟩ | ⟨hh, he⟩
    · obtain ⟨i, hi, hpi, hen⟩ := hold_idx hh
      obtain ⟨hm, _, hmva⟩ := pg_mem hp
      rw [he] at h1
      exact .inl ⟨m, f, i, hh, hi, hen, hpi, hl, hmva, rfl, hf, (may_parts (hR.pagesOk m hm).2.2.2.1).2.1, h1⟩
    · rw [he] at h1
      exact .inr ⟨hh, hold_no hh, h1⟩
theorem lay13_at {first n : Nat} {w : World} {tp mp sp : Nat} {Fm Gs : Nat → Prop} {C : Nat → List Int} {S : Tt} {c : Nat} (va : Nat) (e e2 : Ent) (f : Nat) (lv : Nat) (hva : va < 18446744073709551616) (hr : -9223372036854775808 ≤ e.rsw ∧ e.rsw ≤ 9223372036854775807) (hp : e.ppn < 18446744073709551616) (hn : c < 970) (S' : Tt) (hu : S'.used = S.used)
    (hR2 : RT first n (Mw C) S → (∀ g, (C g).length = 4096) → RT first n (Mw (stC n C (f * 4096 + 8 * fld va (12 + 9 * lv) 9) 8 ((wordE e : Nat) : Int))) S')
    (h : TS first n w tp mp sp Fm Gs C S c) (hf : frmT first S.T va lv = some f) :
    Calls Tryz.prog 99 #[.pointer (some ⟨tp, 0, none⟩), .int .u64 ((f * 4096 + 8 * fld va (12 + 9 * lv) 9 : Nat) : Int), pv e] w fun r w'' => r = .returned (.int .i64 0) ∧ ∃ F' C', TS first n w'' tp mp sp F' Gs C' S' (c + 1) ∧ Nx w w'' tp mp Fm Gs F' Gs ∧ Keep first S.T C C' := by
  obtain ⟨ut, hW, hR⟩ := h
  have hfl := frm_lt hR hf
  have hp9 := place_frame f (fld9 va lv)
  refine (lay13_any tp mp sp n c (f * 4096 + 8 * fld va (12 + 9 * lv) 9) first ut e C Fm w hW.blk hW.mem (place_8 _ _) (by rw [hp9]; exact hfl.2.1) (by omega) hW.mt hr hp).mono ?_
  rintro r w'' ⟨rfl, F', hM, hx, hc'⟩
  have hw := hW.wrote hM hx hc'
  rw [← hu] at hw
  exact ⟨rfl, F', _, ⟨ut, hw.1, hR2 hR (fun g => (hW.mem.byt g).2)⟩, hw.2, fun q hq => stC_frame (fld9 va lv) (fun e => hq (e ▸ frm_tf hf))⟩
set_option maxHeartbeats 8000000 in
theorem change13_any {first n : Nat} {w : World} {tp mp sp : Nat} {Fm Gs : Nat → Prop} {C : Nat → List Int} {S : Tt} {c : Nat} (va : Nat) (e : Ent) (h : TS first n w tp mp sp Fm Gs C S c) (hva : va < 18446744073709551616) (hr : -9223372036854775808 ≤ e.rsw ∧ e.rsw ≤ 9223372036854775807) (hp : e.ppn < 18446744073709551616) (hn : c < 970) :
    Calls Tryz.prog 76 #[.pointer (some ⟨tp, 0, none⟩), .int .u64 (va : Int), pv e] w fun r w' => r = .returned (.int .i64 (chgT va e S).2) ∧ ∃ Fm' Gs' C', TS first n w' tp mp sp Fm' Gs' C' (chgT va e S).1 (c + 5) ∧ Nx w w' tp mp Fm Gs Fm' Gs' ∧ Keep first (chgT va e S).1.T C C' ∧ Sub S.T (chgT va e S).1.T := by
  have HT := Lib.hid h
  rcases find13_two va h hva with ⟨m, f, i, hh, hi, hen, hpi, hl, hmva, hc, hf, hfit, h1⟩ | ⟨hh, hi, h1⟩
  · have hz : chgT va e S = if mayE e m.lv then (⟨setE S.L i e, S.T, S.used⟩, 0) else (S, 2) := by
      unfold chgT; rw [hi]; dsimp only; rw [hen]
    have hse : setE S.L i e = S.L.set i ⟨bas va m.lv, m.lv, e⟩ := by unfold setE; rw [hen, hmva]
    rw [hz, hse]
    have h2 := fun w => page13_any e m.lv w hr hp
    have h3 := fun (w' : World) (hb : Below w.heap.size w w') (hm : mayE e m.lv = true) => lay13_at (S := S) va e e f m.lv hva hr hp hn ⟨S.L.set i ⟨bas va m.lv, m.lv, e⟩, S.T, S.used⟩ rfl (fun hR hlen => change13 hR hlen hc hl hf hm hpi) (h.below hb) hf
    generalize mayE e m.lv = MV at *
    obtain ⟨S2, hS2⟩ : ∃ S2 : Tt, S2 = ⟨S.L.set i ⟨bas va m.lv, m.lv, e⟩, S.T, S.used⟩ := ⟨_, rfl⟩
    have hS2t : S2.T = S.T := by rw [hS2]
    rw [← hS2] at h3 ⊢
    have HS2T := Lib.hid hS2t
    clear hS2 hS2t
    generalize f * 4096 + 8 * fld va (12 + 9 * m.lv) 9 = A at *
    clear hh hi hen hpi hmva hc hf hz hse h
    obtain ⟨v, r, x1, x, u, g, a, d, rsw, ppn⟩ := e
    obtain ⟨mva, lv, ⟨v2, r2, y2, x2, u2, g2, a2, d2, rsw2, ppn2⟩⟩ := m
    unfold pv lfv at *
    dsimp only at *
    have H1 := Lib.hid h1; have H2 := Lib.hid h2; have H3 := Lib.hid h3; clear h1 h2 h3 hva hr hp hl hfit
    go_enter Tryz.func76, Tryz.ntmps76
    go_wp2_with fail
    have nb0 := Blk.new w [.bool v, .bool r, .bool x1, .bool x, .bool u, .bool g, .bool a, .bool d, .int .i64 rsw, .int .u64 (ppn : Int)] 39
    have nls : Below w.heap.size w w := (Below.refl w.heap.size w)
    have nl0 := nls.alloc nls.size (.cells #[.bool v, .bool r, .bool x1, .bool x, .bool u, .bool g, .bool a, .bool d, .int .i64 rsw, .int .u64 (ppn : Int)] 39)
    have nl : Below w.heap.size w (w.alloc (.cells #[.bool v, .bool r, .bool x1, .bool x, .bool u, .bool g, .bool a, .bool d, .int .i64 rsw, .int .u64 (ppn : Int)] 39)) := nl0; clear nls nl0
    obtain ⟨B1, hB0⟩ : ∃ B, B = w.heap.size := ⟨_, rfl⟩
    obtain ⟨W1, hW⟩ : ∃ W, W = (w.alloc (.cells #[.bool v, .bool r, .bool x1, .bool x, .bool u, .bool g, .bool a, .bool d, .int .i64 rsw, .int .u64 (ppn : Int)] 39)) := ⟨_, rfl⟩
    rw [← hW] at nl nb0
    rw [← hB0] at nb0
    rw [← hW]
    try rw [← hB0]
    have K1_0 := Lib.hid nb0
    have G1 : Hid (w.heap.size ≤ B1) := Lib.hid (by have := (Nat.le_refl w.heap.size); omega)
    have L1 := Lib.hid nl
    clear nl hW nb0 hB0
    refine (H1.out _ L1.out).mono ?_
    rintro e w2 ⟨rfl, hb⟩
    have L2 := Lib.hid (L1.out.trans (hb.mono L1.out.size))
    have K2_0 := Lib.hid (K1_0.out.below hb K1_0.out.lt)
    clear hb K1_0
    go_upto_region 2 with (fail)
    have nb0 := Blk.new w2 [.bool v2, .bool r2, .bool y2, .bool x2, .bool u2, .bool g2, .bool a2, .bool d2, .int .i64 rsw2, .int .u64 (ppn2 : Int), .int .i64 (lv : Int), .int .u64 (A : Int)] 41
    have nls : Below w.heap.size w w2 := L2.out
    have nl0 := nls.alloc nls.size (.cells #[.bool v2, .bool r2, .bool y2, .bool x2, .bool u2, .bool g2, .bool a2, .bool d2, .int .i64 rsw2, .int .u64 (ppn2 : Int), .int .i64 (lv : Int), .int .u64 (A : Int)] 41)
    have nl : Below w.heap.size w (w2.alloc (.cells #[.bool v2, .bool r2, .bool y2, .bool x2, .bool u2, .bool g2, .bool a2, .bool d2, .int .i64 rsw2, .int .u64 (ppn2 : Int), .int .i64 (lv : Int), .int .u64 (A : Int)] 41)) := nl0; clear nls nl0
    have o0 := (K2_0.out.alloc (.cells #[.bool v2, .bool r2, .bool y2, .bool x2, .bool u2, .bool g2, .bool a2, .bool d2, .int .i64 rsw2, .int .u64 (ppn2 : Int), .int .i64 (lv : Int), .int .u64 (A : Int)] 41))
    have d3_0 : B1 < w2.heap.size := K2_0.out.lt
    obtain ⟨B3, hB0⟩ : ∃ B, B = w2.heap.size := ⟨_, rfl⟩
    obtain ⟨W3, hW⟩ : ∃ W, W = (w2.alloc (.cells #[.bool v2, .bool r2, .bool y2, .bool x2, .bool u2, .bool g2, .bool a2, .bool d2, .int .i64 rsw2, .int .u64 (ppn2 : Int), .int .i64 (lv : Int), .int .u64 (A : Int)] 41)) := ⟨_, rfl⟩
    rw [← hW] at nl nb0 o0
    rw [← hB0] at nb0
    rw [← hW]
    try rw [← hB0]
    have K3_0 := Lib.hid o0
    have K3_1 := Lib.hid nb0
    have G3 : Hid (w.heap.size ≤ B3) := Lib.hid (by have := L2.out.size; omega)
    have x3_0_0 : B1 ≠ B3 := by omega
    have X3_0_0 := Lib.hid x3_0_0; clear x3_0_0
    have L3 := Lib.hid nl
    clear nl hW nb0 hB0 o0 d3_0 K2_0
    have m0_0 := K3_0.out.c0
    have m0_1 := K3_0.out.c1
    have m0_2 := K3_0.out.c2
    have m0_3 := K3_0.out.c3
    have m0_4 := K3_0.out.c4
    have m0_5 := K3_0.out.c5
    have m0_6 := K3_0.out.c6
    have m0_7 := K3_0.out.c7
    have m0_8 := K3_0.out.c8
    have m0_9 := K3_0.out.c9
    have mlt0 : B1 < W3.heap.size := K3_0.out.lt
    have m1_0 := K3_1.out.c0
    have m1_1 := K3_1.out.c1
    have m1_2 := K3_1.out.c2
    have m1_3 := K3_1.out.c3
    have m1_4 := K3_1.out.c4
    have m1_5 := K3_1.out.c5
    have m1_6 := K3_1.out.c6
    have m1_7 := K3_1.out.c7
    have m1_8 := K3_1.out.c8
    have m1_9 := K3_1.out.c9
    have m1_10 := K3_1.out.c10
    have m1_11 := K3_1.out.c11
    have mlt1 : B3 < W3.heap.size := K3_1.out.lt
    go_wp2_with fail
    clear m0_0 m0_1 m0_2 m0_3 m0_4 m0_5 m0_6 m0_7 m0_8 m0_9 mlt0 m1_0 m1_1 m1_2 m1_3 m1_4 m1_5 m1_6 m1_7 m1_8 m1_9 m1_10 m1_11 mlt1
    refine (H2.out _).mono ?_
    rintro e w4 ⟨rfl, hb⟩
    have L4 := Lib.hid (L3.out.trans (hb.mono L3.out.size))
    have K4_0 := Lib.hid (K3_0.out.below hb K3_0.out.lt)
    have K4_1 := Lib.hid (K3_1.out.below hb K3_1.out.lt)
    clear hb K3_0 K3_1
    cases MV
    · go_wp2
      go_ret
      exact ⟨rfl, Fm, Gs, C, (HT.out.below L4.out).mono (by omega), Nx.below L4.out, Keep.refl C, fun _ h => h⟩
    · have m0_0 := K4_0.out.c0
      have m0_1 := K4_0.out.c1
      have m0_2 := K4_0.out.c2
      have m0_3 := K4_0.out.c3
      have m0_4 := K4_0.out.c4
      have m0_5 := K4_0.out.c5
      have m0_6 := K4_0.out.c6
      have m0_7 := K4_0.out.c7
      have m0_8 := K4_0.out.c8
      have m0_9 := K4_0.out.c9
      have mlt0 : B1 < w4.heap.size := K4_0.out.lt
      have m1_0 := K4_1.out.c0
      have m1_1 := K4_1.out.c1
      have m1_2 := K4_1.out.c2
      have m1_3 := K4_1.out.c3
      have m1_4 := K4_1.out.c4
      have m1_5 := K4_1.out.c5
      have m1_6 := K4_1.out.c6
      have m1_7 := K4_1.out.c7
      have m1_8 := K4_1.out.c8
      have m1_9 := K4_1.out.c9
      have m1_10 := K4_1.out.c10
      have m1_11 := K4_1.out.c11
      have mlt1 : B3 < w4.heap.size := K4_1.out.lt
      go_wp2_with fail
      clear m0_0 m0_1 m0_2 m0_3 m0_4 m0_5 m0_6 m0_7 m0_8 m0_9 mlt0 m1_0 m1_1 m1_2 m1_3 m1_4 m1_5 m1_6 m1_7 m1_8 m1_9 m1_10 m1_11 mlt1
      refine (H3.out _ L4.out (by trivial)).mono ?_
      rintro e w10 ⟨rfl, F', C2, hT2, hN2, hk2⟩
      have HT2 := Lib.hid hT2; have HN2 := Lib.hid ((Nx.below (A := Fm) (B := Gs) (tp := tp) (mp := mp) L4.out).trans hN2); have HK2 := Lib.hid hk2; clear hT2 hN2 hk2
      go_wp2
      go_ret
      exact ⟨rfl, F', Gs, C2, HT2.out.mono (by omega), HN2.out, by rw [HS2T.out]; exact HK2.out, by rw [HS2T.out]; exact fun _ h => h⟩
  · have hz : chgT va e S = (S, 51) := by unfold chgT; rw [hi]
    rw [hz]
    clear hh hi hz h hr hp hva
    obtain ⟨v, r, x1, x, u, g, a, d, rsw, ppn⟩ := e
    unfold pv lfv zl at *
    dsimp only at *
    have H1 := Lib.hid h1; clear h1
    go_enter Tryz.func76, Tryz.ntmps76
    go_wp2_with fail
    have nb0 := Blk.new w [.bool v, .bool r, .bool x1, .bool x, .bool u, .bool g, .bool a, .bool d, .int .i64 rsw, .int .u64 (ppn : Int)] 39
    have nls : Below w.heap.size w w := (Below.refl w.heap.size w)
    have nl0 := nls.alloc nls.size (.cells #[.bool v, .bool r, .bool x1, .bool x, .bool u, .bool g, .bool a, .bool d, .int .i64 rsw, .int .u64 (ppn : Int)] 39)
    have nl : Below w.heap.size w (w.alloc (.cells #[.bool v, .bool r, .bool x1, .bool x, .bool u, .bool g, .bool a, .bool d, .int .i64 rsw, .int .u64 (ppn : Int)] 39)) := nl0; clear nls nl0
    obtain ⟨B1, hB0⟩ : ∃ B, B = w.heap.size := ⟨_, rfl⟩
    obtain ⟨W1, hW⟩ : ∃ W, W = (w.alloc (.cells #[.bool v, .bool r, .bool x1, .bool x, .bool u, .bool g, .bool a, .bool d, .int .i64 rsw, .int .u64 (ppn : Int)] 39)) := ⟨_, rfl⟩
    rw [← hW] at nl nb0
    rw [← hB0] at nb0
    rw [← hW]
    try rw [← hB0]
    have K1_0 := Lib.hid nb0
    have G1 : Hid (w.heap.size ≤ B1) := Lib.hid (by have := (Nat.le_refl w.heap.size); omega)
    have L1 := Lib.hid nl
    clear nl hW nb0 hB0
    refine (H1.out _ L1.out).mono ?_
    rintro e w2 ⟨rfl, hb⟩
    have L2 := Lib.hid (L1.out.trans (hb.mono L1.out.size))
    have K2_0 := Lib.hid (K1_0.out.below hb K1_0.out.lt)
    clear hb K1_0
    go_upto_region 2 with (fail)
    have nb0 := Blk.new w2 [.bool false, .bool false, .bool false, .bool false, .bool false, .bool false, .bool false, .bool false, .int .i64 0, .int .u64 0, .int .i64 0, .int .u64 0] 41
    have nls : Below w.heap.size w w2 := L2.out
    have nl0 := nls.alloc nls.size (.cells #[.bool false, .bool false, .bool false, .bool false, .bool false, .bool false, .bool false, .bool false, .int .i64 0, .int .u64 0, .int .i64 0, .int .u64 0] 41)
    have nl : Below w.heap.size w (w2.alloc (.cells #[.bool false, .bool false, .bool false, .bool false, .bool false, .bool false, .bool false, .bool false, .int .i64 0, .int .u64 0, .int .i64 0, .int .u64 0] 41)) := nl0; clear nls nl0
    have o0 := (K2_0.out.alloc (.cells #[.bool false, .bool false, .bool false, .bool false, .bool false, .bool false, .bool false, .bool false, .int .i64 0, .int .u64 0, .int .i64 0, .int .u64 0] 41))
    have d3_0 : B1 < w2.heap.size := K2_0.out.lt
    obtain ⟨B3, hB0⟩ : ∃ B, B = w2.heap.size := ⟨_, rfl⟩
    obtain ⟨W3, hW⟩ : ∃ W, W = (w2.alloc (.cells #[.bool false, .bool false, .bool false, .bool false, .bool false, .bool false, .bool false, .bool false, .int .i64 0, .int .u64 0, .int .i64 0, .int .u64 0] 41)) := ⟨_, rfl⟩
    rw [← hW] at nl nb0 o0
    rw [← hB0] at nb0
    rw [← hW]
    try rw [← hB0]
    have K3_0 := Lib.hid o0
    have K3_1 := Lib.hid nb0
    have G3 : Hid (w.heap.size ≤ B3) := Lib.hid (by have := L2.out.size; omega)
    have x3_0_0 : B1 ≠ B3 := by omega
    have X3_0_0 := Lib.hid x3_0_0; clear x3_0_0
    have L3 := Lib.hid nl
    clear nl hW nb0 hB0 o0 d3_0 K2_0
    go_wp2
    go_ret
    exact ⟨rfl, Fm, Gs, C, (HT.out.below L3.out).mono (by omega), Nx.below L3.out, Keep.refl C, fun _ h => h⟩
theorem load_lfpte {w : World} {b : Nat} {c0 c1 c2 c3 c4 c5 c6 c7 c8 c9 c10 c11 : Value} (h : Blk w b [c0, c1, c2, c3, c4, c5, c6, c7, c8, c9, c10, c11] 41) : (Instr.loadAt 39 (.pointer (some ⟨b, 0, none⟩))).run Tryz.prog w = .ok (.agg #[c0, c1, c2, c3, c4, c5, c6, c7, c8, c9]) w := by
  have h0 : w.cell? ⟨b, 0, none⟩ = some c0 := h.cell 0
  have h1 : w.cell? ⟨b, 1, none⟩ = some c1 := h.cell 1
  have h2 : w.cell? ⟨b, 2, none⟩ = some c2 := h.cell 2
  have h3 : w.cell? ⟨b, 3, none⟩ = some c3 := h.cell 3
  have h4 : w.cell? ⟨b, 4, none⟩ = some c4 := h.cell 4
  have h5 : w.cell? ⟨b, 5, none⟩ = some c5 := h.cell 5
  have h6 : w.cell? ⟨b, 6, none⟩ = some c6 := h.cell 6
  have h7 : w.cell? ⟨b, 7, none⟩ = some c7 := h.cell 7
  have h8 : w.cell? ⟨b, 8, none⟩ = some c8 := h.cell 8
  have h9 : w.cell? ⟨b, 9, none⟩ = some c9 := h.cell 9
  have h10 : w.cell? ⟨b, 10, none⟩ = some c10 := h.cell 10
  have h11 : w.cell? ⟨b, 11, none⟩ = some c11 := h.cell 11
  clear h
  go_simp
theorem yield_lfpte {w : World} {b : Nat} {c0 c1 c2 c3 c4 c5 c6 c7 c8 c9 c10 c11 : Value} (a : Act) (o : Oper) (x : Operand) (ho : o.op = .load 39 x) (hx : a.eval x = .pointer (some ⟨b, 0, none⟩)) (h : Blk w b [c0, c1, c2, c3, c4, c5, c6, c7, c8, c9, c10, c11] 41) :
    (execOp a.eval o).run Tryz.prog w = .ok (.value (.agg #[c0, c1, c2, c3, c4, c5, c6, c7, c8, c9])) w := by
  have e := load_lfpte h
  obtain ⟨op, _, _, _, _, _⟩ := o
  dsimp only at ho
  subst ho
  unfold execOp
  simp only [hx]
  simp [e]
theorem load_lfat {w : World} {b : Nat} {c0 c1 c2 c3 c4 c5 c6 c7 c8 c9 c10 c11 : Value} (h : Blk w b [c0, c1, c2, c3, c4, c5, c6, c7, c8, c9, c10, c11] 41) : (Instr.loadAt 37 (.pointer (some ⟨b, 11, none⟩))).run Tryz.prog w = .ok (c11) w := by
  have h0 : w.cell? ⟨b, 0, none⟩ = some c0 := h.cell 0
  have h1 : w.cell? ⟨b, 1, none⟩ = some c1 := h.cell 1
  have h2 : w.cell? ⟨b, 2, none⟩ = some c2 := h.cell 2
  have h3 : w.cell? ⟨b, 3, none⟩ = some c3 := h.cell 3
  have h4 : w.cell? ⟨b, 4, none⟩ = some c4 := h.cell 4
  have h5 : w.cell? ⟨b, 5, none⟩ = some c5 := h.cell 5
  have h6 : w.cell? ⟨b, 6, none⟩ = some c6 := h.cell 6
  have h7 : w.cell? ⟨b, 7, none⟩ = some c7 := h.cell 7
  have h8 : w.cell? ⟨b, 8, none⟩ = some c8 := h.cell 8
  have h9 : w.cell? ⟨b, 9, none⟩ = some c9 := h.cell 9
  have h10 : w.cell? ⟨b, 10, none⟩ = some c10 := h.cell 10
  have h11 : w.cell? ⟨b, 11, none⟩ = some c11 := h.cell 11
  clear h
  go_simp
theorem yield_lfat {w : World} {b : Nat} {c0 c1 c2 c3 c4 c5 c6 c7 c8 c9 c10 c11 : Value} (a : Act) (o : Oper) (x : Operand) (ho : o.op = .load 37 x) (hx : a.eval x = .pointer (some ⟨b, 11, none⟩)) (h : Blk w b [c0, c1, c2, c3, c4, c5, c6, c7, c8, c9, c10, c11] 41) :
    (execOp a.eval o).run Tryz.prog w = .ok (.value (c11)) w := by
  have e := load_lfat h
  obtain ⟨op, _, _, _, _, _⟩ := o
  dsimp only at ho
  subst ho
  unfold execOp
  simp only [hx]
  simp [e]
set_option maxHeartbeats 8000000 in
theorem unmap13_any {first n : Nat} {w : World} {tp mp sp : Nat} {Fm Gs : Nat → Prop} {C : Nat → List Int} {S : Tt} {c : Nat} (va : Nat) (h : TS first n w tp mp sp Fm Gs C S c) (hva : va < 18446744073709551616) (hn : c < 970) :
    Calls Tryz.prog 72 #[.pointer (some ⟨tp, 0, none⟩), .int .u64 (va : Int)] w fun r w' => r = .returned (.tuple #[pv (unmT va S).2.1, .int .i64 (unmT va S).2.2]) ∧ ∃ Fm' Gs' C', TS first n w' tp mp sp Fm' Gs' C' (unmT va S).1 (c + 5) ∧ Nx w w' tp mp Fm Gs Fm' Gs' ∧ Keep first (unmT va S).1.T C C' ∧ Sub S.T (unmT va S).1.T := by
  have HT := Lib.hid h
  have HLT : Hid (∀ j, FpW tp mp Fm Gs j → j < w.heap.size) := Lib.hid (by obtain ⟨u0, hW0, _⟩ := h; exact hW0.lt)
  rcases find13_two va h hva with ⟨m, f, i, hh, hi, hen, hpi, hl, hmva, hc, hf, hfit, h1⟩ | ⟨hh, hi, h1⟩
  · have hz : unmT va S = (⟨S.L.eraseIdx i, S.T, S.used⟩, m.e, 0) := by
      unfold unmT; rw [hi]; dsimp only; rw [hen]
    rw [hz]
    have h3 := fun (w' : World) (hb : Below w.heap.size w w') => lay13_at (S := S) va zeE zeE f m.lv hva (by decide) (by decide) hn ⟨S.L.eraseIdx i, S.T, S.used⟩ rfl (fun hR hlen => remove13 hR hlen hc hl hf hpi) (h.below hb) hf
    obtain ⟨S2, hS2⟩ : ∃ S2 : Tt, S2 = ⟨S.L.eraseIdx i, S.T, S.used⟩ := ⟨_, rfl⟩
    have hS2t : S2.T = S.T := by rw [hS2]
    rw [← hS2] at h3 ⊢
    have HS2T := Lib.hid hS2t
    clear hS2 hS2t
    generalize f * 4096 + 8 * fld va (12 + 9 * m.lv) 9 = A at *
    clear hh hi hen hpi hmva hc hf hz h
    obtain ⟨mva, lv, ⟨v2, r2, y2, x2, u2, g2, a2, d2, rsw2, ppn2⟩⟩ := m
    unfold pv lfv zeE at *
    dsimp only at *
    have H1 := Lib.hid h1; have H3 := Lib.hid h3; clear h1 h3 hva hl hfit
    go_enter Tryz.func72, Tryz.ntmps72
    go_wp2_with fail
    have nb0 := Blk.new w [.bool false, .bool false, .bool false, .bool false, .bool false, .bool false, .bool false, .bool false, .int .i64 0, .int .u64 0] 39
    have nls : Below w.heap.size w w := (Below.refl w.heap.size w)
    have nl0 := nls.alloc nls.size (.cells #[.bool false, .bool false, .bool false, .bool false, .bool false, .bool false, .bool false, .bool false, .int .i64 0, .int .u64 0] 39)
    have nl : Below w.heap.size w (w.alloc (.cells #[.bool false, .bool false, .bool false, .bool false, .bool false, .bool false, .bool false, .bool false, .int .i64 0, .int .u64 0] 39)) := nl0; clear nls nl0
    obtain ⟨B1, hB0⟩ : ∃ B, B = w.heap.size := ⟨_, rfl⟩
    obtain ⟨W1, hW⟩ : ∃ W, W = (w.alloc (.cells #[.bool false, .bool false, .bool false, .bool false, .bool false, .bool false, .bool false, .bool false, .int .i64 0, .int .u64 0] 39)) := ⟨_, rfl⟩
    rw [← hW] at nl nb0
    rw [← hB0] at nb0
    rw [← hW]
    try rw [← hB0]
    have K1_0 := Lib.hid nb0
    have G1 : Hid (w.heap.size ≤ B1) := Lib.hid (by have := (Nat.le_refl w.heap.size); omega)
    have L1 := Lib.hid nl
    clear nl hW nb0 hB0
    refine (H1.out _ L1.out).mono ?_
    rintro e w2 ⟨rfl, hb⟩
    have L2 := Lib.hid (L1.out.trans (hb.mono L1.out.size))
    have K2_0 := Lib.hid (K1_0.out.below hb K1_0.out.lt)
    clear hb K1_0
    go_upto_region 2 with (fail)
    have nb0 := Blk.new w2 [.bool v2, .bool r2, .bool y2, .bool x2, .bool u2, .bool g2, .bool a2, .bool d2, .int .i64 rsw2, .int .u64 (ppn2 : Int), .int .i64 (lv : Int), .int .u64 (A : Int)] 41
    have nls : Below w.heap.size w w2 := L2.out
    have nl0 := nls.alloc nls.size (.cells #[.bool v2, .bool r2, .bool y2, .bool x2, .bool u2, .bool g2, .bool a2, .bool d2, .int .i64 rsw2, .int .u64 (ppn2 : Int), .int .i64 (lv : Int), .int .u64 (A : Int)] 41)
    have nl : Below w.heap.size w (w2.alloc (.cells #[.bool v2, .bool r2, .bool y2, .bool x2, .bool u2, .bool g2, .bool a2, .bool d2, .int .i64 rsw2, .int .u64 (ppn2 : Int), .int .i64 (lv : Int), .int .u64 (A : Int)] 41)) := nl0; clear nls nl0
    have o0 := (K2_0.out.alloc (.cells #[.bool v2, .bool r2, .bool y2, .bool x2, .bool u2, .bool g2, .bool a2, .bool d2, .int .i64 rsw2, .int .u64 (ppn2 : Int), .int .i64 (lv : Int), .int .u64 (A : Int)] 41))
    have d3_0 : B1 < w2.heap.size := K2_0.out.lt
    obtain ⟨B3, hB0⟩ : ∃ B, B = w2.heap.size := ⟨_, rfl⟩
    obtain ⟨W3, hW⟩ : ∃ W, W = (w2.alloc (.cells #[.bool v2, .bool r2, .bool y2, .bool x2, .bool u2, .bool g2, .bool a2, .bool d2, .int .i64 rsw2, .int .u64 (ppn2 : Int), .int .i64 (lv : Int), .int .u64 (A : Int)] 41)) := ⟨_, rfl⟩
    rw [← hW] at nl nb0 o0
    rw [← hB0] at nb0
    rw [← hW]
    try rw [← hB0]
    have K3_0 := Lib.hid o0
    have K3_1 := Lib.hid nb0
    have G3 : Hid (w.heap.size ≤ B3) := Lib.hid (by have := L2.out.size; omega)
    have x3_0_0 : B1 ≠ B3 := by omega
    have X3_0_0 := Lib.hid x3_0_0; clear x3_0_0
    have L3 := Lib.hid nl
    clear nl hW nb0 hB0 o0 d3_0 K2_0
    go_wp2_with fail
    refine wp_region_held_drew (S := fun w' => Blk w' B3 [.bool v2, .bool r2, .bool y2, .bool x2, .bool u2, .bool g2, .bool a2, .bool d2, .int .i64 rsw2, .int .u64 (ppn2 : Int), .int .i64 (lv : Int), .int .u64 (A : Int)] 41) (by kernel_rfl) K3_1.out (fun hHeld => ?_)
    simp only [List.size_toArray, List.length_cons, List.length_nil, Nat.reduceAdd]
    rw [show Array.replicate 9 false = [false, false, false, false, false, false, false, false, false].toArray from rfl]
    refine wpAnyH_take (i := 0) (v := ?_) rfl (by kernel_rfl) (by kernel_rfl) (by kernel_rfl) (fun _ _ _ h => h) (Or.inl ⟨by rfl, ?yldq⟩) (by assumption) ?_
    case yldq => (intro w hSw; (try dsimp only at hSw); go_simp; try with_reducible rfl)
    try simp only [Act.put, List.setIfInBounds_toArray, List.set_cons_zero, List.set_cons_succ, List.getElem_toArray, List.getElem_cons_succ, List.getElem_cons_zero]
    refine wpAnyH_take (i := 1) (v := _) rfl (by kernel_rfl) (by kernel_rfl) (by kernel_rfl) (fun _ _ _ h => h) (Or.inl ⟨by rfl, fun w hSw => yield_lfpte _ _ _ rfl rfl hSw⟩) (by assumption) ?_
    try simp only [Act.put, List.setIfInBounds_toArray, List.set_cons_zero, List.set_cons_succ, List.getElem_toArray, List.getElem_cons_succ, List.getElem_cons_zero]
    refine wpAnyH_take (i := 2) (v := ?_) rfl (by kernel_rfl) (by kernel_rfl) (by kernel_rfl) (fun _ _ _ h => h) (Or.inl ⟨by rfl, ?yldq⟩) (by assumption) ?_
    case yldq => (intro w hSw; (try dsimp only at hSw); go_simp; try with_reducible rfl)
    try simp only [Act.put, List.setIfInBounds_toArray, List.set_cons_zero, List.set_cons_succ, List.getElem_toArray, List.getElem_cons_succ, List.getElem_cons_zero]
    refine wpAnyH_take (i := 3) (v := ?_) rfl (by kernel_rfl) (by kernel_rfl) (by kernel_rfl) (fun _ _ _ h => h) (Or.inl ⟨by rfl, ?yldq⟩) (by assumption) ?_
    case yldq => (intro w hSw; (try dsimp only at hSw); go_simp; try with_reducible rfl)
    try simp only [Act.put, List.setIfInBounds_toArray, List.set_cons_zero, List.set_cons_succ, List.getElem_toArray, List.getElem_cons_succ, List.getElem_cons_zero]
    refine wpAnyH_take (i := 4) (v := _) rfl (by kernel_rfl) (by kernel_rfl) (by kernel_rfl) (fun _ _ _ h => h) (Or.inl ⟨by rfl, fun w hSw => yield_lfat _ _ _ rfl rfl hSw⟩) (by assumption) ?_
    try simp only [Act.put, List.setIfInBounds_toArray, List.set_cons_zero, List.set_cons_succ, List.getElem_toArray, List.getElem_cons_succ, List.getElem_cons_zero]
    refine wpAnyH_take (i := 5) (v := ?_) rfl (by kernel_rfl) (by kernel_rfl) (by kernel_rfl) (fun _ _ _ h => h) (Or.inl ⟨by rfl, ?yldq⟩) (by assumption) ?_
    case yldq => (intro w hSw; (try dsimp only at hSw); go_simp; try with_reducible rfl)
    try simp only [Act.put, List.setIfInBounds_toArray, List.set_cons_zero, List.set_cons_succ, List.getElem_toArray, List.getElem_cons_succ, List.getElem_cons_zero]
    refine wpAnyH_ready (rs := [6]) (by kernel_rfl) (by simp) ?_
    refine AllReadyH.cons rfl (fun K hK => ?_) AllReadyH.nil
    go_simp
    refine (H3.out _ (L3.out.drew)).mono ?_
    rintro e w10 ⟨rfl, F', C2, hT2, hN2, hk2⟩
    have hfr : ∀ B, w.heap.size ≤ B → ¬ FpW tp mp Fm Gs B := fun B hB hq => by have := HLT.out _ hq; omega
    have KA := Lib.hid ((Blk.drewN K3_0.out 1).chg hN2.2 (hfr _ G1.out)); have KB := Lib.hid ((Blk.drewN K3_1.out 1).chg hN2.2 (hfr _ G3.out))
    have HNR := Lib.hid hN2.1; have HL0 := Lib.hid (show B1 < W3.drew.heap.size from K3_0.out.lt)
    have hNX := (Nx.below (A := Fm) (B := Gs) (tp := tp) (mp := mp) (L3.out.drew)).trans hN2
    have HT2 := Lib.hid hT2; have HN2 := Lib.hid hNX; have HFR := Lib.hid hfr; have HK2 := Lib.hid hk2
    clear hT2 hN2 hNX hfr hHeld hk2
    refine hK.out _ _ KB.out (fun hS6 => ?_)
    clear hK K hS6
    refine wpAnyH_ready (rs := [7]) (by kernel_rfl) (by simp) ?_
    refine AllReadyH.cons rfl (fun K hK => ?_) AllReadyH.nil
    have m0_0 := KA.out.c0
    have m0_1 := KA.out.c1
    have m0_2 := KA.out.c2
    have m0_3 := KA.out.c3
    have m0_4 := KA.out.c4
    have m0_5 := KA.out.c5
    have m0_6 := KA.out.c6
    have m0_7 := KA.out.c7
    have m0_8 := KA.out.c8
    have m0_9 := KA.out.c9
    have mf : ∀ o, w10.frozen? ⟨B1, o, none⟩ = false := fun o => KA.out.free o
    have mlt : B1 < w10.heap.size := KA.out.lt
    go_simp
    clear mf mlt m0_0 m0_1 m0_2 m0_3 m0_4 m0_5 m0_6 m0_7 m0_8 m0_9
    obtain ⟨W11, hW11⟩ : ∃ W9, W9 = ((((((((((w10.setCell ⟨B1, 0, none⟩ (.bool v2)).setCell ⟨B1, 1, none⟩ (.bool r2)).setCell ⟨B1, 2, none⟩ (.bool y2)).setCell ⟨B1, 3, none⟩ (.bool x2)).setCell ⟨B1, 4, none⟩ (.bool u2)).setCell ⟨B1, 5, none⟩ (.bool g2)).setCell ⟨B1, 6, none⟩ (.bool a2)).setCell ⟨B1, 7, none⟩ (.bool d2)).setCell ⟨B1, 8, none⟩ (.int .i64 rsw2)).setCell ⟨B1, 9, none⟩ (.int .u64 (ppn2 : Int))) := ⟨_, rfl⟩
    rw [← hW11]
    have ka : Blk W11 B1 [.bool v2, .bool r2, .bool y2, .bool x2, .bool u2, .bool g2, .bool a2, .bool d2, .int .i64 rsw2, .int .u64 (ppn2 : Int)] 39 := hW11 ▸ ((((((((((KA.out.set 0 (.bool v2)).set 1 (.bool r2)).set 2 (.bool y2)).set 3 (.bool x2)).set 4 (.bool u2)).set 5 (.bool g2)).set 6 (.bool a2)).set 7 (.bool d2)).set 8 (.int .i64 rsw2)).set 9 (.int .u64 (ppn2 : Int)))
    have kb : Blk W11 B3 [.bool v2, .bool r2, .bool y2, .bool x2, .bool u2, .bool g2, .bool a2, .bool d2, .int .i64 rsw2, .int .u64 (ppn2 : Int), .int .i64 (lv : Int), .int .u64 (A : Int)] 41 := hW11 ▸ ((((((((((KB.out.other ⟨B1, 0, none⟩ (.bool v2) (Ne.symm X3_0_0.out)).other ⟨B1, 1, none⟩ (.bool r2) (Ne.symm X3_0_0.out)).other ⟨B1, 2, none⟩ (.bool y2) (Ne.symm X3_0_0.out)).other ⟨B1, 3, none⟩ (.bool x2) (Ne.symm X3_0_0.out)).other ⟨B1, 4, none⟩ (.bool u2) (Ne.symm X3_0_0.out)).other ⟨B1, 5, none⟩ (.bool g2) (Ne.symm X3_0_0.out)).other ⟨B1, 6, none⟩ (.bool a2) (Ne.symm X3_0_0.out)).other ⟨B1, 7, none⟩ (.bool d2) (Ne.symm X3_0_0.out)).other ⟨B1, 8, none⟩ (.int .i64 rsw2) (Ne.symm X3_0_0.out)).other ⟨B1, 9, none⟩ (.int .u64 (ppn2 : Int)) (Ne.symm X3_0_0.out))
    have kc : Chg (fun k => k = B1) w10 W11 := hW11 ▸ (((((((((((Chg.refl (fun k => k = B1) w10).setc ⟨B1, 0, none⟩ (.bool v2) (.inl rfl)).setc ⟨B1, 1, none⟩ (.bool r2) (.inl rfl)).setc ⟨B1, 2, none⟩ (.bool y2) (.inl rfl)).setc ⟨B1, 3, none⟩ (.bool x2) (.inl rfl)).setc ⟨B1, 4, none⟩ (.bool u2) (.inl rfl)).setc ⟨B1, 5, none⟩ (.bool g2) (.inl rfl)).setc ⟨B1, 6, none⟩ (.bool a2) (.inl rfl)).setc ⟨B1, 7, none⟩ (.bool d2) (.inl rfl)).setc ⟨B1, 8, none⟩ (.int .i64 rsw2) (.inl rfl)).setc ⟨B1, 9, none⟩ (.int .u64 (ppn2 : Int)) (.inl rfl))
    clear hW11
    have hnF : ∀ j, FpW tp mp F' Gs j → j ≠ B1 := fun j hj e0 => by
      rcases HNR.out j hj with h | h
      · exact HFR.out B1 G1.out (e0 ▸ h)
      · have := HL0.out; omega
    have HT3 := Lib.hid (HT2.out.chg kc hnF)
    have HN3 := Lib.hid (show Nx w W11 tp mp Fm Gs F' Gs from ⟨HN2.out.1, HN2.out.2.thenExt kc (fun j hj => .inr (by have hj : j = B1 := hj; have := G1.out; omega))⟩)
    refine hK.out _ _ kb (fun hS7 => ?_)
    have KA2 := Lib.hid ka
    clear hK K hnF kc ka kb
    refine wpAnyH_take (i := 8) (v := ?_) rfl (by kernel_rfl) (by kernel_rfl) (by kernel_rfl) (fun _ _ _ h => h) (Or.inl ⟨by rfl, ?yldq⟩) (by assumption) ?_
    case yldq => (intro w hSw; (try dsimp only at hSw); go_simp; try with_reducible rfl)
    try simp only [Act.put, List.setIfInBounds_toArray, List.set_cons_zero, List.set_cons_succ, List.getElem_toArray, List.getElem_cons_succ, List.getElem_cons_zero]
    clear hS7
    refine wpAnyH_done (by kernel_rfl) ?_ _
    go_wp2
    have rr0 := KA2.out.c0
    have rr1 := KA2.out.c1
    have rr2 := KA2.out.c2
    have rr3 := KA2.out.c3
    have rr4 := KA2.out.c4
    have rr5 := KA2.out.c5
    have rr6 := KA2.out.c6
    have rr7 := KA2.out.c7
    have rr8 := KA2.out.c8
    have rr9 := KA2.out.c9
    refine bodyPost_ret (v := .tuple #[.agg #[.bool v2, .bool r2, .bool y2, .bool x2, .bool u2, .bool g2, .bool a2, .bool d2, .int .i64 rsw2, .int .u64 (ppn2 : Int)], .int .i64 0]) (by simp [results, Tryz.results72, go_sem, rr0, rr1, rr2, rr3, rr4, rr5, rr6, rr7, rr8, rr9]) rfl ⟨rfl, F', Gs, C2, HT3.out.mono (by omega), HN3.out, by rw [HS2T.out]; exact HK2.out, by rw [HS2T.out]; exact fun _ h => h⟩
  · have hz : unmT va S = (S, zeE, 51) := by unfold unmT; rw [hi]
    rw [hz]
    clear hh hi hz h hva
    unfold pv lfv zl zeE at *
    dsimp only at *
    have H1 := Lib.hid h1; clear h1
    go_enter Tryz.func72, Tryz.ntmps72
    go_wp2_with fail
    have nb0 := Blk.new w [.bool false, .bool false, .bool false, .bool false, .bool false, .bool false, .bool false, .bool false, .int .i64 0, .int .u64 0] 39
    have nls : Below w.heap.size w w := (Below.refl w.heap.size w)
    have nl0 := nls.alloc nls.size (.cells #[.bool false, .bool false, .bool false, .bool false, .bool false, .bool false, .bool false, .bool false, .int .i64 0, .int .u64 0] 39)
    have nl : Below w.heap.size w (w.alloc (.cells #[.bool false, .bool false, .bool false, .bool false, .bool false, .bool false, .bool false, .bool false, .int .i64 0, .int .u64 0] 39)) := nl0; clear nls nl0
    obtain ⟨B1, hB0⟩ : ∃ B, B = w.heap.size := ⟨_, rfl⟩
    obtain ⟨W1, hW⟩ : ∃ W, W = (w.alloc (.cells #[.bool false, .bool false, .bool false, .bool false, .bool false, .bool false, .bool false, .bool false, .int .i64 0, .int .u64 0] 39)) := ⟨_, rfl⟩
    rw [← hW] at nl nb0
    rw [← hB0] at nb0
    rw [← hW]
    try rw [← hB0]
    have K1_0 := Lib.hid nb0
    have G1 : Hid (w.heap.size ≤ B1) := Lib.hid (by have := (Nat.le_refl w.heap.size); omega)
    have L1 := Lib.hid nl
    clear nl hW nb0 hB0
    refine (H1.out _ L1.out).mono ?_
    rintro e w2 ⟨rfl, hb⟩
    have L2 := Lib.hid (L1.out.trans (hb.mono L1.out.size))
    have K2_0 := Lib.hid (K1_0.out.below hb K1_0.out.lt)
    clear hb K1_0
    go_upto_region 2 with (fail)
    have nb0 := Blk.new w2 [.bool false, .bool false, .bool false, .bool false, .bool false, .bool false, .bool false, .bool false, .int .i64 0, .int .u64 0, .int .i64 0, .int .u64 0] 41
    have nls : Below w.heap.size w w2 := L2.out
    have nl0 := nls.alloc nls.size (.cells #[.bool false, .bool false, .bool false, .bool false, .bool false, .bool false, .bool false, .bool false, .int .i64 0, .int .u64 0, .int .i64 0, .int .u64 0] 41)
    have nl : Below w.heap.size w (w2.alloc (.cells #[.bool false, .bool false, .bool false, .bool false, .bool false, .bool false, .bool false, .bool false, .int .i64 0, .int .u64 0, .int .i64 0, .int .u64 0] 41)) := nl0; clear nls nl0
    have o0 := (K2_0.out.alloc (.cells #[.bool false, .bool false, .bool false, .bool false, .bool false, .bool false, .bool false, .bool false, .int .i64 0, .int .u64 0, .int .i64 0, .int .u64 0] 41))
    have d3_0 : B1 < w2.heap.size := K2_0.out.lt
    obtain ⟨B3, hB0⟩ : ∃ B, B = w2.heap.size := ⟨_, rfl⟩
    obtain ⟨W3, hW⟩ : ∃ W, W = (w2.alloc (.cells #[.bool false, .bool false, .bool false, .bool false, .bool false, .bool false, .bool false, .bool false, .int .i64 0, .int .u64 0, .int .i64 0, .int .u64 0] 41)) := ⟨_, rfl⟩
    rw [← hW] at nl nb0 o0
    rw [← hB0] at nb0
    rw [← hW]
    try rw [← hB0]
    have K3_0 := Lib.hid o0
    have K3_1 := Lib.hid nb0
    have G3 : Hid (w.heap.size ≤ B3) := Lib.hid (by have := L2.out.size; omega)
    have x3_0_0 : B1 ≠ B3 := by omega
    have X3_0_0 := Lib.hid x3_0_0; clear x3_0_0
    have L3 := Lib.hid nl
    clear nl hW nb0 hB0 o0 d3_0 K2_0
    have m0_0 := K3_0.out.c0
    have m0_1 := K3_0.out.c1
    have m0_2 := K3_0.out.c2
    have m0_3 := K3_0.out.c3
    have m0_4 := K3_0.out.c4
    have m0_5 := K3_0.out.c5
    have m0_6 := K3_0.out.c6
    have m0_7 := K3_0.out.c7
    have m0_8 := K3_0.out.c8
    have m0_9 := K3_0.out.c9
    have mlt0 : B1 < W3.heap.size := K3_0.out.lt
    have mf : ∀ o, W3.frozen? ⟨B1, o, none⟩ = false := fun o => K3_0.out.free o
    go_wp2
    clear mf
    clear m0_0 m0_1 m0_2 m0_3 m0_4 m0_5 m0_6 m0_7 m0_8 m0_9 mlt0
    obtain ⟨W4, hW⟩ : ∃ W9, W9 = ((((((((((W3.setCell ⟨B1, 0, none⟩ (.bool false)).setCell ⟨B1, 1, none⟩ (.bool false)).setCell ⟨B1, 2, none⟩ (.bool false)).setCell ⟨B1, 3, none⟩ (.bool false)).setCell ⟨B1, 4, none⟩ (.bool false)).setCell ⟨B1, 5, none⟩ (.bool false)).setCell ⟨B1, 6, none⟩ (.bool false)).setCell ⟨B1, 7, none⟩ (.bool false)).setCell ⟨B1, 8, none⟩ (.int .i64 0)).setCell ⟨B1, 9, none⟩ (.int .u64 0)) := ⟨_, rfl⟩
    rw [← hW]
    have K4_0 := Lib.hid (show Blk W4 B1 [.bool false, .bool false, .bool false, .bool false, .bool false, .bool false, .bool false, .bool false, .int .i64 0, .int .u64 0] 39 from hW ▸ ((((((((((K3_0.out.set 0 (.bool false)).set 1 (.bool false)).set 2 (.bool false)).set 3 (.bool false)).set 4 (.bool false)).set 5 (.bool false)).set 6 (.bool false)).set 7 (.bool false)).set 8 (.int .i64 0)).set 9 (.int .u64 0)))
    have K4_1 := Lib.hid (show Blk W4 B3 [.bool false, .bool false, .bool false, .bool false, .bool false, .bool false, .bool false, .bool false, .int .i64 0, .int .u64 0, .int .i64 0, .int .u64 0] 41 from hW ▸ ((((((((((K3_1.out.other ⟨B1, 0, none⟩ (.bool false) (Ne.symm X3_0_0.out)).other ⟨B1, 1, none⟩ (.bool false) (Ne.symm X3_0_0.out)).other ⟨B1, 2, none⟩ (.bool false) (Ne.symm X3_0_0.out)).other ⟨B1, 3, none⟩ (.bool false) (Ne.symm X3_0_0.out)).other ⟨B1, 4, none⟩ (.bool false) (Ne.symm X3_0_0.out)).other ⟨B1, 5, none⟩ (.bool false) (Ne.symm X3_0_0.out)).other ⟨B1, 6, none⟩ (.bool false) (Ne.symm X3_0_0.out)).other ⟨B1, 7, none⟩ (.bool false) (Ne.symm X3_0_0.out)).other ⟨B1, 8, none⟩ (.int .i64 0) (Ne.symm X3_0_0.out)).other ⟨B1, 9, none⟩ (.int .u64 0) (Ne.symm X3_0_0.out)))
    have L4 := Lib.hid (show Below w.heap.size w W4 from hW ▸ (Below.setCell (Below.setCell (Below.setCell (Below.setCell (Below.setCell (Below.setCell (Below.setCell (Below.setCell (Below.setCell (Below.setCell L3.out G1.out _) G1.out _) G1.out _) G1.out _) G1.out _) G1.out _) G1.out _) G1.out _) G1.out _) G1.out _))
    clear hW K3_0 K3_1
    have rr0 := K4_0.out.c0
    have rr1 := K4_0.out.c1
    have rr2 := K4_0.out.c2
    have rr3 := K4_0.out.c3
    have rr4 := K4_0.out.c4
    have rr5 := K4_0.out.c5
    have rr6 := K4_0.out.c6
    have rr7 := K4_0.out.c7
    have rr8 := K4_0.out.c8
    have rr9 := K4_0.out.c9
    refine bodyPost_ret (v := .tuple #[.agg #[.bool false, .bool false, .bool false, .bool false, .bool false, .bool false, .bool false, .bool false, .int .i64 0, .int .u64 0], .int .i64 51]) (by simp [results, Tryz.results72, go_sem, rr0, rr1, rr2, rr3, rr4, rr5, rr6, rr7, rr8, rr9]) rfl ⟨rfl, Fm, Gs, C, (HT.out.below L4.out).mono (by omega), Nx.below L4.out, Keep.refl C, fun _ h => h⟩
end Go.Proofs.YtgnjbjbgfhjakaaGreat

namespace Go.Proofs.YtgnjbjbgfhjakaaGreat
open Go.RowKit
set_option linter.unusedVariables false
set_option linter.unusedSimpArgs false
attribute [local go_sem] setCell_drewN alloc_drewN

theorem root13_any {first n : Nat} {w : World} {tp mp sp : Nat} {Fm Gs : Nat → Prop} {C : Nat → List Int} {S : Tt} {c : Nat} (h : TS first n w tp mp sp Fm Gs C S c) : Calls Tryz.prog 69 #[.pointer (some ⟨tp, 0, none⟩)] w fun r w' => r = .returned (.int .i64 (first : Int)) ∧ Chg no w w' := by
  obtain ⟨ut, hW, hR⟩ := h
  have c2 : w.cell? ⟨tp, 2, none⟩ = some (.int .i64 (first : Int)) := hW.blk.cell 2
  clear hW hR
  go_enter Tryz.func69, Tryz.ntmps69
  go_wp2
  go_ret
  exact ⟨rfl, Chg.refl _ _⟩
theorem sused13_any {first n : Nat} {w : World} {tp mp sp : Nat} {Fm Gs : Nat → Prop} {C : Nat → List Int} {S : Tt} {c : Nat} (h : TS first n w tp mp sp Fm Gs C S c) : Calls Tryz.prog 39 #[.pointer (some ⟨sp, 0, none⟩)] w fun r w' => r = .returned (.int .i64 (S.used : Int)) ∧ w = w' := by
  obtain ⟨ut, hW, hR⟩ := h
  exact used_at sp n S.used w hW.stk (upto_len _ _)
/-- no page, one table: its memory is noughts -/
theorem rt_new {n : Nat} (h1 : 1 ≤ n) (h2 : n ≤ 1048576) : RT 0 n (Mw (updC (fun _ => List.replicate 4096 0) 0 (List.replicate 4096 0))) ⟨[], [], 1⟩ := by
  have hz : ∀ a, Mw (updC (fun _ => List.replicate 4096 0) 0 (List.replicate 4096 0)) a = 0 := fun a => by
    rw [Mw_page, Mw_zero]; split <;> rfl
  refine ⟨fun va l f hc hl hf => ?_, Nat.lt_succ_self _, fun x hx => by simp at hx, List.nodup_nil, h1, h2, fun m hm => by simp at hm, fun x hx => by simp at hx, fun m hm => by simp at hm, List.nodup_nil, List.nodup_nil⟩
  rw [hz]
  have hk : kid 0 ([] : List Tb) va l = none := by cases l <;> rfl
  unfold slotW
  dsimp only
  rw [hk]
  rfl
theorem new14_yes (n : Nat) (w : World) (mp sp : Nat) (Fm Gs : Nat → Prop) (hM : MemX w mp n 0 (fun _ => List.replicate 4096 0) Fm) (hS : StkL w sp Gs (upto 0 n) [] 0 n) (hd : ∀ j, (Fm j ∨ j = mp) → ¬ Gs j) :
    Calls Tryz.prog 35 #[.pointer (some ⟨mp, 0, none⟩), .pointer (some ⟨sp, 0, none⟩)] w fun r w' => ∃ tp Fm', r = .returned (.tuple #[.pointer (some ⟨tp, 0, none⟩), .int .i64 0]) ∧ TS 0 n w' tp mp sp Fm' Gs (updC (fun _ => List.replicate 4096 0) 0 (List.replicate 4096 0)) ⟨[], [], 1⟩ 1 ∧ (∀ j, FpW tp mp Fm' Gs j → (Fm j ∨ j = mp) ∨ Gs j ∨ w.heap.size ≤ j) ∧ Chg (fun j => Fm j ∨ Gs j) w w' := by
  have hml := hM.mplt
  have hfl := hM.lt
  have hsl := hS.lt
  have hfr := hM.fr
  have hB : ∀ o, o = Obj.cells #[.pointer (some ⟨mp, 0, none⟩), .pointer (some ⟨sp, 0, none⟩), .int .i64 0, .int .i64 0] 138 → TW 0 n n 0 (w.alloc o) w.heap.size mp sp Fm Gs (fun _ => List.replicate 4096 0) 0 0 0 ∧ Chg no w (w.alloc o) := fun o ho => by
    subst ho
    refine ⟨⟨Blk.new w _ _, Nat.le_refl _, hM.chg (Chg.alloc no _ _) (fun h => h) (fun _ _ h => h), ?_, Nat.zero_le _, fun j hj => hd j (.inl hj), fun h => by have := hfl _ h; omega, fun h => by have := hsl _ h; omega, hd mp (.inr rfl), by omega⟩, Chg.alloc no _ _⟩
    exact hS.chg (Chg.alloc no _ _) (fun _ _ h => h)
  have hbx := hB _ rfl
  generalize hw1 : w.alloc (.cells #[.pointer (some ⟨mp, 0, none⟩), .pointer (some ⟨sp, 0, none⟩), .int .i64 0, .int .i64 0] 138) = w1 at hbx
  obtain ⟨tp, htp⟩ : ∃ tp, tp = w.heap.size := ⟨_, rfl⟩
  rw [← htp] at hbx
  obtain ⟨hW, hc1⟩ := hbx
  have t2 := take13_yes 0 n n 0 w1 tp mp sp Fm Gs _ 0 0 0 hW (by omega) (by omega) (by omega)
  have hrt := rt_new hfr.1 hfr.2
  rw [Nat.add_zero] at t2
  generalize updC (fun _ => List.replicate 4096 0) 0 (List.replicate 4096 0) = C2 at *
  have HW := Lib.hid hW; have HC1 := Lib.hid hc1; have T2 := Lib.hid t2; have HRT := Lib.hid hrt; have HW1 := Lib.hid hw1; have HTP := Lib.hid htp; have HD := Lib.hid hd
  clear hM hS hml hfl hsl hfr hB hW hc1 t2 hrt hw1 htp hd
  go_enter Tryz.func35, Tryz.ntmps35
  go_upto_region 4 with (fail)
  rw [HW1.out, ← HTP.out]
  go_wp2_with fail
  refine T2.out.mono ?_
  rintro e w2 ⟨rfl, Fm', hW2, hx2, hc2⟩
  have mf : ∀ o, w2.frozen? ⟨tp, o, none⟩ = false := fun o => hW2.blk.free o
  have m2 : w2.cell? ⟨tp, 2, none⟩ = some (.int .i64 0) := hW2.blk.cell 2
  have mlt : tp < w2.heap.size := hW2.blk.lt
  have HW2 := Lib.hid hW2; have HX2 := Lib.hid hx2; have HC2 := Lib.hid hc2
  clear hW2 hx2 hc2
  have hgo : ∀ w3, w3 = w2.setCell ⟨tp, 2, none⟩ (.int .i64 0) ∨ w3 = w2 → TS 0 n w3 tp mp sp Fm' Gs C2 ⟨[], [], 1⟩ 1 ∧ (∀ j, FpW tp mp Fm' Gs j → (Fm j ∨ j = mp) ∨ Gs j ∨ w.heap.size ≤ j) ∧ Chg (fun j => Fm j ∨ Gs j) w w3 := fun w3 hw3 => by
    have hz := HC1.out.size
    have hfp : ∀ j, FpW tp mp Fm' Gs j → (Fm j ∨ j = mp) ∨ Gs j ∨ w.heap.size ≤ j := by
      rintro j (h | h | h | h)
      · exact .inr (.inr (by have := HTP.out; omega))
      · exact .inl (.inr h)
      · exact (HX2.out j h).elim (fun h => .inl (.inl h)) (fun h => .inr (.inr (Nat.le_trans hz h)))
      · exact .inr (.inl h)
    have hc3 : Chg (fun j => j = tp) w2 w3 := by
      rcases hw3 with rfl | rfl
      · exact Chg.setCell _ _ _ rfl
      · exact Chg.refl _ _
    have hb3 : Blk w3 tp [.pointer (some ⟨mp, 0, none⟩), .pointer (some ⟨sp, 0, none⟩), .int .i64 ((0 : Nat) : Int), .int .i64 ((0 + 1 : Nat) : Int)] 138 := by
      rcases hw3 with rfl | rfl
      · exact HW2.out.blk.set 2 (.int .i64 0)
      · exact HW2.out.blk
    have h := HW2.out
    refine ⟨⟨1, ⟨hb3, Nat.le_refl _, h.mem.chg hc3 (fun e => h.tm e.symm) (fun k hk e => h.mt (by have e : k = tp := e; rw [← e]; exact hk)), h.stk.chg hc3 (fun k hk e => h.st (by have e : k = tp := e; rw [← e]; exact hk)), h.le, h.sm, h.mt, h.st, h.ms, h.tm⟩, HRT.out⟩, hfp, ?_⟩
    have h12 : Chg (fun j => j = tp ∨ Fm j ∨ Gs j) w1 w3 := HC2.out.trans (hc3.mono (fun k _ h => .inl h))
    refine (HC1.out.mono (fun k _ h => h.elim)).thenExt h12 (fun j hj => ?_)
    exact hj.elim (fun h => .inr (by have := HTP.out; omega)) .inl
  have HGO := Lib.hid hgo
  clear hgo HW HC1 T2 HRT HW1 HTP HD HX2 HC2
  go_wp2
  go_ret2
  obtain ⟨r1, r2, r3⟩ := HGO.out _ (by first | exact .inl rfl | exact .inr rfl)
  exact ⟨tp, Fm', rfl, r1, r2, r3⟩
end Go.Proofs.YtgnjbjbgfhjakaaGreat

namespace Go.Proofs.YtgnjbjbgfhjakaaGreat
open Go.RowKit
set_option linter.unusedVariables false
set_option linter.unusedSimpArgs false
attribute [local go_sem] setCell_drewN alloc_drewN

theorem below_chg {B : Nat} {w w' : World} (h : Below B w w') : Chg (fun j => B ≤ j) w w' := ⟨h.os, h.tape, h.output, h.size, fun k hk hn => h.block k (Nat.lt_of_not_le hn)⟩
theorem vaI_pre {b l i : Nat} (h : Stt b l) (hi : i < 512) : canN (b + i * 2 ^ (12 + 9 * l)) = true ∨ b + i * 2 ^ (12 + 9 * l) < 549755813888 := by
  have h2 := (vaI_ok h hi).2.1
  cases hc : canN (b + i * 2 ^ (12 + 9 * l)) with
  | true => exact .inl rfl
  | false =>
    unfold vaI canU at h2
    rw [if_neg (by rw [hc]; decide)] at h2
    exact .inr (by omega)
theorem subK_mono (first : Nat) (L : List Pg) (T : List Tb) (l b : Nat) : ∀ d k, (subK first L T l b k).length ≤ (subK first L T l b (k + d)).length := fun d => by
  induction d with
  | zero => intro k; exact Nat.le_refl _
  | succ d ih =>
    intro k
    rw [show k + (d + 1) = (k + d) + 1 from rfl, subK_succ, List.length_append]
    exact Nat.le_trans (ih k) (Nat.le_add_right _ _)
def ListC (first n tp mp sp : Nat) (Fm Gs : Nat → Prop) (C : Nat → List Int) (c ut : Nat) (S : Tt) (B l : Nat) : Prop :=
  ∀ (w : World) (b f : Nat) (v : Value) (Q : List Pg), TW 0 n n (first : Int) w tp mp sp Fm Gs C c ut S.used → (∀ j, FpW tp mp Fm Gs j → j < B) → B ≤ w.heap.size → Stt b l → frmT first S.T b l = some f → w.ownsRow B 122 12 v (Q).length (rowS pgC (Q)) → Q.length + (subP first S.L S.T (l + 1) b).length ≤ 1000 →
    Calls Tryz.prog 82 #[.pointer (some ⟨tp, 0, none⟩), v, .int .u64 (f : Int), .int .u64 (b : Int), .int .i64 (l : Int)] w fun r w' => ∃ y, r = .returned y ∧ w'.ownsRow B 122 12 y (Q ++ subP first S.L S.T (l + 1) b).length (rowS pgC (Q ++ subP first S.L S.T (l + 1) b)) ∧ Below B w w'
set_option maxHeartbeats 8000000 in
theorem list13_of {first n tp mp sp : Nat} {Fm Gs : Nat → Prop} {C : Nat → List Int} {c ut : Nat} {S : Tt} {B l : Nat} (hR : RT first n (Mw C) S) (HSUB : ∀ l', l = l' + 1 → ListC first n tp mp sp Fm Gs C c ut S B l') : ListC first n tp mp sp Fm Gs C c ut S B l := by
  intro w b f v Q hW hF hB hst hf hown hlen
  have hl := hst.1
  have hfl := frm_lt hR hf
  have hbf : ∀ i, i < 512 → frmT first S.T (vaI b l i) l = some f := fun i hi => by
    rw [← hf]
    obtain ⟨c1, _, b1, _, u1, _⟩ := vaI_ok hst hi
    by_cases e : l = 2
    · subst e; unfold frmT; rw [if_pos rfl, if_pos rfl]
    · exact frm_congr ((u1 (by omega)).trans (hst.2.2 (by omega)).2.1.symm)
  rw [subP_eq] at hlen ⊢
  obtain ⟨R, hRR⟩ : ∃ R, R = Q ++ subK first S.L S.T l b 512 := ⟨_, rfl⟩
  rw [← hRR]
  have hnext : ∀ (wr : World) (k : Nat) (y : Value), k < 512 → Below B w wr → wr.ownsRow B 122 12 y (Q ++ subK first S.L S.T l b k).length (rowS pgC (Q ++ subK first S.L S.T l b k)) →
      ∃ (E : Ent) (A : Nat) (P J : Bool), (∀ w', Below wr.heap.size wr w' → Calls Tryz.prog 108 #[.pointer (some ⟨tp, 0, none⟩), .int .u64 (f : Int), .int .u64 (vaI b l k : Nat), .int .i64 (l : Int)] w' fun r w'' => r = .returned (.tuple #[pv E, .int .u64 (A : Int), .int .i64 0]) ∧ Below w'.heap.size w' w'') ∧
        (∀ w', Calls Tryz.prog 101 #[pv E, .int .i64 (l : Int)] w' fun r w'' => r = .returned (.bool P) ∧ Below w'.heap.size w' w'') ∧
        (∀ w', Calls Tryz.prog 109 #[pv E, .int .i64 (l : Int)] w' fun r w'' => r = .returned (.bool J) ∧ Below w'.heap.size w' w'') ∧
        (P = true → Q ++ subK first S.L S.T l b (k + 1) = (Q ++ subK first S.L S.T l b k) ++ [⟨vaI b l k, l, E⟩]) ∧
        (P = false → J = false → Q ++ subK first S.L S.T l b (k + 1) = Q ++ subK first S.L S.T l b k) ∧
        (P = false → J = true → ∀ w', Below wr.heap.size wr w' → Calls Tryz.prog 82 #[.pointer (some ⟨tp, 0, none⟩), y, .int .u64 (E.ppn : Int), .int .u64 (vaI b l k : Nat), .int .i64 ((l : Int) - 1)] w' fun r w'' => ∃ y', r = .returned y' ∧ w''.ownsRow B 122 12 y' (Q ++ subK first S.L S.T l b (k + 1)).length (rowS pgC (Q ++ subK first S.L S.T l b (k + 1))) ∧ Below B w' w'') := by
    intro wr k y hk hb hy
    obtain ⟨c1, v1, b1, f1, u1, x1⟩ := vaI_ok hst hk
    obtain ⟨s1, s2, s3, s4, s5, s6, s7⟩ := ent_slot hR c1 hl (hbf k hk)
    have hWr := hW.chg (below_chg hb) (fun j hj h => by have := hF j hj; omega)
    refine ⟨slotE first S.L S.T (vaI b l k) l, f * 4096 + 8 * fld (vaI b l k) (12 + 9 * l) 9, (pg S.L (vaI b l k) l).isSome, (kid first S.T (vaI b l k) l).isSome, fun w' hb' => ?_, fun w' => ?_, fun w' => ?_, fun hp => ?_, fun hp hk' => ?_, fun hp hk' w' hb' => ?_⟩
    · have := entry13_any tp mp sp n c f (vaI b l k) l first ut C Fm w' (hWr.below hb').blk (hWr.below hb').mem (by omega) v1 hl
      rw [s1] at this
      exact this
    · have := page13_any (slotE first S.L S.T (vaI b l k) l) (l : Int) w' s5 s4
      rw [s2] at this
      exact this
    · have := leads13_any (slotE first S.L S.T (vaI b l k) l) (l : Int) w'
      rw [s3] at this
      exact this
    · obtain ⟨m, hm⟩ := Option.isSome_iff_exists.1 hp
      rw [subK_succ, ← List.append_assoc, s7 m hm]
      obtain ⟨_, q1, q2⟩ := pg_mem hm
      rw [b1] at q2
      obtain ⟨mva, mlv, me⟩ := m
      dsimp only at q1 q2 ⊢
      subst q1 q2
      unfold slotP
      rw [hm]
    · have hp := Option.isNone_iff_eq_none.1 (Option.isSome_eq_false_iff.1 hp)
      have hk' := Option.isNone_iff_eq_none.1 (Option.isSome_eq_false_iff.1 hk')
      rw [subK_succ]
      unfold slotP
      rw [hp, hk', List.append_nil]
    · have hp := Option.isNone_iff_eq_none.1 (Option.isSome_eq_false_iff.1 hp)
      obtain ⟨g, hg⟩ := Option.isSome_iff_exists.1 hk'
      obtain ⟨h0, hfg⟩ := kid_some hR hg hl
      obtain ⟨l', rfl⟩ : ∃ l', l = l' + 1 := ⟨l - 1, by omega⟩
      have hss : subK first S.L S.T (l' + 1) b (k + 1) = subK first S.L S.T (l' + 1) b k ++ subP first S.L S.T (l' + 1) (vaI b (l' + 1) k) := by
        rw [subK_succ]; unfold slotP; rw [hp, hg]
      have hmono := subK_mono first S.L S.T (l' + 1) b (512 - (k + 1)) (k + 1)
      rw [show k + 1 + (512 - (k + 1)) = 512 from by omega, hss, List.length_append] at hmono
      have hc := HSUB l' rfl w' (vaI b (l' + 1) k) g y (Q ++ subK first S.L S.T (l' + 1) b k) (hWr.below hb') hF (Nat.le_trans hB (Nat.le_trans hb.size hb'.size)) (stt_kid hst hk) hfg (own_chgG hy (Chg.of_below (F := no) hb') (fun _ _ h => h)) (by rw [List.length_append]; omega)
      rw [s6 g hg, show ((l' + 1 : Nat) : Int) - 1 = (l' : Int) from by omega, hss, ← List.append_assoc]
      exact hc
  have hs1 := fun w => span_yes l w hl
  have hcn := fun (k : Nat) (hk : k < 512) (w : World) => canU_any (b + k * 2 ^ (12 + 9 * l)) w (vaI_ok hst hk).2.2.2.2.2 (vaI_pre hst hk)
  have hm1 : ∀ k : Nat, k < 512 → IntKind.u64.wrap ((k : Int) * ((2 ^ (12 + 9 * l) : Nat) : Int)) = ((k * 2 ^ (12 + 9 * l) : Nat) : Int) := fun k hk => by
    have := (vaI_ok hst hk).2.2.2.2.2
    rw [wrap_u64B, ← Int.natCast_mul]
    omega
  have hm2 : ∀ k : Nat, k < 512 → IntKind.u64.wrap ((b : Int) + ((k * 2 ^ (12 + 9 * l) : Nat) : Int)) = ((b + k * 2 ^ (12 + 9 * l) : Nat) : Int) := fun k hk => by
    have := (vaI_ok hst hk).2.2.2.2.2
    rw [wrap_u64B]
    omega
  have hlm : wrap64 ((l : Int) - 1) = (l : Int) - 1 := by unfold wrap64; omega
  have hln : ∀ k, k < 512 → (Q ++ subK first S.L S.T l b k).length ≤ 1000 := fun k hk => by
    have := subK_mono first S.L S.T l b (512 - k) k
    rw [show k + (512 - k) = 512 from by omega] at this
    rw [List.length_append]; omega
  have h00 : w.ownsRow B 122 12 v (Q ++ subK first S.L S.T l b 0).length (rowS pgC (Q ++ subK first S.L S.T l b 0)) := by rw [subK_zero, List.append_nil]; exact hown
  have h0e : R = Q ++ subK first S.L S.T l b 512 := hRR
  obtain ⟨O, hO⟩ : ∃ O : Nat → List Pg, ∀ k, O k = Q ++ subK first S.L S.T l b k := ⟨_, fun _ => rfl⟩
  simp only [← hO] at hnext hln h00 h0e
  obtain ⟨VA, hVA⟩ : ∃ VA : Nat → Nat, ∀ k, VA k = vaI b l k := ⟨_, fun _ => rfl⟩
  have hcn2 : ∀ (k : Nat) (hk : k < 512) (w : World), Calls Tryz.prog 106 #[.int .u64 ((b + k * 2 ^ (12 + 9 * l) : Nat) : Int)] w fun r w' => r = .returned (.int .u64 (VA k : Nat)) ∧ w = w' := fun k hk w => by rw [hVA]; exact hcn k hk w
  simp only [← hVA] at hnext
  obtain ⟨Y, hY⟩ : ∃ Y : Nat → Nat, ∀ k, Y k = k * 2 ^ (12 + 9 * l) := ⟨_, fun _ => rfl⟩
  obtain ⟨X, hX⟩ : ∃ X : Nat → Nat, ∀ k, X k = b + k * 2 ^ (12 + 9 * l) := ⟨_, fun _ => rfl⟩
  simp only [← hX] at hm2 hcn2
  simp only [← hY] at hm1 hm2
  generalize ((2 ^ (12 + 9 * l) : Nat) : Int) = Z at *
  clear hcn hVA hO hY hX hRR hbf hR HSUB hF hW hst hf hown hlen hl hfl
  have HNX := Lib.hid hnext; have HS := Lib.hid hs1; have HCN := Lib.hid hcn2; have HM1 := Lib.hid hm1; have HM2 := Lib.hid hm2; have HLN := Lib.hid hln; have H00 := Lib.hid h00; have H0E := Lib.hid h0e; have HLM := Lib.hid hlm
  clear hnext hs1 hcn2 hm1 hm2 hln h00 h0e hlm
  go_enter Tryz.func82, Tryz.ntmps82
  go_wp2
  go_loopw [16, 1] (fun i p wr => ∃ (k : Nat) (y : Value), k ≤ 512 ∧ i = .int .u64 (k : Int) ∧ p = y ∧ wr.ownsRow B 122 12 y (O k).length (rowS pgC (O k)) ∧ Below B w wr) (fun i _ _ => 512 - (intOf i).toNat)
  case atStart => exact ⟨0, v, Nat.zero_le _, rfl, rfl, H00.out, Below.refl _ _⟩
  case round =>
    obtain ⟨k, p, hk, rfl, rfl, hy, hb⟩ := hrel
    have HY := Lib.hid hy; have HB := Lib.hid hb
    clear hy hb
    by_cases hlt : k < 512
    · have hki : (k : Int) < 512 := by omega
      obtain ⟨E, A, P, J, n1, n2, n3, n4, n5, n6⟩ := HNX.out wr k _ hlt HB.out HY.out
      have hm1 := HM1.out k hlt
      have hm2 := HM2.out k hlt
      have hlm := HLM.out
      have hcn := HCN.out k hlt
      have hk1 : IntKind.u64.wrap ((k : Int) + 1) = ((k + 1 : Nat) : Int) := by rw [wrap_u64B]; omega
      have hln := HLN.out k hlt
      have hs1 := HS.out
      have hmeas : 512 - (k + 1) < 512 - k := by omega
      have HK1 := Lib.hid (show k + 1 ≤ 512 by omega)
      generalize VA k = VK at *
      generalize X k = XK at *
      generalize Y k = YK at *
      obtain ⟨v1, r, x1, x, u, g, a, d, rsw, ppn⟩ := E
      unfold pv at *
      dsimp only at *
      have N1 := Lib.hid n1; have N2 := Lib.hid n2; have N3 := Lib.hid n3; have N4 := Lib.hid n4; have N5 := Lib.hid n5; have N6 := Lib.hid n6; have HC1 := Lib.hid hcn; have HLK := Lib.hid hln; have HS1 := Lib.hid hs1; have HME := Lib.hid hmeas
      clear n1 n2 n3 n4 n5 n6 hcn hln hs1 hlt hmeas HNX HCN HM1 HM2 HLN HLM HS
      go_wp2_with fail
      refine (HS1.out _).mono ?_
      rintro e wx ⟨rfl, rfl⟩
      go_wp2_with fail
      refine (HC1.out _).mono ?_
      rintro e wx ⟨rfl, rfl⟩
      go_wp2_with fail
      refine (N1.out _ (Below.refl wr.heap.size wr)).mono ?_
      rintro e w1 ⟨rfl, hb⟩
      have L1 := Lib.hid ((Below.refl wr.heap.size wr).trans (hb.mono (Nat.le_refl wr.heap.size)))
      clear hb
      go_upto_region 6 with (fail)
      have nb0 := Blk.new w1 [.bool v1, .bool r, .bool x1, .bool x, .bool u, .bool g, .bool a, .bool d, .int .i64 rsw, .int .u64 (ppn : Int)] 39
      have nls : Below wr.heap.size wr w1 := L1.out
      have nl0 := nls.alloc nls.size (.cells #[.bool v1, .bool r, .bool x1, .bool x, .bool u, .bool g, .bool a, .bool d, .int .i64 rsw, .int .u64 (ppn : Int)] 39)
      have nl : Below wr.heap.size wr (w1.alloc (.cells #[.bool v1, .bool r, .bool x1, .bool x, .bool u, .bool g, .bool a, .bool d, .int .i64 rsw, .int .u64 (ppn : Int)] 39)) := nl0; clear nls nl0
      obtain ⟨B2, hB0⟩ : ∃ B, B = w1.heap.size := ⟨_, rfl⟩
      obtain ⟨W2, hW⟩ : ∃ W, W = (w1.alloc (.cells #[.bool v1, .bool r, .bool x1, .bool x, .bool u, .bool g, .bool a, .bool d, .int .i64 rsw, .int .u64 (ppn : Int)] 39)) := ⟨_, rfl⟩
      rw [← hW] at nl nb0
      rw [← hB0] at nb0
      rw [← hW]
      try rw [← hB0]
      have K2_0 := Lib.hid nb0
      have G2 : Hid (wr.heap.size ≤ B2) := Lib.hid (by have := L1.out.size; omega)
      have L2 := Lib.hid nl
      clear nl hW nb0 hB0
      have m0_0 := K2_0.out.c0
      have m0_1 := K2_0.out.c1
      have m0_2 := K2_0.out.c2
      have m0_3 := K2_0.out.c3
      have m0_4 := K2_0.out.c4
      have m0_5 := K2_0.out.c5
      have m0_6 := K2_0.out.c6
      have m0_7 := K2_0.out.c7
      have m0_8 := K2_0.out.c8
      have m0_9 := K2_0.out.c9
      have mlt0 : B2 < W2.heap.size := K2_0.out.lt
      go_wp2_with fail
      clear m0_0 m0_1 m0_2 m0_3 m0_4 m0_5 m0_6 m0_7 m0_8 m0_9 mlt0
      refine (N2.out _).mono ?_
      rintro e w3 ⟨rfl, hb⟩
      have L3 := Lib.hid (L2.out.trans (hb.mono L2.out.size))
      have K3_0 := Lib.hid (K2_0.out.below hb K2_0.out.lt)
      clear hb K2_0
      cases P
      · have m0_0 := K3_0.out.c0
        have m0_1 := K3_0.out.c1
        have m0_2 := K3_0.out.c2
        have m0_3 := K3_0.out.c3
        have m0_4 := K3_0.out.c4
        have m0_5 := K3_0.out.c5
        have m0_6 := K3_0.out.c6
        have m0_7 := K3_0.out.c7
        have m0_8 := K3_0.out.c8
        have m0_9 := K3_0.out.c9
        have mlt0 : B2 < w3.heap.size := K3_0.out.lt
        go_wp2_with fail
        clear m0_0 m0_1 m0_2 m0_3 m0_4 m0_5 m0_6 m0_7 m0_8 m0_9 mlt0
        refine (N3.out _).mono ?_
        rintro e w4 ⟨rfl, hb⟩
        have L4 := Lib.hid (L3.out.trans (hb.mono L3.out.size))
        have K4_0 := Lib.hid (K3_0.out.below hb K3_0.out.lt)
        clear hb K3_0
        cases J
        · go_wp2
          go_roundw
          case rel => exact ⟨k + 1, _, HK1.out, rfl, rfl, (by rw [N5.out (by trivial) (by trivial)]; exact own_chgG HY.out (Chg.of_below (F := no) L4.out) (fun _ _ h => h)), (HB.out.trans (L4.out.mono (Nat.le_trans hB HB.out.size)))⟩
          case measure => simp [intOf]; have := HME.out; omega
        · have m0_0 := K4_0.out.c0
          have m0_1 := K4_0.out.c1
          have m0_2 := K4_0.out.c2
          have m0_3 := K4_0.out.c3
          have m0_4 := K4_0.out.c4
          have m0_5 := K4_0.out.c5
          have m0_6 := K4_0.out.c6
          have m0_7 := K4_0.out.c7
          have m0_8 := K4_0.out.c8
          have m0_9 := K4_0.out.c9
          have mlt0 : B2 < w4.heap.size := K4_0.out.lt
          go_wp2_with fail
          clear m0_0 m0_1 m0_2 m0_3 m0_4 m0_5 m0_6 m0_7 m0_8 m0_9 mlt0
          refine (N6.out (by trivial) (by trivial) _ L4.out).mono ?_
          rintro e w9 ⟨y', rfl, hy9, hb9⟩
          have HY9 := Lib.hid hy9; have HB9 := Lib.hid ((HB.out.trans (L4.out.mono (Nat.le_trans hB HB.out.size))).trans hb9)
          clear hy9 hb9
          go_wp2
          go_roundw
          case rel => exact ⟨k + 1, _, HK1.out, rfl, rfl, HY9.out, HB9.out⟩
          case measure => simp [intOf]; have := HME.out; omega
      · have m0_0 := K3_0.out.c0
        have m0_1 := K3_0.out.c1
        have m0_2 := K3_0.out.c2
        have m0_3 := K3_0.out.c3
        have m0_4 := K3_0.out.c4
        have m0_5 := K3_0.out.c5
        have m0_6 := K3_0.out.c6
        have m0_7 := K3_0.out.c7
        have m0_8 := K3_0.out.c8
        have m0_9 := K3_0.out.c9
        have mlt0 : B2 < w3.heap.size := K3_0.out.lt
        have hy2 := own_chgG HY.out (Chg.of_below (F := no) L3.out) (fun _ _ h => h)
        have hz2 : B ≤ w3.heap.size := Nat.le_trans hB (Nat.le_trans HB.out.size L3.out.size)
        have hle := HLK.out
        generalize hO1 : O k = O1 at *
        have HY2 := Lib.hid hy2; have HZ2 := Lib.hid hz2; have HLE := Lib.hid hle
        clear hy2 hz2 hle
        go_wp2_with (at_builtin; refine wpList_append_M1 rfl _ _ rfl B _ O1.length _ rfl (HY2.out.alloc _) w3.heap.size (Pg.mk VK l ⟨v1, r, x1, x, u, g, a, d, rsw, ppn⟩) rfl (Blk.new w3 (pgC (Pg.mk VK l ⟨v1, r, x1, x, u, g, a, d, rsw, ppn⟩)) 122) ?q1 ?q2 (w3.heap.size + 1) ?q3 ?_)
        case q1 => have := HLE.out; omega
        case q2 => have := HZ2.out; simp; omega
        case q3 => simp
        intro g9 cap W9 hown9 hgr9 hg9 hgl9
        clear m0_0 m0_1 m0_2 m0_3 m0_4 m0_5 m0_6 m0_7 m0_8 m0_9 mlt0
        have hcc : Chg (fun j => B ≤ j) w3 W9 := (Chg.alloc _ _ _).trans (grown_chg hgr9 (fun k hk => (HY2.out.lt k hk).1))
        have hbb : Below B wr W9 := (L3.out.mono (Nat.le_trans hB HB.out.size)).trans (hcc.below HZ2.out (fun k hk h => by omega))
        have HB9 := Lib.hid (HB.out.trans hbb)
        have hy9 : W9.ownsRow B 122 12 (.slice (some ⟨g9, 0, none⟩) (O1.length + 1) cap) (O (k + 1)).length (rowS pgC (O (k + 1))) := by
          rw [N4.out (by trivial), rowS_app, List.length_append]
          exact hown9
        have HY9 := Lib.hid hy9
        clear hcc hbb hy9 hown9 hgr9 hg9 hgl9
        go_wp2
        go_roundw
        case rel => exact ⟨k + 1, _, HK1.out, rfl, rfl, HY9.out, HB9.out⟩
        case measure => simp [intOf]; have := HME.out; omega
    · obtain rfl : k = 512 := by omega
      clear hlt hk HNX HCN HM1 HM2 HLN HS HLM
      go_wp2
      go_ret
      rw [H0E.out]
      exact ⟨_, rfl, HY.out, HB.out⟩
theorem pages13_any {first n tp sp c : Nat} {w : World} {mp : Nat} {Fm Gs : Nat → Prop} {C : Nat → List Int} {S : Tt} (h : TS first n w tp mp sp Fm Gs C S c) (hlen : (subP first S.L S.T 3 0).length ≤ 1000) :
    Calls Tryz.prog 51 #[.pointer (some ⟨tp, 0, none⟩)] w fun r w' => (∃ y, r = .returned y ∧ LiesS pgC 12 w' y (subP first S.L S.T 3 0) ∧ (∀ j, y.ownBlock = some j → w.heap.size ≤ j) ∧ ∀ j, y.ownBlock = some j → j < w'.heap.size) ∧ Chg no w w' := by
  obtain ⟨ut, hW, hR⟩ := h
  have l0 : ListC first n tp mp sp Fm Gs C c ut S w.heap.size 0 := list13_of hR (fun l' h => by cases h)
  have l1 : ListC first n tp mp sp Fm Gs C c ut S w.heap.size 1 := list13_of hR (fun l' h => by obtain rfl : l' = 0 := (by omega); exact l0)
  have l2 : ListC first n tp mp sp Fm Gs C c ut S w.heap.size 2 := list13_of hR (fun l' h => by obtain rfl : l' = 1 := (by omega); exact l1)
  have hown : w.ownsRow w.heap.size 122 12 (.slice none 0 0) ([] : List Pg).length (rowS pgC ([] : List Pg)) := World.ownsRow_nil _ _ _ _
  have hc := l2 w 0 first (.slice none 0 0) [] hW hW.lt (Nat.le_refl _) stt_root rfl hown (by simp; omega)
  rw [List.nil_append] at hc
  obtain ⟨P, hP⟩ : ∃ P, P = subP first S.L S.T 3 0 := ⟨_, rfl⟩
  rw [← hP] at hc ⊢
  have hfm : first < 1048577 := by have := hR.rootLt; have := hR.fits; have := hR.most; omega
  have hwr : IntKind.u64.wrap (first : Int) = (first : Int) := by rw [wrap_u64B]; omega
  have c2 : w.cell? ⟨tp, 2, none⟩ = some (.int .i64 (first : Int)) := hW.blk.cell 2
  replace hc : Calls Tryz.prog 82 #[.pointer (some ⟨tp, 0, none⟩), .slice none 0 0, .int .u64 (first : Int), .int .u64 0, .int .i64 2] w _ := hc
  have HC := Lib.hid hc
  clear hc l0 l1 l2 hW hR hown hlen hfm hP
  go_enter Tryz.func51, Tryz.ntmps51
  go_wp2_with fail
  refine HC.out.mono ?_
  rintro e w1 ⟨y, rfl, hy, hb⟩
  have HY := Lib.hid hy; have HB := Lib.hid hb
  clear hy hb c2
  go_wp2
  go_ret
  exact ⟨⟨y, rfl, lies_own pgC_len HY.out, fun j hj => (HY.out.lt j hj).1, fun j hj => (HY.out.lt j hj).2⟩, Chg.of_below HB.out⟩
end Go.Proofs.YtgnjbjbgfhjakaaGreat
