/-
  What Change and Unmap of package table answer: contracts over the translation. Each says its own conditions.
-/
import Derived.Test.YtdakfgefnapglaaTblE13
namespace Go.Proofs.Ytdakfgefnapglaa
open Go.RowKit
set_option linter.unusedVariables false
set_option linter.unusedSimpArgs false
attribute [local go_sem] setCell_drewN alloc_drewN

theorem pag_at {L : List Pg} {va l i : Nat} (h : pagI L va l = some i) : ∃ hi : i < L.length, pg L va l = some L[i] ∧ L[i].lv = l := by
  obtain ⟨hi, hp, hf⟩ := idx_some h
  exact ⟨hi, hf, (isP_iff.1 hp).1⟩
theorem hold_idx {L : List Pg} {va : Nat} {m : Pg} (h : holdP L va = some m) : ∃ i, hold L va = some i ∧ pagI L va m.lv = some i ∧ entOf L i = m := by
  unfold holdP at h
  unfold hold
  split at h
  · rename_i hc
    rw [if_pos hc]
    cases h0 : pagI L va 0 with
    | some i =>
      obtain ⟨hi, hp, hl⟩ := pag_at h0
      rw [hp] at h
      obtain rfl := Option.some.inj h
      exact ⟨i, rfl, by rw [hl]; exact h0, entOf_at hi⟩
    | none =>
      have p0 : pg L va 0 = none := idx_none.1 h0
      rw [p0] at h
      cases h1 : pagI L va 1 with
      | some i =>
        obtain ⟨hi, hp, hl⟩ := pag_at h1
        rw [hp] at h
        obtain rfl := Option.some.inj h
        exact ⟨i, rfl, by rw [hl]; exact h1, entOf_at hi⟩
      | none =>
        have p1 : pg L va 1 = none := idx_none.1 h1
        rw [p1] at h
        cases h2 : pagI L va 2 with
        | some i =>
          obtain ⟨hi, hp, hl⟩ := pag_at h2
          rw [hp] at h
          obtain rfl := Option.some.inj h
          exact ⟨i, rfl, by rw [hl]; exact h2, entOf_at hi⟩
        | none =>
          have p2 : pg L va 2 = none := idx_none.1 h2
          rw [p2] at h
          cases h
  · cases h
theorem hold_no {L : List Pg} {va : Nat} (h : holdP L va = none) : hold L va = none := by
  unfold holdP at h
  unfold hold
  split at h
  · rename_i hc
    rw [if_pos hc]
    have key : ∀ l, pg L va l = none → pagI L va l = none := fun l h => idx_none.2 h
    cases p0 : pg L va 0 with
    | some m => rw [p0] at h; cases h
    | none =>
      rw [p0] at h
      cases p1 : pg L va 1 with
      | some m => rw [p1] at h; cases h
      | none =>
        rw [p1] at h
        cases p2 : pg L va 2 with
        | some m => rw [p2] at h; cases h
        | none => rw [key 0 p0, key 1 p1, key 2 p2]; rfl
  · rename_i hc; rw [if_neg hc]
theorem TS.chg {first n fs : Nat} {w : World} {tp mp sp : Nat} {Fm Gs : Nat → Prop} {S : Tt} {c : Nat} {w' : World} {G : Nat → Prop} (h : TS first n fs w tp mp sp Fm Gs S c) (hc : Chg G w w') (hf : ∀ j, FpW tp mp Fm Gs j → ¬ G j) : TS first n fs w' tp mp sp Fm Gs S c := by
  obtain ⟨C, h1, h2⟩ := h
  exact ⟨C, h1.chg hc hf, h2⟩
/-- what Find answers, said by the tables -/
theorem find13_two {first n fs : Nat} {w : World} {tp mp sp : Nat} {Fm Gs : Nat → Prop} {S : Tt} {c : Nat} (va : Nat) (h : TS first n fs w tp mp sp Fm Gs S c) (hva : va < 18446744073709551616) :
    (∃ m f i, holdP S.L va = some m ∧ hold S.L va = some i ∧ entOf S.L i = m ∧ pagI S.L va m.lv = some i ∧ m.lv < 3 ∧ m.va = bas va m.lv ∧ canN va = true ∧ frmT first S.T va m.lv = some f ∧ fitE m.e = true ∧
      ∀ w', Below w.heap.size w w' → Calls Try.prog 11 #[.pointer (some ⟨tp, 0, none⟩), .int .u64 (va : Int)] w' fun r w'' => r = .returned (.tuple #[lfv ⟨m.e, m.lv, f * 4096 + 8 * fld va (12 + 9 * m.lv) 9⟩, .int .i64 0]) ∧ Below w'.heap.size w' w'') ∨
    (holdP S.L va = none ∧ hold S.L va = none ∧ ∀ w', Below w.heap.size w w' → Calls Try.prog 11 #[.pointer (some ⟨tp, 0, none⟩), .int .u64 (va : Int)] w' fun r w'' => r = .returned (.tuple #[lfv zl, .int .i64 51]) ∧ Below w'.heap.size w' w'') := by
  obtain ⟨C, hW, hR⟩ := h
  have h1 := fun w' (hb : Below w.heap.size w w') => find13_any (S := S) va (hW.below hb) hva
  unfold findW at h1
  cases hc : canN va with
  | false =>
    have hn : holdP S.L va = none := by unfold holdP; rw [hc]; rfl
    rw [hc] at h1
    exact .inr ⟨hn, hold_no hn, h1⟩
  | true =>
    rw [hc] at h1
    replace h1 : ∀ w', Below w.heap.size w w' → Calls Try.prog 11 #[.pointer (some ⟨tp, 0, none⟩), .int .u64 (va : Int)] w' fun r w'' => r = .returned (.tuple #[lfv (fnd fs (Mw C) va 3 first).1, .int .i64 ((fnd fs (Mw C) va 3 first).2 : Nat)]) ∧ Below w'.heap.size w' w'' := h1
    rcases fnd_hold hR hc with ⟨m, l, f, hh, rfl, hl, hp, hf, he⟩ | ⟨hh, he⟩
    · obtain ⟨i, hi, hpi, hen⟩ := hold_idx hh
      obtain ⟨hm, _, hmva⟩ := pg_mem hp
      rw [he] at h1
      exact .inl ⟨m, f, i, hh, hi, hen, hpi, hl, hmva, rfl, hf, (may_parts (hR.pagesOk m hm).2.2.2.1).2.1, h1⟩
    · rw [he] at h1
      exact .inr ⟨hh, hold_no hh, h1⟩
theorem change13_nil (va : Nat) (e : Ent) (w : World) : Calls Try.prog 13 #[.pointer none, .int .u64 (va : Int), pv e] w fun r w' => r = .returned (.int .i64 1) ∧ Chg no w w' := by
  have h1 := fun w => (find13_nil va w).mono (fun r w' h => (⟨h.1, h.2.none⟩ : r = .returned (.tuple #[lfv zl, .int .i64 1]) ∧ Below w.heap.size w w'))
  obtain ⟨v, r, x1, x, u, g, a, d, rsw, ppn⟩ := e
  unfold pv lfv zl at *
  dsimp only at *
  have H1 := Lib.hid h1; clear h1
  go_enter Try.func13, Try.ntmps13
  go_wp2_with fail
  have nb0 : Blk (w.alloc (.cells #[.bool v, .bool r, .bool x1, .bool x, .bool u, .bool g, .bool a, .bool d, .int .i64 rsw, .int .u64 (ppn : Int)] 39)) (w.heap.size) [.bool v, .bool r, .bool x1, .bool x, .bool u, .bool g, .bool a, .bool d, .int .i64 rsw, .int .u64 (ppn : Int)] 39 := Blk.new w [.bool v, .bool r, .bool x1, .bool x, .bool u, .bool g, .bool a, .bool d, .int .i64 rsw, .int .u64 (ppn : Int)] 39
  have nls : Below w.heap.size w w := (Below.refl w.heap.size w)
  have nl0 := nls.alloc nls.size (.cells #[.bool v, .bool r, .bool x1, .bool x, .bool u, .bool g, .bool a, .bool d, .int .i64 rsw, .int .u64 (ppn : Int)] 39)
  have nl : Below w.heap.size w (w.alloc (.cells #[.bool v, .bool r, .bool x1, .bool x, .bool u, .bool g, .bool a, .bool d, .int .i64 rsw, .int .u64 (ppn : Int)] 39)) := nl0; clear nls nl0
  obtain ⟨B1, hB0⟩ : ∃ B, B = w.heap.size := ⟨_, rfl⟩
  obtain ⟨W1, hW⟩ : ∃ W, W = (w.alloc (.cells #[.bool v, .bool r, .bool x1, .bool x, .bool u, .bool g, .bool a, .bool d, .int .i64 rsw, .int .u64 (ppn : Int)] 39)) := ⟨_, rfl⟩
  rw [← hW] at nl nb0
  rw [← hB0] at nb0
  rw [← hW]
  try rw [← hB0]
  have K1_0 := Lib.hid nb0
  have G1 : Hid (w.heap.size ≤ B1) := Lib.hid (by have := (Nat.le_refl w.heap.size); omega)
  have L1 := Lib.hid nl
  clear nl hW nb0 hB0
  refine (H1.out _).mono ?_
  rintro e w2 ⟨rfl, hb⟩
  have L2 := Lib.hid (L1.out.trans (hb.mono L1.out.size))
  have K2_0 := Lib.hid (K1_0.out.below hb K1_0.out.lt)
  clear hb K1_0
  go_wp2
  go_ret
  refine ⟨rfl, Chg.of_below ?_⟩
  have hz9 := L2.out.size
  refine Below.trans L2.out ?_
  repeat (first | (with_reducible refine Below.setCell ?_ ?ybel _; case ybel => (first | omega | (simp <;> omega))) | (with_reducible refine Below.alloc ?_ ?ybel _; case ybel => (first | omega | (simp <;> omega))) | (with_reducible refine below_drewNsB ?_ _) | (with_reducible refine below_drewNs ?_ _) | (with_reducible refine Below.drew ?_) | (with_reducible exact Below.refl _ _))
  all_goals omega
theorem lay13_at {first n fs : Nat} {w : World} {tp mp sp : Nat} {Fm Gs : Nat → Prop} {S : Tt} {c : Nat} (va : Nat) (e e2 : Ent) (f : Nat) (lv : Nat) (hva : va < 18446744073709551616) (hr : -9223372036854775808 ≤ e.rsw ∧ e.rsw ≤ 9223372036854775807) (hp : e.ppn < 18446744073709551616) (hn : c < 970) (S' : Tt) (hu : S'.used = S.used)
    (hR2 : ∀ C, RT first fs (Mw C) S → (∀ g, (C g).length = 4096) → RT first fs (Mw (stC fs C (f * 4096 + 8 * fld va (12 + 9 * lv) 9) 8 ((wordE e : Nat) : Int))) S')
    (h : TS first n fs w tp mp sp Fm Gs S c) (hf : frmT first S.T va lv = some f) :
    Calls Try.prog 26 #[.pointer (some ⟨tp, 0, none⟩), .int .u64 ((f * 4096 + 8 * fld va (12 + 9 * lv) 9 : Nat) : Int), pv e] w fun r w'' => r = .returned (.int .i64 0) ∧ ∃ F', TS first n fs w'' tp mp sp F' Gs S' (c + 1) ∧ Nx w w'' tp mp Fm Gs F' Gs := by
  obtain ⟨C, hW, hR⟩ := h
  have hfl := frm_lt hR hf
  have hp9 := place_frame f (fld9 va lv)
  refine (lay13_any tp mp sp fs c (f * 4096 + 8 * fld va (12 + 9 * lv) 9) first S.used e C Fm w hW.blk hW.mem (place_8 _ _) (by rw [hp9]; exact hfl.2.2.1) (by omega) hW.mt hr hp).mono ?_
  rintro r w'' ⟨rfl, F', hM, hx, hc'⟩
  have hw := hW.wrote hM hx hc'
  rw [← hu] at hw
  exact ⟨rfl, F', ⟨_, hw.1, hR2 C hR (fun g => (hW.mem.byt g).2)⟩, hw.2⟩
set_option maxHeartbeats 8000000 in
theorem change13_any {first n fs : Nat} {w : World} {tp mp sp : Nat} {Fm Gs : Nat → Prop} {S : Tt} {c : Nat} (va : Nat) (e : Ent) (h : TS first n fs w tp mp sp Fm Gs S c) (hva : va < 18446744073709551616) (hr : -9223372036854775808 ≤ e.rsw ∧ e.rsw ≤ 9223372036854775807) (hp : e.ppn < 18446744073709551616) (hn : c < 970) :
    Calls Try.prog 13 #[.pointer (some ⟨tp, 0, none⟩), .int .u64 (va : Int), pv e] w fun r w' => r = .returned (.int .i64 (chgT va e S).2) ∧ ∃ Fm' Gs', TS first n fs w' tp mp sp Fm' Gs' (chgT va e S).1 (c + 5) ∧ Nx w w' tp mp Fm Gs Fm' Gs' := by
  have HT := Lib.hid h
  rcases find13_two va h hva with ⟨m, f, i, hh, hi, hen, hpi, hl, hmva, hc, hf, hfit, h1⟩ | ⟨hh, hi, h1⟩
  · have hz : chgT va e S = if mayE e m.lv then (⟨setE S.L i e, S.T, S.used⟩, 0) else (S, 2) := by
      unfold chgT; rw [hi]; dsimp only; rw [hen]
    have hse : setE S.L i e = S.L.set i ⟨bas va m.lv, m.lv, e⟩ := by unfold setE; rw [hen, hmva]
    rw [hz, hse]
    have h2 := fun w => page13_any e m.lv w hr hp
    have h3 := fun (w' : World) (hb : Below w.heap.size w w') (hm : mayE e m.lv = true) => lay13_at (S := S) va e e f m.lv hva hr hp hn ⟨S.L.set i ⟨bas va m.lv, m.lv, e⟩, S.T, S.used⟩ rfl (fun C hR hlen => change13 hR hlen hc hl hf hm hpi) (h.below hb) hf
    generalize mayE e m.lv = MV at *
    generalize (⟨S.L.set i ⟨bas va m.lv, m.lv, e⟩, S.T, S.used⟩ : Tt) = S2 at *
    generalize f * 4096 + 8 * fld va (12 + 9 * m.lv) 9 = A at *
    clear hh hi hen hpi hmva hc hf hz hse h
    obtain ⟨v, r, x1, x, u, g, a, d, rsw, ppn⟩ := e
    obtain ⟨mva, lv, ⟨v2, r2, y2, x2, u2, g2, a2, d2, rsw2, ppn2⟩⟩ := m
    unfold pv lfv at *
    dsimp only at *
    have H1 := Lib.hid h1; have H2 := Lib.hid h2; have H3 := Lib.hid h3; clear h1 h2 h3 hva hr hp hl hfit
    go_enter Try.func13, Try.ntmps13
    go_wp2_with fail
    have nb0 : Blk (w.alloc (.cells #[.bool v, .bool r, .bool x1, .bool x, .bool u, .bool g, .bool a, .bool d, .int .i64 rsw, .int .u64 (ppn : Int)] 39)) (w.heap.size) [.bool v, .bool r, .bool x1, .bool x, .bool u, .bool g, .bool a, .bool d, .int .i64 rsw, .int .u64 (ppn : Int)] 39 := Blk.new w [.bool v, .bool r, .bool x1, .bool x, .bool u, .bool g, .bool a, .bool d, .int .i64 rsw, .int .u64 (ppn : Int)] 39
    have nls : Below w.heap.size w w := (Below.refl w.heap.size w)
    have nl0 := nls.alloc nls.size (.cells #[.bool v, .bool r, .bool x1, .bool x, .bool u, .bool g, .bool a, .bool d, .int .i64 rsw, .int .u64 (ppn : Int)] 39)
    have nl : Below w.heap.size w (w.alloc (.cells #[.bool v, .bool r, .bool x1, .bool x, .bool u, .bool g, .bool a, .bool d, .int .i64 rsw, .int .u64 (ppn : Int)] 39)) := nl0; clear nls nl0
    obtain ⟨B1, hB0⟩ : ∃ B, B = w.heap.size := ⟨_, rfl⟩
    obtain ⟨W1, hW⟩ : ∃ W, W = (w.alloc (.cells #[.bool v, .bool r, .bool x1, .bool x, .bool u, .bool g, .bool a, .bool d, .int .i64 rsw, .int .u64 (ppn : Int)] 39)) := ⟨_, rfl⟩
    rw [← hW] at nl nb0
    rw [← hB0] at nb0
    rw [← hW]
    try rw [← hB0]
    have K1_0 := Lib.hid nb0
    have G1 : Hid (w.heap.size ≤ B1) := Lib.hid (by have := (Nat.le_refl w.heap.size); omega)
    have L1 := Lib.hid nl
    clear nl hW nb0 hB0
    refine (H1.out _ L1.out).mono ?_
    rintro e w2 ⟨rfl, hb⟩
    have L2 := Lib.hid (L1.out.trans (hb.mono L1.out.size))
    have K2_0 := Lib.hid (K1_0.out.below hb K1_0.out.lt)
    clear hb K1_0
    go_upto_region 2 with (fail)
    have nb0 : Blk (w2.alloc (.cells #[.bool v2, .bool r2, .bool y2, .bool x2, .bool u2, .bool g2, .bool a2, .bool d2, .int .i64 rsw2, .int .u64 (ppn2 : Int), .int .i64 (lv : Int), .int .u64 (A : Int)] 43)) (w2.heap.size) [.bool v2, .bool r2, .bool y2, .bool x2, .bool u2, .bool g2, .bool a2, .bool d2, .int .i64 rsw2, .int .u64 (ppn2 : Int), .int .i64 (lv : Int), .int .u64 (A : Int)] 43 := Blk.new w2 [.bool v2, .bool r2, .bool y2, .bool x2, .bool u2, .bool g2, .bool a2, .bool d2, .int .i64 rsw2, .int .u64 (ppn2 : Int), .int .i64 (lv : Int), .int .u64 (A : Int)] 43
    have nls : Below w.heap.size w w2 := L2.out
    have nl0 := nls.alloc nls.size (.cells #[.bool v2, .bool r2, .bool y2, .bool x2, .bool u2, .bool g2, .bool a2, .bool d2, .int .i64 rsw2, .int .u64 (ppn2 : Int), .int .i64 (lv : Int), .int .u64 (A : Int)] 43)
    have nl : Below w.heap.size w (w2.alloc (.cells #[.bool v2, .bool r2, .bool y2, .bool x2, .bool u2, .bool g2, .bool a2, .bool d2, .int .i64 rsw2, .int .u64 (ppn2 : Int), .int .i64 (lv : Int), .int .u64 (A : Int)] 43)) := nl0; clear nls nl0
    have o0 : Blk (w2.alloc (.cells #[.bool v2, .bool r2, .bool y2, .bool x2, .bool u2, .bool g2, .bool a2, .bool d2, .int .i64 rsw2, .int .u64 (ppn2 : Int), .int .i64 (lv : Int), .int .u64 (A : Int)] 43)) B1 [.bool v, .bool r, .bool x1, .bool x, .bool u, .bool g, .bool a, .bool d, .int .i64 rsw, .int .u64 (ppn : Int)] 39 := (K2_0.out.alloc (.cells #[.bool v2, .bool r2, .bool y2, .bool x2, .bool u2, .bool g2, .bool a2, .bool d2, .int .i64 rsw2, .int .u64 (ppn2 : Int), .int .i64 (lv : Int), .int .u64 (A : Int)] 43))
    have d3_0 : B1 < w2.heap.size := K2_0.out.lt
    obtain ⟨B3, hB0⟩ : ∃ B, B = w2.heap.size := ⟨_, rfl⟩
    obtain ⟨W3, hW⟩ : ∃ W, W = (w2.alloc (.cells #[.bool v2, .bool r2, .bool y2, .bool x2, .bool u2, .bool g2, .bool a2, .bool d2, .int .i64 rsw2, .int .u64 (ppn2 : Int), .int .i64 (lv : Int), .int .u64 (A : Int)] 43)) := ⟨_, rfl⟩
    rw [← hW] at nl nb0 o0
    rw [← hB0] at nb0
    rw [← hW]
    try rw [← hB0]
    have K3_0 := Lib.hid o0
    have K3_1 := Lib.hid nb0
    have G3 : Hid (w.heap.size ≤ B3) := Lib.hid (by have := L2.out.size; omega)
    have x3_0_0 : B1 ≠ B3 := by omega
    have X3_0_0 := Lib.hid x3_0_0; clear x3_0_0
    have L3 := Lib.hid nl
    clear nl hW nb0 hB0 o0 d3_0 K2_0
    have m0_0 : W3.cell? ⟨B1, 0, none⟩ = some _ := K3_0.out.cell 0
    have m0_1 : W3.cell? ⟨B1, 1, none⟩ = some _ := K3_0.out.cell 1
    have m0_2 : W3.cell? ⟨B1, 2, none⟩ = some _ := K3_0.out.cell 2
    have m0_3 : W3.cell? ⟨B1, 3, none⟩ = some _ := K3_0.out.cell 3
    have m0_4 : W3.cell? ⟨B1, 4, none⟩ = some _ := K3_0.out.cell 4
    have m0_5 : W3.cell? ⟨B1, 5, none⟩ = some _ := K3_0.out.cell 5
    have m0_6 : W3.cell? ⟨B1, 6, none⟩ = some _ := K3_0.out.cell 6
    have m0_7 : W3.cell? ⟨B1, 7, none⟩ = some _ := K3_0.out.cell 7
    have m0_8 : W3.cell? ⟨B1, 8, none⟩ = some _ := K3_0.out.cell 8
    have m0_9 : W3.cell? ⟨B1, 9, none⟩ = some _ := K3_0.out.cell 9
    have mlt0 : B1 < W3.heap.size := K3_0.out.lt
    have m1_0 : W3.cell? ⟨B3, 0, none⟩ = some _ := K3_1.out.cell 0
    have m1_1 : W3.cell? ⟨B3, 1, none⟩ = some _ := K3_1.out.cell 1
    have m1_2 : W3.cell? ⟨B3, 2, none⟩ = some _ := K3_1.out.cell 2
    have m1_3 : W3.cell? ⟨B3, 3, none⟩ = some _ := K3_1.out.cell 3
    have m1_4 : W3.cell? ⟨B3, 4, none⟩ = some _ := K3_1.out.cell 4
    have m1_5 : W3.cell? ⟨B3, 5, none⟩ = some _ := K3_1.out.cell 5
    have m1_6 : W3.cell? ⟨B3, 6, none⟩ = some _ := K3_1.out.cell 6
    have m1_7 : W3.cell? ⟨B3, 7, none⟩ = some _ := K3_1.out.cell 7
    have m1_8 : W3.cell? ⟨B3, 8, none⟩ = some _ := K3_1.out.cell 8
    have m1_9 : W3.cell? ⟨B3, 9, none⟩ = some _ := K3_1.out.cell 9
    have m1_10 : W3.cell? ⟨B3, 10, none⟩ = some _ := K3_1.out.cell 10
    have m1_11 : W3.cell? ⟨B3, 11, none⟩ = some _ := K3_1.out.cell 11
    have mlt1 : B3 < W3.heap.size := K3_1.out.lt
    go_wp2_with fail
    clear m0_0 m0_1 m0_2 m0_3 m0_4 m0_5 m0_6 m0_7 m0_8 m0_9 mlt0 m1_0 m1_1 m1_2 m1_3 m1_4 m1_5 m1_6 m1_7 m1_8 m1_9 m1_10 m1_11 mlt1
    refine (H2.out _).mono ?_
    rintro e w4 ⟨rfl, hb⟩
    have L4 := Lib.hid (L3.out.trans (hb.mono L3.out.size))
    have K4_0 := Lib.hid (K3_0.out.below hb K3_0.out.lt)
    have K4_1 := Lib.hid (K3_1.out.below hb K3_1.out.lt)
    clear hb K3_0 K3_1
    cases MV
    · go_wp2
      go_ret
      exact ⟨rfl, Fm, Gs, (HT.out.below L4.out).mono (by omega), Nx.below L4.out⟩
    · have m0_0 : w4.cell? ⟨B1, 0, none⟩ = some _ := K4_0.out.cell 0
      have m0_1 : w4.cell? ⟨B1, 1, none⟩ = some _ := K4_0.out.cell 1
      have m0_2 : w4.cell? ⟨B1, 2, none⟩ = some _ := K4_0.out.cell 2
      have m0_3 : w4.cell? ⟨B1, 3, none⟩ = some _ := K4_0.out.cell 3
      have m0_4 : w4.cell? ⟨B1, 4, none⟩ = some _ := K4_0.out.cell 4
      have m0_5 : w4.cell? ⟨B1, 5, none⟩ = some _ := K4_0.out.cell 5
      have m0_6 : w4.cell? ⟨B1, 6, none⟩ = some _ := K4_0.out.cell 6
      have m0_7 : w4.cell? ⟨B1, 7, none⟩ = some _ := K4_0.out.cell 7
      have m0_8 : w4.cell? ⟨B1, 8, none⟩ = some _ := K4_0.out.cell 8
      have m0_9 : w4.cell? ⟨B1, 9, none⟩ = some _ := K4_0.out.cell 9
      have mlt0 : B1 < w4.heap.size := K4_0.out.lt
      have m1_0 : w4.cell? ⟨B3, 0, none⟩ = some _ := K4_1.out.cell 0
      have m1_1 : w4.cell? ⟨B3, 1, none⟩ = some _ := K4_1.out.cell 1
      have m1_2 : w4.cell? ⟨B3, 2, none⟩ = some _ := K4_1.out.cell 2
      have m1_3 : w4.cell? ⟨B3, 3, none⟩ = some _ := K4_1.out.cell 3
      have m1_4 : w4.cell? ⟨B3, 4, none⟩ = some _ := K4_1.out.cell 4
      have m1_5 : w4.cell? ⟨B3, 5, none⟩ = some _ := K4_1.out.cell 5
      have m1_6 : w4.cell? ⟨B3, 6, none⟩ = some _ := K4_1.out.cell 6
      have m1_7 : w4.cell? ⟨B3, 7, none⟩ = some _ := K4_1.out.cell 7
      have m1_8 : w4.cell? ⟨B3, 8, none⟩ = some _ := K4_1.out.cell 8
      have m1_9 : w4.cell? ⟨B3, 9, none⟩ = some _ := K4_1.out.cell 9
      have m1_10 : w4.cell? ⟨B3, 10, none⟩ = some _ := K4_1.out.cell 10
      have m1_11 : w4.cell? ⟨B3, 11, none⟩ = some _ := K4_1.out.cell 11
      have mlt1 : B3 < w4.heap.size := K4_1.out.lt
      go_wp2_with fail
      clear m0_0 m0_1 m0_2 m0_3 m0_4 m0_5 m0_6 m0_7 m0_8 m0_9 mlt0 m1_0 m1_1 m1_2 m1_3 m1_4 m1_5 m1_6 m1_7 m1_8 m1_9 m1_10 m1_11 mlt1
      refine (H3.out _ L4.out (by trivial)).mono ?_
      rintro e w10 ⟨rfl, F', hT2, hN2⟩
      have HT2 := Lib.hid hT2; have HN2 := Lib.hid ((Nx.below (A := Fm) (B := Gs) (tp := tp) (mp := mp) L4.out).trans hN2); clear hT2 hN2
      go_wp2
      go_ret
      exact ⟨rfl, F', Gs, HT2.out.mono (by omega), HN2.out⟩
  · have hz : chgT va e S = (S, 51) := by unfold chgT; rw [hi]
    rw [hz]
    clear hh hi hz h hr hp hva
    obtain ⟨v, r, x1, x, u, g, a, d, rsw, ppn⟩ := e
    unfold pv lfv zl at *
    dsimp only at *
    have H1 := Lib.hid h1; clear h1
    go_enter Try.func13, Try.ntmps13
    go_wp2_with fail
    have nb0 : Blk (w.alloc (.cells #[.bool v, .bool r, .bool x1, .bool x, .bool u, .bool g, .bool a, .bool d, .int .i64 rsw, .int .u64 (ppn : Int)] 39)) (w.heap.size) [.bool v, .bool r, .bool x1, .bool x, .bool u, .bool g, .bool a, .bool d, .int .i64 rsw, .int .u64 (ppn : Int)] 39 := Blk.new w [.bool v, .bool r, .bool x1, .bool x, .bool u, .bool g, .bool a, .bool d, .int .i64 rsw, .int .u64 (ppn : Int)] 39
    have nls : Below w.heap.size w w := (Below.refl w.heap.size w)
    have nl0 := nls.alloc nls.size (.cells #[.bool v, .bool r, .bool x1, .bool x, .bool u, .bool g, .bool a, .bool d, .int .i64 rsw, .int .u64 (ppn : Int)] 39)
    have nl : Below w.heap.size w (w.alloc (.cells #[.bool v, .bool r, .bool x1, .bool x, .bool u, .bool g, .bool a, .bool d, .int .i64 rsw, .int .u64 (ppn : Int)] 39)) := nl0; clear nls nl0
    obtain ⟨B1, hB0⟩ : ∃ B, B = w.heap.size := ⟨_, rfl⟩
    obtain ⟨W1, hW⟩ : ∃ W, W = (w.alloc (.cells #[.bool v, .bool r, .bool x1, .bool x, .bool u, .bool g, .bool a, .bool d, .int .i64 rsw, .int .u64 (ppn : Int)] 39)) := ⟨_, rfl⟩
    rw [← hW] at nl nb0
    rw [← hB0] at nb0
    rw [← hW]
    try rw [← hB0]
    have K1_0 := Lib.hid nb0
    have G1 : Hid (w.heap.size ≤ B1) := Lib.hid (by have := (Nat.le_refl w.heap.size); omega)
    have L1 := Lib.hid nl
    clear nl hW nb0 hB0
    refine (H1.out _ L1.out).mono ?_
    rintro e w2 ⟨rfl, hb⟩
    have L2 := Lib.hid (L1.out.trans (hb.mono L1.out.size))
    have K2_0 := Lib.hid (K1_0.out.below hb K1_0.out.lt)
    clear hb K1_0
    go_upto_region 2 with (fail)
    have nb0 : Blk (w2.alloc (.cells #[.bool false, .bool false, .bool false, .bool false, .bool false, .bool false, .bool false, .bool false, .int .i64 0, .int .u64 0, .int .i64 0, .int .u64 0] 43)) (w2.heap.size) [.bool false, .bool false, .bool false, .bool false, .bool false, .bool false, .bool false, .bool false, .int .i64 0, .int .u64 0, .int .i64 0, .int .u64 0] 43 := Blk.new w2 [.bool false, .bool false, .bool false, .bool false, .bool false, .bool false, .bool false, .bool false, .int .i64 0, .int .u64 0, .int .i64 0, .int .u64 0] 43
    have nls : Below w.heap.size w w2 := L2.out
    have nl0 := nls.alloc nls.size (.cells #[.bool false, .bool false, .bool false, .bool false, .bool false, .bool false, .bool false, .bool false, .int .i64 0, .int .u64 0, .int .i64 0, .int .u64 0] 43)
    have nl : Below w.heap.size w (w2.alloc (.cells #[.bool false, .bool false, .bool false, .bool false, .bool false, .bool false, .bool false, .bool false, .int .i64 0, .int .u64 0, .int .i64 0, .int .u64 0] 43)) := nl0; clear nls nl0
    have o0 : Blk (w2.alloc (.cells #[.bool false, .bool false, .bool false, .bool false, .bool false, .bool false, .bool false, .bool false, .int .i64 0, .int .u64 0, .int .i64 0, .int .u64 0] 43)) B1 [.bool v, .bool r, .bool x1, .bool x, .bool u, .bool g, .bool a, .bool d, .int .i64 rsw, .int .u64 (ppn : Int)] 39 := (K2_0.out.alloc (.cells #[.bool false, .bool false, .bool false, .bool false, .bool false, .bool false, .bool false, .bool false, .int .i64 0, .int .u64 0, .int .i64 0, .int .u64 0] 43))
    have d3_0 : B1 < w2.heap.size := K2_0.out.lt
    obtain ⟨B3, hB0⟩ : ∃ B, B = w2.heap.size := ⟨_, rfl⟩
    obtain ⟨W3, hW⟩ : ∃ W, W = (w2.alloc (.cells #[.bool false, .bool false, .bool false, .bool false, .bool false, .bool false, .bool false, .bool false, .int .i64 0, .int .u64 0, .int .i64 0, .int .u64 0] 43)) := ⟨_, rfl⟩
    rw [← hW] at nl nb0 o0
    rw [← hB0] at nb0
    rw [← hW]
    try rw [← hB0]
    have K3_0 := Lib.hid o0
    have K3_1 := Lib.hid nb0
    have G3 : Hid (w.heap.size ≤ B3) := Lib.hid (by have := L2.out.size; omega)
    have x3_0_0 : B1 ≠ B3 := by omega
    have X3_0_0 := Lib.hid x3_0_0; clear x3_0_0
    have L3 := Lib.hid nl
    clear nl hW nb0 hB0 o0 d3_0 K2_0
    go_wp2
    go_ret
    exact ⟨rfl, Fm, Gs, (HT.out.below L3.out).mono (by omega), Nx.below L3.out⟩
theorem load_lfpte {w : World} {b : Nat} {c0 c1 c2 c3 c4 c5 c6 c7 c8 c9 c10 c11 : Value} (h : Blk w b [c0, c1, c2, c3, c4, c5, c6, c7, c8, c9, c10, c11] 43) : (Instr.loadAt 39 (.pointer (some ⟨b, 0, none⟩))).run Try.prog w = .ok (.agg #[c0, c1, c2, c3, c4, c5, c6, c7, c8, c9]) w := by
  have h0 : w.cell? ⟨b, 0, none⟩ = some c0 := h.cell 0
  have h1 : w.cell? ⟨b, 1, none⟩ = some c1 := h.cell 1
  have h2 : w.cell? ⟨b, 2, none⟩ = some c2 := h.cell 2
  have h3 : w.cell? ⟨b, 3, none⟩ = some c3 := h.cell 3
  have h4 : w.cell? ⟨b, 4, none⟩ = some c4 := h.cell 4
  have h5 : w.cell? ⟨b, 5, none⟩ = some c5 := h.cell 5
  have h6 : w.cell? ⟨b, 6, none⟩ = some c6 := h.cell 6
  have h7 : w.cell? ⟨b, 7, none⟩ = some c7 := h.cell 7
  have h8 : w.cell? ⟨b, 8, none⟩ = some c8 := h.cell 8
  have h9 : w.cell? ⟨b, 9, none⟩ = some c9 := h.cell 9
  have h10 : w.cell? ⟨b, 10, none⟩ = some c10 := h.cell 10
  have h11 : w.cell? ⟨b, 11, none⟩ = some c11 := h.cell 11
  clear h
  go_simp
theorem yield_lfpte {w : World} {b : Nat} {c0 c1 c2 c3 c4 c5 c6 c7 c8 c9 c10 c11 : Value} (a : Act) (o : Oper) (x : Operand) (ho : o.op = .load 39 x) (hx : a.eval x = .pointer (some ⟨b, 0, none⟩)) (h : Blk w b [c0, c1, c2, c3, c4, c5, c6, c7, c8, c9, c10, c11] 43) :
    (execOp a.eval o).run Try.prog w = .ok (.value (.agg #[c0, c1, c2, c3, c4, c5, c6, c7, c8, c9])) w := by
  have e := load_lfpte h
  obtain ⟨op, _, _, _, _, _⟩ := o
  dsimp only at ho
  subst ho
  unfold execOp
  simp only [hx]
  simp [e]
theorem load_lfat {w : World} {b : Nat} {c0 c1 c2 c3 c4 c5 c6 c7 c8 c9 c10 c11 : Value} (h : Blk w b [c0, c1, c2, c3, c4, c5, c6, c7, c8, c9, c10, c11] 43) : (Instr.loadAt 37 (.pointer (some ⟨b, 11, none⟩))).run Try.prog w = .ok (c11) w := by
  have h0 : w.cell? ⟨b, 0, none⟩ = some c0 := h.cell 0
  have h1 : w.cell? ⟨b, 1, none⟩ = some c1 := h.cell 1
  have h2 : w.cell? ⟨b, 2, none⟩ = some c2 := h.cell 2
  have h3 : w.cell? ⟨b, 3, none⟩ = some c3 := h.cell 3
  have h4 : w.cell? ⟨b, 4, none⟩ = some c4 := h.cell 4
  have h5 : w.cell? ⟨b, 5, none⟩ = some c5 := h.cell 5
  have h6 : w.cell? ⟨b, 6, none⟩ = some c6 := h.cell 6
  have h7 : w.cell? ⟨b, 7, none⟩ = some c7 := h.cell 7
  have h8 : w.cell? ⟨b, 8, none⟩ = some c8 := h.cell 8
  have h9 : w.cell? ⟨b, 9, none⟩ = some c9 := h.cell 9
  have h10 : w.cell? ⟨b, 10, none⟩ = some c10 := h.cell 10
  have h11 : w.cell? ⟨b, 11, none⟩ = some c11 := h.cell 11
  clear h
  go_simp
theorem yield_lfat {w : World} {b : Nat} {c0 c1 c2 c3 c4 c5 c6 c7 c8 c9 c10 c11 : Value} (a : Act) (o : Oper) (x : Operand) (ho : o.op = .load 37 x) (hx : a.eval x = .pointer (some ⟨b, 11, none⟩)) (h : Blk w b [c0, c1, c2, c3, c4, c5, c6, c7, c8, c9, c10, c11] 43) :
    (execOp a.eval o).run Try.prog w = .ok (.value (c11)) w := by
  have e := load_lfat h
  obtain ⟨op, _, _, _, _, _⟩ := o
  dsimp only at ho
  subst ho
  unfold execOp
  simp only [hx]
  simp [e]
set_option maxHeartbeats 4000000 in
theorem unmap13_nil (va : Nat) (w : World) : Calls Try.prog 10 #[.pointer none, .int .u64 (va : Int)] w fun r w' => r = .returned (.tuple #[pv zeE, .int .i64 1]) ∧ Chg no w w' := by
  have h1 := fun w => (find13_nil va w).mono (fun r w' h => (⟨h.1, h.2.none⟩ : r = .returned (.tuple #[lfv zl, .int .i64 1]) ∧ Below w.heap.size w w'))
  unfold pv lfv zl zeE at *
  dsimp only at *
  have H1 := Lib.hid h1; clear h1
  go_enter Try.func10, Try.ntmps10
  go_wp2_with fail
  have nb0 : Blk (w.alloc (.cells #[.bool false, .bool false, .bool false, .bool false, .bool false, .bool false, .bool false, .bool false, .int .i64 0, .int .u64 0] 39)) (w.heap.size) [.bool false, .bool false, .bool false, .bool false, .bool false, .bool false, .bool false, .bool false, .int .i64 0, .int .u64 0] 39 := Blk.new w [.bool false, .bool false, .bool false, .bool false, .bool false, .bool false, .bool false, .bool false, .int .i64 0, .int .u64 0] 39
  have nls : Below w.heap.size w w := (Below.refl w.heap.size w)
  have nl0 := nls.alloc nls.size (.cells #[.bool false, .bool false, .bool false, .bool false, .bool false, .bool false, .bool false, .bool false, .int .i64 0, .int .u64 0] 39)
  have nl : Below w.heap.size w (w.alloc (.cells #[.bool false, .bool false, .bool false, .bool false, .bool false, .bool false, .bool false, .bool false, .int .i64 0, .int .u64 0] 39)) := nl0; clear nls nl0
  obtain ⟨B1, hB0⟩ : ∃ B, B = w.heap.size := ⟨_, rfl⟩
  obtain ⟨W1, hW⟩ : ∃ W, W = (w.alloc (.cells #[.bool false, .bool false, .bool false, .bool false, .bool false, .bool false, .bool false, .bool false, .int .i64 0, .int .u64 0] 39)) := ⟨_, rfl⟩
  rw [← hW] at nl nb0
  rw [← hB0] at nb0
  rw [← hW]
  try rw [← hB0]
  have K1_0 := Lib.hid nb0
  have G1 : Hid (w.heap.size ≤ B1) := Lib.hid (by have := (Nat.le_refl w.heap.size); omega)
  have L1 := Lib.hid nl
  clear nl hW nb0 hB0
  refine (H1.out _).mono ?_
  rintro e w2 ⟨rfl, hb⟩
  have L2 := Lib.hid (L1.out.trans (hb.mono L1.out.size))
  have K2_0 := Lib.hid (K1_0.out.below hb K1_0.out.lt)
  clear hb K1_0
  go_upto_region 2 with (fail)
  have nb0 : Blk (w2.alloc (.cells #[.bool false, .bool false, .bool false, .bool false, .bool false, .bool false, .bool false, .bool false, .int .i64 0, .int .u64 0, .int .i64 0, .int .u64 0] 43)) (w2.heap.size) [.bool false, .bool false, .bool false, .bool false, .bool false, .bool false, .bool false, .bool false, .int .i64 0, .int .u64 0, .int .i64 0, .int .u64 0] 43 := Blk.new w2 [.bool false, .bool false, .bool false, .bool false, .bool false, .bool false, .bool false, .bool false, .int .i64 0, .int .u64 0, .int .i64 0, .int .u64 0] 43
  have nls : Below w.heap.size w w2 := L2.out
  have nl0 := nls.alloc nls.size (.cells #[.bool false, .bool false, .bool false, .bool false, .bool false, .bool false, .bool false, .bool false, .int .i64 0, .int .u64 0, .int .i64 0, .int .u64 0] 43)
  have nl : Below w.heap.size w (w2.alloc (.cells #[.bool false, .bool false, .bool false, .bool false, .bool false, .bool false, .bool false, .bool false, .int .i64 0, .int .u64 0, .int .i64 0, .int .u64 0] 43)) := nl0; clear nls nl0
  have o0 : Blk (w2.alloc (.cells #[.bool false, .bool false, .bool false, .bool false, .bool false, .bool false, .bool false, .bool false, .int .i64 0, .int .u64 0, .int .i64 0, .int .u64 0] 43)) B1 [.bool false, .bool false, .bool false, .bool false, .bool false, .bool false, .bool false, .bool false, .int .i64 0, .int .u64 0] 39 := (K2_0.out.alloc (.cells #[.bool false, .bool false, .bool false, .bool false, .bool false, .bool false, .bool false, .bool false, .int .i64 0, .int .u64 0, .int .i64 0, .int .u64 0] 43))
  have d3_0 : B1 < w2.heap.size := K2_0.out.lt
  obtain ⟨B3, hB0⟩ : ∃ B, B = w2.heap.size := ⟨_, rfl⟩
  obtain ⟨W3, hW⟩ : ∃ W, W = (w2.alloc (.cells #[.bool false, .bool false, .bool false, .bool false, .bool false, .bool false, .bool false, .bool false, .int .i64 0, .int .u64 0, .int .i64 0, .int .u64 0] 43)) := ⟨_, rfl⟩
  rw [← hW] at nl nb0 o0
  rw [← hB0] at nb0
  rw [← hW]
  try rw [← hB0]
  have K3_0 := Lib.hid o0
  have K3_1 := Lib.hid nb0
  have G3 : Hid (w.heap.size ≤ B3) := Lib.hid (by have := L2.out.size; omega)
  have x3_0_0 : B1 ≠ B3 := by omega
  have X3_0_0 := Lib.hid x3_0_0; clear x3_0_0
  have L3 := Lib.hid nl
  clear nl hW nb0 hB0 o0 d3_0 K2_0
  have m0_0 : W3.cell? ⟨B1, 0, none⟩ = some _ := K3_0.out.cell 0
  have m0_1 : W3.cell? ⟨B1, 1, none⟩ = some _ := K3_0.out.cell 1
  have m0_2 : W3.cell? ⟨B1, 2, none⟩ = some _ := K3_0.out.cell 2
  have m0_3 : W3.cell? ⟨B1, 3, none⟩ = some _ := K3_0.out.cell 3
  have m0_4 : W3.cell? ⟨B1, 4, none⟩ = some _ := K3_0.out.cell 4
  have m0_5 : W3.cell? ⟨B1, 5, none⟩ = some _ := K3_0.out.cell 5
  have m0_6 : W3.cell? ⟨B1, 6, none⟩ = some _ := K3_0.out.cell 6
  have m0_7 : W3.cell? ⟨B1, 7, none⟩ = some _ := K3_0.out.cell 7
  have m0_8 : W3.cell? ⟨B1, 8, none⟩ = some _ := K3_0.out.cell 8
  have m0_9 : W3.cell? ⟨B1, 9, none⟩ = some _ := K3_0.out.cell 9
  have mlt0 : B1 < W3.heap.size := K3_0.out.lt
  have mf : ∀ o, W3.frozen? ⟨B1, o, none⟩ = false := fun o => K3_0.out.free o
  go_wp2
  clear mf
  clear m0_0 m0_1 m0_2 m0_3 m0_4 m0_5 m0_6 m0_7 m0_8 m0_9 mlt0
  obtain ⟨W4, hW⟩ : ∃ W9, W9 = ((((((((((W3.setCell ⟨B1, 0, none⟩ (.bool false)).setCell ⟨B1, 1, none⟩ (.bool false)).setCell ⟨B1, 2, none⟩ (.bool false)).setCell ⟨B1, 3, none⟩ (.bool false)).setCell ⟨B1, 4, none⟩ (.bool false)).setCell ⟨B1, 5, none⟩ (.bool false)).setCell ⟨B1, 6, none⟩ (.bool false)).setCell ⟨B1, 7, none⟩ (.bool false)).setCell ⟨B1, 8, none⟩ (.int .i64 0)).setCell ⟨B1, 9, none⟩ (.int .u64 0)) := ⟨_, rfl⟩
  rw [← hW]
  have K4_0 := Lib.hid (show Blk W4 B1 [.bool false, .bool false, .bool false, .bool false, .bool false, .bool false, .bool false, .bool false, .int .i64 0, .int .u64 0] 39 from hW ▸ ((((((((((K3_0.out.set 0 (.bool false)).set 1 (.bool false)).set 2 (.bool false)).set 3 (.bool false)).set 4 (.bool false)).set 5 (.bool false)).set 6 (.bool false)).set 7 (.bool false)).set 8 (.int .i64 0)).set 9 (.int .u64 0)))
  have K4_1 := Lib.hid (show Blk W4 B3 [.bool false, .bool false, .bool false, .bool false, .bool false, .bool false, .bool false, .bool false, .int .i64 0, .int .u64 0, .int .i64 0, .int .u64 0] 43 from hW ▸ ((((((((((K3_1.out.other ⟨B1, 0, none⟩ (.bool false) (Ne.symm X3_0_0.out)).other ⟨B1, 1, none⟩ (.bool false) (Ne.symm X3_0_0.out)).other ⟨B1, 2, none⟩ (.bool false) (Ne.symm X3_0_0.out)).other ⟨B1, 3, none⟩ (.bool false) (Ne.symm X3_0_0.out)).other ⟨B1, 4, none⟩ (.bool false) (Ne.symm X3_0_0.out)).other ⟨B1, 5, none⟩ (.bool false) (Ne.symm X3_0_0.out)).other ⟨B1, 6, none⟩ (.bool false) (Ne.symm X3_0_0.out)).other ⟨B1, 7, none⟩ (.bool false) (Ne.symm X3_0_0.out)).other ⟨B1, 8, none⟩ (.int .i64 0) (Ne.symm X3_0_0.out)).other ⟨B1, 9, none⟩ (.int .u64 0) (Ne.symm X3_0_0.out)))
  have L4 := Lib.hid (show Below w.heap.size w W4 from hW ▸ (Below.setCell (Below.setCell (Below.setCell (Below.setCell (Below.setCell (Below.setCell (Below.setCell (Below.setCell (Below.setCell (Below.setCell L3.out G1.out _) G1.out _) G1.out _) G1.out _) G1.out _) G1.out _) G1.out _) G1.out _) G1.out _) G1.out _))
  clear hW K3_0 K3_1
  have rr0 : W4.cell? ⟨B1, 0, none⟩ = some _ := K4_0.out.cell 0
  have rr1 : W4.cell? ⟨B1, 1, none⟩ = some _ := K4_0.out.cell 1
  have rr2 : W4.cell? ⟨B1, 2, none⟩ = some _ := K4_0.out.cell 2
  have rr3 : W4.cell? ⟨B1, 3, none⟩ = some _ := K4_0.out.cell 3
  have rr4 : W4.cell? ⟨B1, 4, none⟩ = some _ := K4_0.out.cell 4
  have rr5 : W4.cell? ⟨B1, 5, none⟩ = some _ := K4_0.out.cell 5
  have rr6 : W4.cell? ⟨B1, 6, none⟩ = some _ := K4_0.out.cell 6
  have rr7 : W4.cell? ⟨B1, 7, none⟩ = some _ := K4_0.out.cell 7
  have rr8 : W4.cell? ⟨B1, 8, none⟩ = some _ := K4_0.out.cell 8
  have rr9 : W4.cell? ⟨B1, 9, none⟩ = some _ := K4_0.out.cell 9
  refine bodyPost_ret (v := .tuple #[.agg #[.bool false, .bool false, .bool false, .bool false, .bool false, .bool false, .bool false, .bool false, .int .i64 0, .int .u64 0], .int .i64 1]) (by simp [results, Try.results10, go_sem, rr0, rr1, rr2, rr3, rr4, rr5, rr6, rr7, rr8, rr9]) rfl ⟨rfl, Chg.of_below L4.out⟩
set_option maxHeartbeats 8000000 in
theorem unmap13_any {first n fs : Nat} {w : World} {tp mp sp : Nat} {Fm Gs : Nat → Prop} {S : Tt} {c : Nat} (va : Nat) (h : TS first n fs w tp mp sp Fm Gs S c) (hva : va < 18446744073709551616) (hn : c < 970) :
    Calls Try.prog 10 #[.pointer (some ⟨tp, 0, none⟩), .int .u64 (va : Int)] w fun r w' => r = .returned (.tuple #[pv (unmT va S).2.1, .int .i64 (unmT va S).2.2]) ∧ ∃ Fm' Gs', TS first n fs w' tp mp sp Fm' Gs' (unmT va S).1 (c + 5) ∧ Nx w w' tp mp Fm Gs Fm' Gs' := by
  have HT := Lib.hid h
  have HLT : Hid (∀ j, FpW tp mp Fm Gs j → j < w.heap.size) := Lib.hid (by obtain ⟨C0, hW0, _⟩ := h; exact hW0.lt)
  rcases find13_two va h hva with ⟨m, f, i, hh, hi, hen, hpi, hl, hmva, hc, hf, hfit, h1⟩ | ⟨hh, hi, h1⟩
  · have hz : unmT va S = (⟨S.L.eraseIdx i, S.T, S.used⟩, m.e, 0) := by
      unfold unmT; rw [hi]; dsimp only; rw [hen]
    rw [hz]
    have h3 := fun (w' : World) (hb : Below w.heap.size w w') => lay13_at (S := S) va zeE zeE f m.lv hva (by decide) (by decide) hn ⟨S.L.eraseIdx i, S.T, S.used⟩ rfl (fun C hR hlen => remove13 hR hlen hc hl hf hpi) (h.below hb) hf
    generalize (⟨S.L.eraseIdx i, S.T, S.used⟩ : Tt) = S2 at *
    generalize f * 4096 + 8 * fld va (12 + 9 * m.lv) 9 = A at *
    clear hh hi hen hpi hmva hc hf hz h
    obtain ⟨mva, lv, ⟨v2, r2, y2, x2, u2, g2, a2, d2, rsw2, ppn2⟩⟩ := m
    unfold pv lfv zeE at *
    dsimp only at *
    have H1 := Lib.hid h1; have H3 := Lib.hid h3; clear h1 h3 hva hl hfit
    go_enter Try.func10, Try.ntmps10
    go_wp2_with fail
    have nb0 : Blk (w.alloc (.cells #[.bool false, .bool false, .bool false, .bool false, .bool false, .bool false, .bool false, .bool false, .int .i64 0, .int .u64 0] 39)) (w.heap.size) [.bool false, .bool false, .bool false, .bool false, .bool false, .bool false, .bool false, .bool false, .int .i64 0, .int .u64 0] 39 := Blk.new w [.bool false, .bool false, .bool false, .bool false, .bool false, .bool false, .bool false, .bool false, .int .i64 0, .int .u64 0] 39
    have nls : Below w.heap.size w w := (Below.refl w.heap.size w)
    have nl0 := nls.alloc nls.size (.cells #[.bool false, .bool false, .bool false, .bool false, .bool false, .bool false, .bool false, .bool false, .int .i64 0, .int .u64 0] 39)
    have nl : Below w.heap.size w (w.alloc (.cells #[.bool false, .bool false, .bool false, .bool false, .bool false, .bool false, .bool false, .bool false, .int .i64 0, .int .u64 0] 39)) := nl0; clear nls nl0
    obtain ⟨B1, hB0⟩ : ∃ B, B = w.heap.size := ⟨_, rfl⟩
    obtain ⟨W1, hW⟩ : ∃ W, W = (w.alloc (.cells #[.bool false, .bool false, .bool false, .bool false, .bool false, .bool false, .bool false, .bool false, .int .i64 0, .int .u64 0] 39)) := ⟨_, rfl⟩
    rw [← hW] at nl nb0
    rw [← hB0] at nb0
    rw [← hW]
    try rw [← hB0]
    have K1_0 := Lib.hid nb0
    have G1 : Hid (w.heap.size ≤ B1) := Lib.hid (by have := (Nat.le_refl w.heap.size); omega)
    have L1 := Lib.hid nl
    clear nl hW nb0 hB0
    refine (H1.out _ L1.out).mono ?_
    rintro e w2 ⟨rfl, hb⟩
    have L2 := Lib.hid (L1.out.trans (hb.mono L1.out.size))
    have K2_0 := Lib.hid (K1_0.out.below hb K1_0.out.lt)
    clear hb K1_0
    go_upto_region 2 with (fail)
    have nb0 : Blk (w2.alloc (.cells #[.bool v2, .bool r2, .bool y2, .bool x2, .bool u2, .bool g2, .bool a2, .bool d2, .int .i64 rsw2, .int .u64 (ppn2 : Int), .int .i64 (lv : Int), .int .u64 (A : Int)] 43)) (w2.heap.size) [.bool v2, .bool r2, .bool y2, .bool x2, .bool u2, .bool g2, .bool a2, .bool d2, .int .i64 rsw2, .int .u64 (ppn2 : Int), .int .i64 (lv : Int), .int .u64 (A : Int)] 43 := Blk.new w2 [.bool v2, .bool r2, .bool y2, .bool x2, .bool u2, .bool g2, .bool a2, .bool d2, .int .i64 rsw2, .int .u64 (ppn2 : Int), .int .i64 (lv : Int), .int .u64 (A : Int)] 43
    have nls : Below w.heap.size w w2 := L2.out
    have nl0 := nls.alloc nls.size (.cells #[.bool v2, .bool r2, .bool y2, .bool x2, .bool u2, .bool g2, .bool a2, .bool d2, .int .i64 rsw2, .int .u64 (ppn2 : Int), .int .i64 (lv : Int), .int .u64 (A : Int)] 43)
    have nl : Below w.heap.size w (w2.alloc (.cells #[.bool v2, .bool r2, .bool y2, .bool x2, .bool u2, .bool g2, .bool a2, .bool d2, .int .i64 rsw2, .int .u64 (ppn2 : Int), .int .i64 (lv : Int), .int .u64 (A : Int)] 43)) := nl0; clear nls nl0
    have o0 : Blk (w2.alloc (.cells #[.bool v2, .bool r2, .bool y2, .bool x2, .bool u2, .bool g2, .bool a2, .bool d2, .int .i64 rsw2, .int .u64 (ppn2 : Int), .int .i64 (lv : Int), .int .u64 (A : Int)] 43)) B1 [.bool false, .bool false, .bool false, .bool false, .bool false, .bool false, .bool false, .bool false, .int .i64 0, .int .u64 0] 39 := (K2_0.out.alloc (.cells #[.bool v2, .bool r2, .bool y2, .bool x2, .bool u2, .bool g2, .bool a2, .bool d2, .int .i64 rsw2, .int .u64 (ppn2 : Int), .int .i64 (lv : Int), .int .u64 (A : Int)] 43))
    have d3_0 : B1 < w2.heap.size := K2_0.out.lt
    obtain ⟨B3, hB0⟩ : ∃ B, B = w2.heap.size := ⟨_, rfl⟩
    obtain ⟨W3, hW⟩ : ∃ W, W = (w2.alloc (.cells #[.bool v2, .bool r2, .bool y2, .bool x2, .bool u2, .bool g2, .bool a2, .bool d2, .int .i64 rsw2, .int .u64 (ppn2 : Int), .int .i64 (lv : Int), .int .u64 (A : Int)] 43)) := ⟨_, rfl⟩
    rw [← hW] at nl nb0 o0
    rw [← hB0] at nb0
    rw [← hW]
    try rw [← hB0]
    have K3_0 := Lib.hid o0
    have K3_1 := Lib.hid nb0
    have G3 : Hid (w.heap.size ≤ B3) := Lib.hid (by have := L2.out.size; omega)
    have x3_0_0 : B1 ≠ B3 := by omega
    have X3_0_0 := Lib.hid x3_0_0; clear x3_0_0
    have L3 := Lib.hid nl
    clear nl hW nb0 hB0 o0 d3_0 K2_0
    go_wp2_with fail
    refine wp_region_held_drew (S := fun w' => Blk w' B3 [.bool v2, .bool r2, .bool y2, .bool x2, .bool u2, .bool g2, .bool a2, .bool d2, .int .i64 rsw2, .int .u64 (ppn2 : Int), .int .i64 (lv : Int), .int .u64 (A : Int)] 43) (by kernel_rfl) K3_1.out (fun hHeld => ?_)
    simp only [List.size_toArray, List.length_cons, List.length_nil, Nat.reduceAdd]
    rw [show Array.replicate 9 false = [false, false, false, false, false, false, false, false, false].toArray from rfl]
    refine wpAnyH_take (i := 0) (v := ?_) rfl (by kernel_rfl) (by kernel_rfl) (by kernel_rfl) (fun _ _ _ h => h) (Or.inl ⟨by rfl, ?yldq⟩) (by assumption) ?_
    case yldq => (intro w hSw; (try dsimp only at hSw); go_simp; try with_reducible rfl)
    try simp only [Act.put, List.setIfInBounds_toArray, List.set_cons_zero, List.set_cons_succ, List.getElem_toArray, List.getElem_cons_succ, List.getElem_cons_zero]
    refine wpAnyH_take (i := 1) (v := _) rfl (by kernel_rfl) (by kernel_rfl) (by kernel_rfl) (fun _ _ _ h => h) (Or.inl ⟨by rfl, fun w hSw => yield_lfpte _ _ _ rfl rfl hSw⟩) (by assumption) ?_
    try simp only [Act.put, List.setIfInBounds_toArray, List.set_cons_zero, List.set_cons_succ, List.getElem_toArray, List.getElem_cons_succ, List.getElem_cons_zero]
    refine wpAnyH_take (i := 2) (v := ?_) rfl (by kernel_rfl) (by kernel_rfl) (by kernel_rfl) (fun _ _ _ h => h) (Or.inl ⟨by rfl, ?yldq⟩) (by assumption) ?_
    case yldq => (intro w hSw; (try dsimp only at hSw); go_simp; try with_reducible rfl)
    try simp only [Act.put, List.setIfInBounds_toArray, List.set_cons_zero, List.set_cons_succ, List.getElem_toArray, List.getElem_cons_succ, List.getElem_cons_zero]
    refine wpAnyH_take (i := 3) (v := ?_) rfl (by kernel_rfl) (by kernel_rfl) (by kernel_rfl) (fun _ _ _ h => h) (Or.inl ⟨by rfl, ?yldq⟩) (by assumption) ?_
    case yldq => (intro w hSw; (try dsimp only at hSw); go_simp; try with_reducible rfl)
    try simp only [Act.put, List.setIfInBounds_toArray, List.set_cons_zero, List.set_cons_succ, List.getElem_toArray, List.getElem_cons_succ, List.getElem_cons_zero]
    refine wpAnyH_take (i := 4) (v := _) rfl (by kernel_rfl) (by kernel_rfl) (by kernel_rfl) (fun _ _ _ h => h) (Or.inl ⟨by rfl, fun w hSw => yield_lfat _ _ _ rfl rfl hSw⟩) (by assumption) ?_
    try simp only [Act.put, List.setIfInBounds_toArray, List.set_cons_zero, List.set_cons_succ, List.getElem_toArray, List.getElem_cons_succ, List.getElem_cons_zero]
    refine wpAnyH_take (i := 5) (v := ?_) rfl (by kernel_rfl) (by kernel_rfl) (by kernel_rfl) (fun _ _ _ h => h) (Or.inl ⟨by rfl, ?yldq⟩) (by assumption) ?_
    case yldq => (intro w hSw; (try dsimp only at hSw); go_simp; try with_reducible rfl)
    try simp only [Act.put, List.setIfInBounds_toArray, List.set_cons_zero, List.set_cons_succ, List.getElem_toArray, List.getElem_cons_succ, List.getElem_cons_zero]
    refine wpAnyH_ready (rs := [6]) (by kernel_rfl) (by simp) ?_
    refine AllReadyH.cons rfl (fun K hK => ?_) AllReadyH.nil
    go_simp
    refine (H3.out _ (L3.out.drew)).mono ?_
    rintro e w10 ⟨rfl, F', hT2, hN2⟩
    have hfr : ∀ B, w.heap.size ≤ B → ¬ FpW tp mp Fm Gs B := fun B hB hq => by have := HLT.out _ hq; omega
    have KA := Lib.hid ((Blk.drewN K3_0.out 1).chg hN2.2 (hfr _ G1.out)); have KB := Lib.hid ((Blk.drewN K3_1.out 1).chg hN2.2 (hfr _ G3.out))
    have HNR := Lib.hid hN2.1; have HL0 := Lib.hid (show B1 < W3.drew.heap.size from K3_0.out.lt)
    have hNX := (Nx.below (A := Fm) (B := Gs) (tp := tp) (mp := mp) (L3.out.drew)).trans hN2
    have HT2 := Lib.hid hT2; have HN2 := Lib.hid hNX; have HFR := Lib.hid hfr
    clear hT2 hN2 hNX hfr hHeld
    refine hK.out _ _ KB.out (fun hS6 => ?_)
    clear hK K hS6
    refine wpAnyH_ready (rs := [7]) (by kernel_rfl) (by simp) ?_
    refine AllReadyH.cons rfl (fun K hK => ?_) AllReadyH.nil
    have m0_0 : w10.cell? ⟨B1, 0, none⟩ = some _ := KA.out.cell 0
    have m0_1 : w10.cell? ⟨B1, 1, none⟩ = some _ := KA.out.cell 1
    have m0_2 : w10.cell? ⟨B1, 2, none⟩ = some _ := KA.out.cell 2
    have m0_3 : w10.cell? ⟨B1, 3, none⟩ = some _ := KA.out.cell 3
    have m0_4 : w10.cell? ⟨B1, 4, none⟩ = some _ := KA.out.cell 4
    have m0_5 : w10.cell? ⟨B1, 5, none⟩ = some _ := KA.out.cell 5
    have m0_6 : w10.cell? ⟨B1, 6, none⟩ = some _ := KA.out.cell 6
    have m0_7 : w10.cell? ⟨B1, 7, none⟩ = some _ := KA.out.cell 7
    have m0_8 : w10.cell? ⟨B1, 8, none⟩ = some _ := KA.out.cell 8
    have m0_9 : w10.cell? ⟨B1, 9, none⟩ = some _ := KA.out.cell 9
    have mf : ∀ o, w10.frozen? ⟨B1, o, none⟩ = false := fun o => KA.out.free o
    have mlt : B1 < w10.heap.size := KA.out.lt
    go_simp
    clear mf mlt m0_0 m0_1 m0_2 m0_3 m0_4 m0_5 m0_6 m0_7 m0_8 m0_9
    obtain ⟨W11, hW11⟩ : ∃ W9, W9 = ((((((((((w10.setCell ⟨B1, 0, none⟩ (.bool v2)).setCell ⟨B1, 1, none⟩ (.bool r2)).setCell ⟨B1, 2, none⟩ (.bool y2)).setCell ⟨B1, 3, none⟩ (.bool x2)).setCell ⟨B1, 4, none⟩ (.bool u2)).setCell ⟨B1, 5, none⟩ (.bool g2)).setCell ⟨B1, 6, none⟩ (.bool a2)).setCell ⟨B1, 7, none⟩ (.bool d2)).setCell ⟨B1, 8, none⟩ (.int .i64 rsw2)).setCell ⟨B1, 9, none⟩ (.int .u64 (ppn2 : Int))) := ⟨_, rfl⟩
    rw [← hW11]
    have ka : Blk W11 B1 [.bool v2, .bool r2, .bool y2, .bool x2, .bool u2, .bool g2, .bool a2, .bool d2, .int .i64 rsw2, .int .u64 (ppn2 : Int)] 39 := hW11 ▸ ((((((((((KA.out.set 0 (.bool v2)).set 1 (.bool r2)).set 2 (.bool y2)).set 3 (.bool x2)).set 4 (.bool u2)).set 5 (.bool g2)).set 6 (.bool a2)).set 7 (.bool d2)).set 8 (.int .i64 rsw2)).set 9 (.int .u64 (ppn2 : Int)))
    have kb : Blk W11 B3 [.bool v2, .bool r2, .bool y2, .bool x2, .bool u2, .bool g2, .bool a2, .bool d2, .int .i64 rsw2, .int .u64 (ppn2 : Int), .int .i64 (lv : Int), .int .u64 (A : Int)] 43 := hW11 ▸ ((((((((((KB.out.other ⟨B1, 0, none⟩ (.bool v2) (Ne.symm X3_0_0.out)).other ⟨B1, 1, none⟩ (.bool r2) (Ne.symm X3_0_0.out)).other ⟨B1, 2, none⟩ (.bool y2) (Ne.symm X3_0_0.out)).other ⟨B1, 3, none⟩ (.bool x2) (Ne.symm X3_0_0.out)).other ⟨B1, 4, none⟩ (.bool u2) (Ne.symm X3_0_0.out)).other ⟨B1, 5, none⟩ (.bool g2) (Ne.symm X3_0_0.out)).other ⟨B1, 6, none⟩ (.bool a2) (Ne.symm X3_0_0.out)).other ⟨B1, 7, none⟩ (.bool d2) (Ne.symm X3_0_0.out)).other ⟨B1, 8, none⟩ (.int .i64 rsw2) (Ne.symm X3_0_0.out)).other ⟨B1, 9, none⟩ (.int .u64 (ppn2 : Int)) (Ne.symm X3_0_0.out))
    have kc : Chg (fun k => k = B1) w10 W11 := hW11 ▸ (((((((((((Chg.refl (fun k => k = B1) w10).setc ⟨B1, 0, none⟩ (.bool v2) (.inl rfl)).setc ⟨B1, 1, none⟩ (.bool r2) (.inl rfl)).setc ⟨B1, 2, none⟩ (.bool y2) (.inl rfl)).setc ⟨B1, 3, none⟩ (.bool x2) (.inl rfl)).setc ⟨B1, 4, none⟩ (.bool u2) (.inl rfl)).setc ⟨B1, 5, none⟩ (.bool g2) (.inl rfl)).setc ⟨B1, 6, none⟩ (.bool a2) (.inl rfl)).setc ⟨B1, 7, none⟩ (.bool d2) (.inl rfl)).setc ⟨B1, 8, none⟩ (.int .i64 rsw2) (.inl rfl)).setc ⟨B1, 9, none⟩ (.int .u64 (ppn2 : Int)) (.inl rfl))
    clear hW11
    have hnF : ∀ j, FpW tp mp F' Gs j → j ≠ B1 := fun j hj e0 => by
      rcases HNR.out j hj with h | h
      · exact HFR.out B1 G1.out (e0 ▸ h)
      · have := HL0.out; omega
    have HT3 := Lib.hid (HT2.out.chg kc hnF)
    have HN3 := Lib.hid (show Nx w W11 tp mp Fm Gs F' Gs from ⟨HN2.out.1, HN2.out.2.thenExt kc (fun j hj => .inr (by have hj : j = B1 := hj; have := G1.out; omega))⟩)
    refine hK.out _ _ kb (fun hS7 => ?_)
    have KA2 := Lib.hid ka
    clear hK K hnF kc ka kb
    refine wpAnyH_take (i := 8) (v := ?_) rfl (by kernel_rfl) (by kernel_rfl) (by kernel_rfl) (fun _ _ _ h => h) (Or.inl ⟨by rfl, ?yldq⟩) (by assumption) ?_
    case yldq => (intro w hSw; (try dsimp only at hSw); go_simp; try with_reducible rfl)
    try simp only [Act.put, List.setIfInBounds_toArray, List.set_cons_zero, List.set_cons_succ, List.getElem_toArray, List.getElem_cons_succ, List.getElem_cons_zero]
    clear hS7
    refine wpAnyH_done (by kernel_rfl) ?_ _
    go_wp2
    have rr0 : W11.cell? ⟨B1, 0, none⟩ = some _ := KA2.out.cell 0
    have rr1 : W11.cell? ⟨B1, 1, none⟩ = some _ := KA2.out.cell 1
    have rr2 : W11.cell? ⟨B1, 2, none⟩ = some _ := KA2.out.cell 2
    have rr3 : W11.cell? ⟨B1, 3, none⟩ = some _ := KA2.out.cell 3
    have rr4 : W11.cell? ⟨B1, 4, none⟩ = some _ := KA2.out.cell 4
    have rr5 : W11.cell? ⟨B1, 5, none⟩ = some _ := KA2.out.cell 5
    have rr6 : W11.cell? ⟨B1, 6, none⟩ = some _ := KA2.out.cell 6
    have rr7 : W11.cell? ⟨B1, 7, none⟩ = some _ := KA2.out.cell 7
    have rr8 : W11.cell? ⟨B1, 8, none⟩ = some _ := KA2.out.cell 8
    have rr9 : W11.cell? ⟨B1, 9, none⟩ = some _ := KA2.out.cell 9
    refine bodyPost_ret (v := .tuple #[.agg #[.bool v2, .bool r2, .bool y2, .bool x2, .bool u2, .bool g2, .bool a2, .bool d2, .int .i64 rsw2, .int .u64 (ppn2 : Int)], .int .i64 0]) (by simp [results, Try.results10, go_sem, rr0, rr1, rr2, rr3, rr4, rr5, rr6, rr7, rr8, rr9]) rfl ⟨rfl, F', Gs, HT3.out.mono (by omega), HN3.out⟩
  · have hz : unmT va S = (S, zeE, 51) := by unfold unmT; rw [hi]
    rw [hz]
    clear hh hi hz h hva
    unfold pv lfv zl zeE at *
    dsimp only at *
    have H1 := Lib.hid h1; clear h1
    go_enter Try.func10, Try.ntmps10
    go_wp2_with fail
    have nb0 : Blk (w.alloc (.cells #[.bool false, .bool false, .bool false, .bool false, .bool false, .bool false, .bool false, .bool false, .int .i64 0, .int .u64 0] 39)) (w.heap.size) [.bool false, .bool false, .bool false, .bool false, .bool false, .bool false, .bool false, .bool false, .int .i64 0, .int .u64 0] 39 := Blk.new w [.bool false, .bool false, .bool false, .bool false, .bool false, .bool false, .bool false, .bool false, .int .i64 0, .int .u64 0] 39
    have nls : Below w.heap.size w w := (Below.refl w.heap.size w)
    have nl0 := nls.alloc nls.size (.cells #[.bool false, .bool false, .bool false, .bool false, .bool false, .bool false, .bool false, .bool false, .int .i64 0, .int .u64 0] 39)
    have nl : Below w.heap.size w (w.alloc (.cells #[.bool false, .bool false, .bool false, .bool false, .bool false, .bool false, .bool false, .bool false, .int .i64 0, .int .u64 0] 39)) := nl0; clear nls nl0
    obtain ⟨B1, hB0⟩ : ∃ B, B = w.heap.size := ⟨_, rfl⟩
    obtain ⟨W1, hW⟩ : ∃ W, W = (w.alloc (.cells #[.bool false, .bool false, .bool false, .bool false, .bool false, .bool false, .bool false, .bool false, .int .i64 0, .int .u64 0] 39)) := ⟨_, rfl⟩
    rw [← hW] at nl nb0
    rw [← hB0] at nb0
    rw [← hW]
    try rw [← hB0]
    have K1_0 := Lib.hid nb0
    have G1 : Hid (w.heap.size ≤ B1) := Lib.hid (by have := (Nat.le_refl w.heap.size); omega)
    have L1 := Lib.hid nl
    clear nl hW nb0 hB0
    refine (H1.out _ L1.out).mono ?_
    rintro e w2 ⟨rfl, hb⟩
    have L2 := Lib.hid (L1.out.trans (hb.mono L1.out.size))
    have K2_0 := Lib.hid (K1_0.out.below hb K1_0.out.lt)
    clear hb K1_0
    go_upto_region 2 with (fail)
    have nb0 : Blk (w2.alloc (.cells #[.bool false, .bool false, .bool false, .bool false, .bool false, .bool false, .bool false, .bool false, .int .i64 0, .int .u64 0, .int .i64 0, .int .u64 0] 43)) (w2.heap.size) [.bool false, .bool false, .bool false, .bool false, .bool false, .bool false, .bool false, .bool false, .int .i64 0, .int .u64 0, .int .i64 0, .int .u64 0] 43 := Blk.new w2 [.bool false, .bool false, .bool false, .bool false, .bool false, .bool false, .bool false, .bool false, .int .i64 0, .int .u64 0, .int .i64 0, .int .u64 0] 43
    have nls : Below w.heap.size w w2 := L2.out
    have nl0 := nls.alloc nls.size (.cells #[.bool false, .bool false, .bool false, .bool false, .bool false, .bool false, .bool false, .bool false, .int .i64 0, .int .u64 0, .int .i64 0, .int .u64 0] 43)
    have nl : Below w.heap.size w (w2.alloc (.cells #[.bool false, .bool false, .bool false, .bool false, .bool false, .bool false, .bool false, .bool false, .int .i64 0, .int .u64 0, .int .i64 0, .int .u64 0] 43)) := nl0; clear nls nl0
    have o0 : Blk (w2.alloc (.cells #[.bool false, .bool false, .bool false, .bool false, .bool false, .bool false, .bool false, .bool false, .int .i64 0, .int .u64 0, .int .i64 0, .int .u64 0] 43)) B1 [.bool false, .bool false, .bool false, .bool false, .bool false, .bool false, .bool false, .bool false, .int .i64 0, .int .u64 0] 39 := (K2_0.out.alloc (.cells #[.bool false, .bool false, .bool false, .bool false, .bool false, .bool false, .bool false, .bool false, .int .i64 0, .int .u64 0, .int .i64 0, .int .u64 0] 43))
    have d3_0 : B1 < w2.heap.size := K2_0.out.lt
    obtain ⟨B3, hB0⟩ : ∃ B, B = w2.heap.size := ⟨_, rfl⟩
    obtain ⟨W3, hW⟩ : ∃ W, W = (w2.alloc (.cells #[.bool false, .bool false, .bool false, .bool false, .bool false, .bool false, .bool false, .bool false, .int .i64 0, .int .u64 0, .int .i64 0, .int .u64 0] 43)) := ⟨_, rfl⟩
    rw [← hW] at nl nb0 o0
    rw [← hB0] at nb0
    rw [← hW]
    try rw [← hB0]
    have K3_0 := Lib.hid o0
    have K3_1 := Lib.hid nb0
    have G3 : Hid (w.heap.size ≤ B3) := Lib.hid (by have := L2.out.size; omega)
    have x3_0_0 : B1 ≠ B3 := by omega
    have X3_0_0 := Lib.hid x3_0_0; clear x3_0_0
    have L3 := Lib.hid nl
    clear nl hW nb0 hB0 o0 d3_0 K2_0
    have m0_0 : W3.cell? ⟨B1, 0, none⟩ = some _ := K3_0.out.cell 0
    have m0_1 : W3.cell? ⟨B1, 1, none⟩ = some _ := K3_0.out.cell 1
    have m0_2 : W3.cell? ⟨B1, 2, none⟩ = some _ := K3_0.out.cell 2
    have m0_3 : W3.cell? ⟨B1, 3, none⟩ = some _ := K3_0.out.cell 3
    have m0_4 : W3.cell? ⟨B1, 4, none⟩ = some _ := K3_0.out.cell 4
    have m0_5 : W3.cell? ⟨B1, 5, none⟩ = some _ := K3_0.out.cell 5
    have m0_6 : W3.cell? ⟨B1, 6, none⟩ = some _ := K3_0.out.cell 6
    have m0_7 : W3.cell? ⟨B1, 7, none⟩ = some _ := K3_0.out.cell 7
    have m0_8 : W3.cell? ⟨B1, 8, none⟩ = some _ := K3_0.out.cell 8
    have m0_9 : W3.cell? ⟨B1, 9, none⟩ = some _ := K3_0.out.cell 9
    have mlt0 : B1 < W3.heap.size := K3_0.out.lt
    have mf : ∀ o, W3.frozen? ⟨B1, o, none⟩ = false := fun o => K3_0.out.free o
    go_wp2
    clear mf
    clear m0_0 m0_1 m0_2 m0_3 m0_4 m0_5 m0_6 m0_7 m0_8 m0_9 mlt0
    obtain ⟨W4, hW⟩ : ∃ W9, W9 = ((((((((((W3.setCell ⟨B1, 0, none⟩ (.bool false)).setCell ⟨B1, 1, none⟩ (.bool false)).setCell ⟨B1, 2, none⟩ (.bool false)).setCell ⟨B1, 3, none⟩ (.bool false)).setCell ⟨B1, 4, none⟩ (.bool false)).setCell ⟨B1, 5, none⟩ (.bool false)).setCell ⟨B1, 6, none⟩ (.bool false)).setCell ⟨B1, 7, none⟩ (.bool false)).setCell ⟨B1, 8, none⟩ (.int .i64 0)).setCell ⟨B1, 9, none⟩ (.int .u64 0)) := ⟨_, rfl⟩
    rw [← hW]
    have K4_0 := Lib.hid (show Blk W4 B1 [.bool false, .bool false, .bool false, .bool false, .bool false, .bool false, .bool false, .bool false, .int .i64 0, .int .u64 0] 39 from hW ▸ ((((((((((K3_0.out.set 0 (.bool false)).set 1 (.bool false)).set 2 (.bool false)).set 3 (.bool false)).set 4 (.bool false)).set 5 (.bool false)).set 6 (.bool false)).set 7 (.bool false)).set 8 (.int .i64 0)).set 9 (.int .u64 0)))
    have K4_1 := Lib.hid (show Blk W4 B3 [.bool false, .bool false, .bool false, .bool false, .bool false, .bool false, .bool false, .bool false, .int .i64 0, .int .u64 0, .int .i64 0, .int .u64 0] 43 from hW ▸ ((((((((((K3_1.out.other ⟨B1, 0, none⟩ (.bool false) (Ne.symm X3_0_0.out)).other ⟨B1, 1, none⟩ (.bool false) (Ne.symm X3_0_0.out)).other ⟨B1, 2, none⟩ (.bool false) (Ne.symm X3_0_0.out)).other ⟨B1, 3, none⟩ (.bool false) (Ne.symm X3_0_0.out)).other ⟨B1, 4, none⟩ (.bool false) (Ne.symm X3_0_0.out)).other ⟨B1, 5, none⟩ (.bool false) (Ne.symm X3_0_0.out)).other ⟨B1, 6, none⟩ (.bool false) (Ne.symm X3_0_0.out)).other ⟨B1, 7, none⟩ (.bool false) (Ne.symm X3_0_0.out)).other ⟨B1, 8, none⟩ (.int .i64 0) (Ne.symm X3_0_0.out)).other ⟨B1, 9, none⟩ (.int .u64 0) (Ne.symm X3_0_0.out)))
    have L4 := Lib.hid (show Below w.heap.size w W4 from hW ▸ (Below.setCell (Below.setCell (Below.setCell (Below.setCell (Below.setCell (Below.setCell (Below.setCell (Below.setCell (Below.setCell (Below.setCell L3.out G1.out _) G1.out _) G1.out _) G1.out _) G1.out _) G1.out _) G1.out _) G1.out _) G1.out _) G1.out _))
    clear hW K3_0 K3_1
    have rr0 : W4.cell? ⟨B1, 0, none⟩ = some _ := K4_0.out.cell 0
    have rr1 : W4.cell? ⟨B1, 1, none⟩ = some _ := K4_0.out.cell 1
    have rr2 : W4.cell? ⟨B1, 2, none⟩ = some _ := K4_0.out.cell 2
    have rr3 : W4.cell? ⟨B1, 3, none⟩ = some _ := K4_0.out.cell 3
    have rr4 : W4.cell? ⟨B1, 4, none⟩ = some _ := K4_0.out.cell 4
    have rr5 : W4.cell? ⟨B1, 5, none⟩ = some _ := K4_0.out.cell 5
    have rr6 : W4.cell? ⟨B1, 6, none⟩ = some _ := K4_0.out.cell 6
    have rr7 : W4.cell? ⟨B1, 7, none⟩ = some _ := K4_0.out.cell 7
    have rr8 : W4.cell? ⟨B1, 8, none⟩ = some _ := K4_0.out.cell 8
    have rr9 : W4.cell? ⟨B1, 9, none⟩ = some _ := K4_0.out.cell 9
    refine bodyPost_ret (v := .tuple #[.agg #[.bool false, .bool false, .bool false, .bool false, .bool false, .bool false, .bool false, .bool false, .int .i64 0, .int .u64 0], .int .i64 51]) (by simp [results, Try.results10, go_sem, rr0, rr1, rr2, rr3, rr4, rr5, rr6, rr7, rr8, rr9]) rfl ⟨rfl, Fm, Gs, (HT.out.below L4.out).mono (by omega), Nx.below L4.out⟩
end Go.Proofs.Ytdakfgefnapglaa
