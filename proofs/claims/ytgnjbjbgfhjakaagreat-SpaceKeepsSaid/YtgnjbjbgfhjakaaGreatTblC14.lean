/-
  What next answers, the next table on the way down: a contract over the translation, which says its own conditions.
-/
import Derived.Test.YtgnjbjbgfhjakaaGreatTblP14
namespace Go.Proofs.YtgnjbjbgfhjakaaGreat
open Go.RowKit
set_option linter.unusedVariables false
set_option linter.unusedSimpArgs false
attribute [local go_sem] setCell_drewN alloc_drewN

set_option maxHeartbeats 4000000 in
theorem next13_any {first n : Nat} {w : World} {tp mp sp : Nat} {Fm Gs : Nat → Prop} {C : Nat → List Int} {S : Tt} {c : Nat} (va l f : Nat) (h : TS first n w tp mp sp Fm Gs C S c) (hc : canN va = true) (hva : va < 18446744073709551616) (hl : l < 2) (hf : frmT first S.T va (l + 1) = some f) (hn : c < 990) :
    Calls Tryz.prog 126 #[.pointer (some ⟨tp, 0, none⟩), .int .u64 (f : Int), .int .u64 (va : Int), .int .i64 ((l + 1 : Nat) : Int)] w fun e w' => e = .returned (.tuple #[.int .u64 ((nxT first n va l S).2.1 : Nat), .int .i64 (nxT first n va l S).2.2]) ∧ ∃ Fm' Gs' C', TS first n w' tp mp sp Fm' Gs' C' (nxT first n va l S).1 (c + 2) ∧ Nx w w' tp mp Fm Gs Fm' Gs' ∧ Keep first (nxT first n va l S).1.T C C' ∧ Sub S.T (nxT first n va l S).1.T := by
  obtain ⟨ut, hW, hR⟩ := h
  have hfl := frm_lt hR hf
  have hbt : ∀ g, (C g).length = 4096 := fun g => (hW.mem.byt g).2
  obtain ⟨s1, s2, s3, s4, s5, s6, _⟩ := ent_slot hR hc (by omega) hf
  have h1 := fun w' (hb : Below w.heap.size w w') => entry13_any tp mp sp n c f va (l + 1) first ut C Fm w' (hW.below hb).blk (hW.below hb).mem (by omega) hva (by omega)
  rw [s1] at h1
  have h2 := fun w => page13_any (slotE first S.L S.T va (l + 1)) ((l + 1 : Nat) : Int) w s5 s4
  have h3 := fun w => leads13_any (slotE first S.L S.T va (l + 1)) ((l + 1 : Nat) : Int) w
  have h4 := fun w' (hb : Below w.heap.size w w') => take13_any 0 n n first w' tp mp sp Fm Gs C c ut S.used (hW.below hb) (by omega)
  rw [Nat.zero_add] at h4
  have h5 := fun w' (Fm' : Nat → Prop) (h : TW 0 n n first w' tp mp sp Fm' Gs (updC C S.used (List.replicate 4096 0)) (c + 1) (ut + 1) (S.used + 1)) => lay13_any tp mp sp n (c + 1) (f * 4096 + 8 * fld va (12 + 9 * (l + 1)) 9) first (ut + 1) ⟨true, false, false, false, false, false, false, false, 0, S.used⟩ _ Fm' w' h.blk h.mem (place_8 _ _) (by rw [place_frame f (fld9 va (l + 1))]; exact hfl.2.1) (by omega) h.mt (by dsimp only; omega) (by have := hR.most; have := hR.fits; dsimp only; omega)
  rw [s2] at h2
  rw [s3] at h3
  obtain ⟨Z, hZ⟩ : ∃ Z, Z = nxT first n va l S := ⟨_, rfl⟩
  rw [← hZ]
  unfold nxT at hZ
  have hte : takE 0 n n S.used = 0 → S.used < n := fun h => by unfold takE at h; split at h; cases h; split at h; cases h; omega
  have e1 : (pg S.L va (l + 1)).isSome = true → Z = (S, 0, 130) := fun h => by rw [hZ, if_pos h]
  have e2 : (pg S.L va (l + 1)).isSome = false → (kid first S.T va (l + 1)).isSome = true → Z = (S, (slotE first S.L S.T va (l + 1)).ppn, 0) := fun h h' => by
    obtain ⟨g, hg⟩ := Option.isSome_iff_exists.1 h'
    rw [hZ, if_neg (by rw [h]; decide), hg, s6 g hg]
  have e3 : (pg S.L va (l + 1)).isSome = false → (kid first S.T va (l + 1)).isSome = false → takE 0 n n S.used ≠ 0 → Z = (S, 0, takE 0 n n S.used) := fun h h' ht => by
    rw [hZ, if_neg (by rw [h]; decide), Option.isSome_eq_false_iff.1 h' |> Option.isNone_iff_eq_none.1]
    exact if_neg ht
  have e4 : (pg S.L va (l + 1)).isSome = false → (kid first S.T va (l + 1)).isSome = false → takE 0 n n S.used = 0 → Z = (⟨S.L, S.T ++ [⟨l, bas va (l + 1), S.used⟩], S.used + 1⟩, S.used, 0) ∧ RT first n (Mw (stC n (updC C S.used (List.replicate 4096 0)) (f * 4096 + 8 * fld va (12 + 9 * (l + 1)) 9) 8 ((wordE ⟨true, false, false, false, false, false, false, false, 0, S.used⟩ : Nat) : Int))) ⟨S.L, S.T ++ [⟨l, bas va (l + 1), S.used⟩], S.used + 1⟩ ∧
      Keep first (S.T ++ [⟨l, bas va (l + 1), S.used⟩]) C (stC n (updC C S.used (List.replicate 4096 0)) (f * 4096 + 8 * fld va (12 + 9 * (l + 1)) 9) 8 ((wordE ⟨true, false, false, false, false, false, false, false, 0, S.used⟩ : Nat) : Int)) := fun h h' ht => by
    have hk := Option.isNone_iff_eq_none.1 (Option.isSome_eq_false_iff.1 h')
    have hp := Option.isNone_iff_eq_none.1 (Option.isSome_eq_false_iff.1 h)
    refine ⟨?_, (addTable13 hR hbt hc hva hl hf hk hp (hte ht)).1, fun q hq => ?_⟩
    · rw [hZ, if_neg (by rw [h]; decide), hk]
      exact if_pos ht
    · rw [stC_frame (fld9 va (l + 1)) (fun e => hq ?_), updC_frame (fun e => hq (.inr ⟨_, List.mem_append_right _ (List.mem_singleton.2 rfl), e.symm⟩))]
      rw [e]
      exact (frm_tf hf).elim .inl (fun ⟨x, hx, e⟩ => .inr ⟨x, List.mem_append_left _ hx, e⟩)
  have hg : S.used < 18446744073709551616 := by have := hR.most; have := hR.fits; omega
  have hwr : IntKind.u64.wrap (S.used : Int) = (S.used : Int) := by rw [wrap_u64B]; omega
  clear hZ s1 s2 s3 s6 hfl hbt hte
  have hB := hW.blk
  have hsub : Sub S.T (S.T ++ [⟨l, bas va (l + 1), S.used⟩]) := fun x hx => List.mem_append_left _ hx
  generalize (pg S.L va (l + 1)).isSome = P at *
  generalize (kid first S.T va (l + 1)).isSome = Q at *
  generalize takE 0 n n S.used = TE at *
  generalize slotE first S.L S.T va (l + 1) = E at *
  generalize f * 4096 + 8 * fld va (12 + 9 * (l + 1)) 9 = A at *
  obtain ⟨S2, hS2⟩ : ∃ S2 : Tt, S2 = ⟨S.L, S.T ++ [⟨l, bas va (l + 1), S.used⟩], S.used + 1⟩ := ⟨_, rfl⟩
  rw [← hS2] at e4
  have hS2u : S2.used = S.used + 1 := by rw [hS2]
  have hS2t : S2.T = S.T ++ [⟨l, bas va (l + 1), S.used⟩] := by rw [hS2]
  rw [← hS2t] at e4 hsub
  clear hS2
  obtain ⟨C3, hC3⟩ : ∃ C3, C3 = stC n (updC C S.used (List.replicate 4096 0)) A 8 ((wordE ⟨true, false, false, false, false, false, false, false, 0, S.used⟩ : Nat) : Int) := ⟨_, rfl⟩
  rw [← hC3] at e4 h5
  clear hC3 hS2t
  generalize updC C S.used (List.replicate 4096 0) = C2 at *
  obtain ⟨X, hX⟩ : ∃ X, X = S.used := ⟨_, rfl⟩
  rw [← hX] at h4 h5 hW hS2u e4 hwr hg
  have HX := Lib.hid hX; clear hX
  obtain ⟨LV, hLV⟩ : ∃ LV : Int, LV = ((l + 1 : Nat) : Int) := ⟨_, rfl⟩
  rw [← hLV] at h1 h2 h3 ⊢
  obtain ⟨v, r, x1, x, u, g, a, d, rsw, ppn⟩ := E
  unfold pv at *
  dsimp only at *
  have HW := Lib.hid hW; have HR := Lib.hid hR; have HS2 := Lib.hid hS2u; have HSUB := Lib.hid hsub
  have H1 := Lib.hid h1; have H2 := Lib.hid h2; have H3 := Lib.hid h3; have H4 := Lib.hid h4; have H5 := Lib.hid h5; have E1 := Lib.hid e1; have E2 := Lib.hid e2; have E3 := Lib.hid e3; have E4 := Lib.hid e4; have HB := Lib.hid hB
  clear h1 h2 h3 h4 h5 e1 e2 e3 e4 hB hW hR hS2u hsub s4 s5 hc hva hl hf hn hg hLV
  go_enter Tryz.func126, Tryz.ntmps126
  go_wp2_with fail
  refine (H1.out _ (Below.refl w.heap.size w)).mono ?_
  rintro e w1 ⟨rfl, hb⟩
  have L1 := Lib.hid ((Below.refl w.heap.size w).trans (hb.mono (Nat.le_refl w.heap.size)))
  have K1_0 := Lib.hid (HB.out.below hb HB.out.lt)
  clear hb HB
  go_upto_region 2 with (fail)
  have nb0 := Blk.new w1 [.bool v, .bool r, .bool x1, .bool x, .bool u, .bool g, .bool a, .bool d, .int .i64 rsw, .int .u64 (ppn : Int)] 39
  have nls : Below w.heap.size w w1 := L1.out
  have nl0 := nls.alloc nls.size (.cells #[.bool v, .bool r, .bool x1, .bool x, .bool u, .bool g, .bool a, .bool d, .int .i64 rsw, .int .u64 (ppn : Int)] 39)
  have nl : Below w.heap.size w (w1.alloc (.cells #[.bool v, .bool r, .bool x1, .bool x, .bool u, .bool g, .bool a, .bool d, .int .i64 rsw, .int .u64 (ppn : Int)] 39)) := nl0; clear nls nl0
  have o0 := (K1_0.out.alloc (.cells #[.bool v, .bool r, .bool x1, .bool x, .bool u, .bool g, .bool a, .bool d, .int .i64 rsw, .int .u64 (ppn : Int)] 39))
  have d2_0 : tp < w1.heap.size := K1_0.out.lt
  obtain ⟨B2, hB0⟩ : ∃ B, B = w1.heap.size := ⟨_, rfl⟩
  obtain ⟨W2, hW⟩ : ∃ W, W = (w1.alloc (.cells #[.bool v, .bool r, .bool x1, .bool x, .bool u, .bool g, .bool a, .bool d, .int .i64 rsw, .int .u64 (ppn : Int)] 39)) := ⟨_, rfl⟩
  rw [← hW] at nl nb0 o0
  rw [← hB0] at nb0
  rw [← hW]
  try rw [← hB0]
  have K2_0 := Lib.hid o0
  have K2_1 := Lib.hid nb0
  have G2 : Hid (w.heap.size ≤ B2) := Lib.hid (by have := L1.out.size; omega)
  have x2_0_0 : tp ≠ B2 := by omega
  have X2_0_0 := Lib.hid x2_0_0; clear x2_0_0
  have L2 := Lib.hid nl
  clear nl hW nb0 hB0 o0 d2_0 K1_0
  have m1_0 := K2_1.out.c0
  have m1_1 := K2_1.out.c1
  have m1_2 := K2_1.out.c2
  have m1_3 := K2_1.out.c3
  have m1_4 := K2_1.out.c4
  have m1_5 := K2_1.out.c5
  have m1_6 := K2_1.out.c6
  have m1_7 := K2_1.out.c7
  have m1_8 := K2_1.out.c8
  have m1_9 := K2_1.out.c9
  have mlt1 : B2 < W2.heap.size := K2_1.out.lt
  go_wp2_with fail
  clear m1_0 m1_1 m1_2 m1_3 m1_4 m1_5 m1_6 m1_7 m1_8 m1_9 mlt1
  refine (H2.out _).mono ?_
  rintro e w3 ⟨rfl, hb⟩
  have L3 := Lib.hid (L2.out.trans (hb.mono L2.out.size))
  have K3_0 := Lib.hid (K2_0.out.below hb K2_0.out.lt)
  have K3_1 := Lib.hid (K2_1.out.below hb K2_1.out.lt)
  clear hb K2_0 K2_1
  cases P
  · have m1_0 := K3_1.out.c0
    have m1_1 := K3_1.out.c1
    have m1_2 := K3_1.out.c2
    have m1_3 := K3_1.out.c3
    have m1_4 := K3_1.out.c4
    have m1_5 := K3_1.out.c5
    have m1_6 := K3_1.out.c6
    have m1_7 := K3_1.out.c7
    have m1_8 := K3_1.out.c8
    have m1_9 := K3_1.out.c9
    have mlt1 : B2 < w3.heap.size := K3_1.out.lt
    go_wp2_with fail
    clear m1_0 m1_1 m1_2 m1_3 m1_4 m1_5 m1_6 m1_7 m1_8 m1_9 mlt1
    refine (H3.out _).mono ?_
    rintro e w4 ⟨rfl, hb⟩
    have L4 := Lib.hid (L3.out.trans (hb.mono L3.out.size))
    have K4_0 := Lib.hid (K3_0.out.below hb K3_0.out.lt)
    have K4_1 := Lib.hid (K3_1.out.below hb K3_1.out.lt)
    clear hb K3_0 K3_1
    cases Q
    · go_wp2_with fail
      by_cases hT : TE = 0
      · obtain ⟨rfl, hRT, hKP⟩ := E4.out (by trivial) (by trivial) hT
        refine ((H4.out _ L4.out).2 hT).mono ?_
        rintro e w9 ⟨rfl, Fm9, hW9, hx9, hc9⟩
        have HW9 := Lib.hid hW9; have HN9 := Lib.hid ((Nx.below (A := Fm) (B := Gs) (tp := tp) (mp := mp) L4.out).trans (Nx.mem hx9 (hc9.mono (fun k _ h => h.elim .inl (fun h => .inr (.inr h)))))); have HRT := Lib.hid hRT; have HKP := Lib.hid hKP
        clear hW9 hx9 hc9 hRT hKP
        go_wp2_with fail
        refine (H5.out _ _ HW9.out).mono ?_
        rintro e w10 ⟨rfl, F', hM', hx', hc'⟩
        have hwr := HW9.out.wrote hM' hx' hc'
        have HW10 := Lib.hid hwr.1; have HN10 := Lib.hid (HN9.out.trans hwr.2)
        clear hwr hM' hx' hc'
        go_wp2
        go_ret2
        exact ⟨rfl, F', Gs, C3, ⟨ut + 1, by rw [HS2.out]; exact HW10.out, HRT.out⟩, HN10.out, HKP.out, HSUB.out⟩
      · obtain rfl := E3.out (by trivial) (by trivial) hT
        refine ((H4.out _ L4.out).1 hT).mono ?_
        rintro e w9 ⟨rfl, Gs9, hW9, hx9, hc9⟩
        have HW9 := Lib.hid hW9; have HN9 := Lib.hid ((Nx.below (A := Fm) (B := Gs) (tp := tp) (mp := mp) L4.out).trans (Nx.stk hx9 hc9))
        have hT2 : (TE != 0) = true := by simp [hT]
        clear hW9 hx9 hc9
        go_wp2
        go_ret2
        exact ⟨rfl, Fm, Gs9, C, ⟨ut, by rw [← HX.out]; exact HW9.out.mono (by omega), HR.out⟩, HN9.out, Keep.refl C, fun _ h => h⟩
    · obtain rfl := E2.out (by trivial) (by trivial)
      have m1_0 := K4_1.out.c0
      have m1_1 := K4_1.out.c1
      have m1_2 := K4_1.out.c2
      have m1_3 := K4_1.out.c3
      have m1_4 := K4_1.out.c4
      have m1_5 := K4_1.out.c5
      have m1_6 := K4_1.out.c6
      have m1_7 := K4_1.out.c7
      have m1_8 := K4_1.out.c8
      have m1_9 := K4_1.out.c9
      have mlt1 : B2 < w4.heap.size := K4_1.out.lt
      go_wp2
      clear m1_0 m1_1 m1_2 m1_3 m1_4 m1_5 m1_6 m1_7 m1_8 m1_9 mlt1
      go_ret2
      exact ⟨rfl, Fm, Gs, C, ⟨ut, by (first | rw [← HX.out] | skip); exact (HW.out.below L4.out).mono (by omega), HR.out⟩, Nx.below L4.out, Keep.refl C, fun _ h => h⟩
  · obtain rfl := E1.out (by trivial)
    go_wp2
    go_ret2
    exact ⟨rfl, Fm, Gs, C, ⟨ut, by (first | rw [← HX.out] | skip); exact (HW.out.below L3.out).mono (by omega), HR.out⟩, Nx.below L3.out, Keep.refl C, fun _ h => h⟩
end Go.Proofs.YtgnjbjbgfhjakaaGreat
