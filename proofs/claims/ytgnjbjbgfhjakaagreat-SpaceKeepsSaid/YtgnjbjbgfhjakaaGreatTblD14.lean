/-
  What room and Map answer: contracts over the translation. Each says its own conditions.
-/
import Derived.Test.YtgnjbjbgfhjakaaGreatTblC14
namespace Go.Proofs.YtgnjbjbgfhjakaaGreat
open Go.RowKit
set_option linter.unusedVariables false
set_option linter.unusedSimpArgs false
attribute [local go_sem] setCell_drewN alloc_drewN

theorem TS.nx_frm {first n : Nat} {w : World} {tp mp sp : Nat} {Fm Gs : Nat → Prop} {C : Nat → List Int} {S : Tt} {c : Nat} {va l f : Nat} (h : TS first n w tp mp sp Fm Gs C S c) (hc : canN va = true) (hva : va < 18446744073709551616) (hl : l < 2) (hf : frmT first S.T va (l + 1) = some f) (he : (nxT first n va l S).2.2 = 0) : frmT first (nxT first n va l S).1.T va l = some (nxT first n va l S).2.1 := by
  obtain ⟨ut, hW, hR⟩ := h
  have hlen : ∀ g, (C g).length = 4096 := fun g => (hW.mem.byt g).2
  unfold nxT at he ⊢
  cases hp : pg S.L va (l + 1) with
  | some m => rw [hp] at he; cases he
  | none =>
    rw [hp] at he
    simp only [Option.isSome_none, Bool.false_eq_true, if_false] at he ⊢
    cases hk : kid first S.T va (l + 1) with
    | some g => exact (kid_some hR hk (by omega)).2
    | none =>
      rw [hk] at he
      dsimp only at he ⊢
      by_cases ht : takE 0 n n S.used = 0
      · rw [if_pos ht]
        refine (addTable13 hR hlen hc hva hl hf hk hp ?_).2
        unfold takE at ht; split at ht; cases ht; split at ht; cases ht; omega
      · rw [if_neg ht] at he; exact absurd he ht
set_option maxHeartbeats 8000000 in
theorem room13_any {first n : Nat} {w : World} {tp mp sp : Nat} {Fm Gs : Nat → Prop} {C : Nat → List Int} {S : Tt} {c : Nat} (va lv : Nat) (h : TS first n w tp mp sp Fm Gs C S c) (hc : canN va = true) (hva : va < 18446744073709551616) (hl : lv < 3) (hn : c < 980) :
    Calls Tryz.prog 102 #[.pointer (some ⟨tp, 0, none⟩), .int .u64 (va : Int), .int .i64 (lv : Int)] w fun e w' => ∃ A : Nat, e = .returned (.tuple #[.int .u64 (A : Int), .int .i64 (roomP first n va lv (2 - lv) S).2]) ∧ ∃ Fm' Gs' C', TS first n w' tp mp sp Fm' Gs' C' (roomP first n va lv (2 - lv) S).1 (c + 4) ∧ Nx w w' tp mp Fm Gs Fm' Gs' ∧ Keep first (roomP first n va lv (2 - lv) S).1.T C C' ∧ Sub S.T (roomP first n va lv (2 - lv) S).1.T ∧
      ((roomP first n va lv (2 - lv) S).2 = 0 → ∃ f, frmT first (roomP first n va lv (2 - lv) S).1.T va lv = some f ∧ A = f * 4096 + 8 * fld va (12 + 9 * lv) 9 ∧ kid first (roomP first n va lv (2 - lv) S).1.T va lv = none ∧ pg (roomP first n va lv (2 - lv) S).1.L va lv = none) := by
  obtain ⟨RR, hRR⟩ : ∃ RR, RR = roomP first n va lv (2 - lv) S := ⟨_, rfl⟩
  rw [← hRR]
  have HNX : Hid (∀ (wr : World) (j f : Nat) (S' : Tt) (Fm' Gs' : Nat → Prop) (C' : Nat → List Int) (c' : Nat), j < 2 → c' < 990 → frmT first S'.T va (j + 1) = some f → TS first n wr tp mp sp Fm' Gs' C' S' c' → _) := Lib.hid (fun wr j f S' Fm' Gs' C' c' hj hc' hf hT => next13_any va j f hT hc hva hj hf hc')
  have HFR : Hid (∀ (wr : World) (j f : Nat) (S' : Tt) (Fm' Gs' : Nat → Prop) (C' : Nat → List Int) (c' : Nat), j < 2 → frmT first S'.T va (j + 1) = some f → TS first n wr tp mp sp Fm' Gs' C' S' c' → (nxT first n va j S').2.2 = 0 → _) := Lib.hid (fun wr j f S' Fm' Gs' C' c' hj hf hT he => hT.nx_frm hc hva hj hf he)
  have HEN : Hid (∀ (wr : World) (f : Nat) (S' : Tt) (Fm' Gs' : Nat → Prop) (C' : Nat → List Int) (c' : Nat), frmT first S'.T va lv = some f → TS first n wr tp mp sp Fm' Gs' C' S' c' →
      ∃ E : Ent, (∀ w', Below wr.heap.size wr w' → Calls Tryz.prog 108 #[.pointer (some ⟨tp, 0, none⟩), .int .u64 (f : Int), .int .u64 (va : Int), .int .i64 (lv : Int)] w' fun r w'' => r = .returned (.tuple #[pv E, .int .u64 ((f * 4096 + 8 * fld va (12 + 9 * lv) 9 : Nat) : Int), .int .i64 0]) ∧ Below w'.heap.size w' w'') ∧
        (∀ w', Calls Tryz.prog 101 #[pv E, .int .i64 (lv : Int)] w' fun r w'' => r = .returned (.bool (pg S'.L va lv).isSome) ∧ Below w'.heap.size w' w'') ∧
        (∀ w', Calls Tryz.prog 109 #[pv E, .int .i64 (lv : Int)] w' fun r w'' => r = .returned (.bool (kid first S'.T va lv).isSome) ∧ Below w'.heap.size w' w'')) := Lib.hid (fun wr f S' Fm' Gs' C' c' hf hT => by
    obtain ⟨ut, hW, hR⟩ := hT
    have hfl := frm_lt hR hf
    obtain ⟨s1, s2, s3, s4, s5, s6, _⟩ := ent_slot hR hc hl hf
    refine ⟨slotE first S'.L S'.T va lv, fun w' hb => ?_, fun w' => ?_, fun w' => ?_⟩
    · have := entry13_any tp mp sp n c' f va lv first ut C' Fm' w' (hW.below hb).blk (hW.below hb).mem (by omega) hva hl
      rw [s1] at this
      exact this
    · have := page13_any (slotE first S'.L S'.T va lv) (lv : Int) w' s5 s4
      rw [s2] at this
      exact this
    · have := leads13_any (slotE first S'.L S'.T va lv) (lv : Int) w'
      rw [s3] at this
      exact this)
  have hfm : first < 1048576 := by
    obtain ⟨ut, hW, hR⟩ := h
    have := hR.most; have := hR.fits; have := hR.rootLt; omega
  have hwr : IntKind.u64.wrap (first : Int) = (first : Int) := by rw [wrap_u64B]; omega
  have c2 : w.cell? ⟨tp, 2, none⟩ = some (.int .i64 (first : Int)) := by
    obtain ⟨ut, hW, hR⟩ := h
    exact hW.blk.cell 2
  have HT := Lib.hid h; have HRR := Lib.hid hRR
  clear h hRR hc hva hfm
  go_enter Tryz.func102, Tryz.ntmps102
  go_wp2
  clear c2
  go_loopw [8, 9] (fun t i wr => ∃ (k J f : Nat) (S' : Tt) (Fm' Gs' : Nat → Prop) (C' : Nat → List Int), J = lv + k ∧ J ≤ 2 ∧ t = .int .u64 (f : Int) ∧ i = .int .i64 (J : Int) ∧ frmT first S'.T va J = some f ∧ RR = roomP first n va lv k S' ∧ TS first n wr tp mp sp Fm' Gs' C' S' (c + 2 * (2 - J)) ∧ Nx w wr tp mp Fm Gs Fm' Gs' ∧ Keep first S'.T C C' ∧ Sub S.T S'.T) (fun t i _ => (intOf i).toNat)
  case atStart => exact ⟨2 - lv, 2, first, S, Fm, Gs, C, by omega, Nat.le_refl _, rfl, rfl, rfl, HRR.out, HT.out, Nx.below (Below.refl _ _), Keep.refl C, fun _ h => h⟩
  case round =>
    obtain ⟨k, J, f, S', Fm', Gs', C', hJ, hJ2, rfl, rfl, hf, hrr, hT, hN, hKp, hSb⟩ := hrel
    have HT2 := Lib.hid hT; have HRR2 := Lib.hid hrr; have HN := Lib.hid hN; have HF := Lib.hid hf; have HKP := Lib.hid hKp; have HSB := Lib.hid hSb
    clear hT hrr hN hf hKp hSb
    by_cases hgt : 0 < k
    · obtain ⟨k', rfl⟩ : ∃ k', k = k' + 1 := ⟨k - 1, by omega⟩
      obtain ⟨j, hj⟩ : ∃ j, j = lv + k' := ⟨_, rfl⟩
      obtain rfl : J = j + 1 := by omega
      have hstep := HRR2.out
      rw [roomP, ← hj] at hstep
      have hw1 : IntKind.i64.wrap (((j + 1 : Nat) : Int) - 1) = (j : Int) := by simp [IntKind.wrap, IntKind.bits, IntKind.signed]; omega
      have hgt' : (lv : Int) < ((j + 1 : Nat) : Int) := by omega
      have hnx := HNX.out wr j f S' Fm' Gs' C' _ (by omega) (by omega) HF.out HT2.out
      have hfr := HFR.out wr j f S' Fm' Gs' C' _ (by omega) HF.out HT2.out
      generalize nxT first n va j S' = Z at *
      obtain ⟨S1, g, er⟩ := Z
      dsimp only at *
      have HST := Lib.hid hstep; have HJ := Lib.hid hJ; have Hj := Lib.hid hj; have HNX1 := Lib.hid hnx; have HFR1 := Lib.hid hfr
      have hJ3 : j < 2 := by omega
      obtain ⟨J, hJJ⟩ : ∃ J : Int, J = ((j + 1 : Nat) : Int) := ⟨_, rfl⟩
      rw [← hJJ] at hw1 hgt' HNX1
      clear hstep hJ hj hgt hnx hfr
      have HJJ := Lib.hid hJJ
      rw [← hJJ]
      clear hJJ
      go_wp2_with fail
      refine HNX1.out.mono ?_
      rintro e w1 ⟨rfl, F1, G1, C1, hT1, hN1, hk1, hs1⟩
      have HT3 := Lib.hid (show TS first n w1 tp mp sp F1 G1 C1 S1 (c + 2 * (2 - j)) from hT1.mono (by omega)); have HN3 := Lib.hid (HN.out.trans hN1)
      have HKP3 := Lib.hid (HKP.out.trans hk1 hs1); have HSB3 := Lib.hid (show Sub S.T S1.T from fun x hx => hs1 x (HSB.out x hx))
      clear hT1 hN1 hk1 hs1
      by_cases her : er = 0
      · subst her
        have hst2 := HST.out
        rw [if_pos rfl] at hst2
        have HST2 := Lib.hid hst2; clear hst2
        have hm9 : (intOf (.int .i64 (j : Int))).toNat < (intOf (.int .i64 J)).toNat := by
          have := HJJ.out; simp [intOf]; omega
        go_wp2
        go_roundw
        case rel => exact ⟨k', j, g, S1, F1, G1, C1, Hj.out, by omega, rfl, rfl, HFR1.out (by trivial), HST2.out, HT3.out, HN3.out, HKP3.out, HSB3.out⟩
        case measure => exact hm9
      · have her2 : (er != 0) = true := by simp [her]
        have hst2 := HST.out
        rw [if_neg her] at hst2
        have HST2 := Lib.hid hst2; clear hst2
        go_wp2
        go_ret2
        rw [HST2.out]
        exact ⟨0, rfl, F1, G1, C1, HT3.out.mono (by omega), HN3.out, HKP3.out, HSB3.out, fun h => absurd h her⟩
    · obtain rfl : k = 0 := by omega
      obtain rfl : J = lv := by omega
      clear hJ hgt
      obtain ⟨E, h1, h2, h3⟩ := HEN.out wr f S' Fm' Gs' C' _ HF.out HT2.out
      have hstep := HRR2.out
      rw [roomP] at hstep
      obtain ⟨P, hP⟩ : ∃ P, P = (pg S'.L va J).isSome := ⟨_, rfl⟩
      obtain ⟨Q, hQ⟩ : ∃ Q, Q = (kid first S'.T va J).isSome := ⟨_, rfl⟩
      obtain ⟨A, hA⟩ : ∃ A, A = f * 4096 + 8 * fld va (12 + 9 * J) 9 := ⟨_, rfl⟩
      rw [← hP] at h2 hstep
      rw [← hQ] at h3 hstep
      rw [← hA] at h1
      obtain ⟨v, r, x1, x, u, g, a, d, rsw, ppn⟩ := E
      unfold pv at *
      dsimp only at *
      have H1 := Lib.hid h1; have H2 := Lib.hid h2; have H3 := Lib.hid h3; have HST := Lib.hid hstep; have HP := Lib.hid hP; have HQ := Lib.hid hQ; have HA := Lib.hid hA
      clear h1 h2 h3 hstep hP hQ hA
      go_wp2_with fail
      refine (H1.out _ (Below.refl wr.heap.size wr)).mono ?_
      rintro e w1 ⟨rfl, hb⟩
      have L1 := Lib.hid ((Below.refl wr.heap.size wr).trans (hb.mono (Nat.le_refl wr.heap.size)))
      clear hb
      go_upto_region 10 with (fail)
      have nb0 := Blk.new w1 [.bool v, .bool r, .bool x1, .bool x, .bool u, .bool g, .bool a, .bool d, .int .i64 rsw, .int .u64 (ppn : Int)] 39
      have nls : Below wr.heap.size wr w1 := L1.out
      have nl0 := nls.alloc nls.size (.cells #[.bool v, .bool r, .bool x1, .bool x, .bool u, .bool g, .bool a, .bool d, .int .i64 rsw, .int .u64 (ppn : Int)] 39)
      have nl : Below wr.heap.size wr (w1.alloc (.cells #[.bool v, .bool r, .bool x1, .bool x, .bool u, .bool g, .bool a, .bool d, .int .i64 rsw, .int .u64 (ppn : Int)] 39)) := nl0; clear nls nl0
      obtain ⟨B2, hB0⟩ : ∃ B, B = w1.heap.size := ⟨_, rfl⟩
      obtain ⟨W2, hW⟩ : ∃ W, W = (w1.alloc (.cells #[.bool v, .bool r, .bool x1, .bool x, .bool u, .bool g, .bool a, .bool d, .int .i64 rsw, .int .u64 (ppn : Int)] 39)) := ⟨_, rfl⟩
      rw [← hW] at nl nb0
      rw [← hB0] at nb0
      rw [← hW]
      try rw [← hB0]
      have K2_0 := Lib.hid nb0
      have G2 : Hid (wr.heap.size ≤ B2) := Lib.hid (by have := L1.out.size; omega)
      have L2 := Lib.hid nl
      clear nl hW nb0 hB0
      go_upto_region 12 with (fail)
      have m0_0 := K2_0.out.c0
      have m0_1 := K2_0.out.c1
      have m0_2 := K2_0.out.c2
      have m0_3 := K2_0.out.c3
      have m0_4 := K2_0.out.c4
      have m0_5 := K2_0.out.c5
      have m0_6 := K2_0.out.c6
      have m0_7 := K2_0.out.c7
      have m0_8 := K2_0.out.c8
      have m0_9 := K2_0.out.c9
      have mlt0 : B2 < W2.heap.size := K2_0.out.lt
      go_wp2_with fail
      clear m0_0 m0_1 m0_2 m0_3 m0_4 m0_5 m0_6 m0_7 m0_8 m0_9 mlt0
      refine (H2.out _).mono ?_
      rintro e w3 ⟨rfl, hb⟩
      have L3 := Lib.hid (L2.out.trans (hb.mono L2.out.size))
      have K3_0 := Lib.hid (K2_0.out.below hb K2_0.out.lt)
      clear hb K2_0
      cases P
      · have m0_0 := K3_0.out.c0
        have m0_1 := K3_0.out.c1
        have m0_2 := K3_0.out.c2
        have m0_3 := K3_0.out.c3
        have m0_4 := K3_0.out.c4
        have m0_5 := K3_0.out.c5
        have m0_6 := K3_0.out.c6
        have m0_7 := K3_0.out.c7
        have m0_8 := K3_0.out.c8
        have m0_9 := K3_0.out.c9
        have mlt0 : B2 < w3.heap.size := K3_0.out.lt
        go_wp2_with fail
        clear m0_0 m0_1 m0_2 m0_3 m0_4 m0_5 m0_6 m0_7 m0_8 m0_9 mlt0
        refine (H3.out _).mono ?_
        rintro e w4 ⟨rfl, hb⟩
        have L4 := Lib.hid (L3.out.trans (hb.mono L3.out.size))
        have K4_0 := Lib.hid (K3_0.out.below hb K3_0.out.lt)
        clear hb K3_0
        cases Q
        · go_wp2
          go_ret2
          have h0 : RR = (S', 0) := by rw [HST.out]; rfl
          rw [h0]
          exact ⟨A, rfl, Fm', Gs', C', (HT2.out.below L4.out).mono (by omega), HN.out.trans (Nx.below L4.out), HKP.out, HSB.out, fun h => ⟨f, HF.out, HA.out, Option.isNone_iff_eq_none.1 (Option.isSome_eq_false_iff.1 HQ.out.symm), Option.isNone_iff_eq_none.1 (Option.isSome_eq_false_iff.1 HP.out.symm)⟩⟩
        · go_wp2
          go_ret2
          have h0 : RR = (S', 130) := by rw [HST.out]; rfl
          rw [h0]
          exact ⟨0, rfl, Fm', Gs', C', (HT2.out.below L4.out).mono (by omega), HN.out.trans (Nx.below L4.out), HKP.out, HSB.out, fun h => by cases h⟩
      · go_wp2
        go_ret2
        have h0 : RR = (S', 130) := by rw [HST.out]; rfl
        rw [h0]
        exact ⟨0, rfl, Fm', Gs', C', (HT2.out.below L3.out).mono (by omega), HN.out.trans (Nx.below L3.out), HKP.out, HSB.out, fun h => by cases h⟩
end Go.Proofs.YtgnjbjbgfhjakaaGreat
