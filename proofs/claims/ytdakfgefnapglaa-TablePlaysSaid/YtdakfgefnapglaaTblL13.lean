/-
  What list and Pages of package table answer: all pages, table by table. Contracts over the translation, which say their own conditions.
-/
import Derived.Test.YtdakfgefnapglaaTblN13
import Derived.Test.YtdakfgefnapglaaRefS13
namespace Go.Proofs.Ytdakfgefnapglaa
open Go.RowKit
set_option linter.unusedVariables false
set_option linter.unusedSimpArgs false
attribute [local go_sem] setCell_drewN alloc_drewN

theorem below_chg {B : Nat} {w w' : World} (h : Below B w w') : Chg (fun j => B ≤ j) w w' := ⟨h.os, h.tape, h.output, h.size, fun k hk hn => h.block k (Nat.lt_of_not_le hn)⟩
theorem vaI_pre {b l i : Nat} (h : Stt b l) (hi : i < 512) : canN (b + i * 2 ^ (12 + 9 * l)) = true ∨ b + i * 2 ^ (12 + 9 * l) < 549755813888 := by
  have h2 := (vaI_ok h hi).2.1
  cases hc : canN (b + i * 2 ^ (12 + 9 * l)) with
  | true => exact .inl rfl
  | false =>
    unfold vaI canU at h2
    rw [if_neg (by rw [hc]; decide)] at h2
    exact .inr (by omega)
theorem subK_mono (first : Nat) (L : List Pg) (T : List Tb) (l b : Nat) : ∀ d k, (subK first L T l b k).length ≤ (subK first L T l b (k + d)).length := fun d => by
  induction d with
  | zero => intro k; exact Nat.le_refl _
  | succ d ih =>
    intro k
    rw [show k + (d + 1) = (k + d) + 1 from rfl, subK_succ, List.length_append]
    exact Nat.le_trans (ih k) (Nat.le_add_right _ _)
def ListC (first n fs tp mp sp : Nat) (Fm Gs : Nat → Prop) (C : Nat → List Int) (c : Nat) (S : Tt) (B l : Nat) : Prop :=
  ∀ (w : World) (b f : Nat) (v : Value) (Q : List Pg), TW first n fs (first : Int) w tp mp sp Fm Gs C c S.used → (∀ j, FpW tp mp Fm Gs j → j < B) → B ≤ w.heap.size → Stt b l → frmT first S.T b l = some f → w.ownsRow B 60 12 v (Q).length (rowS pgC (Q)) → Q.length + (subP first S.L S.T (l + 1) b).length ≤ 1000 →
    Calls Try.prog 31 #[.pointer (some ⟨tp, 0, none⟩), v, .int .u64 (f : Int), .int .u64 (b : Int), .int .i64 (l : Int)] w fun r w' => ∃ y, r = .returned y ∧ w'.ownsRow B 60 12 y (Q ++ subP first S.L S.T (l + 1) b).length (rowS pgC (Q ++ subP first S.L S.T (l + 1) b)) ∧ Below B w w'
set_option maxHeartbeats 8000000 in
theorem list13_of {first n fs tp mp sp : Nat} {Fm Gs : Nat → Prop} {C : Nat → List Int} {c : Nat} {S : Tt} {B l : Nat} (hR : RT first fs (Mw C) S) (HSUB : ∀ l', l = l' + 1 → ListC first n fs tp mp sp Fm Gs C c S B l') : ListC first n fs tp mp sp Fm Gs C c S B l := by
  intro w b f v Q hW hF hB hst hf hown hlen
  have hl := hst.1
  have hfl := frm_lt hR hf
  have hbf : ∀ i, i < 512 → frmT first S.T (vaI b l i) l = some f := fun i hi => by
    rw [← hf]
    obtain ⟨c1, _, b1, _, u1, _⟩ := vaI_ok hst hi
    by_cases e : l = 2
    · subst e; unfold frmT; rw [if_pos rfl, if_pos rfl]
    · exact frm_congr ((u1 (by omega)).trans (hst.2.2 (by omega)).2.1.symm)
  rw [subP_eq] at hlen ⊢
  obtain ⟨R, hRR⟩ : ∃ R, R = Q ++ subK first S.L S.T l b 512 := ⟨_, rfl⟩
  rw [← hRR]
  have hnext : ∀ (wr : World) (k : Nat) (y : Value), k < 512 → Below B w wr → wr.ownsRow B 60 12 y (Q ++ subK first S.L S.T l b k).length (rowS pgC (Q ++ subK first S.L S.T l b k)) →
      ∃ (E : Ent) (A : Nat) (P J : Bool), (∀ w', Below wr.heap.size wr w' → Calls Try.prog 50 #[.pointer (some ⟨tp, 0, none⟩), .int .u64 (f : Int), .int .u64 (vaI b l k : Nat), .int .i64 (l : Int)] w' fun r w'' => r = .returned (.tuple #[pv E, .int .u64 (A : Int), .int .i64 0]) ∧ Below w'.heap.size w' w'') ∧
        (∀ w', Calls Try.prog 29 #[pv E, .int .i64 (l : Int)] w' fun r w'' => r = .returned (.bool P) ∧ Below w'.heap.size w' w'') ∧
        (∀ w', Calls Try.prog 51 #[pv E, .int .i64 (l : Int)] w' fun r w'' => r = .returned (.bool J) ∧ Below w'.heap.size w' w'') ∧
        (P = true → Q ++ subK first S.L S.T l b (k + 1) = (Q ++ subK first S.L S.T l b k) ++ [⟨vaI b l k, l, E⟩]) ∧
        (P = false → J = false → Q ++ subK first S.L S.T l b (k + 1) = Q ++ subK first S.L S.T l b k) ∧
        (P = false → J = true → ∀ w', Below wr.heap.size wr w' → Calls Try.prog 31 #[.pointer (some ⟨tp, 0, none⟩), y, .int .u64 (E.ppn : Int), .int .u64 (vaI b l k : Nat), .int .i64 ((l : Int) - 1)] w' fun r w'' => ∃ y', r = .returned y' ∧ w''.ownsRow B 60 12 y' (Q ++ subK first S.L S.T l b (k + 1)).length (rowS pgC (Q ++ subK first S.L S.T l b (k + 1))) ∧ Below B w' w'') := by
    intro wr k y hk hb hy
    obtain ⟨c1, v1, b1, f1, u1, x1⟩ := vaI_ok hst hk
    obtain ⟨s1, s2, s3, s4, s5, s6, s7⟩ := ent_slot hR c1 hl (hbf k hk)
    have hWr := hW.chg (below_chg hb) (fun j hj h => by have := hF j hj; omega)
    refine ⟨slotE first S.L S.T (vaI b l k) l, f * 4096 + 8 * fld (vaI b l k) (12 + 9 * l) 9, (pg S.L (vaI b l k) l).isSome, (kid first S.T (vaI b l k) l).isSome, fun w' hb' => ?_, fun w' => ?_, fun w' => ?_, fun hp => ?_, fun hp hk' => ?_, fun hp hk' w' hb' => ?_⟩
    · have := entry13_any tp mp sp fs c f (vaI b l k) l first S.used C Fm w' (hWr.below hb').blk (hWr.below hb').mem (by omega) v1 hl
      rw [s1] at this
      exact this
    · have := page13_any (slotE first S.L S.T (vaI b l k) l) (l : Int) w' s5 s4
      rw [s2] at this
      exact this
    · have := leads13_any (slotE first S.L S.T (vaI b l k) l) (l : Int) w'
      rw [s3] at this
      exact this
    · obtain ⟨m, hm⟩ := Option.isSome_iff_exists.1 hp
      rw [subK_succ, ← List.append_assoc, s7 m hm]
      obtain ⟨_, q1, q2⟩ := pg_mem hm
      rw [b1] at q2
      obtain ⟨mva, mlv, me⟩ := m
      dsimp only at q1 q2 ⊢
      subst q1 q2
      unfold slotP
      rw [hm]
    · have hp := Option.isNone_iff_eq_none.1 (Option.isSome_eq_false_iff.1 hp)
      have hk' := Option.isNone_iff_eq_none.1 (Option.isSome_eq_false_iff.1 hk')
      rw [subK_succ]
      unfold slotP
      rw [hp, hk', List.append_nil]
    · have hp := Option.isNone_iff_eq_none.1 (Option.isSome_eq_false_iff.1 hp)
      obtain ⟨g, hg⟩ := Option.isSome_iff_exists.1 hk'
      obtain ⟨h0, hfg⟩ := kid_some hR hg hl
      obtain ⟨l', rfl⟩ : ∃ l', l = l' + 1 := ⟨l - 1, by omega⟩
      have hss : subK first S.L S.T (l' + 1) b (k + 1) = subK first S.L S.T (l' + 1) b k ++ subP first S.L S.T (l' + 1) (vaI b (l' + 1) k) := by
        rw [subK_succ]; unfold slotP; rw [hp, hg]
      have hmono := subK_mono first S.L S.T (l' + 1) b (512 - (k + 1)) (k + 1)
      rw [show k + 1 + (512 - (k + 1)) = 512 from by omega, hss, List.length_append] at hmono
      have hc := HSUB l' rfl w' (vaI b (l' + 1) k) g y (Q ++ subK first S.L S.T (l' + 1) b k) (hWr.below hb') hF (Nat.le_trans hB (Nat.le_trans hb.size hb'.size)) (stt_kid hst hk) hfg (own_chgG hy (Chg.of_below (F := no) hb') (fun _ _ h => h)) (by rw [List.length_append]; omega)
      rw [s6 g hg, show ((l' + 1 : Nat) : Int) - 1 = (l' : Int) from by omega, hss, ← List.append_assoc]
      exact hc
  have hs1 := fun w => span_yes l w hl
  have hcn := fun (k : Nat) (hk : k < 512) (w : World) => canU_any (b + k * 2 ^ (12 + 9 * l)) w (vaI_ok hst hk).2.2.2.2.2 (vaI_pre hst hk)
  have hm1 : ∀ k : Nat, k < 512 → IntKind.u64.wrap ((k : Int) * ((2 ^ (12 + 9 * l) : Nat) : Int)) = ((k * 2 ^ (12 + 9 * l) : Nat) : Int) := fun k hk => by
    have := (vaI_ok hst hk).2.2.2.2.2
    rw [wrap_u64B, ← Int.natCast_mul]
    omega
  have hm2 : ∀ k : Nat, k < 512 → IntKind.u64.wrap ((b : Int) + ((k * 2 ^ (12 + 9 * l) : Nat) : Int)) = ((b + k * 2 ^ (12 + 9 * l) : Nat) : Int) := fun k hk => by
    have := (vaI_ok hst hk).2.2.2.2.2
    rw [wrap_u64B]
    omega
  have hlm : wrap64 ((l : Int) - 1) = (l : Int) - 1 := by unfold wrap64; omega
  have hln : ∀ k, k < 512 → (Q ++ subK first S.L S.T l b k).length ≤ 1000 := fun k hk => by
    have := subK_mono first S.L S.T l b (512 - k) k
    rw [show k + (512 - k) = 512 from by omega] at this
    rw [List.length_append]; omega
  have h00 : w.ownsRow B 60 12 v (Q ++ subK first S.L S.T l b 0).length (rowS pgC (Q ++ subK first S.L S.T l b 0)) := by rw [subK_zero, List.append_nil]; exact hown
  have h0e : R = Q ++ subK first S.L S.T l b 512 := hRR
  obtain ⟨O, hO⟩ : ∃ O : Nat → List Pg, ∀ k, O k = Q ++ subK first S.L S.T l b k := ⟨_, fun _ => rfl⟩
  simp only [← hO] at hnext hln h00 h0e
  obtain ⟨VA, hVA⟩ : ∃ VA : Nat → Nat, ∀ k, VA k = vaI b l k := ⟨_, fun _ => rfl⟩
  have hcn2 : ∀ (k : Nat) (hk : k < 512) (w : World), Calls Try.prog 52 #[.int .u64 ((b + k * 2 ^ (12 + 9 * l) : Nat) : Int)] w fun r w' => r = .returned (.int .u64 (VA k : Nat)) ∧ w = w' := fun k hk w => by rw [hVA]; exact hcn k hk w
  simp only [← hVA] at hnext
  obtain ⟨Y, hY⟩ : ∃ Y : Nat → Nat, ∀ k, Y k = k * 2 ^ (12 + 9 * l) := ⟨_, fun _ => rfl⟩
  obtain ⟨X, hX⟩ : ∃ X : Nat → Nat, ∀ k, X k = b + k * 2 ^ (12 + 9 * l) := ⟨_, fun _ => rfl⟩
  simp only [← hX] at hm2 hcn2
  simp only [← hY] at hm1 hm2
  generalize ((2 ^ (12 + 9 * l) : Nat) : Int) = Z at *
  clear hcn hVA hO hY hX hRR hbf hR HSUB hF hW hst hf hown hlen hl hfl
  have HNX := Lib.hid hnext; have HS := Lib.hid hs1; have HCN := Lib.hid hcn2; have HM1 := Lib.hid hm1; have HM2 := Lib.hid hm2; have HLN := Lib.hid hln; have H00 := Lib.hid h00; have H0E := Lib.hid h0e; have HLM := Lib.hid hlm
  clear hnext hs1 hcn2 hm1 hm2 hln h00 h0e hlm
  go_enter Try.func31, Try.ntmps31
  go_wp2
  go_loopw [16, 1] (fun i p wr => ∃ (k : Nat) (y : Value), k ≤ 512 ∧ i = .int .u64 (k : Int) ∧ p = y ∧ wr.ownsRow B 60 12 y (O k).length (rowS pgC (O k)) ∧ Below B w wr) (fun i _ _ => 512 - (intOf i).toNat)
  case atStart => exact ⟨0, v, Nat.zero_le _, rfl, rfl, H00.out, Below.refl _ _⟩
  case round =>
    obtain ⟨k, p, hk, rfl, rfl, hy, hb⟩ := hrel
    have HY := Lib.hid hy; have HB := Lib.hid hb
    clear hy hb
    by_cases hlt : k < 512
    · have hki : (k : Int) < 512 := by omega
      obtain ⟨E, A, P, J, n1, n2, n3, n4, n5, n6⟩ := HNX.out wr k _ hlt HB.out HY.out
      have hm1 := HM1.out k hlt
      have hm2 := HM2.out k hlt
      have hlm := HLM.out
      have hcn := HCN.out k hlt
      have hk1 : IntKind.u64.wrap ((k : Int) + 1) = ((k + 1 : Nat) : Int) := by rw [wrap_u64B]; omega
      have hln := HLN.out k hlt
      have hs1 := HS.out
      have hmeas : 512 - (k + 1) < 512 - k := by omega
      have HK1 := Lib.hid (show k + 1 ≤ 512 by omega)
      generalize VA k = VK at *
      generalize X k = XK at *
      generalize Y k = YK at *
      obtain ⟨v1, r, x1, x, u, g, a, d, rsw, ppn⟩ := E
      unfold pv at *
      dsimp only at *
      have N1 := Lib.hid n1; have N2 := Lib.hid n2; have N3 := Lib.hid n3; have N4 := Lib.hid n4; have N5 := Lib.hid n5; have N6 := Lib.hid n6; have HC1 := Lib.hid hcn; have HLK := Lib.hid hln; have HS1 := Lib.hid hs1; have HME := Lib.hid hmeas
      clear n1 n2 n3 n4 n5 n6 hcn hln hs1 hlt hmeas HNX HCN HM1 HM2 HLN HLM HS
      go_wp2_with fail
      refine (HS1.out _).mono ?_
      rintro e wx ⟨rfl, rfl⟩
      go_wp2_with fail
      refine (HC1.out _).mono ?_
      rintro e wx ⟨rfl, rfl⟩
      go_wp2_with fail
      refine (N1.out _ (Below.refl wr.heap.size wr)).mono ?_
      rintro e w1 ⟨rfl, hb⟩
      have L1 := Lib.hid ((Below.refl wr.heap.size wr).trans (hb.mono (Nat.le_refl wr.heap.size)))
      clear hb
      go_upto_region 6 with (fail)
      have nb0 : Blk (w1.alloc (.cells #[.bool v1, .bool r, .bool x1, .bool x, .bool u, .bool g, .bool a, .bool d, .int .i64 rsw, .int .u64 (ppn : Int)] 39)) (w1.heap.size) [.bool v1, .bool r, .bool x1, .bool x, .bool u, .bool g, .bool a, .bool d, .int .i64 rsw, .int .u64 (ppn : Int)] 39 := Blk.new w1 [.bool v1, .bool r, .bool x1, .bool x, .bool u, .bool g, .bool a, .bool d, .int .i64 rsw, .int .u64 (ppn : Int)] 39
      have nls : Below wr.heap.size wr w1 := L1.out
      have nl0 := nls.alloc nls.size (.cells #[.bool v1, .bool r, .bool x1, .bool x, .bool u, .bool g, .bool a, .bool d, .int .i64 rsw, .int .u64 (ppn : Int)] 39)
      have nl : Below wr.heap.size wr (w1.alloc (.cells #[.bool v1, .bool r, .bool x1, .bool x, .bool u, .bool g, .bool a, .bool d, .int .i64 rsw, .int .u64 (ppn : Int)] 39)) := nl0; clear nls nl0
      obtain ⟨B2, hB0⟩ : ∃ B, B = w1.heap.size := ⟨_, rfl⟩
      obtain ⟨W2, hW⟩ : ∃ W, W = (w1.alloc (.cells #[.bool v1, .bool r, .bool x1, .bool x, .bool u, .bool g, .bool a, .bool d, .int .i64 rsw, .int .u64 (ppn : Int)] 39)) := ⟨_, rfl⟩
      rw [← hW] at nl nb0
      rw [← hB0] at nb0
      rw [← hW]
      try rw [← hB0]
      have K2_0 := Lib.hid nb0
      have G2 : Hid (wr.heap.size ≤ B2) := Lib.hid (by have := L1.out.size; omega)
      have L2 := Lib.hid nl
      clear nl hW nb0 hB0
      have m0_0 : W2.cell? ⟨B2, 0, none⟩ = some _ := K2_0.out.cell 0
      have m0_1 : W2.cell? ⟨B2, 1, none⟩ = some _ := K2_0.out.cell 1
      have m0_2 : W2.cell? ⟨B2, 2, none⟩ = some _ := K2_0.out.cell 2
      have m0_3 : W2.cell? ⟨B2, 3, none⟩ = some _ := K2_0.out.cell 3
      have m0_4 : W2.cell? ⟨B2, 4, none⟩ = some _ := K2_0.out.cell 4
      have m0_5 : W2.cell? ⟨B2, 5, none⟩ = some _ := K2_0.out.cell 5
      have m0_6 : W2.cell? ⟨B2, 6, none⟩ = some _ := K2_0.out.cell 6
      have m0_7 : W2.cell? ⟨B2, 7, none⟩ = some _ := K2_0.out.cell 7
      have m0_8 : W2.cell? ⟨B2, 8, none⟩ = some _ := K2_0.out.cell 8
      have m0_9 : W2.cell? ⟨B2, 9, none⟩ = some _ := K2_0.out.cell 9
      have mlt0 : B2 < W2.heap.size := K2_0.out.lt
      go_wp2_with fail
      clear m0_0 m0_1 m0_2 m0_3 m0_4 m0_5 m0_6 m0_7 m0_8 m0_9 mlt0
      refine (N2.out _).mono ?_
      rintro e w3 ⟨rfl, hb⟩
      have L3 := Lib.hid (L2.out.trans (hb.mono L2.out.size))
      have K3_0 := Lib.hid (K2_0.out.below hb K2_0.out.lt)
      clear hb K2_0
      cases P
      · have m0_0 : w3.cell? ⟨B2, 0, none⟩ = some _ := K3_0.out.cell 0
        have m0_1 : w3.cell? ⟨B2, 1, none⟩ = some _ := K3_0.out.cell 1
        have m0_2 : w3.cell? ⟨B2, 2, none⟩ = some _ := K3_0.out.cell 2
        have m0_3 : w3.cell? ⟨B2, 3, none⟩ = some _ := K3_0.out.cell 3
        have m0_4 : w3.cell? ⟨B2, 4, none⟩ = some _ := K3_0.out.cell 4
        have m0_5 : w3.cell? ⟨B2, 5, none⟩ = some _ := K3_0.out.cell 5
        have m0_6 : w3.cell? ⟨B2, 6, none⟩ = some _ := K3_0.out.cell 6
        have m0_7 : w3.cell? ⟨B2, 7, none⟩ = some _ := K3_0.out.cell 7
        have m0_8 : w3.cell? ⟨B2, 8, none⟩ = some _ := K3_0.out.cell 8
        have m0_9 : w3.cell? ⟨B2, 9, none⟩ = some _ := K3_0.out.cell 9
        have mlt0 : B2 < w3.heap.size := K3_0.out.lt
        go_wp2_with fail
        clear m0_0 m0_1 m0_2 m0_3 m0_4 m0_5 m0_6 m0_7 m0_8 m0_9 mlt0
        refine (N3.out _).mono ?_
        rintro e w4 ⟨rfl, hb⟩
        have L4 := Lib.hid (L3.out.trans (hb.mono L3.out.size))
        have K4_0 := Lib.hid (K3_0.out.below hb K3_0.out.lt)
        clear hb K3_0
        cases J
        · go_wp2
          go_roundw
          case rel => exact ⟨k + 1, _, HK1.out, rfl, rfl, (by rw [N5.out (by trivial) (by trivial)]; exact own_chgG HY.out (Chg.of_below (F := no) L4.out) (fun _ _ h => h)), (HB.out.trans (L4.out.mono (Nat.le_trans hB HB.out.size)))⟩
          case measure => simp [intOf]; have := HME.out; omega
        · have m0_0 : w4.cell? ⟨B2, 0, none⟩ = some _ := K4_0.out.cell 0
          have m0_1 : w4.cell? ⟨B2, 1, none⟩ = some _ := K4_0.out.cell 1
          have m0_2 : w4.cell? ⟨B2, 2, none⟩ = some _ := K4_0.out.cell 2
          have m0_3 : w4.cell? ⟨B2, 3, none⟩ = some _ := K4_0.out.cell 3
          have m0_4 : w4.cell? ⟨B2, 4, none⟩ = some _ := K4_0.out.cell 4
          have m0_5 : w4.cell? ⟨B2, 5, none⟩ = some _ := K4_0.out.cell 5
          have m0_6 : w4.cell? ⟨B2, 6, none⟩ = some _ := K4_0.out.cell 6
          have m0_7 : w4.cell? ⟨B2, 7, none⟩ = some _ := K4_0.out.cell 7
          have m0_8 : w4.cell? ⟨B2, 8, none⟩ = some _ := K4_0.out.cell 8
          have m0_9 : w4.cell? ⟨B2, 9, none⟩ = some _ := K4_0.out.cell 9
          have mlt0 : B2 < w4.heap.size := K4_0.out.lt
          go_wp2_with fail
          clear m0_0 m0_1 m0_2 m0_3 m0_4 m0_5 m0_6 m0_7 m0_8 m0_9 mlt0
          refine (N6.out (by trivial) (by trivial) _ L4.out).mono ?_
          rintro e w9 ⟨y', rfl, hy9, hb9⟩
          have HY9 := Lib.hid hy9; have HB9 := Lib.hid ((HB.out.trans (L4.out.mono (Nat.le_trans hB HB.out.size))).trans hb9)
          clear hy9 hb9
          go_wp2
          go_roundw
          case rel => exact ⟨k + 1, _, HK1.out, rfl, rfl, HY9.out, HB9.out⟩
          case measure => simp [intOf]; have := HME.out; omega
      · have m0_0 : w3.cell? ⟨B2, 0, none⟩ = some _ := K3_0.out.cell 0
        have m0_1 : w3.cell? ⟨B2, 1, none⟩ = some _ := K3_0.out.cell 1
        have m0_2 : w3.cell? ⟨B2, 2, none⟩ = some _ := K3_0.out.cell 2
        have m0_3 : w3.cell? ⟨B2, 3, none⟩ = some _ := K3_0.out.cell 3
        have m0_4 : w3.cell? ⟨B2, 4, none⟩ = some _ := K3_0.out.cell 4
        have m0_5 : w3.cell? ⟨B2, 5, none⟩ = some _ := K3_0.out.cell 5
        have m0_6 : w3.cell? ⟨B2, 6, none⟩ = some _ := K3_0.out.cell 6
        have m0_7 : w3.cell? ⟨B2, 7, none⟩ = some _ := K3_0.out.cell 7
        have m0_8 : w3.cell? ⟨B2, 8, none⟩ = some _ := K3_0.out.cell 8
        have m0_9 : w3.cell? ⟨B2, 9, none⟩ = some _ := K3_0.out.cell 9
        have mlt0 : B2 < w3.heap.size := K3_0.out.lt
        have hy2 := own_chgG HY.out (Chg.of_below (F := no) L3.out) (fun _ _ h => h)
        have hz2 : B ≤ w3.heap.size := Nat.le_trans hB (Nat.le_trans HB.out.size L3.out.size)
        have hle := HLK.out
        generalize hO1 : O k = O1 at *
        have HY2 := Lib.hid hy2; have HZ2 := Lib.hid hz2; have HLE := Lib.hid hle
        clear hy2 hz2 hle
        go_wp2_with (at_builtin; refine wpList_append_M1 rfl _ _ rfl B _ O1.length _ rfl (HY2.out.alloc _) w3.heap.size (Pg.mk VK l ⟨v1, r, x1, x, u, g, a, d, rsw, ppn⟩) rfl (Blk.new w3 (pgC (Pg.mk VK l ⟨v1, r, x1, x, u, g, a, d, rsw, ppn⟩)) 60) ?q1 ?q2 (w3.heap.size + 1) ?q3 ?_)
        case q1 => have := HLE.out; omega
        case q2 => have := HZ2.out; simp; omega
        case q3 => simp
        intro g9 cap W9 hown9 hgr9 hg9 hgl9
        clear m0_0 m0_1 m0_2 m0_3 m0_4 m0_5 m0_6 m0_7 m0_8 m0_9 mlt0
        have hcc : Chg (fun j => B ≤ j) w3 W9 := (Chg.alloc _ _ _).trans (grown_chg hgr9 (fun k hk => (HY2.out.lt k hk).1))
        have hbb : Below B wr W9 := (L3.out.mono (Nat.le_trans hB HB.out.size)).trans (hcc.below HZ2.out (fun k hk h => by omega))
        have HB9 := Lib.hid (HB.out.trans hbb)
        have hy9 : W9.ownsRow B 60 12 (.slice (some ⟨g9, 0, none⟩) (O1.length + 1) cap) (O (k + 1)).length (rowS pgC (O (k + 1))) := by
          rw [N4.out (by trivial), rowS_app, List.length_append]
          exact hown9
        have HY9 := Lib.hid hy9
        clear hcc hbb hy9 hown9 hgr9 hg9 hgl9
        go_wp2
        go_roundw
        case rel => exact ⟨k + 1, _, HK1.out, rfl, rfl, HY9.out, HB9.out⟩
        case measure => simp [intOf]; have := HME.out; omega
    · obtain rfl : k = 512 := by omega
      clear hlt hk HNX HCN HM1 HM2 HLN HS HLM
      go_wp2
      go_ret
      rw [H0E.out]
      exact ⟨_, rfl, HY.out, HB.out⟩
theorem pages13_nil (w : World) : Calls Try.prog 16 #[.pointer none] w fun r w' => (∃ A c, r = .returned (.slice A 0 c)) ∧ Chg no w w' := by
  go_enter Try.func16, Try.ntmps16
  go_wp2
  go_ret
  exact ⟨⟨_, _, rfl⟩, Chg.refl _ _⟩
theorem pages13_any {first n fs tp sp c : Nat} {w : World} {mp : Nat} {Fm Gs : Nat → Prop} {S : Tt} (h : TS first n fs w tp mp sp Fm Gs S c) (hlen : S.L.length ≤ 100) :
    Calls Try.prog 16 #[.pointer (some ⟨tp, 0, none⟩)] w fun r w' => (∃ y, r = .returned y ∧ LiesS pgC 12 w' y (sortP S.L) ∧ (∀ j, y.ownBlock = some j → w.heap.size ≤ j) ∧ ∀ j, y.ownBlock = some j → j < w'.heap.size) ∧ Chg no w w' := by
  obtain ⟨C, hW, hR⟩ := h
  have hsub := sub_all hR
  have l0 : ListC first n fs tp mp sp Fm Gs C c S w.heap.size 0 := list13_of hR (fun l' h => by cases h)
  have l1 : ListC first n fs tp mp sp Fm Gs C c S w.heap.size 1 := list13_of hR (fun l' h => by obtain rfl : l' = 0 := (by omega); exact l0)
  have l2 : ListC first n fs tp mp sp Fm Gs C c S w.heap.size 2 := list13_of hR (fun l' h => by obtain rfl : l' = 1 := (by omega); exact l1)
  have hown : w.ownsRow w.heap.size 60 12 (.slice none 0 0) ([] : List Pg).length (rowS pgC ([] : List Pg)) := World.ownsRow_nil _ _ _ _
  have hc := l2 w 0 first (.slice none 0 0) [] hW hW.lt (Nat.le_refl _) stt_root rfl hown (by rw [hsub, sortP_len]; simp; omega)
  rw [hsub, List.nil_append] at hc
  have hfm : first < 1048577 := by have := hW.small; omega
  have hwr : IntKind.u64.wrap (first : Int) = (first : Int) := by rw [wrap_u64B]; omega
  have c2 : w.cell? ⟨tp, 2, none⟩ = some (.int .i64 (first : Int)) := hW.blk.cell 2
  replace hc : Calls Try.prog 31 #[.pointer (some ⟨tp, 0, none⟩), .slice none 0 0, .int .u64 (first : Int), .int .u64 0, .int .i64 2] w _ := hc
  have HC := Lib.hid hc
  clear hc l0 l1 l2 hsub hW hR hown hlen hfm
  go_enter Try.func16, Try.ntmps16
  go_wp2_with fail
  refine HC.out.mono ?_
  rintro e w1 ⟨y, rfl, hy, hb⟩
  have HY := Lib.hid hy; have HB := Lib.hid hb
  clear hy hb c2
  go_wp2
  go_ret
  exact ⟨⟨y, rfl, lies_own pgC_len HY.out, fun j hj => (HY.out.lt j hj).1, fun j hj => (HY.out.lt j hj).2⟩, Chg.of_below HB.out⟩
end Go.Proofs.Ytdakfgefnapglaa
