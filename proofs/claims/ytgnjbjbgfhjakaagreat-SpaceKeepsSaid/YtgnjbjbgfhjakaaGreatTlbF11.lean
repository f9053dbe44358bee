/-
  What tlb.Find answers: contracts over the translation. Each says its own conditions.
-/
import Derived.Test.YtgnjbjbgfhjakaaGreatTlbN11
namespace Go.Proofs.YtgnjbjbgfhjakaaGreat
open Go.RowKit
set_option linter.unusedVariables false
set_option linter.unusedSimpArgs false
attribute [local go_sem] setCell_drewN alloc_drewN

/-- the way's leaf as cells -/
theorem WyAt.leaf {w : World} {q o : Nat} {y : Wy} (h : WyAt w q o y) : ∀ j v, (lfC y.l)[j]? = some v → w.cell? ⟨q, o + 3 + j, none⟩ = some v := by
  intro j v hj
  have := h (3 + j) v (by rw [show wyC y = [.bool y.full, .int .i64 y.asid, .int .u64 (y.page : Int)] ++ lfC y.l from rfl, List.getElem?_append_right (by simp), show 3 + j - ([.bool y.full, .int .i64 y.asid, .int .u64 (y.page : Int)] : List Value).length = j from by simp]; exact hj)
  rw [← Nat.add_assoc] at this
  exact this
set_option maxHeartbeats 8000000 in
theorem find_any (b sp : Nat) (g : Nat → Nat) (n m : Nat) (R : Nat → Nat → Wy) (va : Nat) (a : Int) (w : World) (h : Buf w b sp g n m R) (hv : va < 18446744073709551616) :
    Calls Tryz.prog 130 #[.pointer (some ⟨b, 0, none⟩), .int .u64 va, .int .i64 a] w fun r w' => r = .returned (.tuple #[lfv (fndT R n m va a 3 0).1, .bool (fndT R n m va a 3 0).2]) ∧ Below w.heap.size w w' := by
  have h1 := fun w' (hb : Below w.heap.size w w') => Calls.belowE (none_at (h.below hb))
  have h2 := fun l (hl : l < 3) w => Calls.belowD (number_any va l w hv hl)
  have h3 := fun l w' (hb : Below w.heap.size w w') => Calls.belowD (set_at (numN va l) (h.below hb) (Nat.lt_trans (numN_lt va l) (by decide)))
  have n0 := h.n0
  have h4 : ∀ l k, k < m → ∀ w', Below w.heap.size w w' → _ := fun l k hk w' hb => Calls.belowD (matches_any (R (numN va l % n) k) (g (numN va l % n)) (k * 15) va a w' (((h.below hb).row _ (Nat.mod_lt _ n0)).wy hk) (h.lv _ _ (Nat.mod_lt _ n0) hk) hv)
  have h5 : ∀ l k, k < m → ∀ w', Below w.heap.size w w' → WyAt w' (g (numN va l % n)) (k * 15) (R (numN va l % n) k) := fun l k hk w' hb => ((h.below hb).row _ (Nat.mod_lt _ n0)).wy hk
  have hm8 := h.m1
  obtain ⟨Z, hZ⟩ : ∃ Z, Z = fndT R n m va a 3 0 := ⟨_, rfl⟩
  rw [← hZ]
  have H1 := Lib.hid h1; have H2 := Lib.hid h2; have H3 := Lib.hid h3; have H4 := Lib.hid h4; have H5 := Lib.hid h5; have HZ := Lib.hid hZ.symm; clear h1 h2 h3 h4 h5 hZ h
  go_enter Tryz.func130, Tryz.ntmps130
  go_upto_region 1 with (fail)
  have nb0 := Blk.new w [.bool false, .bool false, .bool false, .bool false, .bool false, .bool false, .bool false, .bool false, .int .i64 0, .int .u64 0, .int .i64 0, .int .u64 0] 41
  have nls : Below w.heap.size w w := (Below.refl w.heap.size w)
  have nl0 := nls.alloc nls.size (.cells #[.bool false, .bool false, .bool false, .bool false, .bool false, .bool false, .bool false, .bool false, .int .i64 0, .int .u64 0, .int .i64 0, .int .u64 0] 41)
  have nl : Below w.heap.size w (w.alloc (.cells #[.bool false, .bool false, .bool false, .bool false, .bool false, .bool false, .bool false, .bool false, .int .i64 0, .int .u64 0, .int .i64 0, .int .u64 0] 41)) := nl0; clear nls nl0
  obtain ⟨B1, hB0⟩ : ∃ B, B = w.heap.size := ⟨_, rfl⟩
  obtain ⟨W1, hW⟩ : ∃ W, W = (w.alloc (.cells #[.bool false, .bool false, .bool false, .bool false, .bool false, .bool false, .bool false, .bool false, .int .i64 0, .int .u64 0, .int .i64 0, .int .u64 0] 41)) := ⟨_, rfl⟩
  rw [← hW] at nl nb0
  rw [← hB0] at nb0
  rw [← hW]
  try rw [← hB0]
  have K1_0 := Lib.hid nb0
  have G1 : Hid (w.heap.size ≤ B1) := Lib.hid (by have := (Nat.le_refl w.heap.size); omega)
  have L1 := Lib.hid nl
  clear nl hW nb0 hB0
  go_wp2_with fail
  refine (H1.out _ L1.out).mono ?_
  rintro e w2 ⟨rfl, hb⟩
  have L2 := Lib.hid (L1.out.trans (hb.mono L1.out.size))
  have K2_0 := Lib.hid (K1_0.out.below hb K1_0.out.lt)
  clear hb K1_0
  go_wp2_with fail
  go_loopw [14] (fun i wr => ∃ l : Nat, l ≤ 3 ∧ i = .int .i64 l ∧ fndT R n m va a (3 - l) l = Z ∧ Blk wr B1 [.bool false, .bool false, .bool false, .bool false, .bool false, .bool false, .bool false, .bool false, .int .i64 0, .int .u64 0, .int .i64 0, .int .u64 0] 41 ∧ Below w.heap.size w wr) (fun i _ => 3 - (intOf i).toNat)
  case atStart => exact ⟨0, by omega, rfl, HZ.out, K2_0.out, L2.out⟩
  case round =>
    obtain ⟨l, hl, rfl, he, hx, hb⟩ := hrel
    have HX := Lib.hid hx; have HB := Lib.hid hb; clear hx hb
    by_cases hlt : l < 3
    · have hli : (l : Int) < 3 := by omega
      rw [show 3 - l = (2 - l) + 1 from by omega, fndT] at he
      have k2 := H2.out l hlt
      have k3 := H3.out l
      have k4 := H4.out l
      have k5 := H5.out l
      obtain ⟨f, hf⟩ : ∃ f, f = R (numN va l % n) := ⟨_, rfl⟩
      rw [← hf] at he k4 k5
      obtain ⟨M, hM⟩ : ∃ M : Nat → Bool, ∀ j, M j = matW (f j) va a := ⟨_, fun _ => rfl⟩
      simp only [← hM] at he k4
      have y1 : ∀ j, j < m → M j = true → (∀ i, i < j → M i = false) → Z = ((f j).l, true) := fun j hj hs hb => by
        have e := fst1_yes (p := fun j => M j) hj hs hb
        rw [e, if_pos hj] at he
        exact he.symm
      have y2 : (∀ j, j < m → M j = false) → fndT R n m va a (2 - l) (l + 1) = Z := fun hn => by
        have e := fst1_no (p := fun j => M j) hn
        rw [e, if_neg (by omega)] at he
        exact he
      generalize numN va l = p at *
      generalize g (p % n) = q at *
      have K2 := Lib.hid k2; have K3 := Lib.hid k3; have K4 := Lib.hid k4; have K5 := Lib.hid k5; have Y1 := Lib.hid y1; have Y2 := Lib.hid y2
      clear k2 k3 k4 k5 y1 y2 he hM hf
      go_wp2_with fail
      refine (K2.out _).mono ?_
      rintro e w1 ⟨rfl, hb⟩
      have L1 := Lib.hid (HB.out.trans (hb.mono HB.out.size))
      have K1_0 := Lib.hid (HX.out.below hb HX.out.lt)
      clear hb HX
      go_wp2_with fail
      refine (K3.out _ L1.out).mono ?_
      rintro e w2 ⟨rfl, hb⟩
      have L2 := Lib.hid (L1.out.trans (hb.mono L1.out.size))
      have K2_0 := Lib.hid (K1_0.out.below hb K1_0.out.lt)
      clear hb K1_0
      go_wp2_with fail
      go_loopw [24] (fun i wq => ∃ j : Nat, j ≤ m ∧ i = .int .i64 j ∧ (∀ i, i < j → M i = false) ∧ Blk wq B1 [.bool false, .bool false, .bool false, .bool false, .bool false, .bool false, .bool false, .bool false, .int .i64 0, .int .u64 0, .int .i64 0, .int .u64 0] 41 ∧ Below w.heap.size w wq) (fun i _ => m - (intOf i).toNat)
      case atStart => exact ⟨0, Nat.zero_le _, rfl, (fun j hj => by omega), K2_0.out, L2.out⟩
      case round =>
        obtain ⟨j, hj, rfl, hno, hx, hb⟩ := hrel
        have HXQ := Lib.hid hx; have HBQ := Lib.hid hb; have HNO := Lib.hid hno; clear hx hb hno
        by_cases hlt2 : j < m
        · have hji : (j : Int) < (m : Int) := by omega
          have k4 := K4.out j hlt2
          generalize hMj : M j = Q at k4
          have K4J := Lib.hid k4; have HMJ := Lib.hid hMj; clear k4 hMj
          go_wp2_with fail
          refine (K4J.out _ HBQ.out).mono ?_
          rintro e w21 ⟨rfl, hb⟩
          have L21 := Lib.hid (HBQ.out.trans (hb.mono HBQ.out.size))
          have K21_0 := Lib.hid (HXQ.out.below hb HXQ.out.lt)
          clear hb HXQ
          cases Q
          · go_wp2
            exact ⟨⟨j + 1, hlt2, by go_num, (fun i hi => by rcases Nat.lt_or_ge i j with h | h; exact HNO.out i h; obtain rfl : i = j := (by omega); exact HMJ.out), K21_0.out, L21.out⟩, by simp [intOf]; omega⟩
          · have hz := Y1.out j hlt2 HMJ.out HNO.out
            have hc := (K5.out j hlt2 _ L21.out).leaf
            generalize (f j).l = LF at hz hc
            subst hz
            obtain ⟨⟨v, r, x1, x, u, g9, a9, d, rsw, ppn⟩, lv, pl⟩ := LF
            have hc0 := hc 0 _ rfl
            have hc1 := hc 1 _ rfl
            have hc2 := hc 2 _ rfl
            have hc3 := hc 3 _ rfl
            have hc4 := hc 4 _ rfl
            have hc5 := hc 5 _ rfl
            have hc6 := hc 6 _ rfl
            have hc7 := hc 7 _ rfl
            have hc8 := hc 8 _ rfl
            have hc9 := hc 9 _ rfl
            have hc10 := hc 10 _ rfl
            have hc11 := hc 11 _ rfl
            clear hc
            have m0_0 := K21_0.out.c0
            have m0_1 := K21_0.out.c1
            have m0_2 := K21_0.out.c2
            have m0_3 := K21_0.out.c3
            have m0_4 := K21_0.out.c4
            have m0_5 := K21_0.out.c5
            have m0_6 := K21_0.out.c6
            have m0_7 := K21_0.out.c7
            have m0_8 := K21_0.out.c8
            have m0_9 := K21_0.out.c9
            have m0_10 := K21_0.out.c10
            have m0_11 := K21_0.out.c11
            have mlt0 : B1 < w21.heap.size := K21_0.out.lt
            have mf0 : ∀ o, w21.frozen? ⟨B1, o, none⟩ = false := fun o => K21_0.out.free o
            go_wp2
            clear m0_0 m0_1 m0_2 m0_3 m0_4 m0_5 m0_6 m0_7 m0_8 m0_9 m0_10 m0_11 mlt0 mf0
            obtain ⟨W3, hW3⟩ : ∃ W9, W9 = ((((((((((((w21.setCell ⟨B1, 0, none⟩ (.bool v)).setCell ⟨B1, 1, none⟩ (.bool r)).setCell ⟨B1, 2, none⟩ (.bool x1)).setCell ⟨B1, 3, none⟩ (.bool x)).setCell ⟨B1, 4, none⟩ (.bool u)).setCell ⟨B1, 5, none⟩ (.bool g9)).setCell ⟨B1, 6, none⟩ (.bool a9)).setCell ⟨B1, 7, none⟩ (.bool d)).setCell ⟨B1, 8, none⟩ (.int .i64 rsw)).setCell ⟨B1, 9, none⟩ (.int .u64 (ppn : Int))).setCell ⟨B1, 10, none⟩ (.int .i64 (lv : Int))).setCell ⟨B1, 11, none⟩ (.int .u64 (pl : Int))) := ⟨_, rfl⟩
            rw [← hW3]
            have b3 : Blk W3 B1 [.bool v, .bool r, .bool x1, .bool x, .bool u, .bool g9, .bool a9, .bool d, .int .i64 rsw, .int .u64 (ppn : Int), .int .i64 (lv : Int), .int .u64 (pl : Int)] 41 := hW3 ▸ ((((((((((((K21_0.out.set 0 (.bool v)).set 1 (.bool r)).set 2 (.bool x1)).set 3 (.bool x)).set 4 (.bool u)).set 5 (.bool g9)).set 6 (.bool a9)).set 7 (.bool d)).set 8 (.int .i64 rsw)).set 9 (.int .u64 (ppn : Int))).set 10 (.int .i64 (lv : Int))).set 11 (.int .u64 (pl : Int)))
            have l3 : Below w.heap.size w W3 := hW3 ▸ (Below.setCell (Below.setCell (Below.setCell (Below.setCell (Below.setCell (Below.setCell (Below.setCell (Below.setCell (Below.setCell (Below.setCell (Below.setCell (Below.setCell L21.out G1.out _) G1.out _) G1.out _) G1.out _) G1.out _) G1.out _) G1.out _) G1.out _) G1.out _) G1.out _) G1.out _) G1.out _)
            clear hW3
            have r0 := b3.c0
            have r1 := b3.c1
            have r2 := b3.c2
            have r3 := b3.c3
            have r4 := b3.c4
            have r5 := b3.c5
            have r6 := b3.c6
            have r7 := b3.c7
            have r8 := b3.c8
            have r9 := b3.c9
            have r10 := b3.c10
            have r11 := b3.c11
            have Q3 := Lib.hid b3; have QL := Lib.hid l3; clear b3 l3
            refine bodyPost_ret (v := .tuple #[.agg #[.bool v, .bool r, .bool x1, .bool x, .bool u, .bool g9, .bool a9, .bool d, .int .i64 rsw, .int .u64 (ppn : Int), .int .i64 (lv : Int), .int .u64 (pl : Int)], .bool true]) (by simp [results, Tryz.results130, go_sem, r0, r1, r2, r3, r4, r5, r6, r7, r8, r9, r10, r11]) rfl ⟨rfl, QL.out⟩
        · obtain rfl : j = m := by omega
          have hz := Y2.out HNO.out
          have HZ2 := Lib.hid hz; clear hz
          go_wp2
          exact ⟨⟨l + 1, by omega, by go_num, (by rw [show 3 - (l + 1) = 2 - l from by omega]; exact HZ2.out), HXQ.out, HBQ.out⟩, by simp [intOf]; omega⟩
    · obtain rfl : l = 3 := by omega
      rw [show 3 - 3 = 0 from rfl, fndT] at he
      subst he
      have m0_0 := HX.out.c0
      have m0_1 := HX.out.c1
      have m0_2 := HX.out.c2
      have m0_3 := HX.out.c3
      have m0_4 := HX.out.c4
      have m0_5 := HX.out.c5
      have m0_6 := HX.out.c6
      have m0_7 := HX.out.c7
      have m0_8 := HX.out.c8
      have m0_9 := HX.out.c9
      have m0_10 := HX.out.c10
      have m0_11 := HX.out.c11
      have mlt0 : B1 < wr.heap.size := HX.out.lt
      have mf0 : ∀ o, wr.frozen? ⟨B1, o, none⟩ = false := fun o => HX.out.free o
      go_wp2
      clear m0_0 m0_1 m0_2 m0_3 m0_4 m0_5 m0_6 m0_7 m0_8 m0_9 m0_10 m0_11 mlt0 mf0
      obtain ⟨W3, hW3⟩ : ∃ W9, W9 = ((((((((((((wr.setCell ⟨B1, 0, none⟩ (.bool false)).setCell ⟨B1, 1, none⟩ (.bool false)).setCell ⟨B1, 2, none⟩ (.bool false)).setCell ⟨B1, 3, none⟩ (.bool false)).setCell ⟨B1, 4, none⟩ (.bool false)).setCell ⟨B1, 5, none⟩ (.bool false)).setCell ⟨B1, 6, none⟩ (.bool false)).setCell ⟨B1, 7, none⟩ (.bool false)).setCell ⟨B1, 8, none⟩ (.int .i64 0)).setCell ⟨B1, 9, none⟩ (.int .u64 0)).setCell ⟨B1, 10, none⟩ (.int .i64 0)).setCell ⟨B1, 11, none⟩ (.int .u64 0)) := ⟨_, rfl⟩
      rw [← hW3]
      have b3 : Blk W3 B1 [.bool false, .bool false, .bool false, .bool false, .bool false, .bool false, .bool false, .bool false, .int .i64 0, .int .u64 0, .int .i64 0, .int .u64 0] 41 := hW3 ▸ ((((((((((((HX.out.set 0 (.bool false)).set 1 (.bool false)).set 2 (.bool false)).set 3 (.bool false)).set 4 (.bool false)).set 5 (.bool false)).set 6 (.bool false)).set 7 (.bool false)).set 8 (.int .i64 0)).set 9 (.int .u64 0)).set 10 (.int .i64 0)).set 11 (.int .u64 0))
      have l3 : Below w.heap.size w W3 := hW3 ▸ (Below.setCell (Below.setCell (Below.setCell (Below.setCell (Below.setCell (Below.setCell (Below.setCell (Below.setCell (Below.setCell (Below.setCell (Below.setCell (Below.setCell HB.out G1.out _) G1.out _) G1.out _) G1.out _) G1.out _) G1.out _) G1.out _) G1.out _) G1.out _) G1.out _) G1.out _) G1.out _)
      clear hW3
      have r0 := b3.c0
      have r1 := b3.c1
      have r2 := b3.c2
      have r3 := b3.c3
      have r4 := b3.c4
      have r5 := b3.c5
      have r6 := b3.c6
      have r7 := b3.c7
      have r8 := b3.c8
      have r9 := b3.c9
      have r10 := b3.c10
      have r11 := b3.c11
      have Q3 := Lib.hid b3; have QL := Lib.hid l3; clear b3 l3
      refine bodyPost_ret (v := .tuple #[.agg #[.bool false, .bool false, .bool false, .bool false, .bool false, .bool false, .bool false, .bool false, .int .i64 0, .int .u64 0, .int .i64 0, .int .u64 0], .bool false]) (by simp [results, Tryz.results130, go_sem, r0, r1, r2, r3, r4, r5, r6, r7, r8, r9, r10, r11]) rfl ⟨rfl, QL.out⟩
end Go.Proofs.YtgnjbjbgfhjakaaGreat
