/-
  The statement WireHurts: its walk over the translation. Condition: the tables.
-/
import Derived.Test.YtmdfopbigkfbnaaDoorLw16
import Derived.Deep.AppendLies
namespace Go.Proofs.YtmdfopbigkfbnaaDoor
open Go.RowKit
set_option linter.unusedVariables false
set_option linter.unusedSimpArgs false
attribute [local go_sem] setCell_drewN alloc_drewN

theorem own_kept {w w' : World} {B t k n : Nat} {v : Value} {xs : List Value} (h : w.ownsRow B t k v n xs) (hb : Below w.heap.size w w') : w'.ownsRow B t k v n xs := World.ownsRow.kept h (grown_of_below hb) (Classical.em _)
theorem dat_stores {w : World} {A : Option Addr} {n k Bx : Nat} {d : List Int} (h : Dat w A n k d) (hk : Blk w Bx [.int .i64 0, .int .i64 0, .bool false, .int .u64 0, .int .u64 0, .slice none 0 0] 25) (v0 v1 v2 v3 v4 v5 : Value) : Dat ((((((w.setCell ⟨Bx, 0, none⟩ v0).setCell ⟨Bx, 1, none⟩ v1).setCell ⟨Bx, 2, none⟩ v2).setCell ⟨Bx, 3, none⟩ v3).setCell ⟨Bx, 4, none⟩ v4).setCell ⟨Bx, 5, none⟩ v5) A n k d := by
  refine ⟨⟨h.rd.1, h.rd.2.1, fun h0 => ?_⟩, h.len, h.nil, h.lc⟩
  obtain ⟨b, off, rfl, hc⟩ := h.rd.2.2 h0
  have hn : b ≠ Bx := by
    intro e
    subst e
    have h1 := hc 0 h0
    rw [Nat.add_zero, hk.cell off] at h1
    match off, h1 with
    | 0, h1 | 1, h1 | 2, h1 | 3, h1 | 4, h1 | 5, h1 => simp at h1
    | o + 6, h1 => simp at h1
  refine ⟨b, off, rfl, fun i hi => ?_⟩
  rw [cell_other _ ⟨b, off + i, none⟩ _ _ hn, cell_other _ ⟨b, off + i, none⟩ _ _ hn, cell_other _ ⟨b, off + i, none⟩ _ _ hn, cell_other _ ⟨b, off + i, none⟩ _ _ hn, cell_other _ ⟨b, off + i, none⟩ _ _ hn, cell_other _ ⟨b, off + i, none⟩ _ _ hn]
  exact hc i hi
set_option maxHeartbeats 4000000 in
theorem hurts_no (f t : Int) (bb : Bool) (s a : Int) (A : Option Addr) (dl cap : Nat) (q ct : Int) (w : World) (hle : dl ≤ 9223372036854775807) (h0 : 0 ≤ s) (hL : Lz w) (hr : (nok f t && bok bb s dl) = false) : Calls Tryd.prog 5 #[.agg #[.int .i64 f, .int .i64 t, .bool bb, .int .u64 s, .int .u64 a, .slice A dl cap], .int .i64 q, .int .i64 ct] w fun e w' => e = .returned (.bool true) ∧ Below w.heap.size w w' := by
  have HL := Lib.hid hL
  clear hL
  by_cases hb : 5000 < dl
  · have hbi : (5000 : Int) < dl := by omega
    go_enter Tryd.func5, Tryd.ntmps5
    go_upto_region 1 with (fail)
    have nb0 : Blk (w.alloc (.cells #[.int .i64 f, .int .i64 t, .bool bb, .int .u64 s, .int .u64 a, .slice A dl cap] 25)) (w.heap.size) [.int .i64 f, .int .i64 t, .bool bb, .int .u64 s, .int .u64 a, .slice A dl cap] 25 := Blk.new w [.int .i64 f, .int .i64 t, .bool bb, .int .u64 s, .int .u64 a, .slice A dl cap] 25
    have nls : Below w.heap.size w w := (Below.refl w.heap.size w)
    have nl0 := nls.alloc nls.size (.cells #[.int .i64 f, .int .i64 t, .bool bb, .int .u64 s, .int .u64 a, .slice A dl cap] 25)
    have nl : Below w.heap.size w (w.alloc (.cells #[.int .i64 f, .int .i64 t, .bool bb, .int .u64 s, .int .u64 a, .slice A dl cap] 25)) := nl0; clear nls nl0
    obtain ⟨B1, hB0⟩ : ∃ B, B = w.heap.size := ⟨_, rfl⟩
    obtain ⟨W1, hW⟩ : ∃ W, W = (w.alloc (.cells #[.int .i64 f, .int .i64 t, .bool bb, .int .u64 s, .int .u64 a, .slice A dl cap] 25)) := ⟨_, rfl⟩
    rw [← hW] at nl nb0
    rw [← hB0] at nb0
    rw [← hW]
    try rw [← hB0]
    have K1_0 := Lib.hid nb0
    have G1 : Hid (w.heap.size ≤ B1) := Lib.hid (by have := (Nat.le_refl w.heap.size); omega)
    have L1 := Lib.hid nl
    clear nl hW nb0 hB0
    have m0_0 : W1.cell? ⟨B1, 0, none⟩ = some _ := K1_0.out.cell 0
    have m0_1 : W1.cell? ⟨B1, 1, none⟩ = some _ := K1_0.out.cell 1
    have m0_2 : W1.cell? ⟨B1, 2, none⟩ = some _ := K1_0.out.cell 2
    have m0_3 : W1.cell? ⟨B1, 3, none⟩ = some _ := K1_0.out.cell 3
    have m0_4 : W1.cell? ⟨B1, 4, none⟩ = some _ := K1_0.out.cell 4
    have m0_5 : W1.cell? ⟨B1, 5, none⟩ = some _ := K1_0.out.cell 5
    have mlt0 : B1 < W1.heap.size := K1_0.out.lt
    go_wp2_with fail
    clear m0_0 m0_1 m0_2 m0_3 m0_4 m0_5 mlt0
    refine (first16_any _ (HL.out.below L1.out)).mono ?_
    rintro e w2 ⟨rfl, hb⟩
    have L2 := Lib.hid (L1.out.trans (hb.mono L1.out.size))
    have K2_0 := Lib.hid (K1_0.out.below hb K1_0.out.lt)
    clear hb K1_0
    have m0_0 : w2.cell? ⟨B1, 0, none⟩ = some _ := K2_0.out.cell 0
    have m0_1 : w2.cell? ⟨B1, 1, none⟩ = some _ := K2_0.out.cell 1
    have m0_2 : w2.cell? ⟨B1, 2, none⟩ = some _ := K2_0.out.cell 2
    have m0_3 : w2.cell? ⟨B1, 3, none⟩ = some _ := K2_0.out.cell 3
    have m0_4 : w2.cell? ⟨B1, 4, none⟩ = some _ := K2_0.out.cell 4
    have m0_5 : w2.cell? ⟨B1, 5, none⟩ = some _ := K2_0.out.cell 5
    have mlt0 : B1 < w2.heap.size := K2_0.out.lt
    go_wp2_with fail
    clear m0_0 m0_1 m0_2 m0_3 m0_4 m0_5 mlt0
    refine (put_no16 f t bb s a A dl cap _ h0 hle hr).mono ?_
    rintro e w3 ⟨rfl, hb⟩
    have L3 := Lib.hid (L2.out.trans (hb.mono L2.out.size))
    have K3_0 := Lib.hid (K2_0.out.below hb K2_0.out.lt)
    clear hb K2_0
    have m0_0 : w3.cell? ⟨B1, 0, none⟩ = some _ := K3_0.out.cell 0
    have m0_1 : w3.cell? ⟨B1, 1, none⟩ = some _ := K3_0.out.cell 1
    have m0_2 : w3.cell? ⟨B1, 2, none⟩ = some _ := K3_0.out.cell 2
    have m0_3 : w3.cell? ⟨B1, 3, none⟩ = some _ := K3_0.out.cell 3
    have m0_4 : w3.cell? ⟨B1, 4, none⟩ = some _ := K3_0.out.cell 4
    have m0_5 : w3.cell? ⟨B1, 5, none⟩ = some _ := K3_0.out.cell 5
    have mlt0 : B1 < w3.heap.size := K3_0.out.lt
    go_wp2
    clear m0_0 m0_1 m0_2 m0_3 m0_4 m0_5 mlt0
    go_ret
    exact ⟨rfl, L3.out⟩
  · have hbi : ¬ (5000 : Int) < dl := by omega
    go_enter Tryd.func5, Tryd.ntmps5
    go_upto_region 1 with (fail)
    have nb0 : Blk (w.alloc (.cells #[.int .i64 f, .int .i64 t, .bool bb, .int .u64 s, .int .u64 a, .slice A dl cap] 25)) (w.heap.size) [.int .i64 f, .int .i64 t, .bool bb, .int .u64 s, .int .u64 a, .slice A dl cap] 25 := Blk.new w [.int .i64 f, .int .i64 t, .bool bb, .int .u64 s, .int .u64 a, .slice A dl cap] 25
    have nls : Below w.heap.size w w := (Below.refl w.heap.size w)
    have nl0 := nls.alloc nls.size (.cells #[.int .i64 f, .int .i64 t, .bool bb, .int .u64 s, .int .u64 a, .slice A dl cap] 25)
    have nl : Below w.heap.size w (w.alloc (.cells #[.int .i64 f, .int .i64 t, .bool bb, .int .u64 s, .int .u64 a, .slice A dl cap] 25)) := nl0; clear nls nl0
    obtain ⟨B4, hB0⟩ : ∃ B, B = w.heap.size := ⟨_, rfl⟩
    obtain ⟨W4, hW⟩ : ∃ W, W = (w.alloc (.cells #[.int .i64 f, .int .i64 t, .bool bb, .int .u64 s, .int .u64 a, .slice A dl cap] 25)) := ⟨_, rfl⟩
    rw [← hW] at nl nb0
    rw [← hB0] at nb0
    rw [← hW]
    try rw [← hB0]
    have K4_0 := Lib.hid nb0
    have G4 : Hid (w.heap.size ≤ B4) := Lib.hid (by have := (Nat.le_refl w.heap.size); omega)
    have L4 := Lib.hid nl
    clear nl hW nb0 hB0
    have m0_0 : W4.cell? ⟨B4, 0, none⟩ = some _ := K4_0.out.cell 0
    have m0_1 : W4.cell? ⟨B4, 1, none⟩ = some _ := K4_0.out.cell 1
    have m0_2 : W4.cell? ⟨B4, 2, none⟩ = some _ := K4_0.out.cell 2
    have m0_3 : W4.cell? ⟨B4, 3, none⟩ = some _ := K4_0.out.cell 3
    have m0_4 : W4.cell? ⟨B4, 4, none⟩ = some _ := K4_0.out.cell 4
    have m0_5 : W4.cell? ⟨B4, 5, none⟩ = some _ := K4_0.out.cell 5
    have mlt0 : B4 < W4.heap.size := K4_0.out.lt
    go_wp2_with fail
    clear m0_0 m0_1 m0_2 m0_3 m0_4 m0_5 mlt0
    refine (first16_any _ (HL.out.below L4.out)).mono ?_
    rintro e w5 ⟨rfl, hb⟩
    have L5 := Lib.hid (L4.out.trans (hb.mono L4.out.size))
    have K5_0 := Lib.hid (K4_0.out.below hb K4_0.out.lt)
    clear hb K4_0
    have m0_0 : w5.cell? ⟨B4, 0, none⟩ = some _ := K5_0.out.cell 0
    have m0_1 : w5.cell? ⟨B4, 1, none⟩ = some _ := K5_0.out.cell 1
    have m0_2 : w5.cell? ⟨B4, 2, none⟩ = some _ := K5_0.out.cell 2
    have m0_3 : w5.cell? ⟨B4, 3, none⟩ = some _ := K5_0.out.cell 3
    have m0_4 : w5.cell? ⟨B4, 4, none⟩ = some _ := K5_0.out.cell 4
    have m0_5 : w5.cell? ⟨B4, 5, none⟩ = some _ := K5_0.out.cell 5
    have mlt0 : B4 < w5.heap.size := K5_0.out.lt
    go_wp2_with fail
    clear m0_0 m0_1 m0_2 m0_3 m0_4 m0_5 mlt0
    refine (put_no16 f t bb s a A dl cap _ h0 hle hr).mono ?_
    rintro e w6 ⟨rfl, hb⟩
    have L6 := Lib.hid (L5.out.trans (hb.mono L5.out.size))
    have K6_0 := Lib.hid (K5_0.out.below hb K5_0.out.lt)
    clear hb K5_0
    have m0_0 : w6.cell? ⟨B4, 0, none⟩ = some _ := K6_0.out.cell 0
    have m0_1 : w6.cell? ⟨B4, 1, none⟩ = some _ := K6_0.out.cell 1
    have m0_2 : w6.cell? ⟨B4, 2, none⟩ = some _ := K6_0.out.cell 2
    have m0_3 : w6.cell? ⟨B4, 3, none⟩ = some _ := K6_0.out.cell 3
    have m0_4 : w6.cell? ⟨B4, 4, none⟩ = some _ := K6_0.out.cell 4
    have m0_5 : w6.cell? ⟨B4, 5, none⟩ = some _ := K6_0.out.cell 5
    have mlt0 : B4 < w6.heap.size := K6_0.out.lt
    go_wp2
    clear m0_0 m0_1 m0_2 m0_3 m0_4 m0_5 mlt0
    go_ret
    exact ⟨rfl, L6.out⟩
set_option maxHeartbeats 16000000 in
theorem hurts_neg (f t : Nat) (bb : Bool) (s a : Nat) (A : Option Addr) (dl cap : Nat) (d : List Int) (q : Int) (hq : q < 0) (hq2 : -9223372036854775808 ≤ q) (ct : Int) (w : World) (hd : Dat w A dl cap d) (hL : Lz w) (hr : rgt ⟨f, t, bb, s, a, d⟩ = true) (hs : s < 18446744073709551616) (ha : a < 18446744073709551616) : Calls Tryd.prog 5 #[.agg #[.int .i64 (f : Int), .int .i64 (t : Int), .bool bb, .int .u64 (s : Int), .int .u64 (a : Int), .slice A dl cap], .int .i64 q, .int .i64 ct] w fun e w' => e = .returned (.bool true) ∧ Below w.heap.size w w' := by
  have hft : FmT ⟨f, t, bb, s, a, d⟩ := by
    obtain ⟨bf, bt, _⟩ := rgt_parts hr
    dsimp only at bf bt
    exact ⟨by dsimp only; omega, by dsimp only; omega, by dsimp only; omega, by dsimp only; omega⟩
  have hbl := (rgt_parts hr).2.2
  dsimp only at hbl
  rw [hd.len] at hbl
  have hpg := put_isF hft hr
  have hby := seal_Byt (plF_Byt hr hd.rd.1)
  have hln : (sealed (plF ⟨f, t, bb, s, a, d⟩)).length = 27 + dl := by rw [seal_len, plF_len]; dsimp only; rw [hd.len]; omega
  have hput1 : ∀ w2, Below w.heap.size w w2 → Calls Tryd.prog 7 #[.agg #[.int .i64 (f : Int), .int .i64 (t : Int), .bool bb, .int .u64 (s : Int), .int .u64 (a : Int), .slice A dl cap]] w2 fun e w' => ∃ v, e = .returned (.tuple #[v, .int .i64 0]) ∧ OwnV w2.heap.size (sealed (plF ⟨f, t, bb, s, a, d⟩)) v w' ∧ Below w2.heap.size w2 w' := fun w2 h2 => put_yes16 f t bb s a A dl cap d w2 (hd.below h2) hr hs ha (hL.below h2).s (hL.below h2).m
  have hbit : HasBit (sealed (plF ⟨f, t, bb, s, a, d⟩)) q ↔ False := by
    unfold HasBit; rw [hln]; simp; omega
  have htu : isF (turn (sealed (plF ⟨f, t, bb, s, a, d⟩)) q) = true := turn_same hft hr _ (fun h => hbit.1 h)
  have hcut := fun nn h => cut_no hft hr nn h
  have hmore := fun y h => more_no hft hr y h
  have htb : Byt (turn (sealed (plF ⟨f, t, bb, s, a, d⟩)) q) := turn_Byt _ hby
  obtain ⟨LS, hLS⟩ : ∃ x, x = sealed (plF ⟨f, t, bb, s, a, d⟩) := ⟨_, rfl⟩
  rw [← hLS] at hpg hby hln hput1 htu hcut hmore htb
  obtain ⟨n1, hn1⟩ : ∃ x, x = 27 + dl := ⟨_, rfl⟩
  rw [← hn1] at hln 
  obtain ⟨TL, hTL⟩ : ∃ x, x = turn LS q := ⟨_, rfl⟩
  rw [← hTL] at htu htb
  have htl : TL.length = n1 := by rw [hTL, turn_len, hln]
  have htc : ∀ b off cap w2, Rd w2 (some ⟨b, off, none⟩) LS → Calls Tryd.prog 15 #[.slice (some ⟨b, off, none⟩) n1 cap, .int .i64 q] w2 fun e w' => Owned w2.heap.size TL e w2 w' := fun b off cap w2 h => by rw [hTL]; exact rturn_any b off n1 cap LS q w2 h hln (by omega) (by omega) (by omega)
  obtain ⟨m1, hm1⟩ : ∃ x, x = getF TL := ⟨_, rfl⟩
  -- how many bytes are kept
  obtain ⟨u, hu⟩ : ∃ u : Nat, IntKind.u64.wrap ct = (u : Int) := ⟨(IntKind.u64.wrap ct).toNat, by rw [wrap_u64]; omega⟩
  obtain ⟨nn, hnn⟩ : ∃ nn, nn = u % n1 := ⟨_, rfl⟩
  have hnl : nn < n1 := by rw [hnn]; exact Nat.mod_lt _ (by omega)
  have hu2 : (u : Int).tmod (n1 : Int) = (nn : Int) := by rw [Int.tmod_eq_emod_of_nonneg (by omega), hnn]; rfl
  have hu2b : (u : Int) % (n1 : Int) = (nn : Int) := by rw [hnn]; rfl
  have hu3 : IntKind.i64.wrap (nn : Int) = nn := by simp [IntKind.wrap, IntKind.signed, IntKind.bits]; omega
  have hu4 : IntKind.u64.wrap (n1 : Int) = n1 := by rw [wrap_u64]; omega
  have hu5 : IntKind.u64.wrap (nn : Int) = nn := by rw [wrap_u64]; omega
  have hct := hcut nn (by rw [hln]; exact hnl)
  have hcg : getF (LS.take nn) = z16 := by unfold getF; rw [hct]; rfl
  obtain ⟨LX6, hL6⟩ : ∃ x, x = LS ++ LS.take nn := ⟨_, rfl⟩
  have hl6n : LX6.length = n1 + nn := by rw [hL6, List.length_append, List.length_take, hln]; omega
  have hl6b : Byt LX6 := by rw [hL6]; exact hby.app (hby.take _)
  obtain ⟨i0, hi, hz0, hz1, hz2⟩ := info_parts info_u8
  have HL := Lib.hid hL; have HD := Lib.hid hd; have HP1 := Lib.hid hput1; have HBY := Lib.hid hby; have HLN := Lib.hid hln; have HTU := Lib.hid htu; have HTB := Lib.hid htb; have HTL := Lib.hid htl; have HTC := Lib.hid htc; have HM1 := Lib.hid hm1; have HCT := Lib.hid hct; have HCG := Lib.hid hcg; have HL6 := Lib.hid hL6; have HL6N := Lib.hid hl6n; have HL6B := Lib.hid hl6b; have HPG := Lib.hid hpg; have HMO := Lib.hid hmore
  have hbi : ¬ (5000 : Int) < dl := by omega
  have hn9 : n1 ≤ 4147 := by omega
  have hn0 : 0 < n1 := by omega
  have hn0i : ¬ ((n1 : Int) = 0) := by omega
  have q1 : ¬ (0 ≤ q) := by omega
  clear hd hL hr hs ha hft hpg hby hput1 hbit htu htb htc hTL hm1 hcut hmore hct hcg hL6 hl6n hl6b hnn hLS hn1 hln htl hq2 hq
  go_enter Tryd.func5, Tryd.ntmps5
  go_upto_region 1 with (fail)
  have nb0 : Blk (w.alloc (.cells #[.int .i64 (f : Int), .int .i64 (t : Int), .bool bb, .int .u64 (s : Int), .int .u64 (a : Int), .slice A dl cap] 25)) (w.heap.size) [.int .i64 (f : Int), .int .i64 (t : Int), .bool bb, .int .u64 (s : Int), .int .u64 (a : Int), .slice A dl cap] 25 := Blk.new w [.int .i64 (f : Int), .int .i64 (t : Int), .bool bb, .int .u64 (s : Int), .int .u64 (a : Int), .slice A dl cap] 25
  have nls : Below w.heap.size w w := (Below.refl w.heap.size w)
  have nl0 := nls.alloc nls.size (.cells #[.int .i64 (f : Int), .int .i64 (t : Int), .bool bb, .int .u64 (s : Int), .int .u64 (a : Int), .slice A dl cap] 25)
  have nl : Below w.heap.size w (w.alloc (.cells #[.int .i64 (f : Int), .int .i64 (t : Int), .bool bb, .int .u64 (s : Int), .int .u64 (a : Int), .slice A dl cap] 25)) := nl0; clear nls nl0
  obtain ⟨B1, hB0⟩ : ∃ B, B = w.heap.size := ⟨_, rfl⟩
  obtain ⟨W1, hW⟩ : ∃ W, W = (w.alloc (.cells #[.int .i64 (f : Int), .int .i64 (t : Int), .bool bb, .int .u64 (s : Int), .int .u64 (a : Int), .slice A dl cap] 25)) := ⟨_, rfl⟩
  rw [← hW] at nl nb0
  rw [← hB0] at nb0
  rw [← hW]
  try rw [← hB0]
  have K1_0 := Lib.hid nb0
  have G1 : Hid (w.heap.size ≤ B1) := Lib.hid (by have := (Nat.le_refl w.heap.size); omega)
  have L1 := Lib.hid nl
  clear nl hW nb0 hB0
  have m0_0 : W1.cell? ⟨B1, 0, none⟩ = some _ := K1_0.out.cell 0
  have m0_1 : W1.cell? ⟨B1, 1, none⟩ = some _ := K1_0.out.cell 1
  have m0_2 : W1.cell? ⟨B1, 2, none⟩ = some _ := K1_0.out.cell 2
  have m0_3 : W1.cell? ⟨B1, 3, none⟩ = some _ := K1_0.out.cell 3
  have m0_4 : W1.cell? ⟨B1, 4, none⟩ = some _ := K1_0.out.cell 4
  have m0_5 : W1.cell? ⟨B1, 5, none⟩ = some _ := K1_0.out.cell 5
  have mlt0 : B1 < W1.heap.size := K1_0.out.lt
  go_wp2_with fail
  clear m0_0 m0_1 m0_2 m0_3 m0_4 m0_5 mlt0
  refine (first16_any _ (HL.out.below L1.out)).mono ?_
  rintro e w2 ⟨rfl, hb⟩
  have L2 := Lib.hid (L1.out.trans (hb.mono L1.out.size))
  have K2_0 := Lib.hid (K1_0.out.below hb K1_0.out.lt)
  clear hb K1_0
  have m0_0 : w2.cell? ⟨B1, 0, none⟩ = some _ := K2_0.out.cell 0
  have m0_1 : w2.cell? ⟨B1, 1, none⟩ = some _ := K2_0.out.cell 1
  have m0_2 : w2.cell? ⟨B1, 2, none⟩ = some _ := K2_0.out.cell 2
  have m0_3 : w2.cell? ⟨B1, 3, none⟩ = some _ := K2_0.out.cell 3
  have m0_4 : w2.cell? ⟨B1, 4, none⟩ = some _ := K2_0.out.cell 4
  have m0_5 : w2.cell? ⟨B1, 5, none⟩ = some _ := K2_0.out.cell 5
  have mlt0 : B1 < w2.heap.size := K2_0.out.lt
  go_wp2_with fail
  clear m0_0 m0_1 m0_2 m0_3 m0_4 m0_5 mlt0
  refine (HP1.out _ L2.out).mono ?_
  rintro e w3 ⟨v1, rfl, ho1, hb⟩
  have L3 := Lib.hid (L2.out.trans (hb.mono L2.out.size))
  have K3_0 := Lib.hid (K2_0.out.below hb K2_0.out.lt)
  clear hb K2_0
  obtain ⟨A1, k1, rfl, hd1⟩ := ho1.dat HBY.out
  rw [HLN.out] at hd1 ⊢
  obtain ⟨b1, o1, rfl, -⟩ := hd1.rd.2.2 (by rw [HLN.out]; exact hn0)
  have hk1 := hd1.lc
  have T0 := Lib.hid hd1
  clear hd1 ho1
  have m0_0 : w3.cell? ⟨B1, 0, none⟩ = some _ := K3_0.out.cell 0
  have m0_1 : w3.cell? ⟨B1, 1, none⟩ = some _ := K3_0.out.cell 1
  have m0_2 : w3.cell? ⟨B1, 2, none⟩ = some _ := K3_0.out.cell 2
  have m0_3 : w3.cell? ⟨B1, 3, none⟩ = some _ := K3_0.out.cell 3
  have m0_4 : w3.cell? ⟨B1, 4, none⟩ = some _ := K3_0.out.cell 4
  have m0_5 : w3.cell? ⟨B1, 5, none⟩ = some _ := K3_0.out.cell 5
  have mlt0 : B1 < w3.heap.size := K3_0.out.lt
  go_wp2_with fail
  clear m0_0 m0_1 m0_2 m0_3 m0_4 m0_5 mlt0
  refine (HTC.out b1 o1 k1 _ T0.out.rd).mono ?_
  rintro e w4 ⟨v3, rfl, ho3, hb⟩
  have L4 := Lib.hid (L3.out.trans (hb.mono L3.out.size))
  have K4_0 := Lib.hid (K3_0.out.below hb K3_0.out.lt)
  have T4_0 := Lib.hid (T0.out.below hb)
  clear T0
  clear hb K3_0
  obtain ⟨A3, k3, rfl, hd3⟩ := OwnV.dat ho3 HTB.out
  rw [HTL.out] at hd3 ⊢
  have T1 := Lib.hid hd3
  clear hd3 ho3
  go_wp2_with fail
  have hg := get_any A3 n1 k3 TL w4 T1.out (HL.out.below L4.out).s (HL.out.below L4.out).m (by omega)
  rw [HTU.out, ← HM1.out] at hg
  have HGG := Lib.hid hg; clear hg
  refine (HGG.out).mono ?_
  rintro e w5 ⟨⟨A4, k4, rfl, -⟩, hb⟩
  have L5 := Lib.hid (L4.out.trans (hb.mono L4.out.size))
  have K5_0 := Lib.hid (K4_0.out.below hb K4_0.out.lt)
  have T5_0 := Lib.hid (T4_0.out.below hb)
  have T5_1 := Lib.hid (T1.out.below hb)
  clear T4_0 T1
  clear hb K4_0
  go_upto_region 8 with (fail)
  have dd0 : Dat (w5.alloc (.cells #[.int .i64 m1.f, .int .i64 m1.t, .bool m1.b, .int .u64 m1.s, .int .u64 m1.a, .slice A4 m1.d.length k4] 25)) (some ⟨b1, o1, none⟩) n1 k1 LS := (T5_0.out.below ((Below.refl _ _).alloc (Nat.le_refl _) _))
  have nb0 : Blk (w5.alloc (.cells #[.int .i64 m1.f, .int .i64 m1.t, .bool m1.b, .int .u64 m1.s, .int .u64 m1.a, .slice A4 m1.d.length k4] 25)) (w5.heap.size) [.int .i64 m1.f, .int .i64 m1.t, .bool m1.b, .int .u64 m1.s, .int .u64 m1.a, .slice A4 m1.d.length k4] 25 := Blk.new w5 [.int .i64 m1.f, .int .i64 m1.t, .bool m1.b, .int .u64 m1.s, .int .u64 m1.a, .slice A4 m1.d.length k4] 25
  have nls : Below w.heap.size w w5 := L5.out
  have nl0 := nls.alloc nls.size (.cells #[.int .i64 m1.f, .int .i64 m1.t, .bool m1.b, .int .u64 m1.s, .int .u64 m1.a, .slice A4 m1.d.length k4] 25)
  have nl : Below w.heap.size w (w5.alloc (.cells #[.int .i64 m1.f, .int .i64 m1.t, .bool m1.b, .int .u64 m1.s, .int .u64 m1.a, .slice A4 m1.d.length k4] 25)) := nl0; clear nls nl0
  have o0 : Blk (w5.alloc (.cells #[.int .i64 m1.f, .int .i64 m1.t, .bool m1.b, .int .u64 m1.s, .int .u64 m1.a, .slice A4 m1.d.length k4] 25)) B1 [.int .i64 (f : Int), .int .i64 (t : Int), .bool bb, .int .u64 (s : Int), .int .u64 (a : Int), .slice A dl cap] 25 := (K5_0.out.alloc (.cells #[.int .i64 m1.f, .int .i64 m1.t, .bool m1.b, .int .u64 m1.s, .int .u64 m1.a, .slice A4 m1.d.length k4] 25))
  have d6_0 : B1 < w5.heap.size := K5_0.out.lt
  obtain ⟨B6, hB0⟩ : ∃ B, B = w5.heap.size := ⟨_, rfl⟩
  obtain ⟨W6, hW⟩ : ∃ W, W = (w5.alloc (.cells #[.int .i64 m1.f, .int .i64 m1.t, .bool m1.b, .int .u64 m1.s, .int .u64 m1.a, .slice A4 m1.d.length k4] 25)) := ⟨_, rfl⟩
  rw [← hW] at dd0
  have T6_0 := Lib.hid dd0
  clear dd0 T5_0
  rw [← hW] at nl nb0 o0
  rw [← hB0] at nb0
  rw [← hW]
  try rw [← hB0]
  have K6_0 := Lib.hid o0
  have K6_1 := Lib.hid nb0
  have G6 : Hid (w.heap.size ≤ B6) := Lib.hid (by have := L5.out.size; omega)
  have x6_0_0 : B1 ≠ B6 := by omega
  have X6_0_0 := Lib.hid x6_0_0; clear x6_0_0
  have L6 := Lib.hid nl
  clear nl hW nb0 hB0 o0 d6_0 K5_0
  go_upto_region 11 with (fail)
  have hkn : nn ≤ k1 := by omega
  have hkni : (nn : Int) ≤ k1 := by omega
  go_wp2_with fail
  have hg := get_any (some ⟨b1, o1, none⟩) nn k1 (LS.take nn) W6 (dat_upto T6_0.out nn (by omega)) (HL.out.below L6.out).s (HL.out.below L6.out).m (by omega)
  rw [HCT.out, HCG.out] at hg
  unfold z16 at hg
  dsimp only [List.length_nil] at hg
  have HGH := Lib.hid hg; clear hg
  refine (HGH.out).mono ?_
  rintro e w7 ⟨⟨A5, k5, rfl, -⟩, hb⟩
  have L7 := Lib.hid (L6.out.trans (hb.mono L6.out.size))
  have K7_0 := Lib.hid (K6_0.out.below hb K6_0.out.lt)
  have T7_0 := Lib.hid (T6_0.out.below hb)
  clear T6_0
  clear hb K6_0
  go_upto_region 13 with (fail)
  have dd0 : Dat (w7.alloc (.cells #[.int .i64 0, .int .i64 0, .bool false, .int .u64 0, .int .u64 0, .slice A5 0 k5] 25)) (some ⟨b1, o1, none⟩) n1 k1 LS := (T7_0.out.below ((Below.refl _ _).alloc (Nat.le_refl _) _))
  have nb0 : Blk (w7.alloc (.cells #[.int .i64 0, .int .i64 0, .bool false, .int .u64 0, .int .u64 0, .slice A5 0 k5] 25)) (w7.heap.size) [.int .i64 0, .int .i64 0, .bool false, .int .u64 0, .int .u64 0, .slice A5 0 k5] 25 := Blk.new w7 [.int .i64 0, .int .i64 0, .bool false, .int .u64 0, .int .u64 0, .slice A5 0 k5] 25
  have nls : Below w.heap.size w w7 := L7.out
  have nl0 := nls.alloc nls.size (.cells #[.int .i64 0, .int .i64 0, .bool false, .int .u64 0, .int .u64 0, .slice A5 0 k5] 25)
  have nl : Below w.heap.size w (w7.alloc (.cells #[.int .i64 0, .int .i64 0, .bool false, .int .u64 0, .int .u64 0, .slice A5 0 k5] 25)) := nl0; clear nls nl0
  have o0 : Blk (w7.alloc (.cells #[.int .i64 0, .int .i64 0, .bool false, .int .u64 0, .int .u64 0, .slice A5 0 k5] 25)) B1 [.int .i64 (f : Int), .int .i64 (t : Int), .bool bb, .int .u64 (s : Int), .int .u64 (a : Int), .slice A dl cap] 25 := (K7_0.out.alloc (.cells #[.int .i64 0, .int .i64 0, .bool false, .int .u64 0, .int .u64 0, .slice A5 0 k5] 25))
  have d8_0 : B1 < w7.heap.size := K7_0.out.lt
  obtain ⟨B8, hB0⟩ : ∃ B, B = w7.heap.size := ⟨_, rfl⟩
  obtain ⟨W8, hW⟩ : ∃ W, W = (w7.alloc (.cells #[.int .i64 0, .int .i64 0, .bool false, .int .u64 0, .int .u64 0, .slice A5 0 k5] 25)) := ⟨_, rfl⟩
  rw [← hW] at dd0
  have T8_0 := Lib.hid dd0
  clear dd0 T7_0
  rw [← hW] at nl nb0 o0
  rw [← hB0] at nb0
  rw [← hW]
  try rw [← hB0]
  have K8_0 := Lib.hid o0
  have K8_1 := Lib.hid nb0
  have G8 : Hid (w.heap.size ≤ B8) := Lib.hid (by have := L7.out.size; omega)
  have x8_0_0 : B1 ≠ B8 := by omega
  have X8_0_0 := Lib.hid x8_0_0; clear x8_0_0
  have L8 := Lib.hid nl
  clear nl hW nb0 hB0 o0 d8_0 K7_0
  go_upto_region 15 with (fail)
  obtain ⟨mr, hmr⟩ : ∃ x, x = getF LX6 := ⟨_, rfl⟩
  by_cases hz : nn = 0
  · have hl6 : LX6 = LS := by rw [HL6.out, hz, List.take_zero, List.append_nil]
    have hi6 : isF LX6 = true := by rw [hl6]; exact HPG.out.1
    have hmr2 : mr = ⟨f, t, bb, s, a, d⟩ := by rw [hmr, hl6]; exact HPG.out.2
    have HMR := Lib.hid hmr2
    have hzi : ((nn : Int) == 0) = true := by simp [hz]
    clear hl6 hmr2 hz
    have HI6 := Lib.hid hi6; have HG6 := Lib.hid hmr.symm; clear hi6 hmr
    refine wp_region_held_drew (S := fun _ => True) (by kernel_rfl) trivial (fun hHeld => ?_)
    clear hHeld
    obtain ⟨D, hD⟩ : ∃ x, x = W8.drew := ⟨_, rfl⟩
    rw [← hD]
    have hb0 : Below W8.heap.size W8 D := hD ▸ (Below.refl _ _).drew
    have KF := Lib.hid (K8_0.out.below hb0 K8_0.out.lt)
    have TD := Lib.hid (T8_0.out.below hb0)
    have LW := Lib.hid (L8.out.trans (hb0.mono L8.out.size))
    have LD0 := Lib.hid (Below.refl D.heap.size D)
    have hS : True := trivial
    clear hb0 hD
    simp only [List.size_toArray, List.length_cons, List.length_nil, Nat.reduceAdd]
    rw [show Array.replicate 14 false = [false, false, false, false, false, false, false, false, false, false, false, false, false, false].toArray from rfl]
    refine wpAnyH_take (i := 1) (v := ?_) rfl (by kernel_rfl) (by kernel_rfl) (by kernel_rfl) (fun _ _ _ h => h) (Or.inl ⟨by rfl, ?yldq⟩) (by assumption) ?_
    case yldq => (intro w hSw; (try dsimp only at hSw); go_simp; try with_reducible rfl)
    try simp only [Act.put, List.setIfInBounds_toArray, List.set_cons_zero, List.set_cons_succ, List.getElem_toArray, List.getElem_cons_succ, List.getElem_cons_zero]
    refine wpAnyH_take (i := 3) (v := ?_) rfl (by kernel_rfl) (by kernel_rfl) (by kernel_rfl) (fun _ _ _ h => h) (Or.inl ⟨by rfl, ?yldq⟩) (by assumption) ?_
    case yldq => (intro w hSw; (try dsimp only at hSw); go_simp; try with_reducible rfl)
    try simp only [Act.put, List.setIfInBounds_toArray, List.set_cons_zero, List.set_cons_succ, List.getElem_toArray, List.getElem_cons_succ, List.getElem_cons_zero]
    refine wpAnyH_take (i := 4) (v := ?_) rfl (by kernel_rfl) (by kernel_rfl) (by kernel_rfl) (fun _ _ _ h => h) (Or.inl ⟨by rfl, ?yldq⟩) (by assumption) ?_
    case yldq => (intro w hSw; (try dsimp only at hSw); go_simp; try with_reducible rfl)
    try simp only [Act.put, List.setIfInBounds_toArray, List.set_cons_zero, List.set_cons_succ, List.getElem_toArray, List.getElem_cons_succ, List.getElem_cons_zero]
    refine wpAnyH_take (i := 5) (v := ?_) rfl (by kernel_rfl) (by kernel_rfl) (by kernel_rfl) (fun _ _ _ h => h) (Or.inl ⟨by rfl, ?yldq⟩) (by assumption) ?_
    case yldq => (intro w hSw; (try dsimp only at hSw); go_simp; try with_reducible rfl)
    try simp only [Act.put, List.setIfInBounds_toArray, List.set_cons_zero, List.set_cons_succ, List.getElem_toArray, List.getElem_cons_succ, List.getElem_cons_zero]
    refine wpAnyH_ready (rs := [0, 11]) (by kernel_rfl) (by simp) ?_
    refine AllReadyH.cons rfl (fun K hK => ?_) (AllReadyH.cons rfl (fun K hK => ?_) AllReadyH.nil)
    · skip
      go_simp
      obtain ⟨g0, hg0⟩ : ∃ x, x = D.heap.size := ⟨_, rfl⟩
      have lx1 := LD0.out.alloc LD0.out.size (.cells #[] 5)
      have gx1 : D.heap.size ≤ g0 := by rw [hg0]; exact LD0.out.size
      have ow1 : (D.alloc (.cells #[] 5)).ownsRow D.heap.size 5 1 (.slice (some ⟨g0, 0, none⟩) 0 0) 0 [] := by rw [hg0]; exact own_base15 (own_lit0 D 5 1) LD0.out.size
      obtain ⟨V1, hV⟩ : ∃ x, x = D.alloc (.cells #[] 5) := ⟨_, rfl⟩
      rw [← hV] at lx1 ow1
      rw [← hV]
      try rw [← hg0]
      have LD1 := Lib.hid lx1; clear lx1
      have G0 := Lib.hid gx1
      have HO1 := Lib.hid ow1; clear ow1
      clear gx1 hV hg0
      refine hK.out _ _ trivial (fun hS0 => ?_)
      clear hK K
      refine wpAnyH_ready (rs := [2, 11]) (by kernel_rfl) (by simp) ?_
      refine AllReadyH.cons rfl (fun K hK => ?_) (AllReadyH.cons rfl (fun K hK => ?_) AllReadyH.nil)
      · skip
        rw [if_pos (by rfl)]
        refine wp_append_lies V1 (.tmp 75) (.tmp 76) 23 rfl D.heap.size 5 i0 (.int .u8 0) 1 1 Tryd.underlying23 hi hz0 hz1 hz2 rfl (by decide) (.slice (some ⟨g0, 0, none⟩) 0 0) 0 [] rfl HO1.out ⟨b1, o1, none⟩ n1 k1 (LS.map (Value.int .u8)) rfl ?c102_1 ?c102_2 ?c102_3 ?c102_4 ?c102_5 ?c102_6 LD1.out.size V1.heap.size rfl ?_
        case c102_1 => rw [List.length_map, HLN.out, Nat.mul_one]
        case c102_2 => exact fun j u hj => (TD.out.below LD1.out).rd.cells j u hj
        case c102_3 => intro u hu; obtain ⟨x, _, rfl⟩ := List.mem_map.1 hu; rfl
        case c102_4 => omega
        case c102_5 => unfold maxLen; omega
        case c102_6 => omega
        intro g2 c2 V2 ho hg hlie hlt
        rw [Nat.zero_add]
        have lx2 : Below D.heap.size D V2 := LD1.out.grown hg LD1.out.size (fun k hk => (HO1.out.lt k hk).1)
        have ow2 : V2.ownsRow D.heap.size 5 1 (.slice (some ⟨g2, 0, none⟩) n1 c2) n1 (LS.map (Value.int .u8)) := by simpa using ho
        have HO2 := Lib.hid ow2; have LD2 := Lib.hid lx2; clear ow2 lx2 ho hg hlie hlt HO1 LD1
        refine hK.out _ _ trivial (fun hS2 => ?_)
        clear hK K
        refine wpAnyH_ready (rs := [6, 11]) (by kernel_rfl) (by simp) ?_
        refine AllReadyH.cons rfl (fun K hK => ?_) (AllReadyH.cons rfl (fun K hK => ?_) AllReadyH.nil)
        · skip
          rw [if_pos (by rfl)]
          have hsr := (dat_upto (TD.out.below LD2.out) nn (by omega)).src
          refine wp_append_src (.tmp 77) (.tmp 80) 23 rfl D.heap.size 5 i0 (.int .u8 0) 1 1 Tryd.underlying23 hi hz0 hz1 hz2 rfl (by decide) (.slice (some ⟨g2, 0, none⟩) n1 c2) n1 (LS.map (Value.int .u8)) rfl HO2.out _ nn ((LS.take nn).map (Value.int .u8)) rfl hsr ?c103_1 ?c103_2 ?c103_3 ?c103_4 LD2.out.size ?_
          case c103_1 => rw [List.length_map, List.length_take, HLN.out, Nat.mul_one]; omega
          case c103_2 => intro u hu; obtain ⟨x, _, rfl⟩ := List.mem_map.1 hu; rfl
          case c103_3 => unfold maxLen; omega
          case c103_4 => omega
          intro v6 V3 ho hg
          clear hsr
          have lx3 : Below D.heap.size D V3 := LD2.out.grown hg LD2.out.size (fun k hk => (HO2.out.lt k hk).1)
          have ow3 : OwnV D.heap.size LX6 v6 V3 := by
            unfold OwnV
            rw [HL6N.out, HL6.out, List.map_append]; exact ho
          obtain ⟨A6, k6, rfl, hd6⟩ := OwnV.dat ow3 HL6B.out
          rw [HL6N.out] at hd6 ⊢
          have DT3 := Lib.hid hd6; have LD3 := Lib.hid lx3; clear hd6 ow3 lx3 ho hg HO2 LD2
          refine hK.out _ _ trivial (fun hS6 => ?_)
          clear hK K
          refine wpAnyH_ready (rs := [7, 11]) (by kernel_rfl) (by simp) ?_
          refine AllReadyH.cons rfl (fun K hK => ?_) (AllReadyH.cons rfl (fun K hK => ?_) AllReadyH.nil)
          · skip
            go_simp
            have hgt := get_any A6 (n1 + nn) k6 LX6 V3 DT3.out (HL.out.below (LW.out.trans (LD3.out.mono LW.out.size))).s (HL.out.below (LW.out.trans (LD3.out.mono LW.out.size))).m (by omega)
            rw [HI6.out, HG6.out] at hgt
            refine hgt.mono ?_
            rintro e V4 ⟨⟨A7, k7, rfl, hd7⟩, hb⟩
            have LD4 := Lib.hid (LD3.out.trans (hb.mono LD3.out.size))
            have DT4 := Lib.hid hd7
            clear hb hgt hd7 LD3 DT3
            refine hK.out _ _ trivial (fun hS7 => ?_)
            clear hK K
            refine wpAnyH_take (i := 8) (v := ?_) rfl (by kernel_rfl) (by kernel_rfl) (by kernel_rfl) (fun _ _ _ h => h) (Or.inl ⟨by rfl, ?yldq⟩) (by assumption) ?_
            case yldq => (intro w hSw; (try dsimp only at hSw); go_simp; try with_reducible rfl)
            try simp only [Act.put, List.setIfInBounds_toArray, List.set_cons_zero, List.set_cons_succ, List.getElem_toArray, List.getElem_cons_succ, List.getElem_cons_zero]
            refine wpAnyH_take (i := 9) (v := ?_) rfl (by kernel_rfl) (by kernel_rfl) (by kernel_rfl) (fun _ _ _ h => h) (Or.inl ⟨by rfl, ?yldq⟩) (by assumption) ?_
            case yldq => (intro w hSw; (try dsimp only at hSw); go_simp; try with_reducible rfl)
            try simp only [Act.put, List.setIfInBounds_toArray, List.set_cons_zero, List.set_cons_succ, List.getElem_toArray, List.getElem_cons_succ, List.getElem_cons_zero]
            refine wpAnyH_take (i := 10) (v := ?_) rfl (by kernel_rfl) (by kernel_rfl) (by kernel_rfl) (fun _ _ _ h => h) (Or.inl ⟨by rfl, ?yldq⟩) (by assumption) ?_
            case yldq => (intro w hSw; (try dsimp only at hSw); go_simp; try with_reducible rfl)
            try simp only [Act.put, List.setIfInBounds_toArray, List.set_cons_zero, List.set_cons_succ, List.getElem_toArray, List.getElem_cons_succ, List.getElem_cons_zero]
            refine wpAnyH_ready (rs := [11]) (by kernel_rfl) (by simp) ?_
            refine AllReadyH.cons rfl (fun K hK => ?_) AllReadyH.nil
            go_simp
            obtain ⟨Bx, hBx⟩ : ∃ x, x = V4.heap.size := ⟨_, rfl⟩
            have lx5 := LD4.out.alloc LD4.out.size (.cells #[.int .i64 0, .int .i64 0, .bool false, .int .u64 0, .int .u64 0, .slice none 0 0] 25)
            have gx5 : D.heap.size ≤ Bx := by rw [hBx]; exact LD4.out.size
            have kx5 : Blk (V4.alloc (.cells #[.int .i64 0, .int .i64 0, .bool false, .int .u64 0, .int .u64 0, .slice none 0 0] 25)) Bx [.int .i64 0, .int .i64 0, .bool false, .int .u64 0, .int .u64 0, .slice none 0 0] 25 := by rw [hBx]; exact Blk.new V4 [.int .i64 0, .int .i64 0, .bool false, .int .u64 0, .int .u64 0, .slice none 0 0] 25
            have dt5 := DT4.out.below ((Below.refl _ _).alloc (Nat.le_refl _) (.cells #[.int .i64 0, .int .i64 0, .bool false, .int .u64 0, .int .u64 0, .slice none 0 0] 25))
            obtain ⟨V5, hV⟩ : ∃ x, x = V4.alloc (.cells #[.int .i64 0, .int .i64 0, .bool false, .int .u64 0, .int .u64 0, .slice none 0 0] 25) := ⟨_, rfl⟩
            rw [← hV] at lx5 kx5 dt5
            rw [← hV]
            try rw [← hBx]
            have LD5 := Lib.hid lx5; clear lx5
            have GX := Lib.hid gx5
            have KX5 := Lib.hid kx5; clear kx5
            have DT5 := Lib.hid dt5; clear dt5
            clear gx5 hV hBx LD4 DT4
            refine hK.out _ _ trivial (fun hS11 => ?_)
            clear hK K
            refine wpAnyH_ready (rs := [12]) (by kernel_rfl) (by simp) ?_
            refine AllReadyH.cons rfl (fun K hK => ?_) AllReadyH.nil
            have m0 : V5.cell? ⟨Bx, 0, none⟩ = some _ := KX5.out.cell 0
            have m1 : V5.cell? ⟨Bx, 1, none⟩ = some _ := KX5.out.cell 1
            have m2 : V5.cell? ⟨Bx, 2, none⟩ = some _ := KX5.out.cell 2
            have m3 : V5.cell? ⟨Bx, 3, none⟩ = some _ := KX5.out.cell 3
            have m4 : V5.cell? ⟨Bx, 4, none⟩ = some _ := KX5.out.cell 4
            have m5 : V5.cell? ⟨Bx, 5, none⟩ = some _ := KX5.out.cell 5
            have mlt : Bx < V5.heap.size := KX5.out.lt
            have mf : ∀ o, V5.frozen? ⟨Bx, o, none⟩ = false := fun o => KX5.out.free o
            go_simp
            clear m0 m1 m2 m3 m4 m5 mlt mf
            obtain ⟨WE, hW⟩ : ∃ x, x = ((((((V5.setCell ⟨Bx, 0, none⟩ (.int .i64 mr.f)).setCell ⟨Bx, 1, none⟩ (.int .i64 mr.t)).setCell ⟨Bx, 2, none⟩ (.bool mr.b)).setCell ⟨Bx, 3, none⟩ (.int .u64 mr.s)).setCell ⟨Bx, 4, none⟩ (.int .u64 mr.a)).setCell ⟨Bx, 5, none⟩ (.slice A7 mr.d.length k7)) := ⟨_, rfl⟩
            rw [← hW]
            have LE := Lib.hid (show Below D.heap.size D WE from hW ▸ (Below.setCell (Below.setCell (Below.setCell (Below.setCell (Below.setCell (Below.setCell LD5.out GX.out _) GX.out _) GX.out _) GX.out _) GX.out _) GX.out _))
            have KE := Lib.hid (show Blk WE Bx [.int .i64 mr.f, .int .i64 mr.t, .bool mr.b, .int .u64 mr.s, .int .u64 mr.a, .slice A7 mr.d.length k7] 25 from hW ▸ ((((((KX5.out.set 0 (.int .i64 mr.f)).set 1 (.int .i64 mr.t)).set 2 (.bool mr.b)).set 3 (.int .u64 mr.s)).set 4 (.int .u64 mr.a)).set 5 (.slice A7 mr.d.length k7)))
            have dt9 : Dat ((((((V5.setCell ⟨Bx, 0, none⟩ (.int .i64 mr.f)).setCell ⟨Bx, 1, none⟩ (.int .i64 mr.t)).setCell ⟨Bx, 2, none⟩ (.bool mr.b)).setCell ⟨Bx, 3, none⟩ (.int .u64 mr.s)).setCell ⟨Bx, 4, none⟩ (.int .u64 mr.a)).setCell ⟨Bx, 5, none⟩ (.slice A7 mr.d.length k7)) A7 mr.d.length k7 mr.d := dat_stores DT5.out KX5.out _ _ _ _ _ _
            rw [← hW] at dt9
            have DE := Lib.hid dt9
            clear dt9
            have KFE := Lib.hid (KF.out.below LE.out KF.out.lt)
            have LWE := Lib.hid (LW.out.trans (LE.out.mono LW.out.size))
            clear hW KX5 DT5 LD5
            refine hK.out _ _ trivial (fun hS12 => ?_)
            clear hK K
            refine wpAnyH_take (i := 13) (v := ?_) rfl (by kernel_rfl) (by kernel_rfl) (by kernel_rfl) (fun _ _ _ h => h) (Or.inl ⟨by rfl, ?yldq⟩) (by assumption) ?_
            case yldq => (intro w hSw; (try dsimp only at hSw); go_simp; try with_reducible rfl)
            try simp only [Act.put, List.setIfInBounds_toArray, List.set_cons_zero, List.set_cons_succ, List.getElem_toArray, List.getElem_cons_succ, List.getElem_cons_zero]
            refine wpAnyH_done (by kernel_rfl) ?_ _
            have hsm := same_any mr.f mr.t mr.b mr.s mr.a f t bb s a A7 A mr.d.length k7 dl cap mr.d d WE DE.out (HD.out.below LWE.out)
            have he : sameF ⟨mr.f, mr.t, mr.b, mr.s, mr.a, mr.d⟩ ⟨f, t, bb, s, a, d⟩ = true := by rw [HMR.out]; exact sameF_refl _
            rw [he] at hsm
            have HSM := Lib.hid hsm; clear hsm he
            have m0 : WE.cell? ⟨Bx, 0, none⟩ = some _ := KE.out.cell 0
            have p0 : WE.cell? ⟨B1, 0, none⟩ = some _ := KFE.out.cell 0
            have m1 : WE.cell? ⟨Bx, 1, none⟩ = some _ := KE.out.cell 1
            have p1 : WE.cell? ⟨B1, 1, none⟩ = some _ := KFE.out.cell 1
            have m2 : WE.cell? ⟨Bx, 2, none⟩ = some _ := KE.out.cell 2
            have p2 : WE.cell? ⟨B1, 2, none⟩ = some _ := KFE.out.cell 2
            have m3 : WE.cell? ⟨Bx, 3, none⟩ = some _ := KE.out.cell 3
            have p3 : WE.cell? ⟨B1, 3, none⟩ = some _ := KFE.out.cell 3
            have m4 : WE.cell? ⟨Bx, 4, none⟩ = some _ := KE.out.cell 4
            have p4 : WE.cell? ⟨B1, 4, none⟩ = some _ := KFE.out.cell 4
            have m5 : WE.cell? ⟨Bx, 5, none⟩ = some _ := KE.out.cell 5
            have p5 : WE.cell? ⟨B1, 5, none⟩ = some _ := KFE.out.cell 5
            have mlt : Bx < WE.heap.size := KE.out.lt
            have plt : B1 < WE.heap.size := KFE.out.lt
            go_wp2_with fail
            refine HSM.out.mono ?_
            rintro e wz ⟨rfl, hb⟩
            have LZ := Lib.hid (LWE.out.trans (hb.mono LWE.out.size))
            clear hb m0 m1 m2 m3 m4 m5 p0 p1 p2 p3 p4 p5 mlt plt
            go_wp2
            go_ret
            exact ⟨rfl, LZ.out⟩
          · skip
            go_simp
            obtain ⟨Bx, hBx⟩ : ∃ x, x = V3.heap.size := ⟨_, rfl⟩
            have lx4 := LD3.out.alloc LD3.out.size (.cells #[.int .i64 0, .int .i64 0, .bool false, .int .u64 0, .int .u64 0, .slice none 0 0] 25)
            have gx4 : D.heap.size ≤ Bx := by rw [hBx]; exact LD3.out.size
            have kx4 : Blk (V3.alloc (.cells #[.int .i64 0, .int .i64 0, .bool false, .int .u64 0, .int .u64 0, .slice none 0 0] 25)) Bx [.int .i64 0, .int .i64 0, .bool false, .int .u64 0, .int .u64 0, .slice none 0 0] 25 := by rw [hBx]; exact Blk.new V3 [.int .i64 0, .int .i64 0, .bool false, .int .u64 0, .int .u64 0, .slice none 0 0] 25
            have dt4 := DT3.out.below ((Below.refl _ _).alloc (Nat.le_refl _) (.cells #[.int .i64 0, .int .i64 0, .bool false, .int .u64 0, .int .u64 0, .slice none 0 0] 25))
            obtain ⟨V4, hV⟩ : ∃ x, x = V3.alloc (.cells #[.int .i64 0, .int .i64 0, .bool false, .int .u64 0, .int .u64 0, .slice none 0 0] 25) := ⟨_, rfl⟩
            rw [← hV] at lx4 kx4 dt4
            rw [← hV]
            try rw [← hBx]
            have LD4 := Lib.hid lx4; clear lx4
            have GX := Lib.hid gx4
            have KX4 := Lib.hid kx4; clear kx4
            have DT4 := Lib.hid dt4; clear dt4
            clear gx4 hV hBx LD3 DT3
            refine hK.out _ _ trivial (fun hS11 => ?_)
            clear hK K
            refine wpAnyH_ready (rs := [7]) (by kernel_rfl) (by simp) ?_
            refine AllReadyH.cons rfl (fun K hK => ?_) AllReadyH.nil
            go_simp
            have hgt := get_any A6 (n1 + nn) k6 LX6 V4 DT4.out (HL.out.below (LW.out.trans (LD4.out.mono LW.out.size))).s (HL.out.below (LW.out.trans (LD4.out.mono LW.out.size))).m (by omega)
            rw [HI6.out, HG6.out] at hgt
            refine hgt.mono ?_
            rintro e V5 ⟨⟨A7, k7, rfl, hd7⟩, hb⟩
            have LD5 := Lib.hid (LD4.out.trans (hb.mono LD4.out.size))
            have DT5 := Lib.hid hd7
            have KX5 := Lib.hid (KX4.out.below hb KX4.out.lt)
            clear KX4
            clear hb hgt hd7 LD4 DT4
            refine hK.out _ _ trivial (fun hS7 => ?_)
            clear hK K
            refine wpAnyH_take (i := 8) (v := ?_) rfl (by kernel_rfl) (by kernel_rfl) (by kernel_rfl) (fun _ _ _ h => h) (Or.inl ⟨by rfl, ?yldq⟩) (by assumption) ?_
            case yldq => (intro w hSw; (try dsimp only at hSw); go_simp; try with_reducible rfl)
            try simp only [Act.put, List.setIfInBounds_toArray, List.set_cons_zero, List.set_cons_succ, List.getElem_toArray, List.getElem_cons_succ, List.getElem_cons_zero]
            refine wpAnyH_take (i := 9) (v := ?_) rfl (by kernel_rfl) (by kernel_rfl) (by kernel_rfl) (fun _ _ _ h => h) (Or.inl ⟨by rfl, ?yldq⟩) (by assumption) ?_
            case yldq => (intro w hSw; (try dsimp only at hSw); go_simp; try with_reducible rfl)
            try simp only [Act.put, List.setIfInBounds_toArray, List.set_cons_zero, List.set_cons_succ, List.getElem_toArray, List.getElem_cons_succ, List.getElem_cons_zero]
            refine wpAnyH_take (i := 10) (v := ?_) rfl (by kernel_rfl) (by kernel_rfl) (by kernel_rfl) (fun _ _ _ h => h) (Or.inl ⟨by rfl, ?yldq⟩) (by assumption) ?_
            case yldq => (intro w hSw; (try dsimp only at hSw); go_simp; try with_reducible rfl)
            try simp only [Act.put, List.setIfInBounds_toArray, List.set_cons_zero, List.set_cons_succ, List.getElem_toArray, List.getElem_cons_succ, List.getElem_cons_zero]
            refine wpAnyH_ready (rs := [12]) (by kernel_rfl) (by simp) ?_
            refine AllReadyH.cons rfl (fun K hK => ?_) AllReadyH.nil
            have m0 : V5.cell? ⟨Bx, 0, none⟩ = some _ := KX5.out.cell 0
            have m1 : V5.cell? ⟨Bx, 1, none⟩ = some _ := KX5.out.cell 1
            have m2 : V5.cell? ⟨Bx, 2, none⟩ = some _ := KX5.out.cell 2
            have m3 : V5.cell? ⟨Bx, 3, none⟩ = some _ := KX5.out.cell 3
            have m4 : V5.cell? ⟨Bx, 4, none⟩ = some _ := KX5.out.cell 4
            have m5 : V5.cell? ⟨Bx, 5, none⟩ = some _ := KX5.out.cell 5
            have mlt : Bx < V5.heap.size := KX5.out.lt
            have mf : ∀ o, V5.frozen? ⟨Bx, o, none⟩ = false := fun o => KX5.out.free o
            go_simp
            clear m0 m1 m2 m3 m4 m5 mlt mf
            obtain ⟨WE, hW⟩ : ∃ x, x = ((((((V5.setCell ⟨Bx, 0, none⟩ (.int .i64 mr.f)).setCell ⟨Bx, 1, none⟩ (.int .i64 mr.t)).setCell ⟨Bx, 2, none⟩ (.bool mr.b)).setCell ⟨Bx, 3, none⟩ (.int .u64 mr.s)).setCell ⟨Bx, 4, none⟩ (.int .u64 mr.a)).setCell ⟨Bx, 5, none⟩ (.slice A7 mr.d.length k7)) := ⟨_, rfl⟩
            rw [← hW]
            have LE := Lib.hid (show Below D.heap.size D WE from hW ▸ (Below.setCell (Below.setCell (Below.setCell (Below.setCell (Below.setCell (Below.setCell LD5.out GX.out _) GX.out _) GX.out _) GX.out _) GX.out _) GX.out _))
            have KE := Lib.hid (show Blk WE Bx [.int .i64 mr.f, .int .i64 mr.t, .bool mr.b, .int .u64 mr.s, .int .u64 mr.a, .slice A7 mr.d.length k7] 25 from hW ▸ ((((((KX5.out.set 0 (.int .i64 mr.f)).set 1 (.int .i64 mr.t)).set 2 (.bool mr.b)).set 3 (.int .u64 mr.s)).set 4 (.int .u64 mr.a)).set 5 (.slice A7 mr.d.length k7)))
            have dt9 : Dat ((((((V5.setCell ⟨Bx, 0, none⟩ (.int .i64 mr.f)).setCell ⟨Bx, 1, none⟩ (.int .i64 mr.t)).setCell ⟨Bx, 2, none⟩ (.bool mr.b)).setCell ⟨Bx, 3, none⟩ (.int .u64 mr.s)).setCell ⟨Bx, 4, none⟩ (.int .u64 mr.a)).setCell ⟨Bx, 5, none⟩ (.slice A7 mr.d.length k7)) A7 mr.d.length k7 mr.d := dat_stores DT5.out KX5.out _ _ _ _ _ _
            rw [← hW] at dt9
            have DE := Lib.hid dt9
            clear dt9
            have KFE := Lib.hid (KF.out.below LE.out KF.out.lt)
            have LWE := Lib.hid (LW.out.trans (LE.out.mono LW.out.size))
            clear hW KX5 DT5 LD5
            refine hK.out _ _ trivial (fun hS12 => ?_)
            clear hK K
            refine wpAnyH_take (i := 13) (v := ?_) rfl (by kernel_rfl) (by kernel_rfl) (by kernel_rfl) (fun _ _ _ h => h) (Or.inl ⟨by rfl, ?yldq⟩) (by assumption) ?_
            case yldq => (intro w hSw; (try dsimp only at hSw); go_simp; try with_reducible rfl)
            try simp only [Act.put, List.setIfInBounds_toArray, List.set_cons_zero, List.set_cons_succ, List.getElem_toArray, List.getElem_cons_succ, List.getElem_cons_zero]
            refine wpAnyH_done (by kernel_rfl) ?_ _
            have hsm := same_any mr.f mr.t mr.b mr.s mr.a f t bb s a A7 A mr.d.length k7 dl cap mr.d d WE DE.out (HD.out.below LWE.out)
            have he : sameF ⟨mr.f, mr.t, mr.b, mr.s, mr.a, mr.d⟩ ⟨f, t, bb, s, a, d⟩ = true := by rw [HMR.out]; exact sameF_refl _
            rw [he] at hsm
            have HSM := Lib.hid hsm; clear hsm he
            have m0 : WE.cell? ⟨Bx, 0, none⟩ = some _ := KE.out.cell 0
            have p0 : WE.cell? ⟨B1, 0, none⟩ = some _ := KFE.out.cell 0
            have m1 : WE.cell? ⟨Bx, 1, none⟩ = some _ := KE.out.cell 1
            have p1 : WE.cell? ⟨B1, 1, none⟩ = some _ := KFE.out.cell 1
            have m2 : WE.cell? ⟨Bx, 2, none⟩ = some _ := KE.out.cell 2
            have p2 : WE.cell? ⟨B1, 2, none⟩ = some _ := KFE.out.cell 2
            have m3 : WE.cell? ⟨Bx, 3, none⟩ = some _ := KE.out.cell 3
            have p3 : WE.cell? ⟨B1, 3, none⟩ = some _ := KFE.out.cell 3
            have m4 : WE.cell? ⟨Bx, 4, none⟩ = some _ := KE.out.cell 4
            have p4 : WE.cell? ⟨B1, 4, none⟩ = some _ := KFE.out.cell 4
            have m5 : WE.cell? ⟨Bx, 5, none⟩ = some _ := KE.out.cell 5
            have p5 : WE.cell? ⟨B1, 5, none⟩ = some _ := KFE.out.cell 5
            have mlt : Bx < WE.heap.size := KE.out.lt
            have plt : B1 < WE.heap.size := KFE.out.lt
            go_wp2_with fail
            refine HSM.out.mono ?_
            rintro e wz ⟨rfl, hb⟩
            have LZ := Lib.hid (LWE.out.trans (hb.mono LWE.out.size))
            clear hb m0 m1 m2 m3 m4 m5 p0 p1 p2 p3 p4 p5 mlt plt
            go_wp2
            go_ret
            exact ⟨rfl, LZ.out⟩
        · skip
          go_simp
          obtain ⟨Bx, hBx⟩ : ∃ x, x = V2.heap.size := ⟨_, rfl⟩
          have lx3 := LD2.out.alloc LD2.out.size (.cells #[.int .i64 0, .int .i64 0, .bool false, .int .u64 0, .int .u64 0, .slice none 0 0] 25)
          have gx3 : D.heap.size ≤ Bx := by rw [hBx]; exact LD2.out.size
          have kx3 : Blk (V2.alloc (.cells #[.int .i64 0, .int .i64 0, .bool false, .int .u64 0, .int .u64 0, .slice none 0 0] 25)) Bx [.int .i64 0, .int .i64 0, .bool false, .int .u64 0, .int .u64 0, .slice none 0 0] 25 := by rw [hBx]; exact Blk.new V2 [.int .i64 0, .int .i64 0, .bool false, .int .u64 0, .int .u64 0, .slice none 0 0] 25
          have ow3 := own_kept HO2.out ((Below.refl _ _).alloc (Nat.le_refl _) (.cells #[.int .i64 0, .int .i64 0, .bool false, .int .u64 0, .int .u64 0, .slice none 0 0] 25))
          have gl3 : g2 < Bx := by rw [hBx]; exact (HO2.out.lt g2 rfl).2
          obtain ⟨V3, hV⟩ : ∃ x, x = V2.alloc (.cells #[.int .i64 0, .int .i64 0, .bool false, .int .u64 0, .int .u64 0, .slice none 0 0] 25) := ⟨_, rfl⟩
          rw [← hV] at lx3 ow3 kx3
          rw [← hV]
          try rw [← hBx]
          have ne3 : Bx ≠ g2 := by omega
          have NE3 := Lib.hid ne3; clear ne3 gl3
          have LD3 := Lib.hid lx3; clear lx3
          have GX := Lib.hid gx3
          have HO3 := Lib.hid ow3; clear ow3
          have KX3 := Lib.hid kx3; clear kx3
          clear gx3 hV hBx LD2 HO2
          refine hK.out _ _ trivial (fun hS11 => ?_)
          clear hK K
          refine wpAnyH_ready (rs := [6]) (by kernel_rfl) (by simp) ?_
          refine AllReadyH.cons rfl (fun K hK => ?_) AllReadyH.nil
          rw [if_pos (by rfl)]
          have hsr := (dat_upto (TD.out.below LD3.out) nn (by omega)).src
          refine wp_append_src (.tmp 77) (.tmp 80) 23 rfl D.heap.size 5 i0 (.int .u8 0) 1 1 Tryd.underlying23 hi hz0 hz1 hz2 rfl (by decide) (.slice (some ⟨g2, 0, none⟩) n1 c2) n1 (LS.map (Value.int .u8)) rfl HO3.out _ nn ((LS.take nn).map (Value.int .u8)) rfl hsr ?c109_1 ?c109_2 ?c109_3 ?c109_4 LD3.out.size ?_
          case c109_1 => rw [List.length_map, List.length_take, HLN.out, Nat.mul_one]; omega
          case c109_2 => intro u hu; obtain ⟨x, _, rfl⟩ := List.mem_map.1 hu; rfl
          case c109_3 => unfold maxLen; omega
          case c109_4 => omega
          intro v6 V4 ho hg
          clear hsr
          have lx4 : Below D.heap.size D V4 := LD3.out.grown hg LD3.out.size (fun k hk => (HO3.out.lt k hk).1)
          have ow4 : OwnV D.heap.size LX6 v6 V4 := by
            unfold OwnV
            rw [HL6N.out, HL6.out, List.map_append]; exact ho
          have kx4 := KX3.out.chg (Chg.grown (F := fun k => k = g2) hg (fun k hk _ => by injection hk with hk; exact hk.symm)) NE3.out
          have KX4 := Lib.hid kx4
          clear kx4 KX3
          obtain ⟨A6, k6, rfl, hd6⟩ := OwnV.dat ow4 HL6B.out
          rw [HL6N.out] at hd6 ⊢
          have DT4 := Lib.hid hd6; have LD4 := Lib.hid lx4; clear hd6 ow4 lx4 ho hg HO3 LD3
          refine hK.out _ _ trivial (fun hS6 => ?_)
          clear hK K
          refine wpAnyH_ready (rs := [7]) (by kernel_rfl) (by simp) ?_
          refine AllReadyH.cons rfl (fun K hK => ?_) AllReadyH.nil
          go_simp
          have hgt := get_any A6 (n1 + nn) k6 LX6 V4 DT4.out (HL.out.below (LW.out.trans (LD4.out.mono LW.out.size))).s (HL.out.below (LW.out.trans (LD4.out.mono LW.out.size))).m (by omega)
          rw [HI6.out, HG6.out] at hgt
          refine hgt.mono ?_
          rintro e V5 ⟨⟨A7, k7, rfl, hd7⟩, hb⟩
          have LD5 := Lib.hid (LD4.out.trans (hb.mono LD4.out.size))
          have DT5 := Lib.hid hd7
          have KX5 := Lib.hid (KX4.out.below hb KX4.out.lt)
          clear KX4
          clear hb hgt hd7 LD4 DT4
          refine hK.out _ _ trivial (fun hS7 => ?_)
          clear hK K
          refine wpAnyH_take (i := 8) (v := ?_) rfl (by kernel_rfl) (by kernel_rfl) (by kernel_rfl) (fun _ _ _ h => h) (Or.inl ⟨by rfl, ?yldq⟩) (by assumption) ?_
          case yldq => (intro w hSw; (try dsimp only at hSw); go_simp; try with_reducible rfl)
          try simp only [Act.put, List.setIfInBounds_toArray, List.set_cons_zero, List.set_cons_succ, List.getElem_toArray, List.getElem_cons_succ, List.getElem_cons_zero]
          refine wpAnyH_take (i := 9) (v := ?_) rfl (by kernel_rfl) (by kernel_rfl) (by kernel_rfl) (fun _ _ _ h => h) (Or.inl ⟨by rfl, ?yldq⟩) (by assumption) ?_
          case yldq => (intro w hSw; (try dsimp only at hSw); go_simp; try with_reducible rfl)
          try simp only [Act.put, List.setIfInBounds_toArray, List.set_cons_zero, List.set_cons_succ, List.getElem_toArray, List.getElem_cons_succ, List.getElem_cons_zero]
          refine wpAnyH_take (i := 10) (v := ?_) rfl (by kernel_rfl) (by kernel_rfl) (by kernel_rfl) (fun _ _ _ h => h) (Or.inl ⟨by rfl, ?yldq⟩) (by assumption) ?_
          case yldq => (intro w hSw; (try dsimp only at hSw); go_simp; try with_reducible rfl)
          try simp only [Act.put, List.setIfInBounds_toArray, List.set_cons_zero, List.set_cons_succ, List.getElem_toArray, List.getElem_cons_succ, List.getElem_cons_zero]
          refine wpAnyH_ready (rs := [12]) (by kernel_rfl) (by simp) ?_
          refine AllReadyH.cons rfl (fun K hK => ?_) AllReadyH.nil
          have m0 : V5.cell? ⟨Bx, 0, none⟩ = some _ := KX5.out.cell 0
          have m1 : V5.cell? ⟨Bx, 1, none⟩ = some _ := KX5.out.cell 1
          have m2 : V5.cell? ⟨Bx, 2, none⟩ = some _ := KX5.out.cell 2
          have m3 : V5.cell? ⟨Bx, 3, none⟩ = some _ := KX5.out.cell 3
          have m4 : V5.cell? ⟨Bx, 4, none⟩ = some _ := KX5.out.cell 4
          have m5 : V5.cell? ⟨Bx, 5, none⟩ = some _ := KX5.out.cell 5
          have mlt : Bx < V5.heap.size := KX5.out.lt
          have mf : ∀ o, V5.frozen? ⟨Bx, o, none⟩ = false := fun o => KX5.out.free o
          go_simp
          clear m0 m1 m2 m3 m4 m5 mlt mf
          obtain ⟨WE, hW⟩ : ∃ x, x = ((((((V5.setCell ⟨Bx, 0, none⟩ (.int .i64 mr.f)).setCell ⟨Bx, 1, none⟩ (.int .i64 mr.t)).setCell ⟨Bx, 2, none⟩ (.bool mr.b)).setCell ⟨Bx, 3, none⟩ (.int .u64 mr.s)).setCell ⟨Bx, 4, none⟩ (.int .u64 mr.a)).setCell ⟨Bx, 5, none⟩ (.slice A7 mr.d.length k7)) := ⟨_, rfl⟩
          rw [← hW]
          have LE := Lib.hid (show Below D.heap.size D WE from hW ▸ (Below.setCell (Below.setCell (Below.setCell (Below.setCell (Below.setCell (Below.setCell LD5.out GX.out _) GX.out _) GX.out _) GX.out _) GX.out _) GX.out _))
          have KE := Lib.hid (show Blk WE Bx [.int .i64 mr.f, .int .i64 mr.t, .bool mr.b, .int .u64 mr.s, .int .u64 mr.a, .slice A7 mr.d.length k7] 25 from hW ▸ ((((((KX5.out.set 0 (.int .i64 mr.f)).set 1 (.int .i64 mr.t)).set 2 (.bool mr.b)).set 3 (.int .u64 mr.s)).set 4 (.int .u64 mr.a)).set 5 (.slice A7 mr.d.length k7)))
          have dt9 : Dat ((((((V5.setCell ⟨Bx, 0, none⟩ (.int .i64 mr.f)).setCell ⟨Bx, 1, none⟩ (.int .i64 mr.t)).setCell ⟨Bx, 2, none⟩ (.bool mr.b)).setCell ⟨Bx, 3, none⟩ (.int .u64 mr.s)).setCell ⟨Bx, 4, none⟩ (.int .u64 mr.a)).setCell ⟨Bx, 5, none⟩ (.slice A7 mr.d.length k7)) A7 mr.d.length k7 mr.d := dat_stores DT5.out KX5.out _ _ _ _ _ _
          rw [← hW] at dt9
          have DE := Lib.hid dt9
          clear dt9
          have KFE := Lib.hid (KF.out.below LE.out KF.out.lt)
          have LWE := Lib.hid (LW.out.trans (LE.out.mono LW.out.size))
          clear hW KX5 DT5 LD5
          refine hK.out _ _ trivial (fun hS12 => ?_)
          clear hK K
          refine wpAnyH_take (i := 13) (v := ?_) rfl (by kernel_rfl) (by kernel_rfl) (by kernel_rfl) (fun _ _ _ h => h) (Or.inl ⟨by rfl, ?yldq⟩) (by assumption) ?_
          case yldq => (intro w hSw; (try dsimp only at hSw); go_simp; try with_reducible rfl)
          try simp only [Act.put, List.setIfInBounds_toArray, List.set_cons_zero, List.set_cons_succ, List.getElem_toArray, List.getElem_cons_succ, List.getElem_cons_zero]
          refine wpAnyH_done (by kernel_rfl) ?_ _
          have hsm := same_any mr.f mr.t mr.b mr.s mr.a f t bb s a A7 A mr.d.length k7 dl cap mr.d d WE DE.out (HD.out.below LWE.out)
          have he : sameF ⟨mr.f, mr.t, mr.b, mr.s, mr.a, mr.d⟩ ⟨f, t, bb, s, a, d⟩ = true := by rw [HMR.out]; exact sameF_refl _
          rw [he] at hsm
          have HSM := Lib.hid hsm; clear hsm he
          have m0 : WE.cell? ⟨Bx, 0, none⟩ = some _ := KE.out.cell 0
          have p0 : WE.cell? ⟨B1, 0, none⟩ = some _ := KFE.out.cell 0
          have m1 : WE.cell? ⟨Bx, 1, none⟩ = some _ := KE.out.cell 1
          have p1 : WE.cell? ⟨B1, 1, none⟩ = some _ := KFE.out.cell 1
          have m2 : WE.cell? ⟨Bx, 2, none⟩ = some _ := KE.out.cell 2
          have p2 : WE.cell? ⟨B1, 2, none⟩ = some _ := KFE.out.cell 2
          have m3 : WE.cell? ⟨Bx, 3, none⟩ = some _ := KE.out.cell 3
          have p3 : WE.cell? ⟨B1, 3, none⟩ = some _ := KFE.out.cell 3
          have m4 : WE.cell? ⟨Bx, 4, none⟩ = some _ := KE.out.cell 4
          have p4 : WE.cell? ⟨B1, 4, none⟩ = some _ := KFE.out.cell 4
          have m5 : WE.cell? ⟨Bx, 5, none⟩ = some _ := KE.out.cell 5
          have p5 : WE.cell? ⟨B1, 5, none⟩ = some _ := KFE.out.cell 5
          have mlt : Bx < WE.heap.size := KE.out.lt
          have plt : B1 < WE.heap.size := KFE.out.lt
          go_wp2_with fail
          refine HSM.out.mono ?_
          rintro e wz ⟨rfl, hb⟩
          have LZ := Lib.hid (LWE.out.trans (hb.mono LWE.out.size))
          clear hb m0 m1 m2 m3 m4 m5 p0 p1 p2 p3 p4 p5 mlt plt
          go_wp2
          go_ret
          exact ⟨rfl, LZ.out⟩
      · skip
        go_simp
        obtain ⟨Bx, hBx⟩ : ∃ x, x = V1.heap.size := ⟨_, rfl⟩
        have lx2 := LD1.out.alloc LD1.out.size (.cells #[.int .i64 0, .int .i64 0, .bool false, .int .u64 0, .int .u64 0, .slice none 0 0] 25)
        have gx2 : D.heap.size ≤ Bx := by rw [hBx]; exact LD1.out.size
        have kx2 : Blk (V1.alloc (.cells #[.int .i64 0, .int .i64 0, .bool false, .int .u64 0, .int .u64 0, .slice none 0 0] 25)) Bx [.int .i64 0, .int .i64 0, .bool false, .int .u64 0, .int .u64 0, .slice none 0 0] 25 := by rw [hBx]; exact Blk.new V1 [.int .i64 0, .int .i64 0, .bool false, .int .u64 0, .int .u64 0, .slice none 0 0] 25
        have ow2 := own_kept HO1.out ((Below.refl _ _).alloc (Nat.le_refl _) (.cells #[.int .i64 0, .int .i64 0, .bool false, .int .u64 0, .int .u64 0, .slice none 0 0] 25))
        have gl2 : g0 < Bx := by rw [hBx]; exact (HO1.out.lt g0 rfl).2
        obtain ⟨V2, hV⟩ : ∃ x, x = V1.alloc (.cells #[.int .i64 0, .int .i64 0, .bool false, .int .u64 0, .int .u64 0, .slice none 0 0] 25) := ⟨_, rfl⟩
        rw [← hV] at lx2 ow2 kx2
        rw [← hV]
        try rw [← hBx]
        have ne2 : Bx ≠ g0 := by omega
        have NE2 := Lib.hid ne2; clear ne2 gl2
        have LD2 := Lib.hid lx2; clear lx2
        have GX := Lib.hid gx2
        have HO2 := Lib.hid ow2; clear ow2
        have KX2 := Lib.hid kx2; clear kx2
        clear gx2 hV hBx LD1 HO1
        refine hK.out _ _ trivial (fun hS11 => ?_)
        clear hK K
        refine wpAnyH_ready (rs := [2]) (by kernel_rfl) (by simp) ?_
        refine AllReadyH.cons rfl (fun K hK => ?_) AllReadyH.nil
        rw [if_pos (by rfl)]
        refine wp_append_lies V2 (.tmp 75) (.tmp 76) 23 rfl D.heap.size 5 i0 (.int .u8 0) 1 1 Tryd.underlying23 hi hz0 hz1 hz2 rfl (by decide) (.slice (some ⟨g0, 0, none⟩) 0 0) 0 [] rfl HO2.out ⟨b1, o1, none⟩ n1 k1 (LS.map (Value.int .u8)) rfl ?c112_1 ?c112_2 ?c112_3 ?c112_4 ?c112_5 ?c112_6 LD2.out.size V2.heap.size rfl ?_
        case c112_1 => rw [List.length_map, HLN.out, Nat.mul_one]
        case c112_2 => exact fun j u hj => (TD.out.below LD2.out).rd.cells j u hj
        case c112_3 => intro u hu; obtain ⟨x, _, rfl⟩ := List.mem_map.1 hu; rfl
        case c112_4 => omega
        case c112_5 => unfold maxLen; omega
        case c112_6 => omega
        intro g2 c2 V3 ho hg hlie hlt
        rw [Nat.zero_add]
        have lx3 : Below D.heap.size D V3 := LD2.out.grown hg LD2.out.size (fun k hk => (HO2.out.lt k hk).1)
        have ow3 : V3.ownsRow D.heap.size 5 1 (.slice (some ⟨g2, 0, none⟩) n1 c2) n1 (LS.map (Value.int .u8)) := by simpa using ho
        have kx3 := KX2.out.chg (Chg.grown (F := fun k => k = g0) hg (fun k hk _ => by injection hk with hk; exact hk.symm)) NE2.out
        have ne3 : Bx ≠ g2 := by
          have h1 := KX2.out.lt
          have h2 := NE2.out
          rcases hlie with h | h
          · have h3 : some g0 = some g2 := h
            injection h3 with h3; omega
          · omega
        have KX3 := Lib.hid kx3; have NE3 := Lib.hid ne3
        clear kx3 ne3 KX2 NE2
        have HO3 := Lib.hid ow3; have LD3 := Lib.hid lx3; clear ow3 lx3 ho hg hlie hlt HO2 LD2
        refine hK.out _ _ trivial (fun hS2 => ?_)
        clear hK K
        refine wpAnyH_ready (rs := [6]) (by kernel_rfl) (by simp) ?_
        refine AllReadyH.cons rfl (fun K hK => ?_) AllReadyH.nil
        rw [if_pos (by rfl)]
        have hsr := (dat_upto (TD.out.below LD3.out) nn (by omega)).src
        refine wp_append_src (.tmp 77) (.tmp 80) 23 rfl D.heap.size 5 i0 (.int .u8 0) 1 1 Tryd.underlying23 hi hz0 hz1 hz2 rfl (by decide) (.slice (some ⟨g2, 0, none⟩) n1 c2) n1 (LS.map (Value.int .u8)) rfl HO3.out _ nn ((LS.take nn).map (Value.int .u8)) rfl hsr ?c113_1 ?c113_2 ?c113_3 ?c113_4 LD3.out.size ?_
        case c113_1 => rw [List.length_map, List.length_take, HLN.out, Nat.mul_one]; omega
        case c113_2 => intro u hu; obtain ⟨x, _, rfl⟩ := List.mem_map.1 hu; rfl
        case c113_3 => unfold maxLen; omega
        case c113_4 => omega
        intro v6 V4 ho hg
        clear hsr
        have lx4 : Below D.heap.size D V4 := LD3.out.grown hg LD3.out.size (fun k hk => (HO3.out.lt k hk).1)
        have ow4 : OwnV D.heap.size LX6 v6 V4 := by
          unfold OwnV
          rw [HL6N.out, HL6.out, List.map_append]; exact ho
        have kx4 := KX3.out.chg (Chg.grown (F := fun k => k = g2) hg (fun k hk _ => by injection hk with hk; exact hk.symm)) NE3.out
        have KX4 := Lib.hid kx4
        clear kx4 KX3
        obtain ⟨A6, k6, rfl, hd6⟩ := OwnV.dat ow4 HL6B.out
        rw [HL6N.out] at hd6 ⊢
        have DT4 := Lib.hid hd6; have LD4 := Lib.hid lx4; clear hd6 ow4 lx4 ho hg HO3 LD3
        refine hK.out _ _ trivial (fun hS6 => ?_)
        clear hK K
        refine wpAnyH_ready (rs := [7]) (by kernel_rfl) (by simp) ?_
        refine AllReadyH.cons rfl (fun K hK => ?_) AllReadyH.nil
        go_simp
        have hgt := get_any A6 (n1 + nn) k6 LX6 V4 DT4.out (HL.out.below (LW.out.trans (LD4.out.mono LW.out.size))).s (HL.out.below (LW.out.trans (LD4.out.mono LW.out.size))).m (by omega)
        rw [HI6.out, HG6.out] at hgt
        refine hgt.mono ?_
        rintro e V5 ⟨⟨A7, k7, rfl, hd7⟩, hb⟩
        have LD5 := Lib.hid (LD4.out.trans (hb.mono LD4.out.size))
        have DT5 := Lib.hid hd7
        have KX5 := Lib.hid (KX4.out.below hb KX4.out.lt)
        clear KX4
        clear hb hgt hd7 LD4 DT4
        refine hK.out _ _ trivial (fun hS7 => ?_)
        clear hK K
        refine wpAnyH_take (i := 8) (v := ?_) rfl (by kernel_rfl) (by kernel_rfl) (by kernel_rfl) (fun _ _ _ h => h) (Or.inl ⟨by rfl, ?yldq⟩) (by assumption) ?_
        case yldq => (intro w hSw; (try dsimp only at hSw); go_simp; try with_reducible rfl)
        try simp only [Act.put, List.setIfInBounds_toArray, List.set_cons_zero, List.set_cons_succ, List.getElem_toArray, List.getElem_cons_succ, List.getElem_cons_zero]
        refine wpAnyH_take (i := 9) (v := ?_) rfl (by kernel_rfl) (by kernel_rfl) (by kernel_rfl) (fun _ _ _ h => h) (Or.inl ⟨by rfl, ?yldq⟩) (by assumption) ?_
        case yldq => (intro w hSw; (try dsimp only at hSw); go_simp; try with_reducible rfl)
        try simp only [Act.put, List.setIfInBounds_toArray, List.set_cons_zero, List.set_cons_succ, List.getElem_toArray, List.getElem_cons_succ, List.getElem_cons_zero]
        refine wpAnyH_take (i := 10) (v := ?_) rfl (by kernel_rfl) (by kernel_rfl) (by kernel_rfl) (fun _ _ _ h => h) (Or.inl ⟨by rfl, ?yldq⟩) (by assumption) ?_
        case yldq => (intro w hSw; (try dsimp only at hSw); go_simp; try with_reducible rfl)
        try simp only [Act.put, List.setIfInBounds_toArray, List.set_cons_zero, List.set_cons_succ, List.getElem_toArray, List.getElem_cons_succ, List.getElem_cons_zero]
        refine wpAnyH_ready (rs := [12]) (by kernel_rfl) (by simp) ?_
        refine AllReadyH.cons rfl (fun K hK => ?_) AllReadyH.nil
        have m0 : V5.cell? ⟨Bx, 0, none⟩ = some _ := KX5.out.cell 0
        have m1 : V5.cell? ⟨Bx, 1, none⟩ = some _ := KX5.out.cell 1
        have m2 : V5.cell? ⟨Bx, 2, none⟩ = some _ := KX5.out.cell 2
        have m3 : V5.cell? ⟨Bx, 3, none⟩ = some _ := KX5.out.cell 3
        have m4 : V5.cell? ⟨Bx, 4, none⟩ = some _ := KX5.out.cell 4
        have m5 : V5.cell? ⟨Bx, 5, none⟩ = some _ := KX5.out.cell 5
        have mlt : Bx < V5.heap.size := KX5.out.lt
        have mf : ∀ o, V5.frozen? ⟨Bx, o, none⟩ = false := fun o => KX5.out.free o
        go_simp
        clear m0 m1 m2 m3 m4 m5 mlt mf
        obtain ⟨WE, hW⟩ : ∃ x, x = ((((((V5.setCell ⟨Bx, 0, none⟩ (.int .i64 mr.f)).setCell ⟨Bx, 1, none⟩ (.int .i64 mr.t)).setCell ⟨Bx, 2, none⟩ (.bool mr.b)).setCell ⟨Bx, 3, none⟩ (.int .u64 mr.s)).setCell ⟨Bx, 4, none⟩ (.int .u64 mr.a)).setCell ⟨Bx, 5, none⟩ (.slice A7 mr.d.length k7)) := ⟨_, rfl⟩
        rw [← hW]
        have LE := Lib.hid (show Below D.heap.size D WE from hW ▸ (Below.setCell (Below.setCell (Below.setCell (Below.setCell (Below.setCell (Below.setCell LD5.out GX.out _) GX.out _) GX.out _) GX.out _) GX.out _) GX.out _))
        have KE := Lib.hid (show Blk WE Bx [.int .i64 mr.f, .int .i64 mr.t, .bool mr.b, .int .u64 mr.s, .int .u64 mr.a, .slice A7 mr.d.length k7] 25 from hW ▸ ((((((KX5.out.set 0 (.int .i64 mr.f)).set 1 (.int .i64 mr.t)).set 2 (.bool mr.b)).set 3 (.int .u64 mr.s)).set 4 (.int .u64 mr.a)).set 5 (.slice A7 mr.d.length k7)))
        have dt9 : Dat ((((((V5.setCell ⟨Bx, 0, none⟩ (.int .i64 mr.f)).setCell ⟨Bx, 1, none⟩ (.int .i64 mr.t)).setCell ⟨Bx, 2, none⟩ (.bool mr.b)).setCell ⟨Bx, 3, none⟩ (.int .u64 mr.s)).setCell ⟨Bx, 4, none⟩ (.int .u64 mr.a)).setCell ⟨Bx, 5, none⟩ (.slice A7 mr.d.length k7)) A7 mr.d.length k7 mr.d := dat_stores DT5.out KX5.out _ _ _ _ _ _
        rw [← hW] at dt9
        have DE := Lib.hid dt9
        clear dt9
        have KFE := Lib.hid (KF.out.below LE.out KF.out.lt)
        have LWE := Lib.hid (LW.out.trans (LE.out.mono LW.out.size))
        clear hW KX5 DT5 LD5
        refine hK.out _ _ trivial (fun hS12 => ?_)
        clear hK K
        refine wpAnyH_take (i := 13) (v := ?_) rfl (by kernel_rfl) (by kernel_rfl) (by kernel_rfl) (fun _ _ _ h => h) (Or.inl ⟨by rfl, ?yldq⟩) (by assumption) ?_
        case yldq => (intro w hSw; (try dsimp only at hSw); go_simp; try with_reducible rfl)
        try simp only [Act.put, List.setIfInBounds_toArray, List.set_cons_zero, List.set_cons_succ, List.getElem_toArray, List.getElem_cons_succ, List.getElem_cons_zero]
        refine wpAnyH_done (by kernel_rfl) ?_ _
        have hsm := same_any mr.f mr.t mr.b mr.s mr.a f t bb s a A7 A mr.d.length k7 dl cap mr.d d WE DE.out (HD.out.below LWE.out)
        have he : sameF ⟨mr.f, mr.t, mr.b, mr.s, mr.a, mr.d⟩ ⟨f, t, bb, s, a, d⟩ = true := by rw [HMR.out]; exact sameF_refl _
        rw [he] at hsm
        have HSM := Lib.hid hsm; clear hsm he
        have m0 : WE.cell? ⟨Bx, 0, none⟩ = some _ := KE.out.cell 0
        have p0 : WE.cell? ⟨B1, 0, none⟩ = some _ := KFE.out.cell 0
        have m1 : WE.cell? ⟨Bx, 1, none⟩ = some _ := KE.out.cell 1
        have p1 : WE.cell? ⟨B1, 1, none⟩ = some _ := KFE.out.cell 1
        have m2 : WE.cell? ⟨Bx, 2, none⟩ = some _ := KE.out.cell 2
        have p2 : WE.cell? ⟨B1, 2, none⟩ = some _ := KFE.out.cell 2
        have m3 : WE.cell? ⟨Bx, 3, none⟩ = some _ := KE.out.cell 3
        have p3 : WE.cell? ⟨B1, 3, none⟩ = some _ := KFE.out.cell 3
        have m4 : WE.cell? ⟨Bx, 4, none⟩ = some _ := KE.out.cell 4
        have p4 : WE.cell? ⟨B1, 4, none⟩ = some _ := KFE.out.cell 4
        have m5 : WE.cell? ⟨Bx, 5, none⟩ = some _ := KE.out.cell 5
        have p5 : WE.cell? ⟨B1, 5, none⟩ = some _ := KFE.out.cell 5
        have mlt : Bx < WE.heap.size := KE.out.lt
        have plt : B1 < WE.heap.size := KFE.out.lt
        go_wp2_with fail
        refine HSM.out.mono ?_
        rintro e wz ⟨rfl, hb⟩
        have LZ := Lib.hid (LWE.out.trans (hb.mono LWE.out.size))
        clear hb m0 m1 m2 m3 m4 m5 p0 p1 p2 p3 p4 p5 mlt plt
        go_wp2
        go_ret
        exact ⟨rfl, LZ.out⟩
    · skip
      go_simp
      obtain ⟨Bx, hBx⟩ : ∃ x, x = D.heap.size := ⟨_, rfl⟩
      have lx1 := LD0.out.alloc LD0.out.size (.cells #[.int .i64 0, .int .i64 0, .bool false, .int .u64 0, .int .u64 0, .slice none 0 0] 25)
      have gx1 : D.heap.size ≤ Bx := by rw [hBx]; exact LD0.out.size
      have kx1 : Blk (D.alloc (.cells #[.int .i64 0, .int .i64 0, .bool false, .int .u64 0, .int .u64 0, .slice none 0 0] 25)) Bx [.int .i64 0, .int .i64 0, .bool false, .int .u64 0, .int .u64 0, .slice none 0 0] 25 := by rw [hBx]; exact Blk.new D [.int .i64 0, .int .i64 0, .bool false, .int .u64 0, .int .u64 0, .slice none 0 0] 25
      obtain ⟨V1, hV⟩ : ∃ x, x = D.alloc (.cells #[.int .i64 0, .int .i64 0, .bool false, .int .u64 0, .int .u64 0, .slice none 0 0] 25) := ⟨_, rfl⟩
      rw [← hV] at lx1 kx1
      rw [← hV]
      try rw [← hBx]
      have LD1 := Lib.hid lx1; clear lx1
      have GX := Lib.hid gx1
      have KX1 := Lib.hid kx1; clear kx1
      clear gx1 hV hBx
      refine hK.out _ _ trivial (fun hS11 => ?_)
      clear hK K
      refine wpAnyH_ready (rs := [0]) (by kernel_rfl) (by simp) ?_
      refine AllReadyH.cons rfl (fun K hK => ?_) AllReadyH.nil
      go_simp
      obtain ⟨g0, hg0⟩ : ∃ x, x = V1.heap.size := ⟨_, rfl⟩
      have lx2 := LD1.out.alloc LD1.out.size (.cells #[] 5)
      have gx2 : D.heap.size ≤ g0 := by rw [hg0]; exact LD1.out.size
      have ow2 : (V1.alloc (.cells #[] 5)).ownsRow D.heap.size 5 1 (.slice (some ⟨g0, 0, none⟩) 0 0) 0 [] := by rw [hg0]; exact own_base15 (own_lit0 V1 5 1) LD1.out.size
      have lx2a : Bx < g0 := by rw [hg0]; exact KX1.out.lt
      have kx2 := KX1.out.alloc (.cells #[] 5)
      obtain ⟨V2, hV⟩ : ∃ x, x = V1.alloc (.cells #[] 5) := ⟨_, rfl⟩
      rw [← hV] at lx2 ow2 kx2
      rw [← hV]
      try rw [← hg0]
      have ne2 : Bx ≠ g0 := by omega
      have NE2 := Lib.hid ne2; clear ne2 lx2a
      have LD2 := Lib.hid lx2; clear lx2
      have G0 := Lib.hid gx2
      have HO2 := Lib.hid ow2; clear ow2
      have KX2 := Lib.hid kx2; clear kx2
      clear gx2 hV hg0 LD1 KX1
      refine hK.out _ _ trivial (fun hS0 => ?_)
      clear hK K
      refine wpAnyH_ready (rs := [2]) (by kernel_rfl) (by simp) ?_
      refine AllReadyH.cons rfl (fun K hK => ?_) AllReadyH.nil
      rw [if_pos (by rfl)]
      refine wp_append_lies V2 (.tmp 75) (.tmp 76) 23 rfl D.heap.size 5 i0 (.int .u8 0) 1 1 Tryd.underlying23 hi hz0 hz1 hz2 rfl (by decide) (.slice (some ⟨g0, 0, none⟩) 0 0) 0 [] rfl HO2.out ⟨b1, o1, none⟩ n1 k1 (LS.map (Value.int .u8)) rfl ?c117_1 ?c117_2 ?c117_3 ?c117_4 ?c117_5 ?c117_6 LD2.out.size V2.heap.size rfl ?_
      case c117_1 => rw [List.length_map, HLN.out, Nat.mul_one]
      case c117_2 => exact fun j u hj => (TD.out.below LD2.out).rd.cells j u hj
      case c117_3 => intro u hu; obtain ⟨x, _, rfl⟩ := List.mem_map.1 hu; rfl
      case c117_4 => omega
      case c117_5 => unfold maxLen; omega
      case c117_6 => omega
      intro g2 c2 V3 ho hg hlie hlt
      rw [Nat.zero_add]
      have lx3 : Below D.heap.size D V3 := LD2.out.grown hg LD2.out.size (fun k hk => (HO2.out.lt k hk).1)
      have ow3 : V3.ownsRow D.heap.size 5 1 (.slice (some ⟨g2, 0, none⟩) n1 c2) n1 (LS.map (Value.int .u8)) := by simpa using ho
      have kx3 := KX2.out.chg (Chg.grown (F := fun k => k = g0) hg (fun k hk _ => by injection hk with hk; exact hk.symm)) NE2.out
      have ne3 : Bx ≠ g2 := by
        have h1 := KX2.out.lt
        have h2 := NE2.out
        rcases hlie with h | h
        · have h3 : some g0 = some g2 := h
          injection h3 with h3; omega
        · omega
      have KX3 := Lib.hid kx3; have NE3 := Lib.hid ne3
      clear kx3 ne3 KX2 NE2
      have HO3 := Lib.hid ow3; have LD3 := Lib.hid lx3; clear ow3 lx3 ho hg hlie hlt HO2 LD2
      refine hK.out _ _ trivial (fun hS2 => ?_)
      clear hK K
      refine wpAnyH_ready (rs := [6]) (by kernel_rfl) (by simp) ?_
      refine AllReadyH.cons rfl (fun K hK => ?_) AllReadyH.nil
      rw [if_pos (by rfl)]
      have hsr := (dat_upto (TD.out.below LD3.out) nn (by omega)).src
      refine wp_append_src (.tmp 77) (.tmp 80) 23 rfl D.heap.size 5 i0 (.int .u8 0) 1 1 Tryd.underlying23 hi hz0 hz1 hz2 rfl (by decide) (.slice (some ⟨g2, 0, none⟩) n1 c2) n1 (LS.map (Value.int .u8)) rfl HO3.out _ nn ((LS.take nn).map (Value.int .u8)) rfl hsr ?c118_1 ?c118_2 ?c118_3 ?c118_4 LD3.out.size ?_
      case c118_1 => rw [List.length_map, List.length_take, HLN.out, Nat.mul_one]; omega
      case c118_2 => intro u hu; obtain ⟨x, _, rfl⟩ := List.mem_map.1 hu; rfl
      case c118_3 => unfold maxLen; omega
      case c118_4 => omega
      intro v6 V4 ho hg
      clear hsr
      have lx4 : Below D.heap.size D V4 := LD3.out.grown hg LD3.out.size (fun k hk => (HO3.out.lt k hk).1)
      have ow4 : OwnV D.heap.size LX6 v6 V4 := by
        unfold OwnV
        rw [HL6N.out, HL6.out, List.map_append]; exact ho
      have kx4 := KX3.out.chg (Chg.grown (F := fun k => k = g2) hg (fun k hk _ => by injection hk with hk; exact hk.symm)) NE3.out
      have KX4 := Lib.hid kx4
      clear kx4 KX3
      obtain ⟨A6, k6, rfl, hd6⟩ := OwnV.dat ow4 HL6B.out
      rw [HL6N.out] at hd6 ⊢
      have DT4 := Lib.hid hd6; have LD4 := Lib.hid lx4; clear hd6 ow4 lx4 ho hg HO3 LD3
      refine hK.out _ _ trivial (fun hS6 => ?_)
      clear hK K
      refine wpAnyH_ready (rs := [7]) (by kernel_rfl) (by simp) ?_
      refine AllReadyH.cons rfl (fun K hK => ?_) AllReadyH.nil
      go_simp
      have hgt := get_any A6 (n1 + nn) k6 LX6 V4 DT4.out (HL.out.below (LW.out.trans (LD4.out.mono LW.out.size))).s (HL.out.below (LW.out.trans (LD4.out.mono LW.out.size))).m (by omega)
      rw [HI6.out, HG6.out] at hgt
      refine hgt.mono ?_
      rintro e V5 ⟨⟨A7, k7, rfl, hd7⟩, hb⟩
      have LD5 := Lib.hid (LD4.out.trans (hb.mono LD4.out.size))
      have DT5 := Lib.hid hd7
      have KX5 := Lib.hid (KX4.out.below hb KX4.out.lt)
      clear KX4
      clear hb hgt hd7 LD4 DT4
      refine hK.out _ _ trivial (fun hS7 => ?_)
      clear hK K
      refine wpAnyH_take (i := 8) (v := ?_) rfl (by kernel_rfl) (by kernel_rfl) (by kernel_rfl) (fun _ _ _ h => h) (Or.inl ⟨by rfl, ?yldq⟩) (by assumption) ?_
      case yldq => (intro w hSw; (try dsimp only at hSw); go_simp; try with_reducible rfl)
      try simp only [Act.put, List.setIfInBounds_toArray, List.set_cons_zero, List.set_cons_succ, List.getElem_toArray, List.getElem_cons_succ, List.getElem_cons_zero]
      refine wpAnyH_take (i := 9) (v := ?_) rfl (by kernel_rfl) (by kernel_rfl) (by kernel_rfl) (fun _ _ _ h => h) (Or.inl ⟨by rfl, ?yldq⟩) (by assumption) ?_
      case yldq => (intro w hSw; (try dsimp only at hSw); go_simp; try with_reducible rfl)
      try simp only [Act.put, List.setIfInBounds_toArray, List.set_cons_zero, List.set_cons_succ, List.getElem_toArray, List.getElem_cons_succ, List.getElem_cons_zero]
      refine wpAnyH_take (i := 10) (v := ?_) rfl (by kernel_rfl) (by kernel_rfl) (by kernel_rfl) (fun _ _ _ h => h) (Or.inl ⟨by rfl, ?yldq⟩) (by assumption) ?_
      case yldq => (intro w hSw; (try dsimp only at hSw); go_simp; try with_reducible rfl)
      try simp only [Act.put, List.setIfInBounds_toArray, List.set_cons_zero, List.set_cons_succ, List.getElem_toArray, List.getElem_cons_succ, List.getElem_cons_zero]
      refine wpAnyH_ready (rs := [12]) (by kernel_rfl) (by simp) ?_
      refine AllReadyH.cons rfl (fun K hK => ?_) AllReadyH.nil
      have m0 : V5.cell? ⟨Bx, 0, none⟩ = some _ := KX5.out.cell 0
      have m1 : V5.cell? ⟨Bx, 1, none⟩ = some _ := KX5.out.cell 1
      have m2 : V5.cell? ⟨Bx, 2, none⟩ = some _ := KX5.out.cell 2
      have m3 : V5.cell? ⟨Bx, 3, none⟩ = some _ := KX5.out.cell 3
      have m4 : V5.cell? ⟨Bx, 4, none⟩ = some _ := KX5.out.cell 4
      have m5 : V5.cell? ⟨Bx, 5, none⟩ = some _ := KX5.out.cell 5
      have mlt : Bx < V5.heap.size := KX5.out.lt
      have mf : ∀ o, V5.frozen? ⟨Bx, o, none⟩ = false := fun o => KX5.out.free o
      go_simp
      clear m0 m1 m2 m3 m4 m5 mlt mf
      obtain ⟨WE, hW⟩ : ∃ x, x = ((((((V5.setCell ⟨Bx, 0, none⟩ (.int .i64 mr.f)).setCell ⟨Bx, 1, none⟩ (.int .i64 mr.t)).setCell ⟨Bx, 2, none⟩ (.bool mr.b)).setCell ⟨Bx, 3, none⟩ (.int .u64 mr.s)).setCell ⟨Bx, 4, none⟩ (.int .u64 mr.a)).setCell ⟨Bx, 5, none⟩ (.slice A7 mr.d.length k7)) := ⟨_, rfl⟩
      rw [← hW]
      have LE := Lib.hid (show Below D.heap.size D WE from hW ▸ (Below.setCell (Below.setCell (Below.setCell (Below.setCell (Below.setCell (Below.setCell LD5.out GX.out _) GX.out _) GX.out _) GX.out _) GX.out _) GX.out _))
      have KE := Lib.hid (show Blk WE Bx [.int .i64 mr.f, .int .i64 mr.t, .bool mr.b, .int .u64 mr.s, .int .u64 mr.a, .slice A7 mr.d.length k7] 25 from hW ▸ ((((((KX5.out.set 0 (.int .i64 mr.f)).set 1 (.int .i64 mr.t)).set 2 (.bool mr.b)).set 3 (.int .u64 mr.s)).set 4 (.int .u64 mr.a)).set 5 (.slice A7 mr.d.length k7)))
      have dt9 : Dat ((((((V5.setCell ⟨Bx, 0, none⟩ (.int .i64 mr.f)).setCell ⟨Bx, 1, none⟩ (.int .i64 mr.t)).setCell ⟨Bx, 2, none⟩ (.bool mr.b)).setCell ⟨Bx, 3, none⟩ (.int .u64 mr.s)).setCell ⟨Bx, 4, none⟩ (.int .u64 mr.a)).setCell ⟨Bx, 5, none⟩ (.slice A7 mr.d.length k7)) A7 mr.d.length k7 mr.d := dat_stores DT5.out KX5.out _ _ _ _ _ _
      rw [← hW] at dt9
      have DE := Lib.hid dt9
      clear dt9
      have KFE := Lib.hid (KF.out.below LE.out KF.out.lt)
      have LWE := Lib.hid (LW.out.trans (LE.out.mono LW.out.size))
      clear hW KX5 DT5 LD5
      refine hK.out _ _ trivial (fun hS12 => ?_)
      clear hK K
      refine wpAnyH_take (i := 13) (v := ?_) rfl (by kernel_rfl) (by kernel_rfl) (by kernel_rfl) (fun _ _ _ h => h) (Or.inl ⟨by rfl, ?yldq⟩) (by assumption) ?_
      case yldq => (intro w hSw; (try dsimp only at hSw); go_simp; try with_reducible rfl)
      try simp only [Act.put, List.setIfInBounds_toArray, List.set_cons_zero, List.set_cons_succ, List.getElem_toArray, List.getElem_cons_succ, List.getElem_cons_zero]
      refine wpAnyH_done (by kernel_rfl) ?_ _
      have hsm := same_any mr.f mr.t mr.b mr.s mr.a f t bb s a A7 A mr.d.length k7 dl cap mr.d d WE DE.out (HD.out.below LWE.out)
      have he : sameF ⟨mr.f, mr.t, mr.b, mr.s, mr.a, mr.d⟩ ⟨f, t, bb, s, a, d⟩ = true := by rw [HMR.out]; exact sameF_refl _
      rw [he] at hsm
      have HSM := Lib.hid hsm; clear hsm he
      have m0 : WE.cell? ⟨Bx, 0, none⟩ = some _ := KE.out.cell 0
      have p0 : WE.cell? ⟨B1, 0, none⟩ = some _ := KFE.out.cell 0
      have m1 : WE.cell? ⟨Bx, 1, none⟩ = some _ := KE.out.cell 1
      have p1 : WE.cell? ⟨B1, 1, none⟩ = some _ := KFE.out.cell 1
      have m2 : WE.cell? ⟨Bx, 2, none⟩ = some _ := KE.out.cell 2
      have p2 : WE.cell? ⟨B1, 2, none⟩ = some _ := KFE.out.cell 2
      have m3 : WE.cell? ⟨Bx, 3, none⟩ = some _ := KE.out.cell 3
      have p3 : WE.cell? ⟨B1, 3, none⟩ = some _ := KFE.out.cell 3
      have m4 : WE.cell? ⟨Bx, 4, none⟩ = some _ := KE.out.cell 4
      have p4 : WE.cell? ⟨B1, 4, none⟩ = some _ := KFE.out.cell 4
      have m5 : WE.cell? ⟨Bx, 5, none⟩ = some _ := KE.out.cell 5
      have p5 : WE.cell? ⟨B1, 5, none⟩ = some _ := KFE.out.cell 5
      have mlt : Bx < WE.heap.size := KE.out.lt
      have plt : B1 < WE.heap.size := KFE.out.lt
      go_wp2_with fail
      refine HSM.out.mono ?_
      rintro e wz ⟨rfl, hb⟩
      have LZ := Lib.hid (LWE.out.trans (hb.mono LWE.out.size))
      clear hb m0 m1 m2 m3 m4 m5 p0 p1 p2 p3 p4 p5 mlt plt
      go_wp2
      go_ret
      exact ⟨rfl, LZ.out⟩
  · have hi6 : isF LX6 = false := by rw [HL6.out]; exact HMO.out _ (by rw [List.length_take, HLN.out]; omega)
    clear hz
    have HI6 := Lib.hid hi6; have HG6 := Lib.hid hmr.symm; clear hi6 hmr
    refine wp_region_held_drew (S := fun _ => True) (by kernel_rfl) trivial (fun hHeld => ?_)
    clear hHeld
    obtain ⟨D, hD⟩ : ∃ x, x = W8.drew := ⟨_, rfl⟩
    rw [← hD]
    have hb0 : Below W8.heap.size W8 D := hD ▸ (Below.refl _ _).drew
    have KF := Lib.hid (K8_0.out.below hb0 K8_0.out.lt)
    have TD := Lib.hid (T8_0.out.below hb0)
    have LW := Lib.hid (L8.out.trans (hb0.mono L8.out.size))
    have LD0 := Lib.hid (Below.refl D.heap.size D)
    have hS : True := trivial
    clear hb0 hD
    simp only [List.size_toArray, List.length_cons, List.length_nil, Nat.reduceAdd]
    rw [show Array.replicate 14 false = [false, false, false, false, false, false, false, false, false, false, false, false, false, false].toArray from rfl]
    refine wpAnyH_take (i := 1) (v := ?_) rfl (by kernel_rfl) (by kernel_rfl) (by kernel_rfl) (fun _ _ _ h => h) (Or.inl ⟨by rfl, ?yldq⟩) (by assumption) ?_
    case yldq => (intro w hSw; (try dsimp only at hSw); go_simp; try with_reducible rfl)
    try simp only [Act.put, List.setIfInBounds_toArray, List.set_cons_zero, List.set_cons_succ, List.getElem_toArray, List.getElem_cons_succ, List.getElem_cons_zero]
    refine wpAnyH_take (i := 3) (v := ?_) rfl (by kernel_rfl) (by kernel_rfl) (by kernel_rfl) (fun _ _ _ h => h) (Or.inl ⟨by rfl, ?yldq⟩) (by assumption) ?_
    case yldq => (intro w hSw; (try dsimp only at hSw); go_simp; try with_reducible rfl)
    try simp only [Act.put, List.setIfInBounds_toArray, List.set_cons_zero, List.set_cons_succ, List.getElem_toArray, List.getElem_cons_succ, List.getElem_cons_zero]
    refine wpAnyH_take (i := 4) (v := ?_) rfl (by kernel_rfl) (by kernel_rfl) (by kernel_rfl) (fun _ _ _ h => h) (Or.inl ⟨by rfl, ?yldq⟩) (by assumption) ?_
    case yldq => (intro w hSw; (try dsimp only at hSw); go_simp; try with_reducible rfl)
    try simp only [Act.put, List.setIfInBounds_toArray, List.set_cons_zero, List.set_cons_succ, List.getElem_toArray, List.getElem_cons_succ, List.getElem_cons_zero]
    refine wpAnyH_take (i := 5) (v := ?_) rfl (by kernel_rfl) (by kernel_rfl) (by kernel_rfl) (fun _ _ _ h => h) (Or.inl ⟨by rfl, ?yldq⟩) (by assumption) ?_
    case yldq => (intro w hSw; (try dsimp only at hSw); go_simp; try with_reducible rfl)
    try simp only [Act.put, List.setIfInBounds_toArray, List.set_cons_zero, List.set_cons_succ, List.getElem_toArray, List.getElem_cons_succ, List.getElem_cons_zero]
    refine wpAnyH_ready (rs := [0, 11]) (by kernel_rfl) (by simp) ?_
    refine AllReadyH.cons rfl (fun K hK => ?_) (AllReadyH.cons rfl (fun K hK => ?_) AllReadyH.nil)
    · skip
      go_simp
      obtain ⟨g0, hg0⟩ : ∃ x, x = D.heap.size := ⟨_, rfl⟩
      have lx1 := LD0.out.alloc LD0.out.size (.cells #[] 5)
      have gx1 : D.heap.size ≤ g0 := by rw [hg0]; exact LD0.out.size
      have ow1 : (D.alloc (.cells #[] 5)).ownsRow D.heap.size 5 1 (.slice (some ⟨g0, 0, none⟩) 0 0) 0 [] := by rw [hg0]; exact own_base15 (own_lit0 D 5 1) LD0.out.size
      obtain ⟨V1, hV⟩ : ∃ x, x = D.alloc (.cells #[] 5) := ⟨_, rfl⟩
      rw [← hV] at lx1 ow1
      rw [← hV]
      try rw [← hg0]
      have LD1 := Lib.hid lx1; clear lx1
      have G0 := Lib.hid gx1
      have HO1 := Lib.hid ow1; clear ow1
      clear gx1 hV hg0
      refine hK.out _ _ trivial (fun hS0 => ?_)
      clear hK K
      refine wpAnyH_ready (rs := [2, 11]) (by kernel_rfl) (by simp) ?_
      refine AllReadyH.cons rfl (fun K hK => ?_) (AllReadyH.cons rfl (fun K hK => ?_) AllReadyH.nil)
      · skip
        rw [if_pos (by rfl)]
        refine wp_append_lies V1 (.tmp 75) (.tmp 76) 23 rfl D.heap.size 5 i0 (.int .u8 0) 1 1 Tryd.underlying23 hi hz0 hz1 hz2 rfl (by decide) (.slice (some ⟨g0, 0, none⟩) 0 0) 0 [] rfl HO1.out ⟨b1, o1, none⟩ n1 k1 (LS.map (Value.int .u8)) rfl ?c121_1 ?c121_2 ?c121_3 ?c121_4 ?c121_5 ?c121_6 LD1.out.size V1.heap.size rfl ?_
        case c121_1 => rw [List.length_map, HLN.out, Nat.mul_one]
        case c121_2 => exact fun j u hj => (TD.out.below LD1.out).rd.cells j u hj
        case c121_3 => intro u hu; obtain ⟨x, _, rfl⟩ := List.mem_map.1 hu; rfl
        case c121_4 => omega
        case c121_5 => unfold maxLen; omega
        case c121_6 => omega
        intro g2 c2 V2 ho hg hlie hlt
        rw [Nat.zero_add]
        have lx2 : Below D.heap.size D V2 := LD1.out.grown hg LD1.out.size (fun k hk => (HO1.out.lt k hk).1)
        have ow2 : V2.ownsRow D.heap.size 5 1 (.slice (some ⟨g2, 0, none⟩) n1 c2) n1 (LS.map (Value.int .u8)) := by simpa using ho
        have HO2 := Lib.hid ow2; have LD2 := Lib.hid lx2; clear ow2 lx2 ho hg hlie hlt HO1 LD1
        refine hK.out _ _ trivial (fun hS2 => ?_)
        clear hK K
        refine wpAnyH_ready (rs := [6, 11]) (by kernel_rfl) (by simp) ?_
        refine AllReadyH.cons rfl (fun K hK => ?_) (AllReadyH.cons rfl (fun K hK => ?_) AllReadyH.nil)
        · skip
          rw [if_pos (by rfl)]
          have hsr := (dat_upto (TD.out.below LD2.out) nn (by omega)).src
          refine wp_append_src (.tmp 77) (.tmp 80) 23 rfl D.heap.size 5 i0 (.int .u8 0) 1 1 Tryd.underlying23 hi hz0 hz1 hz2 rfl (by decide) (.slice (some ⟨g2, 0, none⟩) n1 c2) n1 (LS.map (Value.int .u8)) rfl HO2.out _ nn ((LS.take nn).map (Value.int .u8)) rfl hsr ?c122_1 ?c122_2 ?c122_3 ?c122_4 LD2.out.size ?_
          case c122_1 => rw [List.length_map, List.length_take, HLN.out, Nat.mul_one]; omega
          case c122_2 => intro u hu; obtain ⟨x, _, rfl⟩ := List.mem_map.1 hu; rfl
          case c122_3 => unfold maxLen; omega
          case c122_4 => omega
          intro v6 V3 ho hg
          clear hsr
          have lx3 : Below D.heap.size D V3 := LD2.out.grown hg LD2.out.size (fun k hk => (HO2.out.lt k hk).1)
          have ow3 : OwnV D.heap.size LX6 v6 V3 := by
            unfold OwnV
            rw [HL6N.out, HL6.out, List.map_append]; exact ho
          obtain ⟨A6, k6, rfl, hd6⟩ := OwnV.dat ow3 HL6B.out
          rw [HL6N.out] at hd6 ⊢
          have DT3 := Lib.hid hd6; have LD3 := Lib.hid lx3; clear hd6 ow3 lx3 ho hg HO2 LD2
          refine hK.out _ _ trivial (fun hS6 => ?_)
          clear hK K
          refine wpAnyH_ready (rs := [7, 11]) (by kernel_rfl) (by simp) ?_
          refine AllReadyH.cons rfl (fun K hK => ?_) (AllReadyH.cons rfl (fun K hK => ?_) AllReadyH.nil)
          · skip
            go_simp
            have hgt := get_any A6 (n1 + nn) k6 LX6 V3 DT3.out (HL.out.below (LW.out.trans (LD3.out.mono LW.out.size))).s (HL.out.below (LW.out.trans (LD3.out.mono LW.out.size))).m (by omega)
            rw [HI6.out, HG6.out] at hgt
            refine hgt.mono ?_
            rintro e V4 ⟨⟨A7, k7, rfl, hd7⟩, hb⟩
            have LD4 := Lib.hid (LD3.out.trans (hb.mono LD3.out.size))
            have DT4 := Lib.hid hd7
            clear hb hgt hd7 LD3 DT3
            refine hK.out _ _ trivial (fun hS7 => ?_)
            clear hK K
            refine wpAnyH_take (i := 8) (v := ?_) rfl (by kernel_rfl) (by kernel_rfl) (by kernel_rfl) (fun _ _ _ h => h) (Or.inl ⟨by rfl, ?yldq⟩) (by assumption) ?_
            case yldq => (intro w hSw; (try dsimp only at hSw); go_simp; try with_reducible rfl)
            try simp only [Act.put, List.setIfInBounds_toArray, List.set_cons_zero, List.set_cons_succ, List.getElem_toArray, List.getElem_cons_succ, List.getElem_cons_zero]
            refine wpAnyH_take (i := 9) (v := ?_) rfl (by kernel_rfl) (by kernel_rfl) (by kernel_rfl) (fun _ _ _ h => h) (Or.inl ⟨by rfl, ?yldq⟩) (by assumption) ?_
            case yldq => (intro w hSw; (try dsimp only at hSw); go_simp; try with_reducible rfl)
            try simp only [Act.put, List.setIfInBounds_toArray, List.set_cons_zero, List.set_cons_succ, List.getElem_toArray, List.getElem_cons_succ, List.getElem_cons_zero]
            refine wpAnyH_take (i := 10) (v := ?_) rfl (by kernel_rfl) (by kernel_rfl) (by kernel_rfl) (fun _ _ _ h => h) (Or.inl ⟨by rfl, ?yldq⟩) (by assumption) ?_
            case yldq => (intro w hSw; (try dsimp only at hSw); go_simp; try with_reducible rfl)
            try simp only [Act.put, List.setIfInBounds_toArray, List.set_cons_zero, List.set_cons_succ, List.getElem_toArray, List.getElem_cons_succ, List.getElem_cons_zero]
            refine wpAnyH_ready (rs := [11]) (by kernel_rfl) (by simp) ?_
            refine AllReadyH.cons rfl (fun K hK => ?_) AllReadyH.nil
            go_simp
            obtain ⟨Bx, hBx⟩ : ∃ x, x = V4.heap.size := ⟨_, rfl⟩
            have lx5 := LD4.out.alloc LD4.out.size (.cells #[.int .i64 0, .int .i64 0, .bool false, .int .u64 0, .int .u64 0, .slice none 0 0] 25)
            have gx5 : D.heap.size ≤ Bx := by rw [hBx]; exact LD4.out.size
            have kx5 : Blk (V4.alloc (.cells #[.int .i64 0, .int .i64 0, .bool false, .int .u64 0, .int .u64 0, .slice none 0 0] 25)) Bx [.int .i64 0, .int .i64 0, .bool false, .int .u64 0, .int .u64 0, .slice none 0 0] 25 := by rw [hBx]; exact Blk.new V4 [.int .i64 0, .int .i64 0, .bool false, .int .u64 0, .int .u64 0, .slice none 0 0] 25
            have dt5 := DT4.out.below ((Below.refl _ _).alloc (Nat.le_refl _) (.cells #[.int .i64 0, .int .i64 0, .bool false, .int .u64 0, .int .u64 0, .slice none 0 0] 25))
            obtain ⟨V5, hV⟩ : ∃ x, x = V4.alloc (.cells #[.int .i64 0, .int .i64 0, .bool false, .int .u64 0, .int .u64 0, .slice none 0 0] 25) := ⟨_, rfl⟩
            rw [← hV] at lx5 kx5 dt5
            rw [← hV]
            try rw [← hBx]
            have LD5 := Lib.hid lx5; clear lx5
            have GX := Lib.hid gx5
            have KX5 := Lib.hid kx5; clear kx5
            have DT5 := Lib.hid dt5; clear dt5
            clear gx5 hV hBx LD4 DT4
            refine hK.out _ _ trivial (fun hS11 => ?_)
            clear hK K
            refine wpAnyH_ready (rs := [12]) (by kernel_rfl) (by simp) ?_
            refine AllReadyH.cons rfl (fun K hK => ?_) AllReadyH.nil
            have m0 : V5.cell? ⟨Bx, 0, none⟩ = some _ := KX5.out.cell 0
            have m1 : V5.cell? ⟨Bx, 1, none⟩ = some _ := KX5.out.cell 1
            have m2 : V5.cell? ⟨Bx, 2, none⟩ = some _ := KX5.out.cell 2
            have m3 : V5.cell? ⟨Bx, 3, none⟩ = some _ := KX5.out.cell 3
            have m4 : V5.cell? ⟨Bx, 4, none⟩ = some _ := KX5.out.cell 4
            have m5 : V5.cell? ⟨Bx, 5, none⟩ = some _ := KX5.out.cell 5
            have mlt : Bx < V5.heap.size := KX5.out.lt
            have mf : ∀ o, V5.frozen? ⟨Bx, o, none⟩ = false := fun o => KX5.out.free o
            go_simp
            clear m0 m1 m2 m3 m4 m5 mlt mf
            obtain ⟨WE, hW⟩ : ∃ x, x = ((((((V5.setCell ⟨Bx, 0, none⟩ (.int .i64 mr.f)).setCell ⟨Bx, 1, none⟩ (.int .i64 mr.t)).setCell ⟨Bx, 2, none⟩ (.bool mr.b)).setCell ⟨Bx, 3, none⟩ (.int .u64 mr.s)).setCell ⟨Bx, 4, none⟩ (.int .u64 mr.a)).setCell ⟨Bx, 5, none⟩ (.slice A7 mr.d.length k7)) := ⟨_, rfl⟩
            rw [← hW]
            have LE := Lib.hid (show Below D.heap.size D WE from hW ▸ (Below.setCell (Below.setCell (Below.setCell (Below.setCell (Below.setCell (Below.setCell LD5.out GX.out _) GX.out _) GX.out _) GX.out _) GX.out _) GX.out _))
            have KE := Lib.hid (show Blk WE Bx [.int .i64 mr.f, .int .i64 mr.t, .bool mr.b, .int .u64 mr.s, .int .u64 mr.a, .slice A7 mr.d.length k7] 25 from hW ▸ ((((((KX5.out.set 0 (.int .i64 mr.f)).set 1 (.int .i64 mr.t)).set 2 (.bool mr.b)).set 3 (.int .u64 mr.s)).set 4 (.int .u64 mr.a)).set 5 (.slice A7 mr.d.length k7)))
            skip
            have KFE := Lib.hid (KF.out.below LE.out KF.out.lt)
            have LWE := Lib.hid (LW.out.trans (LE.out.mono LW.out.size))
            clear hW KX5 DT5 LD5
            refine hK.out _ _ trivial (fun hS12 => ?_)
            clear hK K
            refine wpAnyH_take (i := 13) (v := ?_) rfl (by kernel_rfl) (by kernel_rfl) (by kernel_rfl) (fun _ _ _ h => h) (Or.inl ⟨by rfl, ?yldq⟩) (by assumption) ?_
            case yldq => (intro w hSw; (try dsimp only at hSw); go_simp; try with_reducible rfl)
            try simp only [Act.put, List.setIfInBounds_toArray, List.set_cons_zero, List.set_cons_succ, List.getElem_toArray, List.getElem_cons_succ, List.getElem_cons_zero]
            refine wpAnyH_done (by kernel_rfl) ?_ _
            go_wp2
            go_ret
            exact ⟨rfl, LWE.out⟩
          · skip
            go_simp
            obtain ⟨Bx, hBx⟩ : ∃ x, x = V3.heap.size := ⟨_, rfl⟩
            have lx4 := LD3.out.alloc LD3.out.size (.cells #[.int .i64 0, .int .i64 0, .bool false, .int .u64 0, .int .u64 0, .slice none 0 0] 25)
            have gx4 : D.heap.size ≤ Bx := by rw [hBx]; exact LD3.out.size
            have kx4 : Blk (V3.alloc (.cells #[.int .i64 0, .int .i64 0, .bool false, .int .u64 0, .int .u64 0, .slice none 0 0] 25)) Bx [.int .i64 0, .int .i64 0, .bool false, .int .u64 0, .int .u64 0, .slice none 0 0] 25 := by rw [hBx]; exact Blk.new V3 [.int .i64 0, .int .i64 0, .bool false, .int .u64 0, .int .u64 0, .slice none 0 0] 25
            have dt4 := DT3.out.below ((Below.refl _ _).alloc (Nat.le_refl _) (.cells #[.int .i64 0, .int .i64 0, .bool false, .int .u64 0, .int .u64 0, .slice none 0 0] 25))
            obtain ⟨V4, hV⟩ : ∃ x, x = V3.alloc (.cells #[.int .i64 0, .int .i64 0, .bool false, .int .u64 0, .int .u64 0, .slice none 0 0] 25) := ⟨_, rfl⟩
            rw [← hV] at lx4 kx4 dt4
            rw [← hV]
            try rw [← hBx]
            have LD4 := Lib.hid lx4; clear lx4
            have GX := Lib.hid gx4
            have KX4 := Lib.hid kx4; clear kx4
            have DT4 := Lib.hid dt4; clear dt4
            clear gx4 hV hBx LD3 DT3
            refine hK.out _ _ trivial (fun hS11 => ?_)
            clear hK K
            refine wpAnyH_ready (rs := [7]) (by kernel_rfl) (by simp) ?_
            refine AllReadyH.cons rfl (fun K hK => ?_) AllReadyH.nil
            go_simp
            have hgt := get_any A6 (n1 + nn) k6 LX6 V4 DT4.out (HL.out.below (LW.out.trans (LD4.out.mono LW.out.size))).s (HL.out.below (LW.out.trans (LD4.out.mono LW.out.size))).m (by omega)
            rw [HI6.out, HG6.out] at hgt
            refine hgt.mono ?_
            rintro e V5 ⟨⟨A7, k7, rfl, hd7⟩, hb⟩
            have LD5 := Lib.hid (LD4.out.trans (hb.mono LD4.out.size))
            have DT5 := Lib.hid hd7
            have KX5 := Lib.hid (KX4.out.below hb KX4.out.lt)
            clear KX4
            clear hb hgt hd7 LD4 DT4
            refine hK.out _ _ trivial (fun hS7 => ?_)
            clear hK K
            refine wpAnyH_take (i := 8) (v := ?_) rfl (by kernel_rfl) (by kernel_rfl) (by kernel_rfl) (fun _ _ _ h => h) (Or.inl ⟨by rfl, ?yldq⟩) (by assumption) ?_
            case yldq => (intro w hSw; (try dsimp only at hSw); go_simp; try with_reducible rfl)
            try simp only [Act.put, List.setIfInBounds_toArray, List.set_cons_zero, List.set_cons_succ, List.getElem_toArray, List.getElem_cons_succ, List.getElem_cons_zero]
            refine wpAnyH_take (i := 9) (v := ?_) rfl (by kernel_rfl) (by kernel_rfl) (by kernel_rfl) (fun _ _ _ h => h) (Or.inl ⟨by rfl, ?yldq⟩) (by assumption) ?_
            case yldq => (intro w hSw; (try dsimp only at hSw); go_simp; try with_reducible rfl)
            try simp only [Act.put, List.setIfInBounds_toArray, List.set_cons_zero, List.set_cons_succ, List.getElem_toArray, List.getElem_cons_succ, List.getElem_cons_zero]
            refine wpAnyH_take (i := 10) (v := ?_) rfl (by kernel_rfl) (by kernel_rfl) (by kernel_rfl) (fun _ _ _ h => h) (Or.inl ⟨by rfl, ?yldq⟩) (by assumption) ?_
            case yldq => (intro w hSw; (try dsimp only at hSw); go_simp; try with_reducible rfl)
            try simp only [Act.put, List.setIfInBounds_toArray, List.set_cons_zero, List.set_cons_succ, List.getElem_toArray, List.getElem_cons_succ, List.getElem_cons_zero]
            refine wpAnyH_ready (rs := [12]) (by kernel_rfl) (by simp) ?_
            refine AllReadyH.cons rfl (fun K hK => ?_) AllReadyH.nil
            have m0 : V5.cell? ⟨Bx, 0, none⟩ = some _ := KX5.out.cell 0
            have m1 : V5.cell? ⟨Bx, 1, none⟩ = some _ := KX5.out.cell 1
            have m2 : V5.cell? ⟨Bx, 2, none⟩ = some _ := KX5.out.cell 2
            have m3 : V5.cell? ⟨Bx, 3, none⟩ = some _ := KX5.out.cell 3
            have m4 : V5.cell? ⟨Bx, 4, none⟩ = some _ := KX5.out.cell 4
            have m5 : V5.cell? ⟨Bx, 5, none⟩ = some _ := KX5.out.cell 5
            have mlt : Bx < V5.heap.size := KX5.out.lt
            have mf : ∀ o, V5.frozen? ⟨Bx, o, none⟩ = false := fun o => KX5.out.free o
            go_simp
            clear m0 m1 m2 m3 m4 m5 mlt mf
            obtain ⟨WE, hW⟩ : ∃ x, x = ((((((V5.setCell ⟨Bx, 0, none⟩ (.int .i64 mr.f)).setCell ⟨Bx, 1, none⟩ (.int .i64 mr.t)).setCell ⟨Bx, 2, none⟩ (.bool mr.b)).setCell ⟨Bx, 3, none⟩ (.int .u64 mr.s)).setCell ⟨Bx, 4, none⟩ (.int .u64 mr.a)).setCell ⟨Bx, 5, none⟩ (.slice A7 mr.d.length k7)) := ⟨_, rfl⟩
            rw [← hW]
            have LE := Lib.hid (show Below D.heap.size D WE from hW ▸ (Below.setCell (Below.setCell (Below.setCell (Below.setCell (Below.setCell (Below.setCell LD5.out GX.out _) GX.out _) GX.out _) GX.out _) GX.out _) GX.out _))
            have KE := Lib.hid (show Blk WE Bx [.int .i64 mr.f, .int .i64 mr.t, .bool mr.b, .int .u64 mr.s, .int .u64 mr.a, .slice A7 mr.d.length k7] 25 from hW ▸ ((((((KX5.out.set 0 (.int .i64 mr.f)).set 1 (.int .i64 mr.t)).set 2 (.bool mr.b)).set 3 (.int .u64 mr.s)).set 4 (.int .u64 mr.a)).set 5 (.slice A7 mr.d.length k7)))
            skip
            have KFE := Lib.hid (KF.out.below LE.out KF.out.lt)
            have LWE := Lib.hid (LW.out.trans (LE.out.mono LW.out.size))
            clear hW KX5 DT5 LD5
            refine hK.out _ _ trivial (fun hS12 => ?_)
            clear hK K
            refine wpAnyH_take (i := 13) (v := ?_) rfl (by kernel_rfl) (by kernel_rfl) (by kernel_rfl) (fun _ _ _ h => h) (Or.inl ⟨by rfl, ?yldq⟩) (by assumption) ?_
            case yldq => (intro w hSw; (try dsimp only at hSw); go_simp; try with_reducible rfl)
            try simp only [Act.put, List.setIfInBounds_toArray, List.set_cons_zero, List.set_cons_succ, List.getElem_toArray, List.getElem_cons_succ, List.getElem_cons_zero]
            refine wpAnyH_done (by kernel_rfl) ?_ _
            go_wp2
            go_ret
            exact ⟨rfl, LWE.out⟩
        · skip
          go_simp
          obtain ⟨Bx, hBx⟩ : ∃ x, x = V2.heap.size := ⟨_, rfl⟩
          have lx3 := LD2.out.alloc LD2.out.size (.cells #[.int .i64 0, .int .i64 0, .bool false, .int .u64 0, .int .u64 0, .slice none 0 0] 25)
          have gx3 : D.heap.size ≤ Bx := by rw [hBx]; exact LD2.out.size
          have kx3 : Blk (V2.alloc (.cells #[.int .i64 0, .int .i64 0, .bool false, .int .u64 0, .int .u64 0, .slice none 0 0] 25)) Bx [.int .i64 0, .int .i64 0, .bool false, .int .u64 0, .int .u64 0, .slice none 0 0] 25 := by rw [hBx]; exact Blk.new V2 [.int .i64 0, .int .i64 0, .bool false, .int .u64 0, .int .u64 0, .slice none 0 0] 25
          have ow3 := own_kept HO2.out ((Below.refl _ _).alloc (Nat.le_refl _) (.cells #[.int .i64 0, .int .i64 0, .bool false, .int .u64 0, .int .u64 0, .slice none 0 0] 25))
          have gl3 : g2 < Bx := by rw [hBx]; exact (HO2.out.lt g2 rfl).2
          obtain ⟨V3, hV⟩ : ∃ x, x = V2.alloc (.cells #[.int .i64 0, .int .i64 0, .bool false, .int .u64 0, .int .u64 0, .slice none 0 0] 25) := ⟨_, rfl⟩
          rw [← hV] at lx3 ow3 kx3
          rw [← hV]
          try rw [← hBx]
          have ne3 : Bx ≠ g2 := by omega
          have NE3 := Lib.hid ne3; clear ne3 gl3
          have LD3 := Lib.hid lx3; clear lx3
          have GX := Lib.hid gx3
          have HO3 := Lib.hid ow3; clear ow3
          have KX3 := Lib.hid kx3; clear kx3
          clear gx3 hV hBx LD2 HO2
          refine hK.out _ _ trivial (fun hS11 => ?_)
          clear hK K
          refine wpAnyH_ready (rs := [6]) (by kernel_rfl) (by simp) ?_
          refine AllReadyH.cons rfl (fun K hK => ?_) AllReadyH.nil
          rw [if_pos (by rfl)]
          have hsr := (dat_upto (TD.out.below LD3.out) nn (by omega)).src
          refine wp_append_src (.tmp 77) (.tmp 80) 23 rfl D.heap.size 5 i0 (.int .u8 0) 1 1 Tryd.underlying23 hi hz0 hz1 hz2 rfl (by decide) (.slice (some ⟨g2, 0, none⟩) n1 c2) n1 (LS.map (Value.int .u8)) rfl HO3.out _ nn ((LS.take nn).map (Value.int .u8)) rfl hsr ?c128_1 ?c128_2 ?c128_3 ?c128_4 LD3.out.size ?_
          case c128_1 => rw [List.length_map, List.length_take, HLN.out, Nat.mul_one]; omega
          case c128_2 => intro u hu; obtain ⟨x, _, rfl⟩ := List.mem_map.1 hu; rfl
          case c128_3 => unfold maxLen; omega
          case c128_4 => omega
          intro v6 V4 ho hg
          clear hsr
          have lx4 : Below D.heap.size D V4 := LD3.out.grown hg LD3.out.size (fun k hk => (HO3.out.lt k hk).1)
          have ow4 : OwnV D.heap.size LX6 v6 V4 := by
            unfold OwnV
            rw [HL6N.out, HL6.out, List.map_append]; exact ho
          have kx4 := KX3.out.chg (Chg.grown (F := fun k => k = g2) hg (fun k hk _ => by injection hk with hk; exact hk.symm)) NE3.out
          have KX4 := Lib.hid kx4
          clear kx4 KX3
          obtain ⟨A6, k6, rfl, hd6⟩ := OwnV.dat ow4 HL6B.out
          rw [HL6N.out] at hd6 ⊢
          have DT4 := Lib.hid hd6; have LD4 := Lib.hid lx4; clear hd6 ow4 lx4 ho hg HO3 LD3
          refine hK.out _ _ trivial (fun hS6 => ?_)
          clear hK K
          refine wpAnyH_ready (rs := [7]) (by kernel_rfl) (by simp) ?_
          refine AllReadyH.cons rfl (fun K hK => ?_) AllReadyH.nil
          go_simp
          have hgt := get_any A6 (n1 + nn) k6 LX6 V4 DT4.out (HL.out.below (LW.out.trans (LD4.out.mono LW.out.size))).s (HL.out.below (LW.out.trans (LD4.out.mono LW.out.size))).m (by omega)
          rw [HI6.out, HG6.out] at hgt
          refine hgt.mono ?_
          rintro e V5 ⟨⟨A7, k7, rfl, hd7⟩, hb⟩
          have LD5 := Lib.hid (LD4.out.trans (hb.mono LD4.out.size))
          have DT5 := Lib.hid hd7
          have KX5 := Lib.hid (KX4.out.below hb KX4.out.lt)
          clear KX4
          clear hb hgt hd7 LD4 DT4
          refine hK.out _ _ trivial (fun hS7 => ?_)
          clear hK K
          refine wpAnyH_take (i := 8) (v := ?_) rfl (by kernel_rfl) (by kernel_rfl) (by kernel_rfl) (fun _ _ _ h => h) (Or.inl ⟨by rfl, ?yldq⟩) (by assumption) ?_
          case yldq => (intro w hSw; (try dsimp only at hSw); go_simp; try with_reducible rfl)
          try simp only [Act.put, List.setIfInBounds_toArray, List.set_cons_zero, List.set_cons_succ, List.getElem_toArray, List.getElem_cons_succ, List.getElem_cons_zero]
          refine wpAnyH_take (i := 9) (v := ?_) rfl (by kernel_rfl) (by kernel_rfl) (by kernel_rfl) (fun _ _ _ h => h) (Or.inl ⟨by rfl, ?yldq⟩) (by assumption) ?_
          case yldq => (intro w hSw; (try dsimp only at hSw); go_simp; try with_reducible rfl)
          try simp only [Act.put, List.setIfInBounds_toArray, List.set_cons_zero, List.set_cons_succ, List.getElem_toArray, List.getElem_cons_succ, List.getElem_cons_zero]
          refine wpAnyH_take (i := 10) (v := ?_) rfl (by kernel_rfl) (by kernel_rfl) (by kernel_rfl) (fun _ _ _ h => h) (Or.inl ⟨by rfl, ?yldq⟩) (by assumption) ?_
          case yldq => (intro w hSw; (try dsimp only at hSw); go_simp; try with_reducible rfl)
          try simp only [Act.put, List.setIfInBounds_toArray, List.set_cons_zero, List.set_cons_succ, List.getElem_toArray, List.getElem_cons_succ, List.getElem_cons_zero]
          refine wpAnyH_ready (rs := [12]) (by kernel_rfl) (by simp) ?_
          refine AllReadyH.cons rfl (fun K hK => ?_) AllReadyH.nil
          have m0 : V5.cell? ⟨Bx, 0, none⟩ = some _ := KX5.out.cell 0
          have m1 : V5.cell? ⟨Bx, 1, none⟩ = some _ := KX5.out.cell 1
          have m2 : V5.cell? ⟨Bx, 2, none⟩ = some _ := KX5.out.cell 2
          have m3 : V5.cell? ⟨Bx, 3, none⟩ = some _ := KX5.out.cell 3
          have m4 : V5.cell? ⟨Bx, 4, none⟩ = some _ := KX5.out.cell 4
          have m5 : V5.cell? ⟨Bx, 5, none⟩ = some _ := KX5.out.cell 5
          have mlt : Bx < V5.heap.size := KX5.out.lt
          have mf : ∀ o, V5.frozen? ⟨Bx, o, none⟩ = false := fun o => KX5.out.free o
          go_simp
          clear m0 m1 m2 m3 m4 m5 mlt mf
          obtain ⟨WE, hW⟩ : ∃ x, x = ((((((V5.setCell ⟨Bx, 0, none⟩ (.int .i64 mr.f)).setCell ⟨Bx, 1, none⟩ (.int .i64 mr.t)).setCell ⟨Bx, 2, none⟩ (.bool mr.b)).setCell ⟨Bx, 3, none⟩ (.int .u64 mr.s)).setCell ⟨Bx, 4, none⟩ (.int .u64 mr.a)).setCell ⟨Bx, 5, none⟩ (.slice A7 mr.d.length k7)) := ⟨_, rfl⟩
          rw [← hW]
          have LE := Lib.hid (show Below D.heap.size D WE from hW ▸ (Below.setCell (Below.setCell (Below.setCell (Below.setCell (Below.setCell (Below.setCell LD5.out GX.out _) GX.out _) GX.out _) GX.out _) GX.out _) GX.out _))
          have KE := Lib.hid (show Blk WE Bx [.int .i64 mr.f, .int .i64 mr.t, .bool mr.b, .int .u64 mr.s, .int .u64 mr.a, .slice A7 mr.d.length k7] 25 from hW ▸ ((((((KX5.out.set 0 (.int .i64 mr.f)).set 1 (.int .i64 mr.t)).set 2 (.bool mr.b)).set 3 (.int .u64 mr.s)).set 4 (.int .u64 mr.a)).set 5 (.slice A7 mr.d.length k7)))
          skip
          have KFE := Lib.hid (KF.out.below LE.out KF.out.lt)
          have LWE := Lib.hid (LW.out.trans (LE.out.mono LW.out.size))
          clear hW KX5 DT5 LD5
          refine hK.out _ _ trivial (fun hS12 => ?_)
          clear hK K
          refine wpAnyH_take (i := 13) (v := ?_) rfl (by kernel_rfl) (by kernel_rfl) (by kernel_rfl) (fun _ _ _ h => h) (Or.inl ⟨by rfl, ?yldq⟩) (by assumption) ?_
          case yldq => (intro w hSw; (try dsimp only at hSw); go_simp; try with_reducible rfl)
          try simp only [Act.put, List.setIfInBounds_toArray, List.set_cons_zero, List.set_cons_succ, List.getElem_toArray, List.getElem_cons_succ, List.getElem_cons_zero]
          refine wpAnyH_done (by kernel_rfl) ?_ _
          go_wp2
          go_ret
          exact ⟨rfl, LWE.out⟩
      · skip
        go_simp
        obtain ⟨Bx, hBx⟩ : ∃ x, x = V1.heap.size := ⟨_, rfl⟩
        have lx2 := LD1.out.alloc LD1.out.size (.cells #[.int .i64 0, .int .i64 0, .bool false, .int .u64 0, .int .u64 0, .slice none 0 0] 25)
        have gx2 : D.heap.size ≤ Bx := by rw [hBx]; exact LD1.out.size
        have kx2 : Blk (V1.alloc (.cells #[.int .i64 0, .int .i64 0, .bool false, .int .u64 0, .int .u64 0, .slice none 0 0] 25)) Bx [.int .i64 0, .int .i64 0, .bool false, .int .u64 0, .int .u64 0, .slice none 0 0] 25 := by rw [hBx]; exact Blk.new V1 [.int .i64 0, .int .i64 0, .bool false, .int .u64 0, .int .u64 0, .slice none 0 0] 25
        have ow2 := own_kept HO1.out ((Below.refl _ _).alloc (Nat.le_refl _) (.cells #[.int .i64 0, .int .i64 0, .bool false, .int .u64 0, .int .u64 0, .slice none 0 0] 25))
        have gl2 : g0 < Bx := by rw [hBx]; exact (HO1.out.lt g0 rfl).2
        obtain ⟨V2, hV⟩ : ∃ x, x = V1.alloc (.cells #[.int .i64 0, .int .i64 0, .bool false, .int .u64 0, .int .u64 0, .slice none 0 0] 25) := ⟨_, rfl⟩
        rw [← hV] at lx2 ow2 kx2
        rw [← hV]
        try rw [← hBx]
        have ne2 : Bx ≠ g0 := by omega
        have NE2 := Lib.hid ne2; clear ne2 gl2
        have LD2 := Lib.hid lx2; clear lx2
        have GX := Lib.hid gx2
        have HO2 := Lib.hid ow2; clear ow2
        have KX2 := Lib.hid kx2; clear kx2
        clear gx2 hV hBx LD1 HO1
        refine hK.out _ _ trivial (fun hS11 => ?_)
        clear hK K
        refine wpAnyH_ready (rs := [2]) (by kernel_rfl) (by simp) ?_
        refine AllReadyH.cons rfl (fun K hK => ?_) AllReadyH.nil
        rw [if_pos (by rfl)]
        refine wp_append_lies V2 (.tmp 75) (.tmp 76) 23 rfl D.heap.size 5 i0 (.int .u8 0) 1 1 Tryd.underlying23 hi hz0 hz1 hz2 rfl (by decide) (.slice (some ⟨g0, 0, none⟩) 0 0) 0 [] rfl HO2.out ⟨b1, o1, none⟩ n1 k1 (LS.map (Value.int .u8)) rfl ?c131_1 ?c131_2 ?c131_3 ?c131_4 ?c131_5 ?c131_6 LD2.out.size V2.heap.size rfl ?_
        case c131_1 => rw [List.length_map, HLN.out, Nat.mul_one]
        case c131_2 => exact fun j u hj => (TD.out.below LD2.out).rd.cells j u hj
        case c131_3 => intro u hu; obtain ⟨x, _, rfl⟩ := List.mem_map.1 hu; rfl
        case c131_4 => omega
        case c131_5 => unfold maxLen; omega
        case c131_6 => omega
        intro g2 c2 V3 ho hg hlie hlt
        rw [Nat.zero_add]
        have lx3 : Below D.heap.size D V3 := LD2.out.grown hg LD2.out.size (fun k hk => (HO2.out.lt k hk).1)
        have ow3 : V3.ownsRow D.heap.size 5 1 (.slice (some ⟨g2, 0, none⟩) n1 c2) n1 (LS.map (Value.int .u8)) := by simpa using ho
        have kx3 := KX2.out.chg (Chg.grown (F := fun k => k = g0) hg (fun k hk _ => by injection hk with hk; exact hk.symm)) NE2.out
        have ne3 : Bx ≠ g2 := by
          have h1 := KX2.out.lt
          have h2 := NE2.out
          rcases hlie with h | h
          · have h3 : some g0 = some g2 := h
            injection h3 with h3; omega
          · omega
        have KX3 := Lib.hid kx3; have NE3 := Lib.hid ne3
        clear kx3 ne3 KX2 NE2
        have HO3 := Lib.hid ow3; have LD3 := Lib.hid lx3; clear ow3 lx3 ho hg hlie hlt HO2 LD2
        refine hK.out _ _ trivial (fun hS2 => ?_)
        clear hK K
        refine wpAnyH_ready (rs := [6]) (by kernel_rfl) (by simp) ?_
        refine AllReadyH.cons rfl (fun K hK => ?_) AllReadyH.nil
        rw [if_pos (by rfl)]
        have hsr := (dat_upto (TD.out.below LD3.out) nn (by omega)).src
        refine wp_append_src (.tmp 77) (.tmp 80) 23 rfl D.heap.size 5 i0 (.int .u8 0) 1 1 Tryd.underlying23 hi hz0 hz1 hz2 rfl (by decide) (.slice (some ⟨g2, 0, none⟩) n1 c2) n1 (LS.map (Value.int .u8)) rfl HO3.out _ nn ((LS.take nn).map (Value.int .u8)) rfl hsr ?c132_1 ?c132_2 ?c132_3 ?c132_4 LD3.out.size ?_
        case c132_1 => rw [List.length_map, List.length_take, HLN.out, Nat.mul_one]; omega
        case c132_2 => intro u hu; obtain ⟨x, _, rfl⟩ := List.mem_map.1 hu; rfl
        case c132_3 => unfold maxLen; omega
        case c132_4 => omega
        intro v6 V4 ho hg
        clear hsr
        have lx4 : Below D.heap.size D V4 := LD3.out.grown hg LD3.out.size (fun k hk => (HO3.out.lt k hk).1)
        have ow4 : OwnV D.heap.size LX6 v6 V4 := by
          unfold OwnV
          rw [HL6N.out, HL6.out, List.map_append]; exact ho
        have kx4 := KX3.out.chg (Chg.grown (F := fun k => k = g2) hg (fun k hk _ => by injection hk with hk; exact hk.symm)) NE3.out
        have KX4 := Lib.hid kx4
        clear kx4 KX3
        obtain ⟨A6, k6, rfl, hd6⟩ := OwnV.dat ow4 HL6B.out
        rw [HL6N.out] at hd6 ⊢
        have DT4 := Lib.hid hd6; have LD4 := Lib.hid lx4; clear hd6 ow4 lx4 ho hg HO3 LD3
        refine hK.out _ _ trivial (fun hS6 => ?_)
        clear hK K
        refine wpAnyH_ready (rs := [7]) (by kernel_rfl) (by simp) ?_
        refine AllReadyH.cons rfl (fun K hK => ?_) AllReadyH.nil
        go_simp
        have hgt := get_any A6 (n1 + nn) k6 LX6 V4 DT4.out (HL.out.below (LW.out.trans (LD4.out.mono LW.out.size))).s (HL.out.below (LW.out.trans (LD4.out.mono LW.out.size))).m (by omega)
        rw [HI6.out, HG6.out] at hgt
        refine hgt.mono ?_
        rintro e V5 ⟨⟨A7, k7, rfl, hd7⟩, hb⟩
        have LD5 := Lib.hid (LD4.out.trans (hb.mono LD4.out.size))
        have DT5 := Lib.hid hd7
        have KX5 := Lib.hid (KX4.out.below hb KX4.out.lt)
        clear KX4
        clear hb hgt hd7 LD4 DT4
        refine hK.out _ _ trivial (fun hS7 => ?_)
        clear hK K
        refine wpAnyH_take (i := 8) (v := ?_) rfl (by kernel_rfl) (by kernel_rfl) (by kernel_rfl) (fun _ _ _ h => h) (Or.inl ⟨by rfl, ?yldq⟩) (by assumption) ?_
        case yldq => (intro w hSw; (try dsimp only at hSw); go_simp; try with_reducible rfl)
        try simp only [Act.put, List.setIfInBounds_toArray, List.set_cons_zero, List.set_cons_succ, List.getElem_toArray, List.getElem_cons_succ, List.getElem_cons_zero]
        refine wpAnyH_take (i := 9) (v := ?_) rfl (by kernel_rfl) (by kernel_rfl) (by kernel_rfl) (fun _ _ _ h => h) (Or.inl ⟨by rfl, ?yldq⟩) (by assumption) ?_
        case yldq => (intro w hSw; (try dsimp only at hSw); go_simp; try with_reducible rfl)
        try simp only [Act.put, List.setIfInBounds_toArray, List.set_cons_zero, List.set_cons_succ, List.getElem_toArray, List.getElem_cons_succ, List.getElem_cons_zero]
        refine wpAnyH_take (i := 10) (v := ?_) rfl (by kernel_rfl) (by kernel_rfl) (by kernel_rfl) (fun _ _ _ h => h) (Or.inl ⟨by rfl, ?yldq⟩) (by assumption) ?_
        case yldq => (intro w hSw; (try dsimp only at hSw); go_simp; try with_reducible rfl)
        try simp only [Act.put, List.setIfInBounds_toArray, List.set_cons_zero, List.set_cons_succ, List.getElem_toArray, List.getElem_cons_succ, List.getElem_cons_zero]
        refine wpAnyH_ready (rs := [12]) (by kernel_rfl) (by simp) ?_
        refine AllReadyH.cons rfl (fun K hK => ?_) AllReadyH.nil
        have m0 : V5.cell? ⟨Bx, 0, none⟩ = some _ := KX5.out.cell 0
        have m1 : V5.cell? ⟨Bx, 1, none⟩ = some _ := KX5.out.cell 1
        have m2 : V5.cell? ⟨Bx, 2, none⟩ = some _ := KX5.out.cell 2
        have m3 : V5.cell? ⟨Bx, 3, none⟩ = some _ := KX5.out.cell 3
        have m4 : V5.cell? ⟨Bx, 4, none⟩ = some _ := KX5.out.cell 4
        have m5 : V5.cell? ⟨Bx, 5, none⟩ = some _ := KX5.out.cell 5
        have mlt : Bx < V5.heap.size := KX5.out.lt
        have mf : ∀ o, V5.frozen? ⟨Bx, o, none⟩ = false := fun o => KX5.out.free o
        go_simp
        clear m0 m1 m2 m3 m4 m5 mlt mf
        obtain ⟨WE, hW⟩ : ∃ x, x = ((((((V5.setCell ⟨Bx, 0, none⟩ (.int .i64 mr.f)).setCell ⟨Bx, 1, none⟩ (.int .i64 mr.t)).setCell ⟨Bx, 2, none⟩ (.bool mr.b)).setCell ⟨Bx, 3, none⟩ (.int .u64 mr.s)).setCell ⟨Bx, 4, none⟩ (.int .u64 mr.a)).setCell ⟨Bx, 5, none⟩ (.slice A7 mr.d.length k7)) := ⟨_, rfl⟩
        rw [← hW]
        have LE := Lib.hid (show Below D.heap.size D WE from hW ▸ (Below.setCell (Below.setCell (Below.setCell (Below.setCell (Below.setCell (Below.setCell LD5.out GX.out _) GX.out _) GX.out _) GX.out _) GX.out _) GX.out _))
        have KE := Lib.hid (show Blk WE Bx [.int .i64 mr.f, .int .i64 mr.t, .bool mr.b, .int .u64 mr.s, .int .u64 mr.a, .slice A7 mr.d.length k7] 25 from hW ▸ ((((((KX5.out.set 0 (.int .i64 mr.f)).set 1 (.int .i64 mr.t)).set 2 (.bool mr.b)).set 3 (.int .u64 mr.s)).set 4 (.int .u64 mr.a)).set 5 (.slice A7 mr.d.length k7)))
        skip
        have KFE := Lib.hid (KF.out.below LE.out KF.out.lt)
        have LWE := Lib.hid (LW.out.trans (LE.out.mono LW.out.size))
        clear hW KX5 DT5 LD5
        refine hK.out _ _ trivial (fun hS12 => ?_)
        clear hK K
        refine wpAnyH_take (i := 13) (v := ?_) rfl (by kernel_rfl) (by kernel_rfl) (by kernel_rfl) (fun _ _ _ h => h) (Or.inl ⟨by rfl, ?yldq⟩) (by assumption) ?_
        case yldq => (intro w hSw; (try dsimp only at hSw); go_simp; try with_reducible rfl)
        try simp only [Act.put, List.setIfInBounds_toArray, List.set_cons_zero, List.set_cons_succ, List.getElem_toArray, List.getElem_cons_succ, List.getElem_cons_zero]
        refine wpAnyH_done (by kernel_rfl) ?_ _
        go_wp2
        go_ret
        exact ⟨rfl, LWE.out⟩
    · skip
      go_simp
      obtain ⟨Bx, hBx⟩ : ∃ x, x = D.heap.size := ⟨_, rfl⟩
      have lx1 := LD0.out.alloc LD0.out.size (.cells #[.int .i64 0, .int .i64 0, .bool false, .int .u64 0, .int .u64 0, .slice none 0 0] 25)
      have gx1 : D.heap.size ≤ Bx := by rw [hBx]; exact LD0.out.size
      have kx1 : Blk (D.alloc (.cells #[.int .i64 0, .int .i64 0, .bool false, .int .u64 0, .int .u64 0, .slice none 0 0] 25)) Bx [.int .i64 0, .int .i64 0, .bool false, .int .u64 0, .int .u64 0, .slice none 0 0] 25 := by rw [hBx]; exact Blk.new D [.int .i64 0, .int .i64 0, .bool false, .int .u64 0, .int .u64 0, .slice none 0 0] 25
      obtain ⟨V1, hV⟩ : ∃ x, x = D.alloc (.cells #[.int .i64 0, .int .i64 0, .bool false, .int .u64 0, .int .u64 0, .slice none 0 0] 25) := ⟨_, rfl⟩
      rw [← hV] at lx1 kx1
      rw [← hV]
      try rw [← hBx]
      have LD1 := Lib.hid lx1; clear lx1
      have GX := Lib.hid gx1
      have KX1 := Lib.hid kx1; clear kx1
      clear gx1 hV hBx
      refine hK.out _ _ trivial (fun hS11 => ?_)
      clear hK K
      refine wpAnyH_ready (rs := [0]) (by kernel_rfl) (by simp) ?_
      refine AllReadyH.cons rfl (fun K hK => ?_) AllReadyH.nil
      go_simp
      obtain ⟨g0, hg0⟩ : ∃ x, x = V1.heap.size := ⟨_, rfl⟩
      have lx2 := LD1.out.alloc LD1.out.size (.cells #[] 5)
      have gx2 : D.heap.size ≤ g0 := by rw [hg0]; exact LD1.out.size
      have ow2 : (V1.alloc (.cells #[] 5)).ownsRow D.heap.size 5 1 (.slice (some ⟨g0, 0, none⟩) 0 0) 0 [] := by rw [hg0]; exact own_base15 (own_lit0 V1 5 1) LD1.out.size
      have lx2a : Bx < g0 := by rw [hg0]; exact KX1.out.lt
      have kx2 := KX1.out.alloc (.cells #[] 5)
      obtain ⟨V2, hV⟩ : ∃ x, x = V1.alloc (.cells #[] 5) := ⟨_, rfl⟩
      rw [← hV] at lx2 ow2 kx2
      rw [← hV]
      try rw [← hg0]
      have ne2 : Bx ≠ g0 := by omega
      have NE2 := Lib.hid ne2; clear ne2 lx2a
      have LD2 := Lib.hid lx2; clear lx2
      have G0 := Lib.hid gx2
      have HO2 := Lib.hid ow2; clear ow2
      have KX2 := Lib.hid kx2; clear kx2
      clear gx2 hV hg0 LD1 KX1
      refine hK.out _ _ trivial (fun hS0 => ?_)
      clear hK K
      refine wpAnyH_ready (rs := [2]) (by kernel_rfl) (by simp) ?_
      refine AllReadyH.cons rfl (fun K hK => ?_) AllReadyH.nil
      rw [if_pos (by rfl)]
      refine wp_append_lies V2 (.tmp 75) (.tmp 76) 23 rfl D.heap.size 5 i0 (.int .u8 0) 1 1 Tryd.underlying23 hi hz0 hz1 hz2 rfl (by decide) (.slice (some ⟨g0, 0, none⟩) 0 0) 0 [] rfl HO2.out ⟨b1, o1, none⟩ n1 k1 (LS.map (Value.int .u8)) rfl ?c136_1 ?c136_2 ?c136_3 ?c136_4 ?c136_5 ?c136_6 LD2.out.size V2.heap.size rfl ?_
      case c136_1 => rw [List.length_map, HLN.out, Nat.mul_one]
      case c136_2 => exact fun j u hj => (TD.out.below LD2.out).rd.cells j u hj
      case c136_3 => intro u hu; obtain ⟨x, _, rfl⟩ := List.mem_map.1 hu; rfl
      case c136_4 => omega
      case c136_5 => unfold maxLen; omega
      case c136_6 => omega
      intro g2 c2 V3 ho hg hlie hlt
      rw [Nat.zero_add]
      have lx3 : Below D.heap.size D V3 := LD2.out.grown hg LD2.out.size (fun k hk => (HO2.out.lt k hk).1)
      have ow3 : V3.ownsRow D.heap.size 5 1 (.slice (some ⟨g2, 0, none⟩) n1 c2) n1 (LS.map (Value.int .u8)) := by simpa using ho
      have kx3 := KX2.out.chg (Chg.grown (F := fun k => k = g0) hg (fun k hk _ => by injection hk with hk; exact hk.symm)) NE2.out
      have ne3 : Bx ≠ g2 := by
        have h1 := KX2.out.lt
        have h2 := NE2.out
        rcases hlie with h | h
        · have h3 : some g0 = some g2 := h
          injection h3 with h3; omega
        · omega
      have KX3 := Lib.hid kx3; have NE3 := Lib.hid ne3
      clear kx3 ne3 KX2 NE2
      have HO3 := Lib.hid ow3; have LD3 := Lib.hid lx3; clear ow3 lx3 ho hg hlie hlt HO2 LD2
      refine hK.out _ _ trivial (fun hS2 => ?_)
      clear hK K
      refine wpAnyH_ready (rs := [6]) (by kernel_rfl) (by simp) ?_
      refine AllReadyH.cons rfl (fun K hK => ?_) AllReadyH.nil
      rw [if_pos (by rfl)]
      have hsr := (dat_upto (TD.out.below LD3.out) nn (by omega)).src
      refine wp_append_src (.tmp 77) (.tmp 80) 23 rfl D.heap.size 5 i0 (.int .u8 0) 1 1 Tryd.underlying23 hi hz0 hz1 hz2 rfl (by decide) (.slice (some ⟨g2, 0, none⟩) n1 c2) n1 (LS.map (Value.int .u8)) rfl HO3.out _ nn ((LS.take nn).map (Value.int .u8)) rfl hsr ?c137_1 ?c137_2 ?c137_3 ?c137_4 LD3.out.size ?_
      case c137_1 => rw [List.length_map, List.length_take, HLN.out, Nat.mul_one]; omega
      case c137_2 => intro u hu; obtain ⟨x, _, rfl⟩ := List.mem_map.1 hu; rfl
      case c137_3 => unfold maxLen; omega
      case c137_4 => omega
      intro v6 V4 ho hg
      clear hsr
      have lx4 : Below D.heap.size D V4 := LD3.out.grown hg LD3.out.size (fun k hk => (HO3.out.lt k hk).1)
      have ow4 : OwnV D.heap.size LX6 v6 V4 := by
        unfold OwnV
        rw [HL6N.out, HL6.out, List.map_append]; exact ho
      have kx4 := KX3.out.chg (Chg.grown (F := fun k => k = g2) hg (fun k hk _ => by injection hk with hk; exact hk.symm)) NE3.out
      have KX4 := Lib.hid kx4
      clear kx4 KX3
      obtain ⟨A6, k6, rfl, hd6⟩ := OwnV.dat ow4 HL6B.out
      rw [HL6N.out] at hd6 ⊢
      have DT4 := Lib.hid hd6; have LD4 := Lib.hid lx4; clear hd6 ow4 lx4 ho hg HO3 LD3
      refine hK.out _ _ trivial (fun hS6 => ?_)
      clear hK K
      refine wpAnyH_ready (rs := [7]) (by kernel_rfl) (by simp) ?_
      refine AllReadyH.cons rfl (fun K hK => ?_) AllReadyH.nil
      go_simp
      have hgt := get_any A6 (n1 + nn) k6 LX6 V4 DT4.out (HL.out.below (LW.out.trans (LD4.out.mono LW.out.size))).s (HL.out.below (LW.out.trans (LD4.out.mono LW.out.size))).m (by omega)
      rw [HI6.out, HG6.out] at hgt
      refine hgt.mono ?_
      rintro e V5 ⟨⟨A7, k7, rfl, hd7⟩, hb⟩
      have LD5 := Lib.hid (LD4.out.trans (hb.mono LD4.out.size))
      have DT5 := Lib.hid hd7
      have KX5 := Lib.hid (KX4.out.below hb KX4.out.lt)
      clear KX4
      clear hb hgt hd7 LD4 DT4
      refine hK.out _ _ trivial (fun hS7 => ?_)
      clear hK K
      refine wpAnyH_take (i := 8) (v := ?_) rfl (by kernel_rfl) (by kernel_rfl) (by kernel_rfl) (fun _ _ _ h => h) (Or.inl ⟨by rfl, ?yldq⟩) (by assumption) ?_
      case yldq => (intro w hSw; (try dsimp only at hSw); go_simp; try with_reducible rfl)
      try simp only [Act.put, List.setIfInBounds_toArray, List.set_cons_zero, List.set_cons_succ, List.getElem_toArray, List.getElem_cons_succ, List.getElem_cons_zero]
      refine wpAnyH_take (i := 9) (v := ?_) rfl (by kernel_rfl) (by kernel_rfl) (by kernel_rfl) (fun _ _ _ h => h) (Or.inl ⟨by rfl, ?yldq⟩) (by assumption) ?_
      case yldq => (intro w hSw; (try dsimp only at hSw); go_simp; try with_reducible rfl)
      try simp only [Act.put, List.setIfInBounds_toArray, List.set_cons_zero, List.set_cons_succ, List.getElem_toArray, List.getElem_cons_succ, List.getElem_cons_zero]
      refine wpAnyH_take (i := 10) (v := ?_) rfl (by kernel_rfl) (by kernel_rfl) (by kernel_rfl) (fun _ _ _ h => h) (Or.inl ⟨by rfl, ?yldq⟩) (by assumption) ?_
      case yldq => (intro w hSw; (try dsimp only at hSw); go_simp; try with_reducible rfl)
      try simp only [Act.put, List.setIfInBounds_toArray, List.set_cons_zero, List.set_cons_succ, List.getElem_toArray, List.getElem_cons_succ, List.getElem_cons_zero]
      refine wpAnyH_ready (rs := [12]) (by kernel_rfl) (by simp) ?_
      refine AllReadyH.cons rfl (fun K hK => ?_) AllReadyH.nil
      have m0 : V5.cell? ⟨Bx, 0, none⟩ = some _ := KX5.out.cell 0
      have m1 : V5.cell? ⟨Bx, 1, none⟩ = some _ := KX5.out.cell 1
      have m2 : V5.cell? ⟨Bx, 2, none⟩ = some _ := KX5.out.cell 2
      have m3 : V5.cell? ⟨Bx, 3, none⟩ = some _ := KX5.out.cell 3
      have m4 : V5.cell? ⟨Bx, 4, none⟩ = some _ := KX5.out.cell 4
      have m5 : V5.cell? ⟨Bx, 5, none⟩ = some _ := KX5.out.cell 5
      have mlt : Bx < V5.heap.size := KX5.out.lt
      have mf : ∀ o, V5.frozen? ⟨Bx, o, none⟩ = false := fun o => KX5.out.free o
      go_simp
      clear m0 m1 m2 m3 m4 m5 mlt mf
      obtain ⟨WE, hW⟩ : ∃ x, x = ((((((V5.setCell ⟨Bx, 0, none⟩ (.int .i64 mr.f)).setCell ⟨Bx, 1, none⟩ (.int .i64 mr.t)).setCell ⟨Bx, 2, none⟩ (.bool mr.b)).setCell ⟨Bx, 3, none⟩ (.int .u64 mr.s)).setCell ⟨Bx, 4, none⟩ (.int .u64 mr.a)).setCell ⟨Bx, 5, none⟩ (.slice A7 mr.d.length k7)) := ⟨_, rfl⟩
      rw [← hW]
      have LE := Lib.hid (show Below D.heap.size D WE from hW ▸ (Below.setCell (Below.setCell (Below.setCell (Below.setCell (Below.setCell (Below.setCell LD5.out GX.out _) GX.out _) GX.out _) GX.out _) GX.out _) GX.out _))
      have KE := Lib.hid (show Blk WE Bx [.int .i64 mr.f, .int .i64 mr.t, .bool mr.b, .int .u64 mr.s, .int .u64 mr.a, .slice A7 mr.d.length k7] 25 from hW ▸ ((((((KX5.out.set 0 (.int .i64 mr.f)).set 1 (.int .i64 mr.t)).set 2 (.bool mr.b)).set 3 (.int .u64 mr.s)).set 4 (.int .u64 mr.a)).set 5 (.slice A7 mr.d.length k7)))
      skip
      have KFE := Lib.hid (KF.out.below LE.out KF.out.lt)
      have LWE := Lib.hid (LW.out.trans (LE.out.mono LW.out.size))
      clear hW KX5 DT5 LD5
      refine hK.out _ _ trivial (fun hS12 => ?_)
      clear hK K
      refine wpAnyH_take (i := 13) (v := ?_) rfl (by kernel_rfl) (by kernel_rfl) (by kernel_rfl) (fun _ _ _ h => h) (Or.inl ⟨by rfl, ?yldq⟩) (by assumption) ?_
      case yldq => (intro w hSw; (try dsimp only at hSw); go_simp; try with_reducible rfl)
      try simp only [Act.put, List.setIfInBounds_toArray, List.set_cons_zero, List.set_cons_succ, List.getElem_toArray, List.getElem_cons_succ, List.getElem_cons_zero]
      refine wpAnyH_done (by kernel_rfl) ?_ _
      go_wp2
      go_ret
      exact ⟨rfl, LWE.out⟩
end Go.Proofs.YtmdfopbigkfbnaaDoor
