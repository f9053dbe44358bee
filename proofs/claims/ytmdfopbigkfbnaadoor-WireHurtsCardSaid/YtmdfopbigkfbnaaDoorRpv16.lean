/-
  What Put of package runrigref16 answers of a right frame: a contract over the translation. It says its own conditions.
-/
import Derived.Test.YtmdfopbigkfbnaaDoorRpu16
import Derived.Laws.IdiomStrings
namespace Go.Proofs.YtmdfopbigkfbnaaDoor
open Go.RowKit
set_option linter.unusedVariables false
set_option linter.unusedSimpArgs false
attribute [local go_sem] setCell_drewN alloc_drewN

/-- bytes made of a string -/
theorem conv_new (w : World) (l : List Int) (h : Byt l) (hm : l.length ≤ 9223372036854775807) : ∃ cap wN, (convert 9 23 (.string (strOfNums l))).run Tryd.prog w = .ok (.slice (some ⟨w.heap.size, 0, none⟩) l.length cap) wN ∧ Below w.heap.size w wN ∧ Rd wN (some ⟨w.heap.size, 0, none⟩) l := by
  have e := run_bytes_of_string w 9 23 5 (strOfNums l) Tryd.underlying9 Tryd.underlying23 Tryd.underlying5
  rw [strOfNums_size] at e
  refine ⟨_, _, e, (Below.refl _ _).drew.alloc (Nat.le_refl _) _, h, hm, fun h0 => ⟨_, _, rfl, fun i hi => ?_⟩⟩
  rw [Nat.zero_add]
  have hq := h.getD i
  have hrow : (bytesRow (strOfNums l) (grownCap w l.length 0 5))[i]? = some (.int .u8 (l.getD i 0)) := by
    unfold bytesRow
    rw [Array.getElem?_append_left (by rw [Array.size_map]; show i < (strOfNums l).size; rw [strOfNums_size]; exact hi)]
    rw [Array.getElem?_map]
    have hd : (strOfNums l).data[i]? = some (UInt8.ofNat (l.getD i 0).toNat) := by
      unfold strOfNums
      simp [hi]
    rw [hd]
    generalize l.getD i 0 = c at hq
    have e2 : ((UInt8.ofNat c.toNat).toNat : Int) = c := by rw [UInt8.toNat_ofNat']; omega
    show some (Value.int .u8 ((UInt8.ofNat c.toNat).toNat : Int)) = _
    rw [e2]
  rw [cell_of_row _ w.heap.size i _ 5 _ (heap_alloc_new w.drew _)]
  exact hrow
set_option maxHeartbeats 4000000 in
theorem rput_yes (f t : Nat) (bb : Bool) (s a : Nat) (A : Option Addr) (dl cap : Nat) (d : List Int) (w : World) (hd : Dat w A dl cap d) (hr : rgt ⟨f, t, bb, s, a, d⟩ = true) (hs : s < 18446744073709551616) (ha : a < 18446744073709551616) : Calls Tryd.prog 11 #[.agg #[.int .i64 (f : Int), .int .i64 (t : Int), .bool bb, .int .u64 (s : Int), .int .u64 (a : Int), .slice A dl cap]] w fun e w' => e = .returned (.string (strOfNums (sealed (plF ⟨f, t, bb, s, a, d⟩)))) ∧ Below w.heap.size w w' := by
  have hpl : ∀ w2, Below w.heap.size w w2 → Calls Tryd.prog 23 #[.agg #[.int .i64 (f : Int), .int .i64 (t : Int), .bool bb, .int .u64 (s : Int), .int .u64 (a : Int), .slice A dl cap]] w2 fun e w' => e = .returned (.string (strOfNums (plF ⟨f, t, bb, s, a, d⟩))) ∧ Below w2.heap.size w2 w' := fun w2 hb => rplain_yes f t bb s a A dl cap d w2 (hd.below hb) hr hs ha
  have hby := plF_Byt hr hd.rd.1
  have hln := plF_len ⟨f, t, bb, s, a, d⟩
  have bl := (rgt_parts hr).2.2
  dsimp only at hln bl
  obtain ⟨PM, hPM⟩ : ∃ PM, PM = plF ⟨f, t, bb, s, a, d⟩ := ⟨_, rfl⟩
  rw [← hPM] at hpl hby hln ⊢
  have hst : strOfNums (sealed PM) = strOfNums PM ++ strOfNums (byt (sm PM : Int) 4) := by unfold sealed; rw [strOfNums_app]
  have hz1 : (strOfNums PM).size = PM.length := strOfNums_size _
  have hz2 : (strOfNums (byt (sm PM : Int) 4)).size = 4 := by rw [strOfNums_size, byt_len]
  have hz3 : ¬ 9223372036854775807 < PM.length + 4 := by omega
  have h32 := sm_lt hby
  have HP := Lib.hid hpl; have HBY := Lib.hid hby; have HST := Lib.hid hst; have HLN := Lib.hid hln
  clear hd hr hs ha hpl hby hst hPM hln
  go_enter Tryd.func11, Tryd.ntmps11
  go_upto_region 1 with (fail)
  have nb0 : Blk (w.alloc (.cells #[.int .i64 (f : Int), .int .i64 (t : Int), .bool bb, .int .u64 (s : Int), .int .u64 (a : Int), .slice A dl cap] 25)) (w.heap.size) [.int .i64 (f : Int), .int .i64 (t : Int), .bool bb, .int .u64 (s : Int), .int .u64 (a : Int), .slice A dl cap] 25 := Blk.new w [.int .i64 (f : Int), .int .i64 (t : Int), .bool bb, .int .u64 (s : Int), .int .u64 (a : Int), .slice A dl cap] 25
  have nls : Below w.heap.size w w := (Below.refl w.heap.size w)
  have nl0 := nls.alloc nls.size (.cells #[.int .i64 (f : Int), .int .i64 (t : Int), .bool bb, .int .u64 (s : Int), .int .u64 (a : Int), .slice A dl cap] 25)
  have nl : Below w.heap.size w (w.alloc (.cells #[.int .i64 (f : Int), .int .i64 (t : Int), .bool bb, .int .u64 (s : Int), .int .u64 (a : Int), .slice A dl cap] 25)) := nl0; clear nls nl0
  obtain ⟨B1, hB0⟩ : ∃ B, B = w.heap.size := ⟨_, rfl⟩
  obtain ⟨W1, hW⟩ : ∃ W, W = (w.alloc (.cells #[.int .i64 (f : Int), .int .i64 (t : Int), .bool bb, .int .u64 (s : Int), .int .u64 (a : Int), .slice A dl cap] 25)) := ⟨_, rfl⟩
  rw [← hW] at nl nb0
  rw [← hB0] at nb0
  rw [← hW]
  try rw [← hB0]
  have K1_0 := Lib.hid nb0
  have G1 : Hid (w.heap.size ≤ B1) := Lib.hid (by have := (Nat.le_refl w.heap.size); omega)
  have L1 := Lib.hid nl
  clear nl hW nb0 hB0
  have m0_0 : W1.cell? ⟨B1, 0, none⟩ = some _ := K1_0.out.cell 0
  have m0_1 : W1.cell? ⟨B1, 1, none⟩ = some _ := K1_0.out.cell 1
  have m0_2 : W1.cell? ⟨B1, 2, none⟩ = some _ := K1_0.out.cell 2
  have m0_3 : W1.cell? ⟨B1, 3, none⟩ = some _ := K1_0.out.cell 3
  have m0_4 : W1.cell? ⟨B1, 4, none⟩ = some _ := K1_0.out.cell 4
  have m0_5 : W1.cell? ⟨B1, 5, none⟩ = some _ := K1_0.out.cell 5
  have mlt0 : B1 < W1.heap.size := K1_0.out.lt
  go_wp2_with fail
  clear m0_0 m0_1 m0_2 m0_3 m0_4 m0_5 mlt0
  refine (HP.out _ L1.out).mono ?_
  rintro e w2 ⟨rfl, hb⟩
  have L2 := Lib.hid (L1.out.trans (hb.mono L1.out.size))
  have K2_0 := Lib.hid (K1_0.out.below hb K1_0.out.lt)
  clear hb K1_0
  obtain ⟨cN, wN, hcv, hbN, hrN⟩ := conv_new w2 PM HBY.out (by omega)
  have HRN := Lib.hid hrN
  have LN := Lib.hid (L2.out.trans (hbN.mono L2.out.size))
  clear hrN hbN
  go_wp2_with fail
  refine (rsum_any _ PM.length cN PM wN HRN.out rfl).mono ?_
  rintro e wx ⟨rfl, rfl⟩
  clear hcv
  go_wp2_with fail
  refine (rtail_any _ wN (by omega) (by omega)).mono ?_
  rintro e w4 ⟨y, rfl, ho4, hb4⟩
  obtain ⟨A4, cap4, rfl, hr4⟩ := ho4.rd (byt_Byt 4 _) (by rw [byt_len]; omega)
  rw [byt_len]
  have hc4 := hr4.conv 4 cap4 (byt_len _ _)
  have L4 := Lib.hid (LN.out.trans (hb4.mono LN.out.size))
  clear ho4 hr4 hb4
  generalize strOfNums (byt (sm PM : Int) 4) = S4 at hc4 hz2 HST
  generalize strOfNums PM = S1 at hz1 HST
  go_wp2
  go_ret
  exact ⟨by rw [HST.out]; rfl, L4.out⟩
end Go.Proofs.YtmdfopbigkfbnaaDoor
