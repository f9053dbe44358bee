/-
  The statement WirePuts: its walk over the translation. Condition: the tables.
-/
import Derived.Test.YtmdfopbigkfbnaaDoorLw16
namespace Go.Proofs.YtmdfopbigkfbnaaDoor
open Go.RowKit
set_option linter.unusedVariables false
set_option linter.unusedSimpArgs false
attribute [local go_sem] setCell_drewN alloc_drewN

set_option maxHeartbeats 4000000 in
theorem puts_big (f t : Int) (bb : Bool) (s a : Int) (A : Option Addr) (dl cap : Nat) (w : World) (hle : dl ≤ 9223372036854775807) (h0 : 0 ≤ s) (hL : Lz w) (hb : 5000 < dl) : Calls Tryd.prog 3 #[.agg #[.int .i64 f, .int .i64 t, .bool bb, .int .u64 s, .int .u64 a, .slice A dl cap]] w fun e w' => e = .returned (.bool true) ∧ Below w.heap.size w w' := by
  have HL := Lib.hid hL
  clear hL
  have hbi : (5000 : Int) < dl := by omega
  go_enter Tryd.func3, Tryd.ntmps3
  go_upto_region 1 with (fail)
  have nb0 : Blk (w.alloc (.cells #[.int .i64 f, .int .i64 t, .bool bb, .int .u64 s, .int .u64 a, .slice A dl cap] 25)) (w.heap.size) [.int .i64 f, .int .i64 t, .bool bb, .int .u64 s, .int .u64 a, .slice A dl cap] 25 := Blk.new w [.int .i64 f, .int .i64 t, .bool bb, .int .u64 s, .int .u64 a, .slice A dl cap] 25
  have nls : Below w.heap.size w w := (Below.refl w.heap.size w)
  have nl0 := nls.alloc nls.size (.cells #[.int .i64 f, .int .i64 t, .bool bb, .int .u64 s, .int .u64 a, .slice A dl cap] 25)
  have nl : Below w.heap.size w (w.alloc (.cells #[.int .i64 f, .int .i64 t, .bool bb, .int .u64 s, .int .u64 a, .slice A dl cap] 25)) := nl0; clear nls nl0
  obtain ⟨B1, hB0⟩ : ∃ B, B = w.heap.size := ⟨_, rfl⟩
  obtain ⟨W1, hW⟩ : ∃ W, W = (w.alloc (.cells #[.int .i64 f, .int .i64 t, .bool bb, .int .u64 s, .int .u64 a, .slice A dl cap] 25)) := ⟨_, rfl⟩
  rw [← hW] at nl nb0
  rw [← hB0] at nb0
  rw [← hW]
  try rw [← hB0]
  have K1_0 := Lib.hid nb0
  have G1 : Hid (w.heap.size ≤ B1) := Lib.hid (by have := (Nat.le_refl w.heap.size); omega)
  have L1 := Lib.hid nl
  clear nl hW nb0 hB0
  have m0_0 : W1.cell? ⟨B1, 0, none⟩ = some _ := K1_0.out.cell 0
  have m0_1 : W1.cell? ⟨B1, 1, none⟩ = some _ := K1_0.out.cell 1
  have m0_2 : W1.cell? ⟨B1, 2, none⟩ = some _ := K1_0.out.cell 2
  have m0_3 : W1.cell? ⟨B1, 3, none⟩ = some _ := K1_0.out.cell 3
  have m0_4 : W1.cell? ⟨B1, 4, none⟩ = some _ := K1_0.out.cell 4
  have m0_5 : W1.cell? ⟨B1, 5, none⟩ = some _ := K1_0.out.cell 5
  have mlt0 : B1 < W1.heap.size := K1_0.out.lt
  go_wp2_with fail
  clear m0_0 m0_1 m0_2 m0_3 m0_4 m0_5 mlt0
  refine (first16_any _ (HL.out.below L1.out)).mono ?_
  rintro e w2 ⟨rfl, hb⟩
  have L2 := Lib.hid (L1.out.trans (hb.mono L1.out.size))
  have K2_0 := Lib.hid (K1_0.out.below hb K1_0.out.lt)
  clear hb K1_0
  have m0_0 : w2.cell? ⟨B1, 0, none⟩ = some _ := K2_0.out.cell 0
  have m0_1 : w2.cell? ⟨B1, 1, none⟩ = some _ := K2_0.out.cell 1
  have m0_2 : w2.cell? ⟨B1, 2, none⟩ = some _ := K2_0.out.cell 2
  have m0_3 : w2.cell? ⟨B1, 3, none⟩ = some _ := K2_0.out.cell 3
  have m0_4 : w2.cell? ⟨B1, 4, none⟩ = some _ := K2_0.out.cell 4
  have m0_5 : w2.cell? ⟨B1, 5, none⟩ = some _ := K2_0.out.cell 5
  have mlt0 : B1 < w2.heap.size := K2_0.out.lt
  go_wp2
  clear m0_0 m0_1 m0_2 m0_3 m0_4 m0_5 mlt0
  go_ret
  exact ⟨rfl, L2.out⟩
set_option maxHeartbeats 4000000 in
theorem puts_no (f t : Int) (bb : Bool) (s a : Int) (A : Option Addr) (dl cap : Nat) (w : World) (hle : dl ≤ 9223372036854775807) (h0 : 0 ≤ s) (hL : Lz w) (hb : ¬ 5000 < dl) (hr : (nok f t && bok bb s dl) = false) : Calls Tryd.prog 3 #[.agg #[.int .i64 f, .int .i64 t, .bool bb, .int .u64 s, .int .u64 a, .slice A dl cap]] w fun e w' => e = .returned (.bool true) ∧ Below w.heap.size w w' := by
  have HL := Lib.hid hL
  clear hL
  have hbi : ¬ (5000 : Int) < dl := by omega
  go_enter Tryd.func3, Tryd.ntmps3
  go_upto_region 1 with (fail)
  have nb0 : Blk (w.alloc (.cells #[.int .i64 f, .int .i64 t, .bool bb, .int .u64 s, .int .u64 a, .slice A dl cap] 25)) (w.heap.size) [.int .i64 f, .int .i64 t, .bool bb, .int .u64 s, .int .u64 a, .slice A dl cap] 25 := Blk.new w [.int .i64 f, .int .i64 t, .bool bb, .int .u64 s, .int .u64 a, .slice A dl cap] 25
  have nls : Below w.heap.size w w := (Below.refl w.heap.size w)
  have nl0 := nls.alloc nls.size (.cells #[.int .i64 f, .int .i64 t, .bool bb, .int .u64 s, .int .u64 a, .slice A dl cap] 25)
  have nl : Below w.heap.size w (w.alloc (.cells #[.int .i64 f, .int .i64 t, .bool bb, .int .u64 s, .int .u64 a, .slice A dl cap] 25)) := nl0; clear nls nl0
  obtain ⟨B1, hB0⟩ : ∃ B, B = w.heap.size := ⟨_, rfl⟩
  obtain ⟨W1, hW⟩ : ∃ W, W = (w.alloc (.cells #[.int .i64 f, .int .i64 t, .bool bb, .int .u64 s, .int .u64 a, .slice A dl cap] 25)) := ⟨_, rfl⟩
  rw [← hW] at nl nb0
  rw [← hB0] at nb0
  rw [← hW]
  try rw [← hB0]
  have K1_0 := Lib.hid nb0
  have G1 : Hid (w.heap.size ≤ B1) := Lib.hid (by have := (Nat.le_refl w.heap.size); omega)
  have L1 := Lib.hid nl
  clear nl hW nb0 hB0
  have m0_0 : W1.cell? ⟨B1, 0, none⟩ = some _ := K1_0.out.cell 0
  have m0_1 : W1.cell? ⟨B1, 1, none⟩ = some _ := K1_0.out.cell 1
  have m0_2 : W1.cell? ⟨B1, 2, none⟩ = some _ := K1_0.out.cell 2
  have m0_3 : W1.cell? ⟨B1, 3, none⟩ = some _ := K1_0.out.cell 3
  have m0_4 : W1.cell? ⟨B1, 4, none⟩ = some _ := K1_0.out.cell 4
  have m0_5 : W1.cell? ⟨B1, 5, none⟩ = some _ := K1_0.out.cell 5
  have mlt0 : B1 < W1.heap.size := K1_0.out.lt
  go_wp2_with fail
  clear m0_0 m0_1 m0_2 m0_3 m0_4 m0_5 mlt0
  refine (first16_any _ (HL.out.below L1.out)).mono ?_
  rintro e w2 ⟨rfl, hb⟩
  have L2 := Lib.hid (L1.out.trans (hb.mono L1.out.size))
  have K2_0 := Lib.hid (K1_0.out.below hb K1_0.out.lt)
  clear hb K1_0
  have m0_0 : w2.cell? ⟨B1, 0, none⟩ = some _ := K2_0.out.cell 0
  have m0_1 : w2.cell? ⟨B1, 1, none⟩ = some _ := K2_0.out.cell 1
  have m0_2 : w2.cell? ⟨B1, 2, none⟩ = some _ := K2_0.out.cell 2
  have m0_3 : w2.cell? ⟨B1, 3, none⟩ = some _ := K2_0.out.cell 3
  have m0_4 : w2.cell? ⟨B1, 4, none⟩ = some _ := K2_0.out.cell 4
  have m0_5 : w2.cell? ⟨B1, 5, none⟩ = some _ := K2_0.out.cell 5
  have mlt0 : B1 < w2.heap.size := K2_0.out.lt
  go_wp2_with fail
  clear m0_0 m0_1 m0_2 m0_3 m0_4 m0_5 mlt0
  refine (put_no16 f t bb s a A dl cap _ h0 hle hr).mono ?_
  rintro e w3 ⟨rfl, hb⟩
  have L3 := Lib.hid (L2.out.trans (hb.mono L2.out.size))
  have K3_0 := Lib.hid (K2_0.out.below hb K2_0.out.lt)
  clear hb K2_0
  have hrr := rright_any f t s a bb A dl cap w3 h0 hle
  rw [hr] at hrr
  have HR := Lib.hid hrr; clear hrr
  have m0_0 : w3.cell? ⟨B1, 0, none⟩ = some _ := K3_0.out.cell 0
  have m0_1 : w3.cell? ⟨B1, 1, none⟩ = some _ := K3_0.out.cell 1
  have m0_2 : w3.cell? ⟨B1, 2, none⟩ = some _ := K3_0.out.cell 2
  have m0_3 : w3.cell? ⟨B1, 3, none⟩ = some _ := K3_0.out.cell 3
  have m0_4 : w3.cell? ⟨B1, 4, none⟩ = some _ := K3_0.out.cell 4
  have m0_5 : w3.cell? ⟨B1, 5, none⟩ = some _ := K3_0.out.cell 5
  have mlt0 : B1 < w3.heap.size := K3_0.out.lt
  go_wp2_with fail
  clear m0_0 m0_1 m0_2 m0_3 m0_4 m0_5 mlt0
  refine (HR.out).mono ?_
  rintro e w4 ⟨rfl, hb⟩
  have L4 := Lib.hid (L3.out.trans (hb.mono L3.out.size))
  have K4_0 := Lib.hid (K3_0.out.below hb K3_0.out.lt)
  clear hb K3_0
  have hrr := right_any f t s a bb A dl cap w4 h0 hle
  rw [hr] at hrr
  have HR2 := Lib.hid hrr; clear hrr
  have m0_0 : w4.cell? ⟨B1, 0, none⟩ = some _ := K4_0.out.cell 0
  have m0_1 : w4.cell? ⟨B1, 1, none⟩ = some _ := K4_0.out.cell 1
  have m0_2 : w4.cell? ⟨B1, 2, none⟩ = some _ := K4_0.out.cell 2
  have m0_3 : w4.cell? ⟨B1, 3, none⟩ = some _ := K4_0.out.cell 3
  have m0_4 : w4.cell? ⟨B1, 4, none⟩ = some _ := K4_0.out.cell 4
  have m0_5 : w4.cell? ⟨B1, 5, none⟩ = some _ := K4_0.out.cell 5
  have mlt0 : B1 < w4.heap.size := K4_0.out.lt
  go_wp2_with fail
  clear m0_0 m0_1 m0_2 m0_3 m0_4 m0_5 mlt0
  refine (HR2.out).mono ?_
  rintro e w5 ⟨rfl, hb⟩
  have L5 := Lib.hid (L4.out.trans (hb.mono L4.out.size))
  have K5_0 := Lib.hid (K4_0.out.below hb K4_0.out.lt)
  clear hb K4_0
  go_wp2
  go_ret
  exact ⟨rfl, L5.out⟩
set_option maxHeartbeats 4000000 in
theorem puts_yes (f t : Nat) (bb : Bool) (s a : Nat) (A : Option Addr) (dl cap : Nat) (d : List Int) (w : World) (hd : Dat w A dl cap d) (hL : Lz w) (hb : ¬ 5000 < dl) (hr : rgt ⟨f, t, bb, s, a, d⟩ = true) (hs : s < 18446744073709551616) (ha : a < 18446744073709551616) : Calls Tryd.prog 3 #[.agg #[.int .i64 (f : Int), .int .i64 (t : Int), .bool bb, .int .u64 (s : Int), .int .u64 (a : Int), .slice A dl cap]] w fun e w' => e = .returned (.bool true) ∧ Below w.heap.size w w' := by
  have hft : FmT ⟨f, t, bb, s, a, d⟩ := by
    obtain ⟨bf, bt, _⟩ := rgt_parts hr
    dsimp only at bf bt
    exact ⟨by dsimp only; omega, by dsimp only; omega, by dsimp only; omega, by dsimp only; omega⟩
  have hpg := put_isF hft hr
  have hby := seal_Byt (plF_Byt hr hd.rd.1)
  have hln : (sealed (plF ⟨f, t, bb, s, a, d⟩)).length = 27 + dl := by rw [seal_len, plF_len]; dsimp only; rw [hd.len]; omega
  have him := hpg.1
  have hgm := hpg.2
  have hrb : (nok (f : Int) t && bok bb (s : Int) dl) = true := by unfold rgt at hr; dsimp only at hr; rwa [hd.len] at hr
  have HL := Lib.hid hL; have HD := Lib.hid hd
  have hle := hd.le
  have hdl := hd.len
  have HBY := Lib.hid hby
  clear hL hd hpg hby hft
  have hbi : ¬ (5000 : Int) < dl := by omega
  have hput : ∀ w2, Below w.heap.size w w2 → Calls Tryd.prog 11 #[.agg #[.int .i64 (f : Int), .int .i64 (t : Int), .bool bb, .int .u64 (s : Int), .int .u64 (a : Int), .slice A dl cap]] w2 fun e w' => e = .returned (.string (strOfNums (sealed (plF ⟨f, t, bb, s, a, d⟩)))) ∧ Below w2.heap.size w2 w' := fun w2 h2 => rput_yes f t bb s a A dl cap d w2 (HD.out.below h2) hr hs ha
  have hput1 : ∀ w2, Below w.heap.size w w2 → Calls Tryd.prog 7 #[.agg #[.int .i64 (f : Int), .int .i64 (t : Int), .bool bb, .int .u64 (s : Int), .int .u64 (a : Int), .slice A dl cap]] w2 fun e w' => ∃ v, e = .returned (.tuple #[v, .int .i64 0]) ∧ OwnV w2.heap.size (sealed (plF ⟨f, t, bb, s, a, d⟩)) v w' ∧ Below w2.heap.size w2 w' := fun w2 h2 => put_yes16 f t bb s a A dl cap d w2 (HD.out.below h2) hr hs ha (HL.out.below h2).s (HL.out.below h2).m
  have hri : ∀ w2, Below w.heap.size w w2 → Calls Tryd.prog 9 #[.agg #[.int .i64 (f : Int), .int .i64 (t : Int), .bool bb, .int .u64 (s : Int), .int .u64 (a : Int), .slice A dl cap]] w2 fun e w' => e = .returned (.bool true) ∧ Below w2.heap.size w2 w' := fun w2 h2 => by
    have := right_any f t s a bb A dl cap w2 (by omega) hle
    rwa [hrb] at this
  have hrr : ∀ w2, Below w.heap.size w w2 → Calls Tryd.prog 8 #[.agg #[.int .i64 (f : Int), .int .i64 (t : Int), .bool bb, .int .u64 (s : Int), .int .u64 (a : Int), .slice A dl cap]] w2 fun e w' => e = .returned (.bool true) ∧ Below w2.heap.size w2 w' := fun w2 h2 => by
    have := rright_any f t s a bb A dl cap w2 (by omega) hle
    rwa [hrb] at this
  have HP := Lib.hid hput; have HP1 := Lib.hid hput1; have HRI := Lib.hid hri; have HRR := Lib.hid hrr; have HG := Lib.hid hgm; have HIM := Lib.hid him; have HLN := Lib.hid hln
  clear hput hput1 hri hrr hgm him hr hln hrb
  go_enter Tryd.func3, Tryd.ntmps3
  go_upto_region 1 with (fail)
  have nb0 : Blk (w.alloc (.cells #[.int .i64 (f : Int), .int .i64 (t : Int), .bool bb, .int .u64 (s : Int), .int .u64 (a : Int), .slice A dl cap] 25)) (w.heap.size) [.int .i64 (f : Int), .int .i64 (t : Int), .bool bb, .int .u64 (s : Int), .int .u64 (a : Int), .slice A dl cap] 25 := Blk.new w [.int .i64 (f : Int), .int .i64 (t : Int), .bool bb, .int .u64 (s : Int), .int .u64 (a : Int), .slice A dl cap] 25
  have nls : Below w.heap.size w w := (Below.refl w.heap.size w)
  have nl0 := nls.alloc nls.size (.cells #[.int .i64 (f : Int), .int .i64 (t : Int), .bool bb, .int .u64 (s : Int), .int .u64 (a : Int), .slice A dl cap] 25)
  have nl : Below w.heap.size w (w.alloc (.cells #[.int .i64 (f : Int), .int .i64 (t : Int), .bool bb, .int .u64 (s : Int), .int .u64 (a : Int), .slice A dl cap] 25)) := nl0; clear nls nl0
  obtain ⟨B1, hB0⟩ : ∃ B, B = w.heap.size := ⟨_, rfl⟩
  obtain ⟨W1, hW⟩ : ∃ W, W = (w.alloc (.cells #[.int .i64 (f : Int), .int .i64 (t : Int), .bool bb, .int .u64 (s : Int), .int .u64 (a : Int), .slice A dl cap] 25)) := ⟨_, rfl⟩
  rw [← hW] at nl nb0
  rw [← hB0] at nb0
  rw [← hW]
  try rw [← hB0]
  have K1_0 := Lib.hid nb0
  have G1 : Hid (w.heap.size ≤ B1) := Lib.hid (by have := (Nat.le_refl w.heap.size); omega)
  have L1 := Lib.hid nl
  clear nl hW nb0 hB0
  have m0_0 : W1.cell? ⟨B1, 0, none⟩ = some _ := K1_0.out.cell 0
  have m0_1 : W1.cell? ⟨B1, 1, none⟩ = some _ := K1_0.out.cell 1
  have m0_2 : W1.cell? ⟨B1, 2, none⟩ = some _ := K1_0.out.cell 2
  have m0_3 : W1.cell? ⟨B1, 3, none⟩ = some _ := K1_0.out.cell 3
  have m0_4 : W1.cell? ⟨B1, 4, none⟩ = some _ := K1_0.out.cell 4
  have m0_5 : W1.cell? ⟨B1, 5, none⟩ = some _ := K1_0.out.cell 5
  have mlt0 : B1 < W1.heap.size := K1_0.out.lt
  go_wp2_with fail
  clear m0_0 m0_1 m0_2 m0_3 m0_4 m0_5 mlt0
  refine (first16_any _ (HL.out.below L1.out)).mono ?_
  rintro e w2 ⟨rfl, hb⟩
  have L2 := Lib.hid (L1.out.trans (hb.mono L1.out.size))
  have K2_0 := Lib.hid (K1_0.out.below hb K1_0.out.lt)
  clear hb K1_0
  have m0_0 : w2.cell? ⟨B1, 0, none⟩ = some _ := K2_0.out.cell 0
  have m0_1 : w2.cell? ⟨B1, 1, none⟩ = some _ := K2_0.out.cell 1
  have m0_2 : w2.cell? ⟨B1, 2, none⟩ = some _ := K2_0.out.cell 2
  have m0_3 : w2.cell? ⟨B1, 3, none⟩ = some _ := K2_0.out.cell 3
  have m0_4 : w2.cell? ⟨B1, 4, none⟩ = some _ := K2_0.out.cell 4
  have m0_5 : w2.cell? ⟨B1, 5, none⟩ = some _ := K2_0.out.cell 5
  have mlt0 : B1 < w2.heap.size := K2_0.out.lt
  go_wp2_with fail
  clear m0_0 m0_1 m0_2 m0_3 m0_4 m0_5 mlt0
  refine (HP1.out _ L2.out).mono ?_
  rintro e w3 ⟨v1, rfl, ho1, hb⟩
  have L3 := Lib.hid (L2.out.trans (hb.mono L2.out.size))
  have K3_0 := Lib.hid (K2_0.out.below hb K2_0.out.lt)
  clear hb K2_0
  obtain ⟨A1, k1, rfl, hd1⟩ := ho1.dat HBY.out
  obtain ⟨PM, hPM⟩ : ∃ PM, PM = sealed (plF ⟨f, t, bb, s, a, d⟩) := ⟨_, rfl⟩
  rw [← hPM] at hd1 HG HIM HLN HP HBY ⊢
  obtain ⟨n1, hn1⟩ : ∃ n1, n1 = PM.length := ⟨_, rfl⟩
  rw [← hn1] at hd1 HLN ⊢
  have T0 := Lib.hid hd1
  clear hd1 ho1 hPM hn1 HP1
  have m0_0 : w3.cell? ⟨B1, 0, none⟩ = some _ := K3_0.out.cell 0
  have m0_1 : w3.cell? ⟨B1, 1, none⟩ = some _ := K3_0.out.cell 1
  have m0_2 : w3.cell? ⟨B1, 2, none⟩ = some _ := K3_0.out.cell 2
  have m0_3 : w3.cell? ⟨B1, 3, none⟩ = some _ := K3_0.out.cell 3
  have m0_4 : w3.cell? ⟨B1, 4, none⟩ = some _ := K3_0.out.cell 4
  have m0_5 : w3.cell? ⟨B1, 5, none⟩ = some _ := K3_0.out.cell 5
  have mlt0 : B1 < w3.heap.size := K3_0.out.lt
  go_wp2_with fail
  clear m0_0 m0_1 m0_2 m0_3 m0_4 m0_5 mlt0
  refine (HRR.out _ L3.out).mono ?_
  rintro e w4 ⟨rfl, hb⟩
  have L4 := Lib.hid (L3.out.trans (hb.mono L3.out.size))
  have K4_0 := Lib.hid (K3_0.out.below hb K3_0.out.lt)
  have T4_0 := Lib.hid (T0.out.below hb)
  clear T0
  clear hb K3_0
  go_wp2_with fail
  have hg := get_any A1 n1 k1 PM _ T4_0.out (HL.out.below L4.out).s (HL.out.below L4.out).m (by have := HLN.out; omega)
  rw [HG.out, HIM.out] at hg
  have HGG := Lib.hid hg; clear hg
  refine (HGG.out).mono ?_
  rintro e w5 ⟨⟨A2, k2, rfl, hd2⟩, hb⟩
  have L5 := Lib.hid (L4.out.trans (hb.mono L4.out.size))
  have K5_0 := Lib.hid (K4_0.out.below hb K4_0.out.lt)
  have T5_0 := Lib.hid (T4_0.out.below hb)
  clear T4_0
  clear hb K4_0
  have hdl2 : d.length = dl := hdl
  dsimp only at hd2 ⊢
  rw [hdl2] at hd2 ⊢
  have T9 := Lib.hid hd2; clear hd2 hdl2
  go_upto_region 9 with (fail)
  have dd0 : Dat (w5.alloc (.cells #[.int .i64 (f : Int), .int .i64 (t : Int), .bool bb, .int .u64 (s : Int), .int .u64 (a : Int), .slice A2 dl k2] 25)) A1 n1 k1 PM := (T5_0.out.below ((Below.refl _ _).alloc (Nat.le_refl _) _))
  have dd1 : Dat (w5.alloc (.cells #[.int .i64 (f : Int), .int .i64 (t : Int), .bool bb, .int .u64 (s : Int), .int .u64 (a : Int), .slice A2 dl k2] 25)) A2 dl k2 d := (T9.out.below ((Below.refl _ _).alloc (Nat.le_refl _) _))
  have nb0 : Blk (w5.alloc (.cells #[.int .i64 (f : Int), .int .i64 (t : Int), .bool bb, .int .u64 (s : Int), .int .u64 (a : Int), .slice A2 dl k2] 25)) (w5.heap.size) [.int .i64 (f : Int), .int .i64 (t : Int), .bool bb, .int .u64 (s : Int), .int .u64 (a : Int), .slice A2 dl k2] 25 := Blk.new w5 [.int .i64 (f : Int), .int .i64 (t : Int), .bool bb, .int .u64 (s : Int), .int .u64 (a : Int), .slice A2 dl k2] 25
  have nls : Below w.heap.size w w5 := L5.out
  have nl0 := nls.alloc nls.size (.cells #[.int .i64 (f : Int), .int .i64 (t : Int), .bool bb, .int .u64 (s : Int), .int .u64 (a : Int), .slice A2 dl k2] 25)
  have nl : Below w.heap.size w (w5.alloc (.cells #[.int .i64 (f : Int), .int .i64 (t : Int), .bool bb, .int .u64 (s : Int), .int .u64 (a : Int), .slice A2 dl k2] 25)) := nl0; clear nls nl0
  have o0 : Blk (w5.alloc (.cells #[.int .i64 (f : Int), .int .i64 (t : Int), .bool bb, .int .u64 (s : Int), .int .u64 (a : Int), .slice A2 dl k2] 25)) B1 [.int .i64 (f : Int), .int .i64 (t : Int), .bool bb, .int .u64 (s : Int), .int .u64 (a : Int), .slice A dl cap] 25 := (K5_0.out.alloc (.cells #[.int .i64 (f : Int), .int .i64 (t : Int), .bool bb, .int .u64 (s : Int), .int .u64 (a : Int), .slice A2 dl k2] 25))
  have d6_0 : B1 < w5.heap.size := K5_0.out.lt
  obtain ⟨B6, hB0⟩ : ∃ B, B = w5.heap.size := ⟨_, rfl⟩
  obtain ⟨W6, hW⟩ : ∃ W, W = (w5.alloc (.cells #[.int .i64 (f : Int), .int .i64 (t : Int), .bool bb, .int .u64 (s : Int), .int .u64 (a : Int), .slice A2 dl k2] 25)) := ⟨_, rfl⟩
  rw [← hW] at dd0
  have T6_0 := Lib.hid dd0
  rw [← hW] at dd1
  have T6_1 := Lib.hid dd1
  clear dd0 dd1 T5_0 T9
  rw [← hW] at nl nb0 o0
  rw [← hB0] at nb0
  rw [← hW]
  try rw [← hB0]
  have K6_0 := Lib.hid o0
  have K6_1 := Lib.hid nb0
  have G6 : Hid (w.heap.size ≤ B6) := Lib.hid (by have := L5.out.size; omega)
  have x6_0_0 : B1 ≠ B6 := by omega
  have X6_0_0 := Lib.hid x6_0_0; clear x6_0_0
  have L6 := Lib.hid nl
  clear nl hW nb0 hB0 o0 d6_0 K5_0
  have hdc : ∀ w2, Below W6.heap.size W6 w2 → (convert 23 9 (.slice A1 n1 k1)).run Tryd.prog w2 = .ok (.string (strOfNums PM)) w2 := fun w2 h => (T6_0.out.below h).rd.conv n1 k1 T6_0.out.len
  have HDC := Lib.hid hdc; clear hdc
  have lb0 := Below.refl W6.heap.size W6
  have LB := Lib.hid lb0; clear lb0
  refine wp_region_held_drew (S := fun w' => Blk w' B1 [.int .i64 (f : Int), .int .i64 (t : Int), .bool bb, .int .u64 (s : Int), .int .u64 (a : Int), .slice A dl cap] 25 ∧ Blk w' B6 [.int .i64 (f : Int), .int .i64 (t : Int), .bool bb, .int .u64 (s : Int), .int .u64 (a : Int), .slice A2 dl k2] 25 ∧ (convert 23 9 (.slice A1 n1 k1)).run Tryd.prog w' = .ok (.string (strOfNums PM)) w') (by kernel_rfl) ⟨K6_0.out, K6_1.out, HDC.out _ LB.out.drew⟩ (fun hHeld => ?_)
  clear hHeld
  have lb1 : Below W6.heap.size W6 W6.drew := LB.out.drew
  have dd0 : Dat W6.drew A1 n1 k1 PM := T6_0.out.drew
  have dd1 : Dat W6.drew A2 dl k2 d := T6_1.out.drew
  obtain ⟨D7, hD⟩ : ∃ x, x = W6.drew := ⟨_, rfl⟩
  rw [← hD] at lb1
  have LB1 := Lib.hid lb1
  clear lb1 LB
  rw [← hD] at dd0
  have T7_0 := Lib.hid dd0
  rw [← hD] at dd1
  have T7_1 := Lib.hid dd1
  clear dd0 dd1 T6_0 T6_1
  rw [← hD]
  have K7_0 := Lib.hid (show Blk D7 B1 [.int .i64 (f : Int), .int .i64 (t : Int), .bool bb, .int .u64 (s : Int), .int .u64 (a : Int), .slice A dl cap] 25 from hD ▸ Blk.drewN K6_0.out 1)
  have K7_1 := Lib.hid (show Blk D7 B6 [.int .i64 (f : Int), .int .i64 (t : Int), .bool bb, .int .u64 (s : Int), .int .u64 (a : Int), .slice A2 dl k2] 25 from hD ▸ Blk.drewN K6_1.out 1)
  have L7 := Lib.hid (show Below w.heap.size w D7 from hD ▸ L6.out.drew)
  clear hD K6_0 K6_1
  have hSD : Blk D7 B1 [.int .i64 (f : Int), .int .i64 (t : Int), .bool bb, .int .u64 (s : Int), .int .u64 (a : Int), .slice A dl cap] 25 ∧ Blk D7 B6 [.int .i64 (f : Int), .int .i64 (t : Int), .bool bb, .int .u64 (s : Int), .int .u64 (a : Int), .slice A2 dl k2] 25 ∧ (convert 23 9 (.slice A1 n1 k1)).run Tryd.prog D7 = .ok (.string (strOfNums PM)) D7 := ⟨K7_0.out, K7_1.out, HDC.out _ LB1.out⟩
  simp only [List.size_toArray, List.length_cons, List.length_nil, Nat.reduceAdd]
  rw [show Array.replicate 27 false = [false, false, false, false, false, false, false, false, false, false, false, false, false, false, false, false, false, false, false, false, false, false, false, false, false, false, false].toArray from rfl]
  refine wpAnyH_take (i := 0) (v := _) rfl (by kernel_rfl) (by kernel_rfl) (by kernel_rfl) (fun _ _ _ h => h) (Or.inl ⟨by rfl, fun w hSw => yield_f16 _ _ _ rfl rfl hSw.1⟩) (by assumption) ?_
  try simp only [Act.put, List.setIfInBounds_toArray, List.set_cons_zero, List.set_cons_succ, List.getElem_toArray, List.getElem_cons_succ, List.getElem_cons_zero]
  refine wpAnyH_ready (rs := [1]) (by kernel_rfl) (by simp) ?_
  refine AllReadyH.cons rfl (fun K hK => ?_) AllReadyH.nil
  go_simp
  refine (HRI.out _ L7.out).mono ?_
  rintro e w8 ⟨rfl, hb⟩
  have L8 := Lib.hid (L7.out.trans (hb.mono L7.out.size))
  have K8_0 := Lib.hid (K7_0.out.below hb K7_0.out.lt)
  have K8_1 := Lib.hid (K7_1.out.below hb K7_1.out.lt)
  have T8_0 := Lib.hid (T7_0.out.below hb)
  have T8_1 := Lib.hid (T7_1.out.below hb)
  clear T7_0 T7_1
  have LB1n := Lib.hid (LB1.out.trans (hb.mono LB1.out.size))
  clear LB1
  clear hb K7_0 K7_1
  refine hK.out _ _ ⟨K8_0.out, K8_1.out, HDC.out _ LB1n.out⟩ (fun hS1 => ?_)
  clear hK K
  refine wpAnyH_take (i := 2) (v := ?_) rfl (by kernel_rfl) (by kernel_rfl) (by kernel_rfl) (fun _ _ _ h => h) (Or.inl ⟨by rfl, ?yldq⟩) (by assumption) ?_
  case yldq => (intro w hSw; (try dsimp only at hSw); go_simp; try with_reducible rfl)
  try simp only [Act.put, List.setIfInBounds_toArray, List.set_cons_zero, List.set_cons_succ, List.getElem_toArray, List.getElem_cons_succ, List.getElem_cons_zero]
  refine wpAnyH_take (i := 3) (v := ?_) rfl (by kernel_rfl) (by kernel_rfl) (by kernel_rfl) (fun _ _ _ h => h) (Or.inl ⟨by rfl, ?yldq⟩) (by assumption) ?_
  case yldq => (intro w hSw; (try dsimp only at hSw); go_simp; try with_reducible rfl)
  try simp only [Act.put, List.setIfInBounds_toArray, List.set_cons_zero, List.set_cons_succ, List.getElem_toArray, List.getElem_cons_succ, List.getElem_cons_zero]
  refine wpAnyH_take (i := 4) (v := ?_) rfl (by kernel_rfl) (by kernel_rfl) (by kernel_rfl) (fun _ _ _ h => h) (Or.inl ⟨by rfl, ?yldq⟩) (by assumption) ?_
  case yldq => (intro w hSw; (try dsimp only at hSw); go_simp; try with_reducible rfl)
  try simp only [Act.put, List.setIfInBounds_toArray, List.set_cons_zero, List.set_cons_succ, List.getElem_toArray, List.getElem_cons_succ, List.getElem_cons_zero]
  refine wpAnyH_take (i := 5) (v := ?_) rfl (by kernel_rfl) (by kernel_rfl) (by kernel_rfl) (fun _ _ _ h => h) (Or.inl ⟨by rfl, ?yldq⟩) (by assumption) ?_
  case yldq => (intro w hSw; (try dsimp only at hSw); go_simp; try with_reducible rfl)
  try simp only [Act.put, List.setIfInBounds_toArray, List.set_cons_zero, List.set_cons_succ, List.getElem_toArray, List.getElem_cons_succ, List.getElem_cons_zero]
  refine wpAnyH_take (i := 6) (v := ?_) rfl (by kernel_rfl) (by kernel_rfl) (by kernel_rfl) (fun _ _ _ h => h) (Or.inl ⟨by rfl, ?yldq⟩) (by assumption) ?_
  case yldq => (intro w hSw; (try dsimp only at hSw); go_simp; try with_reducible rfl)
  try simp only [Act.put, List.setIfInBounds_toArray, List.set_cons_zero, List.set_cons_succ, List.getElem_toArray, List.getElem_cons_succ, List.getElem_cons_zero]
  refine wpAnyH_take (i := 7) (v := ?_) rfl (by kernel_rfl) (by kernel_rfl) (by kernel_rfl) (fun _ _ _ h => h) (Or.inl ⟨by rfl, ?yldq⟩) (by assumption) ?_
  case yldq => (intro w hSw; (try dsimp only at hSw); go_simp; try with_reducible rfl)
  try simp only [Act.put, List.setIfInBounds_toArray, List.set_cons_zero, List.set_cons_succ, List.getElem_toArray, List.getElem_cons_succ, List.getElem_cons_zero]
  refine wpAnyH_take (i := 8) (v := ?_) rfl (by kernel_rfl) (by kernel_rfl) (by kernel_rfl) (fun _ _ _ h => h) (Or.inl ⟨by rfl, ?yldq⟩) (by assumption) ?_
  case yldq => (intro w hSw; (try dsimp only at hSw); go_simp; try with_reducible rfl)
  try simp only [Act.put, List.setIfInBounds_toArray, List.set_cons_zero, List.set_cons_succ, List.getElem_toArray, List.getElem_cons_succ, List.getElem_cons_zero]
  refine wpAnyH_take (i := 9) (v := _) rfl (by kernel_rfl) (by kernel_rfl) (by kernel_rfl) (fun _ _ _ h => h) (Or.inl ⟨by rfl, fun w hSw => yield_f16 _ _ _ rfl rfl hSw.1⟩) (by assumption) ?_
  try simp only [Act.put, List.setIfInBounds_toArray, List.set_cons_zero, List.set_cons_succ, List.getElem_toArray, List.getElem_cons_succ, List.getElem_cons_zero]
  refine wpAnyH_ready (rs := [10]) (by kernel_rfl) (by simp) ?_
  refine AllReadyH.cons rfl (fun K hK => ?_) AllReadyH.nil
  go_simp
  refine (HP.out _ L8.out).mono ?_
  rintro e w9 ⟨rfl, hb⟩
  have L9 := Lib.hid (L8.out.trans (hb.mono L8.out.size))
  have K9_0 := Lib.hid (K8_0.out.below hb K8_0.out.lt)
  have K9_1 := Lib.hid (K8_1.out.below hb K8_1.out.lt)
  have T9_0 := Lib.hid (T8_0.out.below hb)
  have T9_1 := Lib.hid (T8_1.out.below hb)
  clear T8_0 T8_1
  have LB1nn := Lib.hid (LB1n.out.trans (hb.mono LB1n.out.size))
  clear LB1n
  clear hb K8_0 K8_1
  refine hK.out _ _ ⟨K9_0.out, K9_1.out, HDC.out _ LB1nn.out⟩ (fun hS10 => ?_)
  clear hK K
  refine wpAnyH_take (i := 11) (v := ?_) rfl (by kernel_rfl) (by kernel_rfl) (by kernel_rfl) (fun _ _ _ h => h) (Or.inl ⟨by rfl, ?yldq⟩) (by assumption) ?_
  case yldq => (intro w hSw; (try dsimp only at hSw); go_simp; try with_reducible rfl)
  try simp only [Act.put, List.setIfInBounds_toArray, List.set_cons_zero, List.set_cons_succ, List.getElem_toArray, List.getElem_cons_succ, List.getElem_cons_zero]
  refine wpAnyH_take (i := 12) (v := ?_) rfl (by kernel_rfl) (by kernel_rfl) (by kernel_rfl) (fun _ _ _ h => h) (Or.inl ⟨by rfl, ?yldq⟩) (by assumption) ?_
  case yldq => (intro w hSw; (try dsimp only at hSw); go_simp; try with_reducible rfl)
  try simp only [Act.put, List.setIfInBounds_toArray, List.set_cons_zero, List.set_cons_succ, List.getElem_toArray, List.getElem_cons_succ, List.getElem_cons_zero]
  refine wpAnyH_take (i := 13) (v := ?_) rfl (by kernel_rfl) (by kernel_rfl) (by kernel_rfl) (fun _ _ _ h => h) (Or.inl ⟨by rfl, ?yldq⟩) (by assumption) ?_
  case yldq => (intro w hSw; (try dsimp only at hSw); go_simp; try with_reducible rfl)
  try simp only [Act.put, List.setIfInBounds_toArray, List.set_cons_zero, List.set_cons_succ, List.getElem_toArray, List.getElem_cons_succ, List.getElem_cons_zero]
  refine wpAnyH_take (i := 14) (v := ?_) rfl (by kernel_rfl) (by kernel_rfl) (by kernel_rfl) (fun _ _ _ h => h) (Or.inl ⟨by rfl, ?yldq⟩) (by assumption) ?_
  case yldq => (intro w hSw; (try dsimp only at hSw); go_simp; try with_reducible rfl)
  try simp only [Act.put, List.setIfInBounds_toArray, List.set_cons_zero, List.set_cons_succ, List.getElem_toArray, List.getElem_cons_succ, List.getElem_cons_zero]
  refine wpAnyH_take (i := 15) (v := ?_) rfl (by kernel_rfl) (by kernel_rfl) (by kernel_rfl) (fun _ _ _ h => h) (Or.inl ⟨by rfl, ?yldq⟩) (by assumption) ?_
  case yldq => (intro w hSw; (try dsimp only at hSw); go_simp; try with_reducible rfl)
  try simp only [Act.put, List.setIfInBounds_toArray, List.set_cons_zero, List.set_cons_succ, List.getElem_toArray, List.getElem_cons_succ, List.getElem_cons_zero]
  refine wpAnyH_take (i := 16) (v := ?_) rfl (by kernel_rfl) (by kernel_rfl) (by kernel_rfl) (fun _ _ _ h => h) (Or.inl ⟨by rfl, ?yldq⟩) (by assumption) ?_
  case yldq => (intro w hSw; (try dsimp only at hSw); go_simp; try with_reducible rfl)
  try simp only [Act.put, List.setIfInBounds_toArray, List.set_cons_zero, List.set_cons_succ, List.getElem_toArray, List.getElem_cons_succ, List.getElem_cons_zero]
  refine wpAnyH_take (i := 17) (v := _) rfl (by kernel_rfl) (by kernel_rfl) (by kernel_rfl) (fun _ _ _ h => h) (Or.inl ⟨by rfl, fun w hSw => yield_f16 _ _ _ rfl rfl hSw.2.1⟩) (by assumption) ?_
  try simp only [Act.put, List.setIfInBounds_toArray, List.set_cons_zero, List.set_cons_succ, List.getElem_toArray, List.getElem_cons_succ, List.getElem_cons_zero]
  refine wpAnyH_take (i := 18) (v := _) rfl (by kernel_rfl) (by kernel_rfl) (by kernel_rfl) (fun _ _ _ h => h) (Or.inl ⟨by rfl, fun w hSw => yield_f16 _ _ _ rfl rfl hSw.1⟩) (by assumption) ?_
  try simp only [Act.put, List.setIfInBounds_toArray, List.set_cons_zero, List.set_cons_succ, List.getElem_toArray, List.getElem_cons_succ, List.getElem_cons_zero]
  have hsm := rsame_any (f : Int) t bb s a (f : Int) t bb s a A2 A dl k2 dl cap d d _ T9_1.out (HD.out.below L9.out)
  rw [sameF_refl] at hsm
  have Hrsame_any := Lib.hid hsm; clear hsm
  refine wpAnyH_ready (rs := [19]) (by kernel_rfl) (by simp) ?_
  refine AllReadyH.cons rfl (fun K hK => ?_) AllReadyH.nil
  go_simp
  refine (Hrsame_any.out).mono ?_
  rintro e w10 ⟨rfl, hb⟩
  have L10 := Lib.hid (L9.out.trans (hb.mono L9.out.size))
  have K10_0 := Lib.hid (K9_0.out.below hb K9_0.out.lt)
  have K10_1 := Lib.hid (K9_1.out.below hb K9_1.out.lt)
  have T10_0 := Lib.hid (T9_0.out.below hb)
  have T10_1 := Lib.hid (T9_1.out.below hb)
  clear T9_0 T9_1
  have LB1nnn := Lib.hid (LB1nn.out.trans (hb.mono LB1nn.out.size))
  clear LB1nn
  clear hb K9_0 K9_1
  refine hK.out _ _ ⟨K10_0.out, K10_1.out, HDC.out _ LB1nnn.out⟩ (fun hS19 => ?_)
  clear hK K
  refine wpAnyH_take (i := 20) (v := ?_) rfl (by kernel_rfl) (by kernel_rfl) (by kernel_rfl) (fun _ _ _ h => h) (Or.inl ⟨by rfl, ?yldq⟩) (by assumption) ?_
  case yldq => (intro w hSw; (try dsimp only at hSw); go_simp; try with_reducible rfl)
  try simp only [Act.put, List.setIfInBounds_toArray, List.set_cons_zero, List.set_cons_succ, List.getElem_toArray, List.getElem_cons_succ, List.getElem_cons_zero]
  refine wpAnyH_take (i := 21) (v := ?_) rfl (by kernel_rfl) (by kernel_rfl) (by kernel_rfl) (fun _ _ _ h => h) (Or.inl ⟨by rfl, ?yldq⟩) (by assumption) ?_
  case yldq => (intro w hSw; (try dsimp only at hSw); go_simp; try with_reducible rfl)
  try simp only [Act.put, List.setIfInBounds_toArray, List.set_cons_zero, List.set_cons_succ, List.getElem_toArray, List.getElem_cons_succ, List.getElem_cons_zero]
  refine wpAnyH_take (i := 22) (v := _) rfl (by kernel_rfl) (by kernel_rfl) (by kernel_rfl) (fun _ _ _ h => h) (Or.inl ⟨by rfl, fun w hSw => yield_f16 _ _ _ rfl rfl hSw.2.1⟩) (by assumption) ?_
  try simp only [Act.put, List.setIfInBounds_toArray, List.set_cons_zero, List.set_cons_succ, List.getElem_toArray, List.getElem_cons_succ, List.getElem_cons_zero]
  refine wpAnyH_take (i := 23) (v := _) rfl (by kernel_rfl) (by kernel_rfl) (by kernel_rfl) (fun _ _ _ h => h) (Or.inl ⟨by rfl, fun w hSw => yield_f16 _ _ _ rfl rfl hSw.1⟩) (by assumption) ?_
  try simp only [Act.put, List.setIfInBounds_toArray, List.set_cons_zero, List.set_cons_succ, List.getElem_toArray, List.getElem_cons_succ, List.getElem_cons_zero]
  have hsm := same_any (f : Int) t bb s a (f : Int) t bb s a A2 A dl k2 dl cap d d _ T10_1.out (HD.out.below L10.out)
  rw [sameF_refl] at hsm
  have Hsame_any := Lib.hid hsm; clear hsm
  refine wpAnyH_ready (rs := [24]) (by kernel_rfl) (by simp) ?_
  refine AllReadyH.cons rfl (fun K hK => ?_) AllReadyH.nil
  go_simp
  refine (Hsame_any.out).mono ?_
  rintro e w11 ⟨rfl, hb⟩
  have L11 := Lib.hid (L10.out.trans (hb.mono L10.out.size))
  have K11_0 := Lib.hid (K10_0.out.below hb K10_0.out.lt)
  have K11_1 := Lib.hid (K10_1.out.below hb K10_1.out.lt)
  have T11_0 := Lib.hid (T10_0.out.below hb)
  have T11_1 := Lib.hid (T10_1.out.below hb)
  clear T10_0 T10_1
  have LB1nnnn := Lib.hid (LB1nnn.out.trans (hb.mono LB1nnn.out.size))
  clear LB1nnn
  clear hb K10_0 K10_1
  refine hK.out _ _ ⟨K11_0.out, K11_1.out, HDC.out _ LB1nnnn.out⟩ (fun hS24 => ?_)
  clear hK K
  refine wpAnyH_take (i := 25) (v := ?_) rfl (by kernel_rfl) (by kernel_rfl) (by kernel_rfl) (fun _ _ _ h => h) (Or.inl ⟨by rfl, ?yldq⟩) (by assumption) ?_
  case yldq => (intro w hSw; (try dsimp only at hSw); go_simp; try with_reducible rfl)
  try simp only [Act.put, List.setIfInBounds_toArray, List.set_cons_zero, List.set_cons_succ, List.getElem_toArray, List.getElem_cons_succ, List.getElem_cons_zero]
  refine wpAnyH_take (i := 26) (v := ?_) rfl (by kernel_rfl) (by kernel_rfl) (by kernel_rfl) (fun _ _ _ h => h) (Or.inl ⟨by rfl, ?yldq⟩) (by assumption) ?_
  case yldq => (intro w hSw; (try dsimp only at hSw); go_simp; try with_reducible rfl)
  try simp only [Act.put, List.setIfInBounds_toArray, List.set_cons_zero, List.set_cons_succ, List.getElem_toArray, List.getElem_cons_succ, List.getElem_cons_zero]
  refine wpAnyH_done (by kernel_rfl) ?_ _
  go_wp2
  go_ret
  exact ⟨rfl, L11.out⟩
theorem puts_walk (m : Fm) (A : Option Addr) (dl cap : Nat) (w : World) (ht : FmT m) (hd : Dat w A dl cap m.d) (hL : Lz w) : Calls Tryd.prog 3 #[.agg #[.int .i64 m.f, .int .i64 m.t, .bool m.b, .int .u64 m.s, .int .u64 m.a, .slice A dl cap]] w fun e w' => e = .returned (.bool true) ∧ Below w.heap.size w w' := by
  obtain ⟨f, t, bb, s, a, d⟩ := m
  have hs := ht.s
  have ha := ht.a
  dsimp only at hd hs ha ⊢
  by_cases hb : 5000 < dl
  · exact puts_big f t bb s a A dl cap w hd.le hs.1 hL hb
  · cases hr : rgt ⟨f, t, bb, s, a, d⟩
    · exact puts_no f t bb s a A dl cap w hd.le hs.1 hL hb (by unfold rgt at hr; dsimp only at hr; rwa [hd.len] at hr)
    · have hq := rgt_parts hr
      dsimp only at hq
      obtain ⟨f, rfl⟩ : ∃ x : Nat, f = x := ⟨f.toNat, by omega⟩
      obtain ⟨t, rfl⟩ : ∃ x : Nat, t = x := ⟨t.toNat, by omega⟩
      obtain ⟨s, rfl⟩ : ∃ x : Nat, s = x := ⟨s.toNat, by omega⟩
      obtain ⟨a, rfl⟩ : ∃ x : Nat, a = x := ⟨a.toNat, by omega⟩
      exact puts_yes f t bb s a A dl cap d w hd hL hb hr (by omega) (by omega)
end Go.Proofs.YtmdfopbigkfbnaaDoor
