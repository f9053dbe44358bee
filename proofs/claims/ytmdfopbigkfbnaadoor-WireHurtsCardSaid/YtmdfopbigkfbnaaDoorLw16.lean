/-
  Layer 16's laws: what they ask first. The two tables that they read are as the program's text lays them; else no condition.
-/
import Derived.Test.YtmdfopbigkfbnaaDoorRg16
import Derived.Test.YtmdfopbigkfbnaaDoorGt16
import Derived.Test.YtmdfopbigkfbnaaDoorSam16
import Derived.Test.YtmdfopbigkfbnaaDoorRows
import Derived.MakeChecks
import Derived.Lib.LaidTab
import Derived.Stop.LaidErr
import Derived.Lib.SmallJoins
namespace Go.Proofs.YtmdfopbigkfbnaaDoor
open Go.RowKit
set_option linter.unusedVariables false
set_option linter.unusedSimpArgs false
attribute [local go_sem] setCell_drewN alloc_drewN

/-- the two tables -/
structure Lz (w : World) : Prop where
  s : Szs w
  m : Mv w
theorem Lz.below {w w' : World} (h : Lz w) (hb : Below w.heap.size w w') : Lz w' := ⟨h.s.below hb, h.m.below hb⟩
theorem tz_of_laid (laid : List (String × DataW Unit)) {W : World} (he : laid = Rows.wirePutsRow.laid) (h : laidMetH Tryd.prog laid W) : Lz W := by
  subst he
  rw [MakeChecks.laidMetH_plain _ _ _ (by kernel_rfl)] at h
  have g1 : Tryd.prog.globalNamed "runrig/check.moved" = some 1 := by kernel_rfl
  have t1 : (Tryd.prog.globals[1]?).map (·.type) = some 58 := by kernel_rfl
  have h1 : Lib.TabIs Tryd.prog W "runrig/check.moved" .u32 (mvd.map Int.ofNat) := Lib.tabIs_of_head g1 t1 Tryd.underlying58 Tryd.underlying51 (by kernel_rfl) (by kernel_rfl) h
  have h2 := laidMet.tail (show laidMet Tryd.prog [("runrig/check.moved", Rows.laid_runrig_check_moved), ("runrig/wire.sizes", Rows.laid_runrig_wire_sizes)] W from h)
  have g2 : Tryd.prog.globalNamed "runrig/wire.sizes" = some 0 := by kernel_rfl
  have t2 : (Tryd.prog.globals[0]?).map (·.type) = some 42 := by kernel_rfl
  have h2' : Lib.TabIs Tryd.prog W "runrig/wire.sizes" .i64 [2, 1, 1, 1, 8, 8, 2] := Lib.tabIs_of_head g2 t2 Tryd.underlying42 Tryd.underlying3 (by kernel_rfl) (by kernel_rfl) h2
  refine ⟨fun i hi => ?_, fun i hi => ?_⟩
  · rw [h2'.cell g2 i hi]
    match i, hi with
    | 0, _ | 1, _ | 2, _ | 3, _ | 4, _ | 5, _ | 6, _ => rfl
  · rw [h1.cell g1 i hi]
    refine congrArg some (int_eq ?_)
    have hl : i < mvd.length := hi
    rw [List.getD_eq_getElem?_getD, List.getElem?_map, List.getD_eq_getElem?_getD, List.getElem?_eq_getElem hl]; rfl
theorem dat_lit (w : World) (cs : List Int) (n : Nat) (fr : Nat × Nat) (h : Byt cs) (hn : cs.length = n) (hm : n ≤ 9223372036854775807) : Dat (w.alloc (.cells (cs.map (Value.int .u8)).toArray 5 fr)) (some ⟨w.heap.size, 0, none⟩) n n cs := by
  subst hn
  refine ⟨⟨h, hm, fun _ => ⟨w.heap.size, 0, rfl, fun i hi => ?_⟩⟩, rfl, fun e => (by cases e), Nat.le_refl _⟩
  rw [Nat.zero_add, cell_of_row (w.alloc (.cells (cs.map (Value.int .u8)).toArray 5 fr)) w.heap.size i _ 5 fr (heap_alloc_new w _)]
  simp [List.getD_eq_getElem?_getD, hi]
def f16 : Fm := ⟨(1 : Nat), (2 : Nat), true, (9 : Nat), (3 : Nat), [97, 98]⟩
theorem f16_T : FmT f16 := ⟨by decide, by decide, by decide, by decide⟩
theorem f16_r : rgt f16 = true := by decide
theorem ab_b : Byt [97, 98] := by intro x hx; simp at hx; omega
def ls16 : List Int := sealed (plF f16)
theorem ls16_len : ls16.length = 29 := by unfold ls16; rw [seal_len, plF_len]; rfl
theorem ls16_six : ls16.take 6 = [82, 82, 1, 1, 2, 9] := by unfold ls16 sealed; rw [List.take_append_of_le_length (by rw [plF_len]; decide)]; decide
theorem ls16_b : Byt ls16 := seal_Byt (plF_Byt f16_r ab_b)
theorem c1_16 (A : Option Addr) (w : World) (hd : Dat w A 2 2 [97, 98]) (hL : Lz w) : Calls Tryd.prog 7 #[.agg #[.int .i64 1, .int .i64 2, .bool true, .int .u64 9, .int .u64 3, .slice A 2 2]] w fun e w' => ∃ v, e = .returned (.tuple #[v, .int .i64 0]) ∧ OwnV w.heap.size ls16 v w' ∧ Below w.heap.size w w' :=
  put_yes16 1 2 true 9 3 A 2 2 [97, 98] w hd f16_r (by decide) (by decide) hL.s hL.m
theorem c2_16 (A : Option Addr) (cap : Nat) (w : World) (hd : Dat w A 29 cap ls16) (hL : Lz w) : Calls Tryd.prog 10 #[.slice A 29 cap] w fun e w' => (∃ A2 cap2, e = .returned (.tuple #[.agg #[.int .i64 1, .int .i64 2, .bool true, .int .u64 9, .int .u64 3, .slice A2 2 cap2], .bool true]) ∧ Dat w' A2 2 cap2 [97, 98]) ∧ Below w.heap.size w w' := by
  have h := get_any A 29 cap ls16 w hd hL.s hL.m (by decide)
  have h1 := put_isF f16_T f16_r
  rw [show sealed (plF f16) = ls16 from rfl] at h1
  rw [h1.1, h1.2] at h
  exact h
theorem c3_16 (w : World) : Calls Tryd.prog 7 #[.agg #[.int .i64 1, .int .i64 1, .bool false, .int .u64 0, .int .u64 0, .slice none 0 0]] w fun e w' => e = .returned (.tuple #[.slice none 0 0, .int .i64 2]) ∧ Below w.heap.size w w' :=
  put_no16 1 1 false 0 0 none 0 0 w (by decide) (by decide) (by decide)
theorem c4_16 (A A2 : Option Addr) (k k2 : Nat) (w : World) (hd : Dat w A 2 k [97, 98]) (hd2 : Dat w A2 2 k2 [97, 98]) : Calls Tryd.prog 13 #[.agg #[.int .i64 1, .int .i64 2, .bool true, .int .u64 9, .int .u64 3, .slice A 2 k], .agg #[.int .i64 1, .int .i64 2, .bool true, .int .u64 9, .int .u64 3, .slice A2 2 k2]] w fun e w' => e = .returned (.bool true) ∧ Below w.heap.size w w' := by
  have h := same_any 1 2 true 9 3 1 2 true 9 3 A A2 2 k 2 k2 [97, 98] [97, 98] w hd hd2
  rwa [sameF_refl] at h
set_option maxHeartbeats 4000000 in
theorem first16_any (w : World) (hL : Lz w) : Calls Tryd.prog 6 #[] w fun e w' => e = .returned (.bool true) ∧ Below w.heap.size w w' := by
  have HL := Lib.hid hL; clear hL
  have kc := fun (w : World) (C : Array Value) (n c : Nat) => Lib.run_convert_bytes_const (P := Tryd.prog) w 23 5 C n c Tryd.underlying23 Tryd.underlying5
  go_enter Tryd.func6, Tryd.ntmps6
  go_upto_region 2 with (fail)
  have b1 : Below w.heap.size w (w.alloc (.cells #[.int .u8 97, .int .u8 98] 5 (2, 3))) := (Below.refl _ _).alloc (Nat.le_refl _) _
  have hd1 : Dat (w.alloc (.cells #[.int .u8 97, .int .u8 98] 5 (2, 3))) (some ⟨w.heap.size, 0, none⟩) 2 2 [97, 98] := dat_lit w [97, 98] 2 (2, 3) ab_b rfl (by decide)
  have hs1 : (w.alloc (.cells #[.int .u8 97, .int .u8 98] 5 (2, 3))).heap.size = w.heap.size + 1 := by simp
  obtain ⟨w1, hw1⟩ : ∃ W, W = w.alloc (.cells #[.int .u8 97, .int .u8 98] 5 (2, 3)) := ⟨_, rfl⟩
  rw [← hw1] at b1 hd1 hs1 ⊢
  rw [← hs1]
  obtain ⟨g, hg⟩ : ∃ g, g = w.heap.size := ⟨_, rfl⟩
  rw [← hg] at hd1 ⊢
  have L1 := Lib.hid b1; have T0 := Lib.hid hd1
  clear b1 hd1 hs1 hw1 hg kc
  have dd0 : Dat (w1.alloc (.cells #[.int .i64 1, .int .i64 2, .bool true, .int .u64 9, .int .u64 3, .slice (some ⟨g, 0, none⟩) 2 2] 25)) (some ⟨g, 0, none⟩) 2 2 [97, 98] := (T0.out.below ((Below.refl _ _).alloc (Nat.le_refl _) _))
  have nb0 : Blk (w1.alloc (.cells #[.int .i64 1, .int .i64 2, .bool true, .int .u64 9, .int .u64 3, .slice (some ⟨g, 0, none⟩) 2 2] 25)) (w1.heap.size) [.int .i64 1, .int .i64 2, .bool true, .int .u64 9, .int .u64 3, .slice (some ⟨g, 0, none⟩) 2 2] 25 := Blk.new w1 [.int .i64 1, .int .i64 2, .bool true, .int .u64 9, .int .u64 3, .slice (some ⟨g, 0, none⟩) 2 2] 25
  have nls : Below w.heap.size w w1 := L1.out
  have nl0 := nls.alloc nls.size (.cells #[.int .i64 1, .int .i64 2, .bool true, .int .u64 9, .int .u64 3, .slice (some ⟨g, 0, none⟩) 2 2] 25)
  have nl : Below w.heap.size w (w1.alloc (.cells #[.int .i64 1, .int .i64 2, .bool true, .int .u64 9, .int .u64 3, .slice (some ⟨g, 0, none⟩) 2 2] 25)) := nl0; clear nls nl0
  obtain ⟨B2, hB0⟩ : ∃ B, B = w1.heap.size := ⟨_, rfl⟩
  obtain ⟨W2, hW⟩ : ∃ W, W = (w1.alloc (.cells #[.int .i64 1, .int .i64 2, .bool true, .int .u64 9, .int .u64 3, .slice (some ⟨g, 0, none⟩) 2 2] 25)) := ⟨_, rfl⟩
  rw [← hW] at dd0
  have T2_0 := Lib.hid dd0
  clear dd0 T0
  rw [← hW] at nl nb0
  rw [← hB0] at nb0
  rw [← hW]
  try rw [← hB0]
  have K2_0 := Lib.hid nb0
  have G2 : Hid (w.heap.size ≤ B2) := Lib.hid (by have := L1.out.size; omega)
  have L2 := Lib.hid nl
  clear nl hW nb0 hB0
  have m0_0 : W2.cell? ⟨B2, 0, none⟩ = some _ := K2_0.out.cell 0
  have m0_1 : W2.cell? ⟨B2, 1, none⟩ = some _ := K2_0.out.cell 1
  have m0_2 : W2.cell? ⟨B2, 2, none⟩ = some _ := K2_0.out.cell 2
  have m0_3 : W2.cell? ⟨B2, 3, none⟩ = some _ := K2_0.out.cell 3
  have m0_4 : W2.cell? ⟨B2, 4, none⟩ = some _ := K2_0.out.cell 4
  have m0_5 : W2.cell? ⟨B2, 5, none⟩ = some _ := K2_0.out.cell 5
  have mlt0 : B2 < W2.heap.size := K2_0.out.lt
  go_wp2_with fail
  clear m0_0 m0_1 m0_2 m0_3 m0_4 m0_5 mlt0
  refine (c1_16 _ _ T2_0.out (HL.out.below L2.out)).mono ?_
  rintro e w3 ⟨v1, rfl, ho1, hb⟩
  have L3 := Lib.hid (L2.out.trans (hb.mono L2.out.size))
  have K3_0 := Lib.hid (K2_0.out.below hb K2_0.out.lt)
  have T3_0 := Lib.hid (T2_0.out.below hb)
  clear T2_0
  clear hb K2_0
  obtain ⟨A1, k1, rfl, hd1⟩ := ho1.dat ls16_b
  rw [ls16_len] at hd1 ⊢
  obtain ⟨b1, o1, rfl, -⟩ := hd1.rd.2.2 (by rw [ls16_len]; decide)
  have T1 := Lib.hid hd1; have hk1 := hd1.lc
  clear hd1 ho1
  go_wp2_with fail
  refine (c2_16 _ _ _ T1.out (HL.out.below L3.out)).mono ?_
  rintro e w4 ⟨⟨A2, k2, rfl, hd2⟩, hb⟩
  have L4 := Lib.hid (L3.out.trans (hb.mono L3.out.size))
  have K4_0 := Lib.hid (K3_0.out.below hb K3_0.out.lt)
  have T4_0 := Lib.hid (T3_0.out.below hb)
  have T4_1 := Lib.hid (T1.out.below hb)
  clear T3_0 T1
  clear hb K3_0
  have T2 := Lib.hid hd2; clear hd2
  go_upto_region 4 with (fail)
  have dd0 : Dat (w4.alloc (.cells #[.int .i64 1, .int .i64 2, .bool true, .int .u64 9, .int .u64 3, .slice A2 2 k2] 25)) (some ⟨g, 0, none⟩) 2 2 [97, 98] := (T4_0.out.below ((Below.refl _ _).alloc (Nat.le_refl _) _))
  have dd1 : Dat (w4.alloc (.cells #[.int .i64 1, .int .i64 2, .bool true, .int .u64 9, .int .u64 3, .slice A2 2 k2] 25)) (some ⟨b1, o1, none⟩) 29 k1 ls16 := (T4_1.out.below ((Below.refl _ _).alloc (Nat.le_refl _) _))
  have dd2 : Dat (w4.alloc (.cells #[.int .i64 1, .int .i64 2, .bool true, .int .u64 9, .int .u64 3, .slice A2 2 k2] 25)) A2 2 k2 [97, 98] := (T2.out.below ((Below.refl _ _).alloc (Nat.le_refl _) _))
  have nb0 : Blk (w4.alloc (.cells #[.int .i64 1, .int .i64 2, .bool true, .int .u64 9, .int .u64 3, .slice A2 2 k2] 25)) (w4.heap.size) [.int .i64 1, .int .i64 2, .bool true, .int .u64 9, .int .u64 3, .slice A2 2 k2] 25 := Blk.new w4 [.int .i64 1, .int .i64 2, .bool true, .int .u64 9, .int .u64 3, .slice A2 2 k2] 25
  have nls : Below w.heap.size w w4 := L4.out
  have nl0 := nls.alloc nls.size (.cells #[.int .i64 1, .int .i64 2, .bool true, .int .u64 9, .int .u64 3, .slice A2 2 k2] 25)
  have nl : Below w.heap.size w (w4.alloc (.cells #[.int .i64 1, .int .i64 2, .bool true, .int .u64 9, .int .u64 3, .slice A2 2 k2] 25)) := nl0; clear nls nl0
  have o0 : Blk (w4.alloc (.cells #[.int .i64 1, .int .i64 2, .bool true, .int .u64 9, .int .u64 3, .slice A2 2 k2] 25)) B2 [.int .i64 1, .int .i64 2, .bool true, .int .u64 9, .int .u64 3, .slice (some ⟨g, 0, none⟩) 2 2] 25 := (K4_0.out.alloc (.cells #[.int .i64 1, .int .i64 2, .bool true, .int .u64 9, .int .u64 3, .slice A2 2 k2] 25))
  have d5_0 : B2 < w4.heap.size := K4_0.out.lt
  obtain ⟨B5, hB0⟩ : ∃ B, B = w4.heap.size := ⟨_, rfl⟩
  obtain ⟨W5, hW⟩ : ∃ W, W = (w4.alloc (.cells #[.int .i64 1, .int .i64 2, .bool true, .int .u64 9, .int .u64 3, .slice A2 2 k2] 25)) := ⟨_, rfl⟩
  rw [← hW] at dd0
  have T5_0 := Lib.hid dd0
  rw [← hW] at dd1
  have T5_1 := Lib.hid dd1
  rw [← hW] at dd2
  have T5_2 := Lib.hid dd2
  clear dd0 dd1 dd2 T4_0 T4_1 T2
  rw [← hW] at nl nb0 o0
  rw [← hB0] at nb0
  rw [← hW]
  try rw [← hB0]
  have K5_0 := Lib.hid o0
  have K5_1 := Lib.hid nb0
  have G5 : Hid (w.heap.size ≤ B5) := Lib.hid (by have := L4.out.size; omega)
  have x5_0_0 : B2 ≠ B5 := by omega
  have X5_0_0 := Lib.hid x5_0_0; clear x5_0_0
  have L5 := Lib.hid nl
  clear nl hW nb0 hB0 o0 d5_0 K4_0
  go_wp2_with fail
  refine (c3_16 _).mono ?_
  rintro e w6 ⟨rfl, hb⟩
  have L6 := Lib.hid (L5.out.trans (hb.mono L5.out.size))
  have K6_0 := Lib.hid (K5_0.out.below hb K5_0.out.lt)
  have K6_1 := Lib.hid (K5_1.out.below hb K5_1.out.lt)
  have T6_0 := Lib.hid (T5_0.out.below hb)
  have T6_1 := Lib.hid (T5_1.out.below hb)
  have T6_2 := Lib.hid (T5_2.out.below hb)
  clear T5_0 T5_1 T5_2
  clear hb K5_0 K5_1
  have hcv : (convert 23 9 (.slice (some ⟨b1, o1, none⟩) 6 k1)).run Tryd.prog w6 = .ok (.string (strOfNums [82, 82, 1, 1, 2, 9])) w6 := by
    have h := T6_1.out.rd.upto 6
    rw [ls16_six] at h
    exact h.conv 6 k1 rfl
  have hst : (strOfNums [82, 82, 1, 1, 2, 9]).toList = [82, 82, 1, 1, 2, 9] := by rw [ByteArray.toList_eq]; rfl
  have hk6 : (6 : Nat) ≤ k1 := by omega
  have hk6i : (6 : Int) ≤ k1 := by omega
  have m0_0 : w6.cell? ⟨B2, 0, none⟩ = some _ := K6_0.out.cell 0
  have m0_1 : w6.cell? ⟨B2, 1, none⟩ = some _ := K6_0.out.cell 1
  have m0_2 : w6.cell? ⟨B2, 2, none⟩ = some _ := K6_0.out.cell 2
  have m0_3 : w6.cell? ⟨B2, 3, none⟩ = some _ := K6_0.out.cell 3
  have m0_4 : w6.cell? ⟨B2, 4, none⟩ = some _ := K6_0.out.cell 4
  have m0_5 : w6.cell? ⟨B2, 5, none⟩ = some _ := K6_0.out.cell 5
  have mlt0 : B2 < w6.heap.size := K6_0.out.lt
  have m1_0 : w6.cell? ⟨B5, 0, none⟩ = some _ := K6_1.out.cell 0
  have m1_1 : w6.cell? ⟨B5, 1, none⟩ = some _ := K6_1.out.cell 1
  have m1_2 : w6.cell? ⟨B5, 2, none⟩ = some _ := K6_1.out.cell 2
  have m1_3 : w6.cell? ⟨B5, 3, none⟩ = some _ := K6_1.out.cell 3
  have m1_4 : w6.cell? ⟨B5, 4, none⟩ = some _ := K6_1.out.cell 4
  have m1_5 : w6.cell? ⟨B5, 5, none⟩ = some _ := K6_1.out.cell 5
  have mlt1 : B5 < w6.heap.size := K6_1.out.lt
  go_wp2_with fail
  clear m0_0 m0_1 m0_2 m0_3 m0_4 m0_5 mlt0 m1_0 m1_1 m1_2 m1_3 m1_4 m1_5 mlt1
  refine (c4_16 _ _ _ _ _ T6_2.out T6_0.out).mono ?_
  rintro e w7 ⟨rfl, hb⟩
  have L7 := Lib.hid (L6.out.trans (hb.mono L6.out.size))
  have K7_0 := Lib.hid (K6_0.out.below hb K6_0.out.lt)
  have K7_1 := Lib.hid (K6_1.out.below hb K6_1.out.lt)
  have T7_0 := Lib.hid (T6_0.out.below hb)
  have T7_1 := Lib.hid (T6_1.out.below hb)
  have T7_2 := Lib.hid (T6_2.out.below hb)
  clear T6_0 T6_1 T6_2
  clear hb K6_0 K6_1
  go_wp2
  go_ret
  exact ⟨rfl, L7.out⟩
end Go.Proofs.YtmdfopbigkfbnaaDoor
