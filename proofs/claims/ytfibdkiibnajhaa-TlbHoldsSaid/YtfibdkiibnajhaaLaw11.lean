/-
  What first of layer 11's law answers: the walk over the contracts.
-/
import Derived.Test.YtfibdkiibnajhaaTlbG11
import Derived.Laws.StructEq
namespace Go.Proofs.Ytfibdkiibnajhaa
open Go.RowKit
set_option linter.unusedVariables false
set_option linter.unusedSimpArgs false
attribute [local go_sem] setCell_drewN alloc_drewN

def Xa : Lf := ⟨⟨true, true, false, false, false, false, false, false, 0, 7⟩, 0, 0⟩
def Ya : Lf := ⟨⟨true, true, false, false, false, false, false, false, 0, 512⟩, 1, 0⟩
def R0 : Nat → Nat → Wy := fun _ _ => zw
def R1 : Nat → Nat → Wy := filT R0 2 1 4096 3 Xa 0
def R2 : Nat → Nat → Wy := filT R1 2 1 1073741824 3 Ya 0
def R3 : Nat → Nat → Wy := fenT R2 (some 1074934870) none
theorem fnd_1 : fndT R2 2 1 8191 3 3 0 = (Xa, true) := by kernel_rfl
theorem fnd_2 : fndT R2 2 1 1075838975 3 3 0 = (Ya, true) := by kernel_rfl
theorem fnd_3 : fndT R2 2 1 4096 4 3 0 = (zl, false) := by kernel_rfl
theorem cnt_1 : cnt2 (fun i j => (R2 i j).full) 1 2 = 2 := by kernel_rfl
theorem cnt_2 : cnt2 (fun i j => goes (R2 i j) (some 1074934870) none) 1 2 = 1 := by kernel_rfl
theorem cnt_3 : cnt2 (fun i j => goes (R3 i j) none none) 1 2 = 1 := by kernel_rfl
section
variable {w : World} {b sp : Nat} {g : Nat → Nat}
theorem first_1 (h : Buf w b sp g 2 1 R0) : Calls Try.prog 7 #[.pointer (some ⟨b, 0, none⟩), .int .u64 4096, .int .i64 3, .agg #[.bool true, .bool true, .bool false, .bool false, .bool false, .bool false, .bool false, .bool false, .int .i64 0, .int .u64 7, .int .i64 0, .int .u64 0], .int .i64 0] w fun r w' => r = .returned (.bool true) ∧ Buf w' b sp g 2 1 R1 ∧ Chg (FpT b sp g 2) w w' :=
  fill_yes b sp g 2 1 R0 4096 3 0 Xa.e Xa.lv Xa.pl w h (by decide) (by decide) (by decide)
theorem first_2 (h : Buf w b sp g 2 1 R1) : Calls Try.prog 7 #[.pointer (some ⟨b, 0, none⟩), .int .u64 1073741824, .int .i64 3, .agg #[.bool true, .bool true, .bool false, .bool false, .bool false, .bool false, .bool false, .bool false, .int .i64 0, .int .u64 512, .int .i64 1, .int .u64 0], .int .i64 0] w fun r w' => r = .returned (.bool true) ∧ Buf w' b sp g 2 1 R2 ∧ Chg (FpT b sp g 2) w w' :=
  fill_yes b sp g 2 1 R1 1073741824 3 0 Ya.e Ya.lv Ya.pl w h (by decide) (by decide) (by decide)
theorem first_3 (h : Buf w b sp g 2 1 R2) : Calls Try.prog 6 #[.pointer (some ⟨b, 0, none⟩), .int .u64 8191, .int .i64 3] w fun r w' => r = .returned (.tuple #[.agg #[.bool true, .bool true, .bool false, .bool false, .bool false, .bool false, .bool false, .bool false, .int .i64 0, .int .u64 7, .int .i64 0, .int .u64 0], .bool true]) ∧ Below w.heap.size w w' := by
  have h := find_any b sp g 2 1 R2 8191 3 w h (by decide)
  rw [fnd_1] at h
  exact h
theorem first_4 (h : Buf w b sp g 2 1 R2) : Calls Try.prog 6 #[.pointer (some ⟨b, 0, none⟩), .int .u64 1075838975, .int .i64 3] w fun r w' => r = .returned (.tuple #[.agg #[.bool true, .bool true, .bool false, .bool false, .bool false, .bool false, .bool false, .bool false, .int .i64 0, .int .u64 512, .int .i64 1, .int .u64 0], .bool true]) ∧ Below w.heap.size w w' := by
  have h := find_any b sp g 2 1 R2 1075838975 3 w h (by decide)
  rw [fnd_2] at h
  exact h
theorem first_5 (h : Buf w b sp g 2 1 R2) : Calls Try.prog 6 #[.pointer (some ⟨b, 0, none⟩), .int .u64 4096, .int .i64 4] w fun r w' => r = .returned (.tuple #[.agg #[.bool false, .bool false, .bool false, .bool false, .bool false, .bool false, .bool false, .bool false, .int .i64 0, .int .u64 0, .int .i64 0, .int .u64 0], .bool false]) ∧ Below w.heap.size w w' := by
  have h := find_any b sp g 2 1 R2 4096 4 w h (by decide)
  rw [fnd_3] at h
  exact h
theorem first_6 (h : Buf w b sp g 2 1 R2) : Calls Try.prog 9 #[.pointer (some ⟨b, 0, none⟩)] w fun r w' => r = .returned (.int .i64 2) ∧ Below w.heap.size w w' := by
  have h := len_any b sp g 2 1 R2 w h
  rw [cnt_1] at h
  exact h
theorem first_7 {q : Nat} (h : Buf w b sp g 2 1 R2) (hq : Blk w q [.int .u64 1074934870] 22) (hn : ¬ FpT b sp g 2 q) : Calls Try.prog 8 #[.pointer (some ⟨b, 0, none⟩), .slice (some ⟨q, 0, none⟩) 1 1, .slice none 0 0] w fun r w' => r = .returned (.int .i64 1) ∧ Buf w' b sp g 2 1 R3 ∧ Chg (FpT b sp g 2) w w' := by
  have h := fence_any b sp g 2 1 R2 (some 1074934870) none (.slice (some ⟨q, 0, none⟩) 1 1) (.slice none 0 0) w h (fun k hk => by injection hk with hk; subst hk; decide) ⟨q, 0, 1, 1, rfl, by decide, hq.cell 0, hn⟩ ⟨none, 0, rfl⟩
  rw [cnt_2] at h
  exact h
theorem first_8 (h : Buf w b sp g 2 1 R3) : Calls Try.prog 8 #[.pointer (some ⟨b, 0, none⟩), .slice none 0 0, .slice none 0 0] w fun r w' => r = .returned (.int .i64 1) ∧ Buf w' b sp g 2 1 (fenT R3 none none) ∧ Chg (FpT b sp g 2) w w' := by
  have h := fence_any b sp g 2 1 R3 none none (.slice none 0 0) (.slice none 0 0) w h (fun k hk => by cases hk) ⟨none, 0, rfl⟩ ⟨none, 0, rfl⟩
  rw [cnt_3] at h
  exact h
theorem first_0 (w : World) : Calls Try.prog 5 #[.int .i64 2, .int .i64 1] w fun e w' => ∃ b sp g, e = .returned (.tuple #[.pointer (some ⟨b, 0, none⟩), .int .i64 0]) ∧ Buf w' b sp g 2 1 R0 ∧ (∀ k, FpT b sp g 2 k → w.heap.size ≤ k) ∧ Below w.heap.size w w' :=
  new_yes 2 1 w rfl
end
set_option maxHeartbeats 8000000 in
theorem first_any (w : World) : Calls Try.prog 4 #[] w fun r w' => r = .returned (.bool true) ∧ Below w.heap.size w w' := by
  go_enter Try.func4, Try.ntmps4
  go_wp2_with fail
  refine (first_0 _).mono ?_
  rintro e w1 ⟨b, sp, g, rfl, hbuf, hfp, hb⟩
  have hbuf : Buf w1 b sp g 2 1 R0 := hbuf
  have F1 := Lib.hid hbuf; have HFP := Lib.hid hfp
  have L1 := Lib.hid ((Below.refl w.heap.size w).trans (hb.mono (Nat.le_refl w.heap.size)))
  have HFP2 : Hid (∀ k, FpT b sp g 2 k → w.heap.size ≤ k) := Lib.hid (fun k hk => Nat.le_trans (Nat.le_refl w.heap.size) (HFP.out k hk))
  clear hb hbuf hfp
  go_upto_region 6 with (fail)
  have nb0 : Blk (w1.alloc (.cells #[.bool true, .bool true, .bool false, .bool false, .bool false, .bool false, .bool false, .bool false, .int .i64 0, .int .u64 7, .int .i64 0, .int .u64 0] 26)) (w1.heap.size) [.bool true, .bool true, .bool false, .bool false, .bool false, .bool false, .bool false, .bool false, .int .i64 0, .int .u64 7, .int .i64 0, .int .u64 0] 26 := Blk.new w1 [.bool true, .bool true, .bool false, .bool false, .bool false, .bool false, .bool false, .bool false, .int .i64 0, .int .u64 7, .int .i64 0, .int .u64 0] 26
  replace nb0 := nb0.alloc (.cells #[.bool true, .bool true, .bool false, .bool false, .bool false, .bool false, .bool false, .bool false, .int .i64 0, .int .u64 512, .int .i64 1, .int .u64 0] 26)
  have nb1 : Blk ((w1.alloc (.cells #[.bool true, .bool true, .bool false, .bool false, .bool false, .bool false, .bool false, .bool false, .int .i64 0, .int .u64 7, .int .i64 0, .int .u64 0] 26)).alloc (.cells #[.bool true, .bool true, .bool false, .bool false, .bool false, .bool false, .bool false, .bool false, .int .i64 0, .int .u64 512, .int .i64 1, .int .u64 0] 26)) (w1.heap.size + 1) [.bool true, .bool true, .bool false, .bool false, .bool false, .bool false, .bool false, .bool false, .int .i64 0, .int .u64 512, .int .i64 1, .int .u64 0] 26 := Blk.nextn (w1.alloc (.cells #[.bool true, .bool true, .bool false, .bool false, .bool false, .bool false, .bool false, .bool false, .int .i64 0, .int .u64 7, .int .i64 0, .int .u64 0] 26)) (w1.heap.size + 1) [.bool true, .bool true, .bool false, .bool false, .bool false, .bool false, .bool false, .bool false, .int .i64 0, .int .u64 512, .int .i64 1, .int .u64 0] 26 (by simp)
  have nls : Below w.heap.size w w1 := L1.out
  have nl0 := nls.alloc nls.size (.cells #[.bool true, .bool true, .bool false, .bool false, .bool false, .bool false, .bool false, .bool false, .int .i64 0, .int .u64 7, .int .i64 0, .int .u64 0] 26)
  have nl1 := nl0.alloc nl0.size (.cells #[.bool true, .bool true, .bool false, .bool false, .bool false, .bool false, .bool false, .bool false, .int .i64 0, .int .u64 512, .int .i64 1, .int .u64 0] 26)
  have nl : Below w.heap.size w ((w1.alloc (.cells #[.bool true, .bool true, .bool false, .bool false, .bool false, .bool false, .bool false, .bool false, .int .i64 0, .int .u64 7, .int .i64 0, .int .u64 0] 26)).alloc (.cells #[.bool true, .bool true, .bool false, .bool false, .bool false, .bool false, .bool false, .bool false, .int .i64 0, .int .u64 512, .int .i64 1, .int .u64 0] 26)) := nl1; clear nls nl0 nl1
  obtain ⟨B2_1, hB1⟩ : ∃ B, B = w1.heap.size + 1 := ⟨_, rfl⟩
  obtain ⟨B2_0, hB0⟩ : ∃ B, B = w1.heap.size := ⟨_, rfl⟩
  obtain ⟨W2, hW⟩ : ∃ W, W = ((w1.alloc (.cells #[.bool true, .bool true, .bool false, .bool false, .bool false, .bool false, .bool false, .bool false, .int .i64 0, .int .u64 7, .int .i64 0, .int .u64 0] 26)).alloc (.cells #[.bool true, .bool true, .bool false, .bool false, .bool false, .bool false, .bool false, .bool false, .int .i64 0, .int .u64 512, .int .i64 1, .int .u64 0] 26)) := ⟨_, rfl⟩
  rw [← hW] at nl nb0 nb1
  rw [← hB1] at nb1
  rw [← hB0] at nb0
  rw [← hW]
  try rw [← hB1]
  try rw [← hB0]
  have K2_0 := Lib.hid nb0
  have G2_0 : Hid (w.heap.size ≤ B2_0) := Lib.hid (by have := L1.out.size; omega)
  have K2_1 := Lib.hid nb1
  have G2_1 : Hid (w.heap.size ≤ B2_1) := Lib.hid (by have := L1.out.size; omega)
  have y2_0_1 : B2_0 ≠ B2_1 := by omega
  have Y2_0_1 := Lib.hid y2_0_1; clear y2_0_1
  have F2 : Hid (Buf W2 b sp g 2 1 R0) := Lib.hid (hW ▸ F1.out.below (((Below.refl w1.heap.size w1).alloc (by simp) (.cells #[.bool true, .bool true, .bool false, .bool false, .bool false, .bool false, .bool false, .bool false, .int .i64 0, .int .u64 7, .int .i64 0, .int .u64 0] 26)).alloc (by simp) (.cells #[.bool true, .bool true, .bool false, .bool false, .bool false, .bool false, .bool false, .bool false, .int .i64 0, .int .u64 512, .int .i64 1, .int .u64 0] 26)))
  have nf2_0 : Hid (¬ FpT b sp g 2 B2_0) := Lib.hid (fun hf => by have := F1.out.lt _ hf; omega)
  have nf2_1 : Hid (¬ FpT b sp g 2 B2_1) := Lib.hid (fun hf => by have := F1.out.lt _ hf; omega)
  clear F1
  have L2 := Lib.hid nl
  clear nl hW nb0 hB0 nb1 hB1
  have m0_0 : W2.cell? ⟨B2_0, 0, none⟩ = some _ := K2_0.out.cell 0
  have m0_1 : W2.cell? ⟨B2_0, 1, none⟩ = some _ := K2_0.out.cell 1
  have m0_2 : W2.cell? ⟨B2_0, 2, none⟩ = some _ := K2_0.out.cell 2
  have m0_3 : W2.cell? ⟨B2_0, 3, none⟩ = some _ := K2_0.out.cell 3
  have m0_4 : W2.cell? ⟨B2_0, 4, none⟩ = some _ := K2_0.out.cell 4
  have m0_5 : W2.cell? ⟨B2_0, 5, none⟩ = some _ := K2_0.out.cell 5
  have m0_6 : W2.cell? ⟨B2_0, 6, none⟩ = some _ := K2_0.out.cell 6
  have m0_7 : W2.cell? ⟨B2_0, 7, none⟩ = some _ := K2_0.out.cell 7
  have m0_8 : W2.cell? ⟨B2_0, 8, none⟩ = some _ := K2_0.out.cell 8
  have m0_9 : W2.cell? ⟨B2_0, 9, none⟩ = some _ := K2_0.out.cell 9
  have m0_10 : W2.cell? ⟨B2_0, 10, none⟩ = some _ := K2_0.out.cell 10
  have m0_11 : W2.cell? ⟨B2_0, 11, none⟩ = some _ := K2_0.out.cell 11
  have mlt0 : B2_0 < W2.heap.size := K2_0.out.lt
  go_wp2_with fail
  clear m0_0 m0_1 m0_2 m0_3 m0_4 m0_5 m0_6 m0_7 m0_8 m0_9 m0_10 m0_11 mlt0
  refine (first_1 F2.out).mono ?_
  rintro e w3 ⟨rfl, hbuf, hb⟩
  have hbuf : Buf w3 b sp g 2 1 R1 := hbuf
  have F3 := Lib.hid hbuf
  have L3 := Lib.hid (L2.out.trans (hb.below L2.out.size (fun k hk hf => by have := HFP2.out k hf; omega)))
  have K3_0 := Lib.hid (K2_0.out.chg hb nf2_0.out)
  have K3_1 := Lib.hid (K2_1.out.chg hb nf2_1.out)
  clear hb hbuf F2 K2_0 K2_1
  have m1_0 : w3.cell? ⟨B2_1, 0, none⟩ = some _ := K3_1.out.cell 0
  have m1_1 : w3.cell? ⟨B2_1, 1, none⟩ = some _ := K3_1.out.cell 1
  have m1_2 : w3.cell? ⟨B2_1, 2, none⟩ = some _ := K3_1.out.cell 2
  have m1_3 : w3.cell? ⟨B2_1, 3, none⟩ = some _ := K3_1.out.cell 3
  have m1_4 : w3.cell? ⟨B2_1, 4, none⟩ = some _ := K3_1.out.cell 4
  have m1_5 : w3.cell? ⟨B2_1, 5, none⟩ = some _ := K3_1.out.cell 5
  have m1_6 : w3.cell? ⟨B2_1, 6, none⟩ = some _ := K3_1.out.cell 6
  have m1_7 : w3.cell? ⟨B2_1, 7, none⟩ = some _ := K3_1.out.cell 7
  have m1_8 : w3.cell? ⟨B2_1, 8, none⟩ = some _ := K3_1.out.cell 8
  have m1_9 : w3.cell? ⟨B2_1, 9, none⟩ = some _ := K3_1.out.cell 9
  have m1_10 : w3.cell? ⟨B2_1, 10, none⟩ = some _ := K3_1.out.cell 10
  have m1_11 : w3.cell? ⟨B2_1, 11, none⟩ = some _ := K3_1.out.cell 11
  have mlt1 : B2_1 < w3.heap.size := K3_1.out.lt
  go_wp2_with fail
  clear m1_0 m1_1 m1_2 m1_3 m1_4 m1_5 m1_6 m1_7 m1_8 m1_9 m1_10 m1_11 mlt1
  refine (first_2 F3.out).mono ?_
  rintro e w4 ⟨rfl, hbuf, hb⟩
  have hbuf : Buf w4 b sp g 2 1 R2 := hbuf
  have F4 := Lib.hid hbuf
  have L4 := Lib.hid (L3.out.trans (hb.below L3.out.size (fun k hk hf => by have := HFP2.out k hf; omega)))
  have K4_0 := Lib.hid (K3_0.out.chg hb nf2_0.out)
  have K4_1 := Lib.hid (K3_1.out.chg hb nf2_1.out)
  clear hb hbuf F3 K3_0 K3_1
  go_wp2_with fail
  refine (first_3 F4.out).mono ?_
  rintro e w5 ⟨rfl, hb⟩
  have F5 := Lib.hid (F4.out.below hb)
  have L5 := Lib.hid (L4.out.trans (hb.mono L4.out.size))
  have K5_0 := Lib.hid (K4_0.out.below hb K4_0.out.lt)
  have K5_1 := Lib.hid (K4_1.out.below hb K4_1.out.lt)
  clear hb F4 K4_0 K4_1
  go_upto_region 9 with (fail)
  have nb0 : Blk (w5.alloc (.cells #[.bool true, .bool true, .bool false, .bool false, .bool false, .bool false, .bool false, .bool false, .int .i64 0, .int .u64 7, .int .i64 0, .int .u64 0] 26)) (w5.heap.size) [.bool true, .bool true, .bool false, .bool false, .bool false, .bool false, .bool false, .bool false, .int .i64 0, .int .u64 7, .int .i64 0, .int .u64 0] 26 := Blk.new w5 [.bool true, .bool true, .bool false, .bool false, .bool false, .bool false, .bool false, .bool false, .int .i64 0, .int .u64 7, .int .i64 0, .int .u64 0] 26
  have nls : Below w.heap.size w w5 := L5.out
  have nl0 := nls.alloc nls.size (.cells #[.bool true, .bool true, .bool false, .bool false, .bool false, .bool false, .bool false, .bool false, .int .i64 0, .int .u64 7, .int .i64 0, .int .u64 0] 26)
  have nl : Below w.heap.size w (w5.alloc (.cells #[.bool true, .bool true, .bool false, .bool false, .bool false, .bool false, .bool false, .bool false, .int .i64 0, .int .u64 7, .int .i64 0, .int .u64 0] 26)) := nl0; clear nls nl0
  have o0 : Blk (w5.alloc (.cells #[.bool true, .bool true, .bool false, .bool false, .bool false, .bool false, .bool false, .bool false, .int .i64 0, .int .u64 7, .int .i64 0, .int .u64 0] 26)) B2_0 [.bool true, .bool true, .bool false, .bool false, .bool false, .bool false, .bool false, .bool false, .int .i64 0, .int .u64 7, .int .i64 0, .int .u64 0] 26 := (K5_0.out.alloc (.cells #[.bool true, .bool true, .bool false, .bool false, .bool false, .bool false, .bool false, .bool false, .int .i64 0, .int .u64 7, .int .i64 0, .int .u64 0] 26))
  have d6_0 : B2_0 < w5.heap.size := K5_0.out.lt
  have o1 : Blk (w5.alloc (.cells #[.bool true, .bool true, .bool false, .bool false, .bool false, .bool false, .bool false, .bool false, .int .i64 0, .int .u64 7, .int .i64 0, .int .u64 0] 26)) B2_1 [.bool true, .bool true, .bool false, .bool false, .bool false, .bool false, .bool false, .bool false, .int .i64 0, .int .u64 512, .int .i64 1, .int .u64 0] 26 := (K5_1.out.alloc (.cells #[.bool true, .bool true, .bool false, .bool false, .bool false, .bool false, .bool false, .bool false, .int .i64 0, .int .u64 7, .int .i64 0, .int .u64 0] 26))
  have d6_1 : B2_1 < w5.heap.size := K5_1.out.lt
  obtain ⟨B6, hB0⟩ : ∃ B, B = w5.heap.size := ⟨_, rfl⟩
  obtain ⟨W6, hW⟩ : ∃ W, W = (w5.alloc (.cells #[.bool true, .bool true, .bool false, .bool false, .bool false, .bool false, .bool false, .bool false, .int .i64 0, .int .u64 7, .int .i64 0, .int .u64 0] 26)) := ⟨_, rfl⟩
  rw [← hW] at nl nb0 o0 o1
  rw [← hB0] at nb0
  rw [← hW]
  try rw [← hB0]
  have K6_0 := Lib.hid o0
  have K6_1 := Lib.hid o1
  have K6_2 := Lib.hid nb0
  have G6 : Hid (w.heap.size ≤ B6) := Lib.hid (by have := L5.out.size; omega)
  have x6_0_0 : B2_0 ≠ B6 := by omega
  have x6_1_0 : B2_1 ≠ B6 := by omega
  have X6_0_0 := Lib.hid x6_0_0; clear x6_0_0
  have X6_1_0 := Lib.hid x6_1_0; clear x6_1_0
  have F6 : Hid (Buf W6 b sp g 2 1 R2) := Lib.hid (hW ▸ F5.out.below ((Below.refl w5.heap.size w5).alloc (by simp) (.cells #[.bool true, .bool true, .bool false, .bool false, .bool false, .bool false, .bool false, .bool false, .int .i64 0, .int .u64 7, .int .i64 0, .int .u64 0] 26)))
  have nf6 : Hid (¬ FpT b sp g 2 B6) := Lib.hid (fun hf => by have := F5.out.lt _ hf; omega)
  clear F5
  have L6 := Lib.hid nl
  clear nl hW nb0 hB0 o0 d6_0 o1 d6_1 K5_0 K5_1
  go_wp2_with fail
  refine (first_4 F6.out).mono ?_
  rintro e w7 ⟨rfl, hb⟩
  have F7 := Lib.hid (F6.out.below hb)
  have L7 := Lib.hid (L6.out.trans (hb.mono L6.out.size))
  have K7_0 := Lib.hid (K6_0.out.below hb K6_0.out.lt)
  have K7_1 := Lib.hid (K6_1.out.below hb K6_1.out.lt)
  have K7_2 := Lib.hid (K6_2.out.below hb K6_2.out.lt)
  clear hb F6 K6_0 K6_1 K6_2
  go_upto_region 10 with (fail)
  have nb0 : Blk (w7.alloc (.cells #[.bool true, .bool true, .bool false, .bool false, .bool false, .bool false, .bool false, .bool false, .int .i64 0, .int .u64 512, .int .i64 1, .int .u64 0] 26)) (w7.heap.size) [.bool true, .bool true, .bool false, .bool false, .bool false, .bool false, .bool false, .bool false, .int .i64 0, .int .u64 512, .int .i64 1, .int .u64 0] 26 := Blk.new w7 [.bool true, .bool true, .bool false, .bool false, .bool false, .bool false, .bool false, .bool false, .int .i64 0, .int .u64 512, .int .i64 1, .int .u64 0] 26
  have nls : Below w.heap.size w w7 := L7.out
  have nl0 := nls.alloc nls.size (.cells #[.bool true, .bool true, .bool false, .bool false, .bool false, .bool false, .bool false, .bool false, .int .i64 0, .int .u64 512, .int .i64 1, .int .u64 0] 26)
  have nl : Below w.heap.size w (w7.alloc (.cells #[.bool true, .bool true, .bool false, .bool false, .bool false, .bool false, .bool false, .bool false, .int .i64 0, .int .u64 512, .int .i64 1, .int .u64 0] 26)) := nl0; clear nls nl0
  have o0 : Blk (w7.alloc (.cells #[.bool true, .bool true, .bool false, .bool false, .bool false, .bool false, .bool false, .bool false, .int .i64 0, .int .u64 512, .int .i64 1, .int .u64 0] 26)) B2_0 [.bool true, .bool true, .bool false, .bool false, .bool false, .bool false, .bool false, .bool false, .int .i64 0, .int .u64 7, .int .i64 0, .int .u64 0] 26 := (K7_0.out.alloc (.cells #[.bool true, .bool true, .bool false, .bool false, .bool false, .bool false, .bool false, .bool false, .int .i64 0, .int .u64 512, .int .i64 1, .int .u64 0] 26))
  have d8_0 : B2_0 < w7.heap.size := K7_0.out.lt
  have o1 : Blk (w7.alloc (.cells #[.bool true, .bool true, .bool false, .bool false, .bool false, .bool false, .bool false, .bool false, .int .i64 0, .int .u64 512, .int .i64 1, .int .u64 0] 26)) B2_1 [.bool true, .bool true, .bool false, .bool false, .bool false, .bool false, .bool false, .bool false, .int .i64 0, .int .u64 512, .int .i64 1, .int .u64 0] 26 := (K7_1.out.alloc (.cells #[.bool true, .bool true, .bool false, .bool false, .bool false, .bool false, .bool false, .bool false, .int .i64 0, .int .u64 512, .int .i64 1, .int .u64 0] 26))
  have d8_1 : B2_1 < w7.heap.size := K7_1.out.lt
  have o2 : Blk (w7.alloc (.cells #[.bool true, .bool true, .bool false, .bool false, .bool false, .bool false, .bool false, .bool false, .int .i64 0, .int .u64 512, .int .i64 1, .int .u64 0] 26)) B6 [.bool true, .bool true, .bool false, .bool false, .bool false, .bool false, .bool false, .bool false, .int .i64 0, .int .u64 7, .int .i64 0, .int .u64 0] 26 := (K7_2.out.alloc (.cells #[.bool true, .bool true, .bool false, .bool false, .bool false, .bool false, .bool false, .bool false, .int .i64 0, .int .u64 512, .int .i64 1, .int .u64 0] 26))
  have d8_2 : B6 < w7.heap.size := K7_2.out.lt
  obtain ⟨B8, hB0⟩ : ∃ B, B = w7.heap.size := ⟨_, rfl⟩
  obtain ⟨W8, hW⟩ : ∃ W, W = (w7.alloc (.cells #[.bool true, .bool true, .bool false, .bool false, .bool false, .bool false, .bool false, .bool false, .int .i64 0, .int .u64 512, .int .i64 1, .int .u64 0] 26)) := ⟨_, rfl⟩
  rw [← hW] at nl nb0 o0 o1 o2
  rw [← hB0] at nb0
  rw [← hW]
  try rw [← hB0]
  have K8_0 := Lib.hid o0
  have K8_1 := Lib.hid o1
  have K8_2 := Lib.hid o2
  have K8_3 := Lib.hid nb0
  have G8 : Hid (w.heap.size ≤ B8) := Lib.hid (by have := L7.out.size; omega)
  have x8_0_0 : B2_0 ≠ B8 := by omega
  have x8_1_0 : B2_1 ≠ B8 := by omega
  have x8_2_0 : B6 ≠ B8 := by omega
  have X8_0_0 := Lib.hid x8_0_0; clear x8_0_0
  have X8_1_0 := Lib.hid x8_1_0; clear x8_1_0
  have X8_2_0 := Lib.hid x8_2_0; clear x8_2_0
  have F8 : Hid (Buf W8 b sp g 2 1 R2) := Lib.hid (hW ▸ F7.out.below ((Below.refl w7.heap.size w7).alloc (by simp) (.cells #[.bool true, .bool true, .bool false, .bool false, .bool false, .bool false, .bool false, .bool false, .int .i64 0, .int .u64 512, .int .i64 1, .int .u64 0] 26)))
  have nf8 : Hid (¬ FpT b sp g 2 B8) := Lib.hid (fun hf => by have := F7.out.lt _ hf; omega)
  clear F7
  have L8 := Lib.hid nl
  clear nl hW nb0 hB0 o0 d8_0 o1 d8_1 o2 d8_2 K7_0 K7_1 K7_2
  go_wp2_with fail
  refine (first_5 F8.out).mono ?_
  rintro e w9 ⟨rfl, hb⟩
  have F9 := Lib.hid (F8.out.below hb)
  have L9 := Lib.hid (L8.out.trans (hb.mono L8.out.size))
  have K9_0 := Lib.hid (K8_0.out.below hb K8_0.out.lt)
  have K9_1 := Lib.hid (K8_1.out.below hb K8_1.out.lt)
  have K9_2 := Lib.hid (K8_2.out.below hb K8_2.out.lt)
  have K9_3 := Lib.hid (K8_3.out.below hb K8_3.out.lt)
  clear hb F8 K8_0 K8_1 K8_2 K8_3
  go_upto_region 11 with (fail)
  have nb0 : Blk (w9.alloc (.cells #[.bool false, .bool false, .bool false, .bool false, .bool false, .bool false, .bool false, .bool false, .int .i64 0, .int .u64 0, .int .i64 0, .int .u64 0] 26)) (w9.heap.size) [.bool false, .bool false, .bool false, .bool false, .bool false, .bool false, .bool false, .bool false, .int .i64 0, .int .u64 0, .int .i64 0, .int .u64 0] 26 := Blk.new w9 [.bool false, .bool false, .bool false, .bool false, .bool false, .bool false, .bool false, .bool false, .int .i64 0, .int .u64 0, .int .i64 0, .int .u64 0] 26
  have nls : Below w.heap.size w w9 := L9.out
  have nl0 := nls.alloc nls.size (.cells #[.bool false, .bool false, .bool false, .bool false, .bool false, .bool false, .bool false, .bool false, .int .i64 0, .int .u64 0, .int .i64 0, .int .u64 0] 26)
  have nl : Below w.heap.size w (w9.alloc (.cells #[.bool false, .bool false, .bool false, .bool false, .bool false, .bool false, .bool false, .bool false, .int .i64 0, .int .u64 0, .int .i64 0, .int .u64 0] 26)) := nl0; clear nls nl0
  have o0 : Blk (w9.alloc (.cells #[.bool false, .bool false, .bool false, .bool false, .bool false, .bool false, .bool false, .bool false, .int .i64 0, .int .u64 0, .int .i64 0, .int .u64 0] 26)) B2_0 [.bool true, .bool true, .bool false, .bool false, .bool false, .bool false, .bool false, .bool false, .int .i64 0, .int .u64 7, .int .i64 0, .int .u64 0] 26 := (K9_0.out.alloc (.cells #[.bool false, .bool false, .bool false, .bool false, .bool false, .bool false, .bool false, .bool false, .int .i64 0, .int .u64 0, .int .i64 0, .int .u64 0] 26))
  have d10_0 : B2_0 < w9.heap.size := K9_0.out.lt
  have o1 : Blk (w9.alloc (.cells #[.bool false, .bool false, .bool false, .bool false, .bool false, .bool false, .bool false, .bool false, .int .i64 0, .int .u64 0, .int .i64 0, .int .u64 0] 26)) B2_1 [.bool true, .bool true, .bool false, .bool false, .bool false, .bool false, .bool false, .bool false, .int .i64 0, .int .u64 512, .int .i64 1, .int .u64 0] 26 := (K9_1.out.alloc (.cells #[.bool false, .bool false, .bool false, .bool false, .bool false, .bool false, .bool false, .bool false, .int .i64 0, .int .u64 0, .int .i64 0, .int .u64 0] 26))
  have d10_1 : B2_1 < w9.heap.size := K9_1.out.lt
  have o2 : Blk (w9.alloc (.cells #[.bool false, .bool false, .bool false, .bool false, .bool false, .bool false, .bool false, .bool false, .int .i64 0, .int .u64 0, .int .i64 0, .int .u64 0] 26)) B6 [.bool true, .bool true, .bool false, .bool false, .bool false, .bool false, .bool false, .bool false, .int .i64 0, .int .u64 7, .int .i64 0, .int .u64 0] 26 := (K9_2.out.alloc (.cells #[.bool false, .bool false, .bool false, .bool false, .bool false, .bool false, .bool false, .bool false, .int .i64 0, .int .u64 0, .int .i64 0, .int .u64 0] 26))
  have d10_2 : B6 < w9.heap.size := K9_2.out.lt
  have o3 : Blk (w9.alloc (.cells #[.bool false, .bool false, .bool false, .bool false, .bool false, .bool false, .bool false, .bool false, .int .i64 0, .int .u64 0, .int .i64 0, .int .u64 0] 26)) B8 [.bool true, .bool true, .bool false, .bool false, .bool false, .bool false, .bool false, .bool false, .int .i64 0, .int .u64 512, .int .i64 1, .int .u64 0] 26 := (K9_3.out.alloc (.cells #[.bool false, .bool false, .bool false, .bool false, .bool false, .bool false, .bool false, .bool false, .int .i64 0, .int .u64 0, .int .i64 0, .int .u64 0] 26))
  have d10_3 : B8 < w9.heap.size := K9_3.out.lt
  obtain ⟨B10, hB0⟩ : ∃ B, B = w9.heap.size := ⟨_, rfl⟩
  obtain ⟨W10, hW⟩ : ∃ W, W = (w9.alloc (.cells #[.bool false, .bool false, .bool false, .bool false, .bool false, .bool false, .bool false, .bool false, .int .i64 0, .int .u64 0, .int .i64 0, .int .u64 0] 26)) := ⟨_, rfl⟩
  rw [← hW] at nl nb0 o0 o1 o2 o3
  rw [← hB0] at nb0
  rw [← hW]
  try rw [← hB0]
  have K10_0 := Lib.hid o0
  have K10_1 := Lib.hid o1
  have K10_2 := Lib.hid o2
  have K10_3 := Lib.hid o3
  have K10_4 := Lib.hid nb0
  have G10 : Hid (w.heap.size ≤ B10) := Lib.hid (by have := L9.out.size; omega)
  have x10_0_0 : B2_0 ≠ B10 := by omega
  have x10_1_0 : B2_1 ≠ B10 := by omega
  have x10_2_0 : B6 ≠ B10 := by omega
  have x10_3_0 : B8 ≠ B10 := by omega
  have X10_0_0 := Lib.hid x10_0_0; clear x10_0_0
  have X10_1_0 := Lib.hid x10_1_0; clear x10_1_0
  have X10_2_0 := Lib.hid x10_2_0; clear x10_2_0
  have X10_3_0 := Lib.hid x10_3_0; clear x10_3_0
  have F10 : Hid (Buf W10 b sp g 2 1 R2) := Lib.hid (hW ▸ F9.out.below ((Below.refl w9.heap.size w9).alloc (by simp) (.cells #[.bool false, .bool false, .bool false, .bool false, .bool false, .bool false, .bool false, .bool false, .int .i64 0, .int .u64 0, .int .i64 0, .int .u64 0] 26)))
  have nf10 : Hid (¬ FpT b sp g 2 B10) := Lib.hid (fun hf => by have := F9.out.lt _ hf; omega)
  clear F9
  have L10 := Lib.hid nl
  clear nl hW nb0 hB0 o0 d10_0 o1 d10_1 o2 d10_2 o3 d10_3 K9_0 K9_1 K9_2 K9_3
  have m0_0 : W10.cell? ⟨B2_0, 0, none⟩ = some _ := K10_0.out.cell 0
  have m0_1 : W10.cell? ⟨B2_0, 1, none⟩ = some _ := K10_0.out.cell 1
  have m0_2 : W10.cell? ⟨B2_0, 2, none⟩ = some _ := K10_0.out.cell 2
  have m0_3 : W10.cell? ⟨B2_0, 3, none⟩ = some _ := K10_0.out.cell 3
  have m0_4 : W10.cell? ⟨B2_0, 4, none⟩ = some _ := K10_0.out.cell 4
  have m0_5 : W10.cell? ⟨B2_0, 5, none⟩ = some _ := K10_0.out.cell 5
  have m0_6 : W10.cell? ⟨B2_0, 6, none⟩ = some _ := K10_0.out.cell 6
  have m0_7 : W10.cell? ⟨B2_0, 7, none⟩ = some _ := K10_0.out.cell 7
  have m0_8 : W10.cell? ⟨B2_0, 8, none⟩ = some _ := K10_0.out.cell 8
  have m0_9 : W10.cell? ⟨B2_0, 9, none⟩ = some _ := K10_0.out.cell 9
  have m0_10 : W10.cell? ⟨B2_0, 10, none⟩ = some _ := K10_0.out.cell 10
  have m0_11 : W10.cell? ⟨B2_0, 11, none⟩ = some _ := K10_0.out.cell 11
  have mlt0 : B2_0 < W10.heap.size := K10_0.out.lt
  have m1_0 : W10.cell? ⟨B2_1, 0, none⟩ = some _ := K10_1.out.cell 0
  have m1_1 : W10.cell? ⟨B2_1, 1, none⟩ = some _ := K10_1.out.cell 1
  have m1_2 : W10.cell? ⟨B2_1, 2, none⟩ = some _ := K10_1.out.cell 2
  have m1_3 : W10.cell? ⟨B2_1, 3, none⟩ = some _ := K10_1.out.cell 3
  have m1_4 : W10.cell? ⟨B2_1, 4, none⟩ = some _ := K10_1.out.cell 4
  have m1_5 : W10.cell? ⟨B2_1, 5, none⟩ = some _ := K10_1.out.cell 5
  have m1_6 : W10.cell? ⟨B2_1, 6, none⟩ = some _ := K10_1.out.cell 6
  have m1_7 : W10.cell? ⟨B2_1, 7, none⟩ = some _ := K10_1.out.cell 7
  have m1_8 : W10.cell? ⟨B2_1, 8, none⟩ = some _ := K10_1.out.cell 8
  have m1_9 : W10.cell? ⟨B2_1, 9, none⟩ = some _ := K10_1.out.cell 9
  have m1_10 : W10.cell? ⟨B2_1, 10, none⟩ = some _ := K10_1.out.cell 10
  have m1_11 : W10.cell? ⟨B2_1, 11, none⟩ = some _ := K10_1.out.cell 11
  have mlt1 : B2_1 < W10.heap.size := K10_1.out.lt
  have m2_0 : W10.cell? ⟨B6, 0, none⟩ = some _ := K10_2.out.cell 0
  have m2_1 : W10.cell? ⟨B6, 1, none⟩ = some _ := K10_2.out.cell 1
  have m2_2 : W10.cell? ⟨B6, 2, none⟩ = some _ := K10_2.out.cell 2
  have m2_3 : W10.cell? ⟨B6, 3, none⟩ = some _ := K10_2.out.cell 3
  have m2_4 : W10.cell? ⟨B6, 4, none⟩ = some _ := K10_2.out.cell 4
  have m2_5 : W10.cell? ⟨B6, 5, none⟩ = some _ := K10_2.out.cell 5
  have m2_6 : W10.cell? ⟨B6, 6, none⟩ = some _ := K10_2.out.cell 6
  have m2_7 : W10.cell? ⟨B6, 7, none⟩ = some _ := K10_2.out.cell 7
  have m2_8 : W10.cell? ⟨B6, 8, none⟩ = some _ := K10_2.out.cell 8
  have m2_9 : W10.cell? ⟨B6, 9, none⟩ = some _ := K10_2.out.cell 9
  have m2_10 : W10.cell? ⟨B6, 10, none⟩ = some _ := K10_2.out.cell 10
  have m2_11 : W10.cell? ⟨B6, 11, none⟩ = some _ := K10_2.out.cell 11
  have mlt2 : B6 < W10.heap.size := K10_2.out.lt
  have m3_0 : W10.cell? ⟨B8, 0, none⟩ = some _ := K10_3.out.cell 0
  have m3_1 : W10.cell? ⟨B8, 1, none⟩ = some _ := K10_3.out.cell 1
  have m3_2 : W10.cell? ⟨B8, 2, none⟩ = some _ := K10_3.out.cell 2
  have m3_3 : W10.cell? ⟨B8, 3, none⟩ = some _ := K10_3.out.cell 3
  have m3_4 : W10.cell? ⟨B8, 4, none⟩ = some _ := K10_3.out.cell 4
  have m3_5 : W10.cell? ⟨B8, 5, none⟩ = some _ := K10_3.out.cell 5
  have m3_6 : W10.cell? ⟨B8, 6, none⟩ = some _ := K10_3.out.cell 6
  have m3_7 : W10.cell? ⟨B8, 7, none⟩ = some _ := K10_3.out.cell 7
  have m3_8 : W10.cell? ⟨B8, 8, none⟩ = some _ := K10_3.out.cell 8
  have m3_9 : W10.cell? ⟨B8, 9, none⟩ = some _ := K10_3.out.cell 9
  have m3_10 : W10.cell? ⟨B8, 10, none⟩ = some _ := K10_3.out.cell 10
  have m3_11 : W10.cell? ⟨B8, 11, none⟩ = some _ := K10_3.out.cell 11
  have mlt3 : B8 < W10.heap.size := K10_3.out.lt
  go_wp2_with fail
  clear m0_0 m0_1 m0_2 m0_3 m0_4 m0_5 m0_6 m0_7 m0_8 m0_9 m0_10 m0_11 mlt0 m1_0 m1_1 m1_2 m1_3 m1_4 m1_5 m1_6 m1_7 m1_8 m1_9 m1_10 m1_11 mlt1 m2_0 m2_1 m2_2 m2_3 m2_4 m2_5 m2_6 m2_7 m2_8 m2_9 m2_10 m2_11 mlt2 m3_0 m3_1 m3_2 m3_3 m3_4 m3_5 m3_6 m3_7 m3_8 m3_9 m3_10 m3_11 mlt3
  refine (first_6 F10.out).mono ?_
  rintro e w11 ⟨rfl, hb⟩
  have F11 := Lib.hid (F10.out.below hb)
  have L11 := Lib.hid (L10.out.trans (hb.mono L10.out.size))
  have K11_0 := Lib.hid (K10_0.out.below hb K10_0.out.lt)
  have K11_1 := Lib.hid (K10_1.out.below hb K10_1.out.lt)
  have K11_2 := Lib.hid (K10_2.out.below hb K10_2.out.lt)
  have K11_3 := Lib.hid (K10_3.out.below hb K10_3.out.lt)
  have K11_4 := Lib.hid (K10_4.out.below hb K10_4.out.lt)
  clear hb F10 K10_0 K10_1 K10_2 K10_3 K10_4
  go_wp2_with fail
  have nb0 : Blk (w11.alloc (.cells #[.int .u64 1074934870] 22)) (w11.heap.size) [.int .u64 1074934870] 22 := Blk.new w11 [.int .u64 1074934870] 22
  have nls : Below w.heap.size w w11 := L11.out
  have nl0 := nls.alloc nls.size (.cells #[.int .u64 1074934870] 22)
  have nl : Below w.heap.size w (w11.alloc (.cells #[.int .u64 1074934870] 22)) := nl0; clear nls nl0
  have o0 : Blk (w11.alloc (.cells #[.int .u64 1074934870] 22)) B2_0 [.bool true, .bool true, .bool false, .bool false, .bool false, .bool false, .bool false, .bool false, .int .i64 0, .int .u64 7, .int .i64 0, .int .u64 0] 26 := (K11_0.out.alloc (.cells #[.int .u64 1074934870] 22))
  have d12_0 : B2_0 < w11.heap.size := K11_0.out.lt
  have o1 : Blk (w11.alloc (.cells #[.int .u64 1074934870] 22)) B2_1 [.bool true, .bool true, .bool false, .bool false, .bool false, .bool false, .bool false, .bool false, .int .i64 0, .int .u64 512, .int .i64 1, .int .u64 0] 26 := (K11_1.out.alloc (.cells #[.int .u64 1074934870] 22))
  have d12_1 : B2_1 < w11.heap.size := K11_1.out.lt
  have o2 : Blk (w11.alloc (.cells #[.int .u64 1074934870] 22)) B6 [.bool true, .bool true, .bool false, .bool false, .bool false, .bool false, .bool false, .bool false, .int .i64 0, .int .u64 7, .int .i64 0, .int .u64 0] 26 := (K11_2.out.alloc (.cells #[.int .u64 1074934870] 22))
  have d12_2 : B6 < w11.heap.size := K11_2.out.lt
  have o3 : Blk (w11.alloc (.cells #[.int .u64 1074934870] 22)) B8 [.bool true, .bool true, .bool false, .bool false, .bool false, .bool false, .bool false, .bool false, .int .i64 0, .int .u64 512, .int .i64 1, .int .u64 0] 26 := (K11_3.out.alloc (.cells #[.int .u64 1074934870] 22))
  have d12_3 : B8 < w11.heap.size := K11_3.out.lt
  have o4 : Blk (w11.alloc (.cells #[.int .u64 1074934870] 22)) B10 [.bool false, .bool false, .bool false, .bool false, .bool false, .bool false, .bool false, .bool false, .int .i64 0, .int .u64 0, .int .i64 0, .int .u64 0] 26 := (K11_4.out.alloc (.cells #[.int .u64 1074934870] 22))
  have d12_4 : B10 < w11.heap.size := K11_4.out.lt
  obtain ⟨B12, hB0⟩ : ∃ B, B = w11.heap.size := ⟨_, rfl⟩
  obtain ⟨W12, hW⟩ : ∃ W, W = (w11.alloc (.cells #[.int .u64 1074934870] 22)) := ⟨_, rfl⟩
  rw [← hW] at nl nb0 o0 o1 o2 o3 o4
  rw [← hB0] at nb0
  rw [← hW]
  try rw [← hB0]
  have K12_0 := Lib.hid o0
  have K12_1 := Lib.hid o1
  have K12_2 := Lib.hid o2
  have K12_3 := Lib.hid o3
  have K12_4 := Lib.hid o4
  have K12_5 := Lib.hid nb0
  have G12 : Hid (w.heap.size ≤ B12) := Lib.hid (by have := L11.out.size; omega)
  have x12_0_0 : B2_0 ≠ B12 := by omega
  have x12_1_0 : B2_1 ≠ B12 := by omega
  have x12_2_0 : B6 ≠ B12 := by omega
  have x12_3_0 : B8 ≠ B12 := by omega
  have x12_4_0 : B10 ≠ B12 := by omega
  have X12_0_0 := Lib.hid x12_0_0; clear x12_0_0
  have X12_1_0 := Lib.hid x12_1_0; clear x12_1_0
  have X12_2_0 := Lib.hid x12_2_0; clear x12_2_0
  have X12_3_0 := Lib.hid x12_3_0; clear x12_3_0
  have X12_4_0 := Lib.hid x12_4_0; clear x12_4_0
  have F12 : Hid (Buf W12 b sp g 2 1 R2) := Lib.hid (hW ▸ F11.out.below ((Below.refl w11.heap.size w11).alloc (by simp) (.cells #[.int .u64 1074934870] 22)))
  have nf12 : Hid (¬ FpT b sp g 2 B12) := Lib.hid (fun hf => by have := F11.out.lt _ hf; omega)
  clear F11
  have L12 := Lib.hid nl
  clear nl hW nb0 hB0 o0 d12_0 o1 d12_1 o2 d12_2 o3 d12_3 o4 d12_4 K11_0 K11_1 K11_2 K11_3 K11_4
  refine (first_7 F12.out K12_5.out nf12.out).mono ?_
  rintro e w13 ⟨rfl, hbuf, hb⟩
  have hbuf : Buf w13 b sp g 2 1 R3 := hbuf
  have F13 := Lib.hid hbuf
  have L13 := Lib.hid (L12.out.trans (hb.below L12.out.size (fun k hk hf => by have := HFP2.out k hf; omega)))
  have K13_0 := Lib.hid (K12_0.out.chg hb nf2_0.out)
  have K13_1 := Lib.hid (K12_1.out.chg hb nf2_1.out)
  have K13_2 := Lib.hid (K12_2.out.chg hb nf6.out)
  have K13_3 := Lib.hid (K12_3.out.chg hb nf8.out)
  have K13_4 := Lib.hid (K12_4.out.chg hb nf10.out)
  have K13_5 := Lib.hid (K12_5.out.chg hb nf12.out)
  clear hb hbuf F12 K12_0 K12_1 K12_2 K12_3 K12_4 K12_5
  go_wp2_with fail
  refine (first_8 F13.out).mono ?_
  rintro e w14 ⟨rfl, hbuf, hb⟩
  have hbuf : Buf w14 b sp g 2 1 (fenT R3 none none) := hbuf
  have F14 := Lib.hid hbuf
  have L14 := Lib.hid (L13.out.trans (hb.below L13.out.size (fun k hk hf => by have := HFP2.out k hf; omega)))
  have K14_0 := Lib.hid (K13_0.out.chg hb nf2_0.out)
  have K14_1 := Lib.hid (K13_1.out.chg hb nf2_1.out)
  have K14_2 := Lib.hid (K13_2.out.chg hb nf6.out)
  have K14_3 := Lib.hid (K13_3.out.chg hb nf8.out)
  have K14_4 := Lib.hid (K13_4.out.chg hb nf10.out)
  have K14_5 := Lib.hid (K13_5.out.chg hb nf12.out)
  clear hb hbuf F13 K13_0 K13_1 K13_2 K13_3 K13_4 K13_5
  go_wp2
  go_ret
  exact ⟨rfl, L14.out⟩
end Go.Proofs.Ytfibdkiibnajhaa
