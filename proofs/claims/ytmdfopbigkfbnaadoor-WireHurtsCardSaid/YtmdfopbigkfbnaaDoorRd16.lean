/-
  What read and rightHead of package wire answer: contracts over the translation. Each says its own conditions.
-/
import Derived.Test.YtmdfopbigkfbnaaDoorPut16
namespace Go.Proofs.YtmdfopbigkfbnaaDoor
open Go.RowKit
set_option linter.unusedVariables false
set_option linter.unusedSimpArgs false
attribute [local go_sem] setCell_drewN alloc_drewN

def up16 (d : List Int) (k : Nat) : List Value := [.int .u64 (if 0 < k then num16 d 0 else 0), .int .u64 (if 1 < k then num16 d 1 else 0), .int .u64 (if 2 < k then num16 d 2 else 0), .int .u64 (if 3 < k then num16 d 3 else 0), .int .u64 (if 4 < k then num16 d 4 else 0), .int .u64 (if 5 < k then num16 d 5 else 0), .int .u64 (if 6 < k then num16 d 6 else 0)]
theorem gy16 (A : Option Addr) (n cap : Nat) (d : List Int) (w : World) (hd : Dat w A n cap d) (k : Nat) (h : of16 k + sz16 k ≤ n) : Calls Tryd.prog 32 #[.slice A n cap, .int .i64 (of16 k : Nat), .int .i64 (sz16 k : Nat)] w fun e w' => e = .returned (.tuple #[.int .u64 (num16 d k), .bool true]) ∧ w = w' :=
  get_yes A n d cap (of16 k) (sz16 k) w hd.rd hd.len ⟨sz16_SzI k, by omega, by omega⟩
theorem gn16 (A : Option Addr) (n cap : Nat) (d : List Int) (w : World) (hd : Dat w A n cap d) (k : Nat) (h : n < of16 k + sz16 k) : Calls Tryd.prog 32 #[.slice A n cap, .int .i64 (of16 k : Nat), .int .i64 (sz16 k : Nat)] w fun e w' => e = .returned (.tuple #[.int .u64 0, .bool false]) ∧ w = w' :=
  get_no A n cap _ _ w hd.le (fun h2 => by have := h2.2.2; omega)
theorem ids16_0 (v0 v1 v2 v3 v4 v5 v6 : Value) (w0 : World) : (Instr.index 42 (.agg #[v0, v1, v2, v3, v4, v5, v6]) (.int .i64 0)).run Tryd.prog w0 = .ok v0 w0 := by kernel_rfl
theorem ids16_1 (v0 v1 v2 v3 v4 v5 v6 : Value) (w0 : World) : (Instr.index 42 (.agg #[v0, v1, v2, v3, v4, v5, v6]) (.int .i64 1)).run Tryd.prog w0 = .ok v1 w0 := by kernel_rfl
theorem ids16_2 (v0 v1 v2 v3 v4 v5 v6 : Value) (w0 : World) : (Instr.index 42 (.agg #[v0, v1, v2, v3, v4, v5, v6]) (.int .i64 2)).run Tryd.prog w0 = .ok v2 w0 := by kernel_rfl
theorem ids16_3 (v0 v1 v2 v3 v4 v5 v6 : Value) (w0 : World) : (Instr.index 42 (.agg #[v0, v1, v2, v3, v4, v5, v6]) (.int .i64 3)).run Tryd.prog w0 = .ok v3 w0 := by kernel_rfl
theorem ids16_4 (v0 v1 v2 v3 v4 v5 v6 : Value) (w0 : World) : (Instr.index 42 (.agg #[v0, v1, v2, v3, v4, v5, v6]) (.int .i64 4)).run Tryd.prog w0 = .ok v4 w0 := by kernel_rfl
theorem ids16_5 (v0 v1 v2 v3 v4 v5 v6 : Value) (w0 : World) : (Instr.index 42 (.agg #[v0, v1, v2, v3, v4, v5, v6]) (.int .i64 5)).run Tryd.prog w0 = .ok v5 w0 := by kernel_rfl
theorem ids16_6 (v0 v1 v2 v3 v4 v5 v6 : Value) (w0 : World) : (Instr.index 42 (.agg #[v0, v1, v2, v3, v4, v5, v6]) (.int .i64 6)).run Tryd.prog w0 = .ok v6 w0 := by kernel_rfl
set_option maxHeartbeats 8000000 in
theorem read_any (A : Option Addr) (n cap : Nat) (d : List Int) (w : World) (hd : Dat w A n cap d) (hS : Szs w) : Calls Tryd.prog 21 #[.slice A n cap] w fun e w' =>
    (∃ c0 c1 c2 c3 c4 c5 c6 : Int, e = .returned (.tuple #[.agg #[.int .u64 c0, .int .u64 c1, .int .u64 c2, .int .u64 c3, .int .u64 c4, .int .u64 c5, .int .u64 c6], .bool (decide (23 ≤ n))]) ∧ (23 ≤ n → [num16 d 0, num16 d 1, num16 d 2, num16 d 3, num16 d 4, num16 d 5, num16 d 6] = [c0, c1, c2, c3, c4, c5, c6])) ∧ Below w.heap.size w w' := by
  have hle := hd.le
  have HD := Lib.hid hd; have HS := Lib.hid hS
  clear hd hS
  go_enter Tryd.func21, Tryd.ntmps21
  go_upto_region 2 with (fail)
  have nb0 : Blk (w.alloc (.cells #[.int .u64 0, .int .u64 0, .int .u64 0, .int .u64 0, .int .u64 0, .int .u64 0, .int .u64 0] 40)) (w.heap.size) [.int .u64 0, .int .u64 0, .int .u64 0, .int .u64 0, .int .u64 0, .int .u64 0, .int .u64 0] 40 := Blk.new w [.int .u64 0, .int .u64 0, .int .u64 0, .int .u64 0, .int .u64 0, .int .u64 0, .int .u64 0] 40
  replace nb0 := nb0.alloc (.cells #[.int .u64 0, .int .u64 0, .int .u64 0, .int .u64 0, .int .u64 0, .int .u64 0, .int .u64 0] 40)
  have nb1 : Blk ((w.alloc (.cells #[.int .u64 0, .int .u64 0, .int .u64 0, .int .u64 0, .int .u64 0, .int .u64 0, .int .u64 0] 40)).alloc (.cells #[.int .u64 0, .int .u64 0, .int .u64 0, .int .u64 0, .int .u64 0, .int .u64 0, .int .u64 0] 40)) (w.heap.size + 1) [.int .u64 0, .int .u64 0, .int .u64 0, .int .u64 0, .int .u64 0, .int .u64 0, .int .u64 0] 40 := Blk.nextn (w.alloc (.cells #[.int .u64 0, .int .u64 0, .int .u64 0, .int .u64 0, .int .u64 0, .int .u64 0, .int .u64 0] 40)) (w.heap.size + 1) [.int .u64 0, .int .u64 0, .int .u64 0, .int .u64 0, .int .u64 0, .int .u64 0, .int .u64 0] 40 (by simp)
  have nls : Below w.heap.size w w := (Below.refl w.heap.size w)
  have nl0 := nls.alloc nls.size (.cells #[.int .u64 0, .int .u64 0, .int .u64 0, .int .u64 0, .int .u64 0, .int .u64 0, .int .u64 0] 40)
  have nl1 := nl0.alloc nl0.size (.cells #[.int .u64 0, .int .u64 0, .int .u64 0, .int .u64 0, .int .u64 0, .int .u64 0, .int .u64 0] 40)
  have nl : Below w.heap.size w ((w.alloc (.cells #[.int .u64 0, .int .u64 0, .int .u64 0, .int .u64 0, .int .u64 0, .int .u64 0, .int .u64 0] 40)).alloc (.cells #[.int .u64 0, .int .u64 0, .int .u64 0, .int .u64 0, .int .u64 0, .int .u64 0, .int .u64 0] 40)) := nl1; clear nls nl0 nl1
  obtain ⟨B1_1, hB1⟩ : ∃ B, B = w.heap.size + 1 := ⟨_, rfl⟩
  obtain ⟨B1_0, hB0⟩ : ∃ B, B = w.heap.size := ⟨_, rfl⟩
  obtain ⟨W1, hW⟩ : ∃ W, W = ((w.alloc (.cells #[.int .u64 0, .int .u64 0, .int .u64 0, .int .u64 0, .int .u64 0, .int .u64 0, .int .u64 0] 40)).alloc (.cells #[.int .u64 0, .int .u64 0, .int .u64 0, .int .u64 0, .int .u64 0, .int .u64 0, .int .u64 0] 40)) := ⟨_, rfl⟩
  rw [← hW] at nl nb0 nb1
  rw [← hB1] at nb1
  rw [← hB0] at nb0
  rw [← hW]
  try rw [← hB1]
  try rw [← hB0]
  have K1_0 := Lib.hid nb0
  have G1_0 : Hid (w.heap.size ≤ B1_0) := Lib.hid (by have := (Nat.le_refl w.heap.size); omega)
  have K1_1 := Lib.hid nb1
  have G1_1 : Hid (w.heap.size ≤ B1_1) := Lib.hid (by have := (Nat.le_refl w.heap.size); omega)
  have y1_0_1 : B1_0 ≠ B1_1 := by omega
  have Y1_0_1 := Lib.hid y1_0_1; clear y1_0_1
  have L1 := Lib.hid nl
  clear nl hW nb0 hB0 nb1 hB1
  have hsz := HS.out.below L1.out
  have s0 : W1.cell? ⟨0, 0, none⟩ = some (.int .i64 2) := hsz 0 (by decide)
  have s1 : W1.cell? ⟨0, 1, none⟩ = some (.int .i64 1) := hsz 1 (by decide)
  have s2 : W1.cell? ⟨0, 2, none⟩ = some (.int .i64 1) := hsz 2 (by decide)
  have s3 : W1.cell? ⟨0, 3, none⟩ = some (.int .i64 1) := hsz 3 (by decide)
  have s4 : W1.cell? ⟨0, 4, none⟩ = some (.int .i64 8) := hsz 4 (by decide)
  have s5 : W1.cell? ⟨0, 5, none⟩ = some (.int .i64 8) := hsz 5 (by decide)
  have s6 : W1.cell? ⟨0, 6, none⟩ = some (.int .i64 2) := hsz 6 (by decide)
  have slt : 0 < W1.heap.size := cell_lt s0
  clear hsz
  go_wp2
  clear s0 s1 s2 s3 s4 s5 s6 slt
  go_loopw [5, 11] (fun at_ ix wr => ∃ k : Nat, k ≤ 7 ∧ of16 k ≤ n ∧ at_ = .int .i64 (of16 k : Nat) ∧ ix = .int .i64 (k : Int) ∧ Blk wr B1_0 [.int .u64 0, .int .u64 0, .int .u64 0, .int .u64 0, .int .u64 0, .int .u64 0, .int .u64 0] 40 ∧ Blk wr B1_1 (up16 d k) 40 ∧ Below w.heap.size w wr) (fun _ ix _ => 7 - (intOf ix).toNat)
  case atStart => exact ⟨0, Nat.zero_le _, Nat.zero_le _, rfl, rfl, K1_0.out, K1_1.out, L1.out⟩
  case round =>
    obtain ⟨k, hk, hof, rfl, rfl, hb1, hb2, hbl⟩ := hrel
    have L9 := Lib.hid hbl; have K9 := Lib.hid hb1; have KU := Lib.hid hb2
    clear hb1 hb2 hbl K1_0 K1_1
    rcases (by omega : k = 0 ∨ k = 1 ∨ k = 2 ∨ k = 3 ∨ k = 4 ∨ k = 5 ∨ k = 6 ∨ k = 7) with rfl | rfl | rfl | rfl | rfl | rfl | rfl | rfl
    · have K8 := Lib.hid (show Blk wr B1_1 [.int .u64 0, .int .u64 0, .int .u64 0, .int .u64 0, .int .u64 0, .int .u64 0, .int .u64 0] 40 from KU.out)
      clear KU
      have hof2 : 0 ≤ n := hof
      clear hof hk
      by_cases hin : 2 ≤ n
      · have hg : Calls Tryd.prog 32 #[.slice A n cap, .int .i64 0, .int .i64 2] wr fun e w' => e = .returned (.tuple #[.int .u64 (num16 d 0), .bool true]) ∧ wr = w' := gy16 A n cap d wr (HD.out.below L9.out) 0 hin
        have hix := ids16_0
        have HG := Lib.hid hg; clear hg
        obtain ⟨cc, hcc⟩ : ∃ cc, cc = num16 d 0 := ⟨_, rfl⟩
        rw [← hcc] at HG
        have HCC := Lib.hid hcc; clear hcc
        go_wp2_with fail
        refine HG.out.mono ?_
        rintro e wx ⟨rfl, rfl⟩
        have m1_0 : wr.cell? ⟨B1_1, 0, none⟩ = some _ := K8.out.cell 0
        have m1_1 : wr.cell? ⟨B1_1, 1, none⟩ = some _ := K8.out.cell 1
        have m1_2 : wr.cell? ⟨B1_1, 2, none⟩ = some _ := K8.out.cell 2
        have m1_3 : wr.cell? ⟨B1_1, 3, none⟩ = some _ := K8.out.cell 3
        have m1_4 : wr.cell? ⟨B1_1, 4, none⟩ = some _ := K8.out.cell 4
        have m1_5 : wr.cell? ⟨B1_1, 5, none⟩ = some _ := K8.out.cell 5
        have m1_6 : wr.cell? ⟨B1_1, 6, none⟩ = some _ := K8.out.cell 6
        have mlt1 : B1_1 < wr.heap.size := K8.out.lt
        have mf1 : ∀ o, wr.frozen? ⟨B1_1, o, none⟩ = false := fun o => K8.out.free o
        go_wp2
        clear m1_0 m1_1 m1_2 m1_3 m1_4 m1_5 m1_6 mlt1 mf1
        go_roundw
        case rel => exact ⟨1, by decide, hin, int_eq (by simp only [of16]; decide +kernel), by go_num, K9.out.other ⟨B1_1, 0, none⟩ _ Y1_0_1.out, (by have h2 := K8.out.set 0 (.int .u64 cc); rw [HCC.out] at h2 ⊢; exact h2), Below.setCell L9.out G1_1.out _⟩
        case measure => simp [intOf]
      · have hg : Calls Tryd.prog 32 #[.slice A n cap, .int .i64 0, .int .i64 2] wr fun e w' => e = .returned (.tuple #[.int .u64 0, .bool false]) ∧ wr = w' := gn16 A n cap d wr (HD.out.below L9.out) 0 (by show n < 2; omega)
        have hix := ids16_0
        have HG := Lib.hid hg; clear hg
        go_wp2_with fail
        refine HG.out.mono ?_
        rintro e wx ⟨rfl, rfl⟩
        have m0_0 : wr.cell? ⟨B1_0, 0, none⟩ = some _ := K9.out.cell 0
        have m0_1 : wr.cell? ⟨B1_0, 1, none⟩ = some _ := K9.out.cell 1
        have m0_2 : wr.cell? ⟨B1_0, 2, none⟩ = some _ := K9.out.cell 2
        have m0_3 : wr.cell? ⟨B1_0, 3, none⟩ = some _ := K9.out.cell 3
        have m0_4 : wr.cell? ⟨B1_0, 4, none⟩ = some _ := K9.out.cell 4
        have m0_5 : wr.cell? ⟨B1_0, 5, none⟩ = some _ := K9.out.cell 5
        have m0_6 : wr.cell? ⟨B1_0, 6, none⟩ = some _ := K9.out.cell 6
        have mlt0 : B1_0 < wr.heap.size := K9.out.lt
        have mf0 : ∀ o, wr.frozen? ⟨B1_0, o, none⟩ = false := fun o => K9.out.free o
        have m1_0 : wr.cell? ⟨B1_1, 0, none⟩ = some _ := K8.out.cell 0
        have m1_1 : wr.cell? ⟨B1_1, 1, none⟩ = some _ := K8.out.cell 1
        have m1_2 : wr.cell? ⟨B1_1, 2, none⟩ = some _ := K8.out.cell 2
        have m1_3 : wr.cell? ⟨B1_1, 3, none⟩ = some _ := K8.out.cell 3
        have m1_4 : wr.cell? ⟨B1_1, 4, none⟩ = some _ := K8.out.cell 4
        have m1_5 : wr.cell? ⟨B1_1, 5, none⟩ = some _ := K8.out.cell 5
        have m1_6 : wr.cell? ⟨B1_1, 6, none⟩ = some _ := K8.out.cell 6
        have mlt1 : B1_1 < wr.heap.size := K8.out.lt
        go_wp2
        clear m0_0 m0_1 m0_2 m0_3 m0_4 m0_5 m0_6 mlt0 mf0 m1_0 m1_1 m1_2 m1_3 m1_4 m1_5 m1_6 mlt1
        obtain ⟨W21, hW⟩ : ∃ WX, WX = (((((((wr.setCell ⟨B1_0, 0, none⟩ (.int .u64 0)).setCell ⟨B1_0, 1, none⟩ (.int .u64 0)).setCell ⟨B1_0, 2, none⟩ (.int .u64 0)).setCell ⟨B1_0, 3, none⟩ (.int .u64 0)).setCell ⟨B1_0, 4, none⟩ (.int .u64 0)).setCell ⟨B1_0, 5, none⟩ (.int .u64 0)).setCell ⟨B1_0, 6, none⟩ (.int .u64 0)) := ⟨_, rfl⟩
        rw [← hW]
        have K21_0 := Lib.hid (show Blk W21 B1_0 [.int .u64 0, .int .u64 0, .int .u64 0, .int .u64 0, .int .u64 0, .int .u64 0, .int .u64 0] 40 from hW ▸ (((((((K9.out.set 0 (.int .u64 0)).set 1 (.int .u64 0)).set 2 (.int .u64 0)).set 3 (.int .u64 0)).set 4 (.int .u64 0)).set 5 (.int .u64 0)).set 6 (.int .u64 0)))
        have K21_1 := Lib.hid (show Blk W21 B1_1 [.int .u64 0, .int .u64 0, .int .u64 0, .int .u64 0, .int .u64 0, .int .u64 0, .int .u64 0] 40 from hW ▸ (((((((K8.out.other ⟨B1_0, 0, none⟩ (.int .u64 0) (Ne.symm Y1_0_1.out)).other ⟨B1_0, 1, none⟩ (.int .u64 0) (Ne.symm Y1_0_1.out)).other ⟨B1_0, 2, none⟩ (.int .u64 0) (Ne.symm Y1_0_1.out)).other ⟨B1_0, 3, none⟩ (.int .u64 0) (Ne.symm Y1_0_1.out)).other ⟨B1_0, 4, none⟩ (.int .u64 0) (Ne.symm Y1_0_1.out)).other ⟨B1_0, 5, none⟩ (.int .u64 0) (Ne.symm Y1_0_1.out)).other ⟨B1_0, 6, none⟩ (.int .u64 0) (Ne.symm Y1_0_1.out)))
        have L21 := Lib.hid (show Below w.heap.size w W21 from hW ▸ (Below.setCell (Below.setCell (Below.setCell (Below.setCell (Below.setCell (Below.setCell (Below.setCell L9.out G1_0.out _) G1_0.out _) G1_0.out _) G1_0.out _) G1_0.out _) G1_0.out _) G1_0.out _))
        clear hW K9 K8
        have rr0 : W21.cell? ⟨B1_0, 0, none⟩ = some _ := K21_0.out.cell 0
        have rr1 : W21.cell? ⟨B1_0, 1, none⟩ = some _ := K21_0.out.cell 1
        have rr2 : W21.cell? ⟨B1_0, 2, none⟩ = some _ := K21_0.out.cell 2
        have rr3 : W21.cell? ⟨B1_0, 3, none⟩ = some _ := K21_0.out.cell 3
        have rr4 : W21.cell? ⟨B1_0, 4, none⟩ = some _ := K21_0.out.cell 4
        have rr5 : W21.cell? ⟨B1_0, 5, none⟩ = some _ := K21_0.out.cell 5
        have rr6 : W21.cell? ⟨B1_0, 6, none⟩ = some _ := K21_0.out.cell 6
        refine bodyPost_ret (v := .tuple #[.agg #[.int .u64 0, .int .u64 0, .int .u64 0, .int .u64 0, .int .u64 0, .int .u64 0, .int .u64 0], .bool false]) (by simp [results, Tryd.results21, go_sem, rr0, rr1, rr2, rr3, rr4, rr5, rr6]) rfl ⟨⟨_, _, _, _, _, _, _, (by rw [decide_eq_false (by omega)]), fun h => absurd h (by omega)⟩, L21.out⟩
    · have K8 := Lib.hid (show Blk wr B1_1 [.int .u64 (num16 d 0), .int .u64 0, .int .u64 0, .int .u64 0, .int .u64 0, .int .u64 0, .int .u64 0] 40 from KU.out)
      clear KU
      have hof2 : 2 ≤ n := hof
      clear hof hk
      by_cases hin : 3 ≤ n
      · have hg : Calls Tryd.prog 32 #[.slice A n cap, .int .i64 2, .int .i64 1] wr fun e w' => e = .returned (.tuple #[.int .u64 (num16 d 1), .bool true]) ∧ wr = w' := gy16 A n cap d wr (HD.out.below L9.out) 1 hin
        have hix := ids16_1
        have HG := Lib.hid hg; clear hg
        obtain ⟨cc, hcc⟩ : ∃ cc, cc = num16 d 1 := ⟨_, rfl⟩
        rw [← hcc] at HG
        have HCC := Lib.hid hcc; clear hcc
        go_wp2_with fail
        refine HG.out.mono ?_
        rintro e wx ⟨rfl, rfl⟩
        have m1_0 : wr.cell? ⟨B1_1, 0, none⟩ = some _ := K8.out.cell 0
        have m1_1 : wr.cell? ⟨B1_1, 1, none⟩ = some _ := K8.out.cell 1
        have m1_2 : wr.cell? ⟨B1_1, 2, none⟩ = some _ := K8.out.cell 2
        have m1_3 : wr.cell? ⟨B1_1, 3, none⟩ = some _ := K8.out.cell 3
        have m1_4 : wr.cell? ⟨B1_1, 4, none⟩ = some _ := K8.out.cell 4
        have m1_5 : wr.cell? ⟨B1_1, 5, none⟩ = some _ := K8.out.cell 5
        have m1_6 : wr.cell? ⟨B1_1, 6, none⟩ = some _ := K8.out.cell 6
        have mlt1 : B1_1 < wr.heap.size := K8.out.lt
        have mf1 : ∀ o, wr.frozen? ⟨B1_1, o, none⟩ = false := fun o => K8.out.free o
        go_wp2
        clear m1_0 m1_1 m1_2 m1_3 m1_4 m1_5 m1_6 mlt1 mf1
        go_roundw
        case rel => exact ⟨2, by decide, hin, int_eq (by simp only [of16]; decide +kernel), by go_num, K9.out.other ⟨B1_1, 1, none⟩ _ Y1_0_1.out, (by have h2 := K8.out.set 1 (.int .u64 cc); rw [HCC.out] at h2 ⊢; exact h2), Below.setCell L9.out G1_1.out _⟩
        case measure => simp [intOf]
      · have hg : Calls Tryd.prog 32 #[.slice A n cap, .int .i64 2, .int .i64 1] wr fun e w' => e = .returned (.tuple #[.int .u64 0, .bool false]) ∧ wr = w' := gn16 A n cap d wr (HD.out.below L9.out) 1 (by show n < 3; omega)
        have hix := ids16_1
        have HG := Lib.hid hg; clear hg
        go_wp2_with fail
        refine HG.out.mono ?_
        rintro e wx ⟨rfl, rfl⟩
        have m0_0 : wr.cell? ⟨B1_0, 0, none⟩ = some _ := K9.out.cell 0
        have m0_1 : wr.cell? ⟨B1_0, 1, none⟩ = some _ := K9.out.cell 1
        have m0_2 : wr.cell? ⟨B1_0, 2, none⟩ = some _ := K9.out.cell 2
        have m0_3 : wr.cell? ⟨B1_0, 3, none⟩ = some _ := K9.out.cell 3
        have m0_4 : wr.cell? ⟨B1_0, 4, none⟩ = some _ := K9.out.cell 4
        have m0_5 : wr.cell? ⟨B1_0, 5, none⟩ = some _ := K9.out.cell 5
        have m0_6 : wr.cell? ⟨B1_0, 6, none⟩ = some _ := K9.out.cell 6
        have mlt0 : B1_0 < wr.heap.size := K9.out.lt
        have mf0 : ∀ o, wr.frozen? ⟨B1_0, o, none⟩ = false := fun o => K9.out.free o
        have m1_0 : wr.cell? ⟨B1_1, 0, none⟩ = some _ := K8.out.cell 0
        have m1_1 : wr.cell? ⟨B1_1, 1, none⟩ = some _ := K8.out.cell 1
        have m1_2 : wr.cell? ⟨B1_1, 2, none⟩ = some _ := K8.out.cell 2
        have m1_3 : wr.cell? ⟨B1_1, 3, none⟩ = some _ := K8.out.cell 3
        have m1_4 : wr.cell? ⟨B1_1, 4, none⟩ = some _ := K8.out.cell 4
        have m1_5 : wr.cell? ⟨B1_1, 5, none⟩ = some _ := K8.out.cell 5
        have m1_6 : wr.cell? ⟨B1_1, 6, none⟩ = some _ := K8.out.cell 6
        have mlt1 : B1_1 < wr.heap.size := K8.out.lt
        go_wp2
        clear m0_0 m0_1 m0_2 m0_3 m0_4 m0_5 m0_6 mlt0 mf0 m1_0 m1_1 m1_2 m1_3 m1_4 m1_5 m1_6 mlt1
        obtain ⟨W21, hW⟩ : ∃ WX, WX = (((((((wr.setCell ⟨B1_0, 0, none⟩ (.int .u64 (num16 d 0))).setCell ⟨B1_0, 1, none⟩ (.int .u64 0)).setCell ⟨B1_0, 2, none⟩ (.int .u64 0)).setCell ⟨B1_0, 3, none⟩ (.int .u64 0)).setCell ⟨B1_0, 4, none⟩ (.int .u64 0)).setCell ⟨B1_0, 5, none⟩ (.int .u64 0)).setCell ⟨B1_0, 6, none⟩ (.int .u64 0)) := ⟨_, rfl⟩
        rw [← hW]
        have K21_0 := Lib.hid (show Blk W21 B1_0 [.int .u64 (num16 d 0), .int .u64 0, .int .u64 0, .int .u64 0, .int .u64 0, .int .u64 0, .int .u64 0] 40 from hW ▸ (((((((K9.out.set 0 (.int .u64 (num16 d 0))).set 1 (.int .u64 0)).set 2 (.int .u64 0)).set 3 (.int .u64 0)).set 4 (.int .u64 0)).set 5 (.int .u64 0)).set 6 (.int .u64 0)))
        have K21_1 := Lib.hid (show Blk W21 B1_1 [.int .u64 (num16 d 0), .int .u64 0, .int .u64 0, .int .u64 0, .int .u64 0, .int .u64 0, .int .u64 0] 40 from hW ▸ (((((((K8.out.other ⟨B1_0, 0, none⟩ (.int .u64 (num16 d 0)) (Ne.symm Y1_0_1.out)).other ⟨B1_0, 1, none⟩ (.int .u64 0) (Ne.symm Y1_0_1.out)).other ⟨B1_0, 2, none⟩ (.int .u64 0) (Ne.symm Y1_0_1.out)).other ⟨B1_0, 3, none⟩ (.int .u64 0) (Ne.symm Y1_0_1.out)).other ⟨B1_0, 4, none⟩ (.int .u64 0) (Ne.symm Y1_0_1.out)).other ⟨B1_0, 5, none⟩ (.int .u64 0) (Ne.symm Y1_0_1.out)).other ⟨B1_0, 6, none⟩ (.int .u64 0) (Ne.symm Y1_0_1.out)))
        have L21 := Lib.hid (show Below w.heap.size w W21 from hW ▸ (Below.setCell (Below.setCell (Below.setCell (Below.setCell (Below.setCell (Below.setCell (Below.setCell L9.out G1_0.out _) G1_0.out _) G1_0.out _) G1_0.out _) G1_0.out _) G1_0.out _) G1_0.out _))
        clear hW K9 K8
        have rr0 : W21.cell? ⟨B1_0, 0, none⟩ = some _ := K21_0.out.cell 0
        have rr1 : W21.cell? ⟨B1_0, 1, none⟩ = some _ := K21_0.out.cell 1
        have rr2 : W21.cell? ⟨B1_0, 2, none⟩ = some _ := K21_0.out.cell 2
        have rr3 : W21.cell? ⟨B1_0, 3, none⟩ = some _ := K21_0.out.cell 3
        have rr4 : W21.cell? ⟨B1_0, 4, none⟩ = some _ := K21_0.out.cell 4
        have rr5 : W21.cell? ⟨B1_0, 5, none⟩ = some _ := K21_0.out.cell 5
        have rr6 : W21.cell? ⟨B1_0, 6, none⟩ = some _ := K21_0.out.cell 6
        refine bodyPost_ret (v := .tuple #[.agg #[.int .u64 (num16 d 0), .int .u64 0, .int .u64 0, .int .u64 0, .int .u64 0, .int .u64 0, .int .u64 0], .bool false]) (by simp [results, Tryd.results21, go_sem, rr0, rr1, rr2, rr3, rr4, rr5, rr6]) rfl ⟨⟨_, _, _, _, _, _, _, (by rw [decide_eq_false (by omega)]), fun h => absurd h (by omega)⟩, L21.out⟩
    · have K8 := Lib.hid (show Blk wr B1_1 [.int .u64 (num16 d 0), .int .u64 (num16 d 1), .int .u64 0, .int .u64 0, .int .u64 0, .int .u64 0, .int .u64 0] 40 from KU.out)
      clear KU
      have hof2 : 3 ≤ n := hof
      clear hof hk
      by_cases hin : 4 ≤ n
      · have hg : Calls Tryd.prog 32 #[.slice A n cap, .int .i64 3, .int .i64 1] wr fun e w' => e = .returned (.tuple #[.int .u64 (num16 d 2), .bool true]) ∧ wr = w' := gy16 A n cap d wr (HD.out.below L9.out) 2 hin
        have hix := ids16_2
        have HG := Lib.hid hg; clear hg
        obtain ⟨cc, hcc⟩ : ∃ cc, cc = num16 d 2 := ⟨_, rfl⟩
        rw [← hcc] at HG
        have HCC := Lib.hid hcc; clear hcc
        go_wp2_with fail
        refine HG.out.mono ?_
        rintro e wx ⟨rfl, rfl⟩
        have m1_0 : wr.cell? ⟨B1_1, 0, none⟩ = some _ := K8.out.cell 0
        have m1_1 : wr.cell? ⟨B1_1, 1, none⟩ = some _ := K8.out.cell 1
        have m1_2 : wr.cell? ⟨B1_1, 2, none⟩ = some _ := K8.out.cell 2
        have m1_3 : wr.cell? ⟨B1_1, 3, none⟩ = some _ := K8.out.cell 3
        have m1_4 : wr.cell? ⟨B1_1, 4, none⟩ = some _ := K8.out.cell 4
        have m1_5 : wr.cell? ⟨B1_1, 5, none⟩ = some _ := K8.out.cell 5
        have m1_6 : wr.cell? ⟨B1_1, 6, none⟩ = some _ := K8.out.cell 6
        have mlt1 : B1_1 < wr.heap.size := K8.out.lt
        have mf1 : ∀ o, wr.frozen? ⟨B1_1, o, none⟩ = false := fun o => K8.out.free o
        go_wp2
        clear m1_0 m1_1 m1_2 m1_3 m1_4 m1_5 m1_6 mlt1 mf1
        go_roundw
        case rel => exact ⟨3, by decide, hin, int_eq (by simp only [of16]; decide +kernel), by go_num, K9.out.other ⟨B1_1, 2, none⟩ _ Y1_0_1.out, (by have h2 := K8.out.set 2 (.int .u64 cc); rw [HCC.out] at h2 ⊢; exact h2), Below.setCell L9.out G1_1.out _⟩
        case measure => simp [intOf]
      · have hg : Calls Tryd.prog 32 #[.slice A n cap, .int .i64 3, .int .i64 1] wr fun e w' => e = .returned (.tuple #[.int .u64 0, .bool false]) ∧ wr = w' := gn16 A n cap d wr (HD.out.below L9.out) 2 (by show n < 4; omega)
        have hix := ids16_2
        have HG := Lib.hid hg; clear hg
        go_wp2_with fail
        refine HG.out.mono ?_
        rintro e wx ⟨rfl, rfl⟩
        have m0_0 : wr.cell? ⟨B1_0, 0, none⟩ = some _ := K9.out.cell 0
        have m0_1 : wr.cell? ⟨B1_0, 1, none⟩ = some _ := K9.out.cell 1
        have m0_2 : wr.cell? ⟨B1_0, 2, none⟩ = some _ := K9.out.cell 2
        have m0_3 : wr.cell? ⟨B1_0, 3, none⟩ = some _ := K9.out.cell 3
        have m0_4 : wr.cell? ⟨B1_0, 4, none⟩ = some _ := K9.out.cell 4
        have m0_5 : wr.cell? ⟨B1_0, 5, none⟩ = some _ := K9.out.cell 5
        have m0_6 : wr.cell? ⟨B1_0, 6, none⟩ = some _ := K9.out.cell 6
        have mlt0 : B1_0 < wr.heap.size := K9.out.lt
        have mf0 : ∀ o, wr.frozen? ⟨B1_0, o, none⟩ = false := fun o => K9.out.free o
        have m1_0 : wr.cell? ⟨B1_1, 0, none⟩ = some _ := K8.out.cell 0
        have m1_1 : wr.cell? ⟨B1_1, 1, none⟩ = some _ := K8.out.cell 1
        have m1_2 : wr.cell? ⟨B1_1, 2, none⟩ = some _ := K8.out.cell 2
        have m1_3 : wr.cell? ⟨B1_1, 3, none⟩ = some _ := K8.out.cell 3
        have m1_4 : wr.cell? ⟨B1_1, 4, none⟩ = some _ := K8.out.cell 4
        have m1_5 : wr.cell? ⟨B1_1, 5, none⟩ = some _ := K8.out.cell 5
        have m1_6 : wr.cell? ⟨B1_1, 6, none⟩ = some _ := K8.out.cell 6
        have mlt1 : B1_1 < wr.heap.size := K8.out.lt
        go_wp2
        clear m0_0 m0_1 m0_2 m0_3 m0_4 m0_5 m0_6 mlt0 mf0 m1_0 m1_1 m1_2 m1_3 m1_4 m1_5 m1_6 mlt1
        obtain ⟨W21, hW⟩ : ∃ WX, WX = (((((((wr.setCell ⟨B1_0, 0, none⟩ (.int .u64 (num16 d 0))).setCell ⟨B1_0, 1, none⟩ (.int .u64 (num16 d 1))).setCell ⟨B1_0, 2, none⟩ (.int .u64 0)).setCell ⟨B1_0, 3, none⟩ (.int .u64 0)).setCell ⟨B1_0, 4, none⟩ (.int .u64 0)).setCell ⟨B1_0, 5, none⟩ (.int .u64 0)).setCell ⟨B1_0, 6, none⟩ (.int .u64 0)) := ⟨_, rfl⟩
        rw [← hW]
        have K21_0 := Lib.hid (show Blk W21 B1_0 [.int .u64 (num16 d 0), .int .u64 (num16 d 1), .int .u64 0, .int .u64 0, .int .u64 0, .int .u64 0, .int .u64 0] 40 from hW ▸ (((((((K9.out.set 0 (.int .u64 (num16 d 0))).set 1 (.int .u64 (num16 d 1))).set 2 (.int .u64 0)).set 3 (.int .u64 0)).set 4 (.int .u64 0)).set 5 (.int .u64 0)).set 6 (.int .u64 0)))
        have K21_1 := Lib.hid (show Blk W21 B1_1 [.int .u64 (num16 d 0), .int .u64 (num16 d 1), .int .u64 0, .int .u64 0, .int .u64 0, .int .u64 0, .int .u64 0] 40 from hW ▸ (((((((K8.out.other ⟨B1_0, 0, none⟩ (.int .u64 (num16 d 0)) (Ne.symm Y1_0_1.out)).other ⟨B1_0, 1, none⟩ (.int .u64 (num16 d 1)) (Ne.symm Y1_0_1.out)).other ⟨B1_0, 2, none⟩ (.int .u64 0) (Ne.symm Y1_0_1.out)).other ⟨B1_0, 3, none⟩ (.int .u64 0) (Ne.symm Y1_0_1.out)).other ⟨B1_0, 4, none⟩ (.int .u64 0) (Ne.symm Y1_0_1.out)).other ⟨B1_0, 5, none⟩ (.int .u64 0) (Ne.symm Y1_0_1.out)).other ⟨B1_0, 6, none⟩ (.int .u64 0) (Ne.symm Y1_0_1.out)))
        have L21 := Lib.hid (show Below w.heap.size w W21 from hW ▸ (Below.setCell (Below.setCell (Below.setCell (Below.setCell (Below.setCell (Below.setCell (Below.setCell L9.out G1_0.out _) G1_0.out _) G1_0.out _) G1_0.out _) G1_0.out _) G1_0.out _) G1_0.out _))
        clear hW K9 K8
        have rr0 : W21.cell? ⟨B1_0, 0, none⟩ = some _ := K21_0.out.cell 0
        have rr1 : W21.cell? ⟨B1_0, 1, none⟩ = some _ := K21_0.out.cell 1
        have rr2 : W21.cell? ⟨B1_0, 2, none⟩ = some _ := K21_0.out.cell 2
        have rr3 : W21.cell? ⟨B1_0, 3, none⟩ = some _ := K21_0.out.cell 3
        have rr4 : W21.cell? ⟨B1_0, 4, none⟩ = some _ := K21_0.out.cell 4
        have rr5 : W21.cell? ⟨B1_0, 5, none⟩ = some _ := K21_0.out.cell 5
        have rr6 : W21.cell? ⟨B1_0, 6, none⟩ = some _ := K21_0.out.cell 6
        refine bodyPost_ret (v := .tuple #[.agg #[.int .u64 (num16 d 0), .int .u64 (num16 d 1), .int .u64 0, .int .u64 0, .int .u64 0, .int .u64 0, .int .u64 0], .bool false]) (by simp [results, Tryd.results21, go_sem, rr0, rr1, rr2, rr3, rr4, rr5, rr6]) rfl ⟨⟨_, _, _, _, _, _, _, (by rw [decide_eq_false (by omega)]), fun h => absurd h (by omega)⟩, L21.out⟩
    · have K8 := Lib.hid (show Blk wr B1_1 [.int .u64 (num16 d 0), .int .u64 (num16 d 1), .int .u64 (num16 d 2), .int .u64 0, .int .u64 0, .int .u64 0, .int .u64 0] 40 from KU.out)
      clear KU
      have hof2 : 4 ≤ n := hof
      clear hof hk
      by_cases hin : 5 ≤ n
      · have hg : Calls Tryd.prog 32 #[.slice A n cap, .int .i64 4, .int .i64 1] wr fun e w' => e = .returned (.tuple #[.int .u64 (num16 d 3), .bool true]) ∧ wr = w' := gy16 A n cap d wr (HD.out.below L9.out) 3 hin
        have hix := ids16_3
        have HG := Lib.hid hg; clear hg
        obtain ⟨cc, hcc⟩ : ∃ cc, cc = num16 d 3 := ⟨_, rfl⟩
        rw [← hcc] at HG
        have HCC := Lib.hid hcc; clear hcc
        go_wp2_with fail
        refine HG.out.mono ?_
        rintro e wx ⟨rfl, rfl⟩
        have m1_0 : wr.cell? ⟨B1_1, 0, none⟩ = some _ := K8.out.cell 0
        have m1_1 : wr.cell? ⟨B1_1, 1, none⟩ = some _ := K8.out.cell 1
        have m1_2 : wr.cell? ⟨B1_1, 2, none⟩ = some _ := K8.out.cell 2
        have m1_3 : wr.cell? ⟨B1_1, 3, none⟩ = some _ := K8.out.cell 3
        have m1_4 : wr.cell? ⟨B1_1, 4, none⟩ = some _ := K8.out.cell 4
        have m1_5 : wr.cell? ⟨B1_1, 5, none⟩ = some _ := K8.out.cell 5
        have m1_6 : wr.cell? ⟨B1_1, 6, none⟩ = some _ := K8.out.cell 6
        have mlt1 : B1_1 < wr.heap.size := K8.out.lt
        have mf1 : ∀ o, wr.frozen? ⟨B1_1, o, none⟩ = false := fun o => K8.out.free o
        go_wp2
        clear m1_0 m1_1 m1_2 m1_3 m1_4 m1_5 m1_6 mlt1 mf1
        go_roundw
        case rel => exact ⟨4, by decide, hin, int_eq (by simp only [of16]; decide +kernel), by go_num, K9.out.other ⟨B1_1, 3, none⟩ _ Y1_0_1.out, (by have h2 := K8.out.set 3 (.int .u64 cc); rw [HCC.out] at h2 ⊢; exact h2), Below.setCell L9.out G1_1.out _⟩
        case measure => simp [intOf]
      · have hg : Calls Tryd.prog 32 #[.slice A n cap, .int .i64 4, .int .i64 1] wr fun e w' => e = .returned (.tuple #[.int .u64 0, .bool false]) ∧ wr = w' := gn16 A n cap d wr (HD.out.below L9.out) 3 (by show n < 5; omega)
        have hix := ids16_3
        have HG := Lib.hid hg; clear hg
        go_wp2_with fail
        refine HG.out.mono ?_
        rintro e wx ⟨rfl, rfl⟩
        have m0_0 : wr.cell? ⟨B1_0, 0, none⟩ = some _ := K9.out.cell 0
        have m0_1 : wr.cell? ⟨B1_0, 1, none⟩ = some _ := K9.out.cell 1
        have m0_2 : wr.cell? ⟨B1_0, 2, none⟩ = some _ := K9.out.cell 2
        have m0_3 : wr.cell? ⟨B1_0, 3, none⟩ = some _ := K9.out.cell 3
        have m0_4 : wr.cell? ⟨B1_0, 4, none⟩ = some _ := K9.out.cell 4
        have m0_5 : wr.cell? ⟨B1_0, 5, none⟩ = some _ := K9.out.cell 5
        have m0_6 : wr.cell? ⟨B1_0, 6, none⟩ = some _ := K9.out.cell 6
        have mlt0 : B1_0 < wr.heap.size := K9.out.lt
        have mf0 : ∀ o, wr.frozen? ⟨B1_0, o, none⟩ = false := fun o => K9.out.free o
        have m1_0 : wr.cell? ⟨B1_1, 0, none⟩ = some _ := K8.out.cell 0
        have m1_1 : wr.cell? ⟨B1_1, 1, none⟩ = some _ := K8.out.cell 1
        have m1_2 : wr.cell? ⟨B1_1, 2, none⟩ = some _ := K8.out.cell 2
        have m1_3 : wr.cell? ⟨B1_1, 3, none⟩ = some _ := K8.out.cell 3
        have m1_4 : wr.cell? ⟨B1_1, 4, none⟩ = some _ := K8.out.cell 4
        have m1_5 : wr.cell? ⟨B1_1, 5, none⟩ = some _ := K8.out.cell 5
        have m1_6 : wr.cell? ⟨B1_1, 6, none⟩ = some _ := K8.out.cell 6
        have mlt1 : B1_1 < wr.heap.size := K8.out.lt
        go_wp2
        clear m0_0 m0_1 m0_2 m0_3 m0_4 m0_5 m0_6 mlt0 mf0 m1_0 m1_1 m1_2 m1_3 m1_4 m1_5 m1_6 mlt1
        obtain ⟨W21, hW⟩ : ∃ WX, WX = (((((((wr.setCell ⟨B1_0, 0, none⟩ (.int .u64 (num16 d 0))).setCell ⟨B1_0, 1, none⟩ (.int .u64 (num16 d 1))).setCell ⟨B1_0, 2, none⟩ (.int .u64 (num16 d 2))).setCell ⟨B1_0, 3, none⟩ (.int .u64 0)).setCell ⟨B1_0, 4, none⟩ (.int .u64 0)).setCell ⟨B1_0, 5, none⟩ (.int .u64 0)).setCell ⟨B1_0, 6, none⟩ (.int .u64 0)) := ⟨_, rfl⟩
        rw [← hW]
        have K21_0 := Lib.hid (show Blk W21 B1_0 [.int .u64 (num16 d 0), .int .u64 (num16 d 1), .int .u64 (num16 d 2), .int .u64 0, .int .u64 0, .int .u64 0, .int .u64 0] 40 from hW ▸ (((((((K9.out.set 0 (.int .u64 (num16 d 0))).set 1 (.int .u64 (num16 d 1))).set 2 (.int .u64 (num16 d 2))).set 3 (.int .u64 0)).set 4 (.int .u64 0)).set 5 (.int .u64 0)).set 6 (.int .u64 0)))
        have K21_1 := Lib.hid (show Blk W21 B1_1 [.int .u64 (num16 d 0), .int .u64 (num16 d 1), .int .u64 (num16 d 2), .int .u64 0, .int .u64 0, .int .u64 0, .int .u64 0] 40 from hW ▸ (((((((K8.out.other ⟨B1_0, 0, none⟩ (.int .u64 (num16 d 0)) (Ne.symm Y1_0_1.out)).other ⟨B1_0, 1, none⟩ (.int .u64 (num16 d 1)) (Ne.symm Y1_0_1.out)).other ⟨B1_0, 2, none⟩ (.int .u64 (num16 d 2)) (Ne.symm Y1_0_1.out)).other ⟨B1_0, 3, none⟩ (.int .u64 0) (Ne.symm Y1_0_1.out)).other ⟨B1_0, 4, none⟩ (.int .u64 0) (Ne.symm Y1_0_1.out)).other ⟨B1_0, 5, none⟩ (.int .u64 0) (Ne.symm Y1_0_1.out)).other ⟨B1_0, 6, none⟩ (.int .u64 0) (Ne.symm Y1_0_1.out)))
        have L21 := Lib.hid (show Below w.heap.size w W21 from hW ▸ (Below.setCell (Below.setCell (Below.setCell (Below.setCell (Below.setCell (Below.setCell (Below.setCell L9.out G1_0.out _) G1_0.out _) G1_0.out _) G1_0.out _) G1_0.out _) G1_0.out _) G1_0.out _))
        clear hW K9 K8
        have rr0 : W21.cell? ⟨B1_0, 0, none⟩ = some _ := K21_0.out.cell 0
        have rr1 : W21.cell? ⟨B1_0, 1, none⟩ = some _ := K21_0.out.cell 1
        have rr2 : W21.cell? ⟨B1_0, 2, none⟩ = some _ := K21_0.out.cell 2
        have rr3 : W21.cell? ⟨B1_0, 3, none⟩ = some _ := K21_0.out.cell 3
        have rr4 : W21.cell? ⟨B1_0, 4, none⟩ = some _ := K21_0.out.cell 4
        have rr5 : W21.cell? ⟨B1_0, 5, none⟩ = some _ := K21_0.out.cell 5
        have rr6 : W21.cell? ⟨B1_0, 6, none⟩ = some _ := K21_0.out.cell 6
        refine bodyPost_ret (v := .tuple #[.agg #[.int .u64 (num16 d 0), .int .u64 (num16 d 1), .int .u64 (num16 d 2), .int .u64 0, .int .u64 0, .int .u64 0, .int .u64 0], .bool false]) (by simp [results, Tryd.results21, go_sem, rr0, rr1, rr2, rr3, rr4, rr5, rr6]) rfl ⟨⟨_, _, _, _, _, _, _, (by rw [decide_eq_false (by omega)]), fun h => absurd h (by omega)⟩, L21.out⟩
    · have K8 := Lib.hid (show Blk wr B1_1 [.int .u64 (num16 d 0), .int .u64 (num16 d 1), .int .u64 (num16 d 2), .int .u64 (num16 d 3), .int .u64 0, .int .u64 0, .int .u64 0] 40 from KU.out)
      clear KU
      have hof2 : 5 ≤ n := hof
      clear hof hk
      by_cases hin : 13 ≤ n
      · have hg : Calls Tryd.prog 32 #[.slice A n cap, .int .i64 5, .int .i64 8] wr fun e w' => e = .returned (.tuple #[.int .u64 (num16 d 4), .bool true]) ∧ wr = w' := gy16 A n cap d wr (HD.out.below L9.out) 4 hin
        have hix := ids16_4
        have HG := Lib.hid hg; clear hg
        obtain ⟨cc, hcc⟩ : ∃ cc, cc = num16 d 4 := ⟨_, rfl⟩
        rw [← hcc] at HG
        have HCC := Lib.hid hcc; clear hcc
        go_wp2_with fail
        refine HG.out.mono ?_
        rintro e wx ⟨rfl, rfl⟩
        have m1_0 : wr.cell? ⟨B1_1, 0, none⟩ = some _ := K8.out.cell 0
        have m1_1 : wr.cell? ⟨B1_1, 1, none⟩ = some _ := K8.out.cell 1
        have m1_2 : wr.cell? ⟨B1_1, 2, none⟩ = some _ := K8.out.cell 2
        have m1_3 : wr.cell? ⟨B1_1, 3, none⟩ = some _ := K8.out.cell 3
        have m1_4 : wr.cell? ⟨B1_1, 4, none⟩ = some _ := K8.out.cell 4
        have m1_5 : wr.cell? ⟨B1_1, 5, none⟩ = some _ := K8.out.cell 5
        have m1_6 : wr.cell? ⟨B1_1, 6, none⟩ = some _ := K8.out.cell 6
        have mlt1 : B1_1 < wr.heap.size := K8.out.lt
        have mf1 : ∀ o, wr.frozen? ⟨B1_1, o, none⟩ = false := fun o => K8.out.free o
        go_wp2
        clear m1_0 m1_1 m1_2 m1_3 m1_4 m1_5 m1_6 mlt1 mf1
        go_roundw
        case rel => exact ⟨5, by decide, hin, int_eq (by simp only [of16]; decide +kernel), by go_num, K9.out.other ⟨B1_1, 4, none⟩ _ Y1_0_1.out, (by have h2 := K8.out.set 4 (.int .u64 cc); rw [HCC.out] at h2 ⊢; exact h2), Below.setCell L9.out G1_1.out _⟩
        case measure => simp [intOf]
      · have hg : Calls Tryd.prog 32 #[.slice A n cap, .int .i64 5, .int .i64 8] wr fun e w' => e = .returned (.tuple #[.int .u64 0, .bool false]) ∧ wr = w' := gn16 A n cap d wr (HD.out.below L9.out) 4 (by show n < 13; omega)
        have hix := ids16_4
        have HG := Lib.hid hg; clear hg
        go_wp2_with fail
        refine HG.out.mono ?_
        rintro e wx ⟨rfl, rfl⟩
        have m0_0 : wr.cell? ⟨B1_0, 0, none⟩ = some _ := K9.out.cell 0
        have m0_1 : wr.cell? ⟨B1_0, 1, none⟩ = some _ := K9.out.cell 1
        have m0_2 : wr.cell? ⟨B1_0, 2, none⟩ = some _ := K9.out.cell 2
        have m0_3 : wr.cell? ⟨B1_0, 3, none⟩ = some _ := K9.out.cell 3
        have m0_4 : wr.cell? ⟨B1_0, 4, none⟩ = some _ := K9.out.cell 4
        have m0_5 : wr.cell? ⟨B1_0, 5, none⟩ = some _ := K9.out.cell 5
        have m0_6 : wr.cell? ⟨B1_0, 6, none⟩ = some _ := K9.out.cell 6
        have mlt0 : B1_0 < wr.heap.size := K9.out.lt
        have mf0 : ∀ o, wr.frozen? ⟨B1_0, o, none⟩ = false := fun o => K9.out.free o
        have m1_0 : wr.cell? ⟨B1_1, 0, none⟩ = some _ := K8.out.cell 0
        have m1_1 : wr.cell? ⟨B1_1, 1, none⟩ = some _ := K8.out.cell 1
        have m1_2 : wr.cell? ⟨B1_1, 2, none⟩ = some _ := K8.out.cell 2
        have m1_3 : wr.cell? ⟨B1_1, 3, none⟩ = some _ := K8.out.cell 3
        have m1_4 : wr.cell? ⟨B1_1, 4, none⟩ = some _ := K8.out.cell 4
        have m1_5 : wr.cell? ⟨B1_1, 5, none⟩ = some _ := K8.out.cell 5
        have m1_6 : wr.cell? ⟨B1_1, 6, none⟩ = some _ := K8.out.cell 6
        have mlt1 : B1_1 < wr.heap.size := K8.out.lt
        go_wp2
        clear m0_0 m0_1 m0_2 m0_3 m0_4 m0_5 m0_6 mlt0 mf0 m1_0 m1_1 m1_2 m1_3 m1_4 m1_5 m1_6 mlt1
        obtain ⟨W21, hW⟩ : ∃ WX, WX = (((((((wr.setCell ⟨B1_0, 0, none⟩ (.int .u64 (num16 d 0))).setCell ⟨B1_0, 1, none⟩ (.int .u64 (num16 d 1))).setCell ⟨B1_0, 2, none⟩ (.int .u64 (num16 d 2))).setCell ⟨B1_0, 3, none⟩ (.int .u64 (num16 d 3))).setCell ⟨B1_0, 4, none⟩ (.int .u64 0)).setCell ⟨B1_0, 5, none⟩ (.int .u64 0)).setCell ⟨B1_0, 6, none⟩ (.int .u64 0)) := ⟨_, rfl⟩
        rw [← hW]
        have K21_0 := Lib.hid (show Blk W21 B1_0 [.int .u64 (num16 d 0), .int .u64 (num16 d 1), .int .u64 (num16 d 2), .int .u64 (num16 d 3), .int .u64 0, .int .u64 0, .int .u64 0] 40 from hW ▸ (((((((K9.out.set 0 (.int .u64 (num16 d 0))).set 1 (.int .u64 (num16 d 1))).set 2 (.int .u64 (num16 d 2))).set 3 (.int .u64 (num16 d 3))).set 4 (.int .u64 0)).set 5 (.int .u64 0)).set 6 (.int .u64 0)))
        have K21_1 := Lib.hid (show Blk W21 B1_1 [.int .u64 (num16 d 0), .int .u64 (num16 d 1), .int .u64 (num16 d 2), .int .u64 (num16 d 3), .int .u64 0, .int .u64 0, .int .u64 0] 40 from hW ▸ (((((((K8.out.other ⟨B1_0, 0, none⟩ (.int .u64 (num16 d 0)) (Ne.symm Y1_0_1.out)).other ⟨B1_0, 1, none⟩ (.int .u64 (num16 d 1)) (Ne.symm Y1_0_1.out)).other ⟨B1_0, 2, none⟩ (.int .u64 (num16 d 2)) (Ne.symm Y1_0_1.out)).other ⟨B1_0, 3, none⟩ (.int .u64 (num16 d 3)) (Ne.symm Y1_0_1.out)).other ⟨B1_0, 4, none⟩ (.int .u64 0) (Ne.symm Y1_0_1.out)).other ⟨B1_0, 5, none⟩ (.int .u64 0) (Ne.symm Y1_0_1.out)).other ⟨B1_0, 6, none⟩ (.int .u64 0) (Ne.symm Y1_0_1.out)))
        have L21 := Lib.hid (show Below w.heap.size w W21 from hW ▸ (Below.setCell (Below.setCell (Below.setCell (Below.setCell (Below.setCell (Below.setCell (Below.setCell L9.out G1_0.out _) G1_0.out _) G1_0.out _) G1_0.out _) G1_0.out _) G1_0.out _) G1_0.out _))
        clear hW K9 K8
        have rr0 : W21.cell? ⟨B1_0, 0, none⟩ = some _ := K21_0.out.cell 0
        have rr1 : W21.cell? ⟨B1_0, 1, none⟩ = some _ := K21_0.out.cell 1
        have rr2 : W21.cell? ⟨B1_0, 2, none⟩ = some _ := K21_0.out.cell 2
        have rr3 : W21.cell? ⟨B1_0, 3, none⟩ = some _ := K21_0.out.cell 3
        have rr4 : W21.cell? ⟨B1_0, 4, none⟩ = some _ := K21_0.out.cell 4
        have rr5 : W21.cell? ⟨B1_0, 5, none⟩ = some _ := K21_0.out.cell 5
        have rr6 : W21.cell? ⟨B1_0, 6, none⟩ = some _ := K21_0.out.cell 6
        refine bodyPost_ret (v := .tuple #[.agg #[.int .u64 (num16 d 0), .int .u64 (num16 d 1), .int .u64 (num16 d 2), .int .u64 (num16 d 3), .int .u64 0, .int .u64 0, .int .u64 0], .bool false]) (by simp [results, Tryd.results21, go_sem, rr0, rr1, rr2, rr3, rr4, rr5, rr6]) rfl ⟨⟨_, _, _, _, _, _, _, (by rw [decide_eq_false (by omega)]), fun h => absurd h (by omega)⟩, L21.out⟩
    · have K8 := Lib.hid (show Blk wr B1_1 [.int .u64 (num16 d 0), .int .u64 (num16 d 1), .int .u64 (num16 d 2), .int .u64 (num16 d 3), .int .u64 (num16 d 4), .int .u64 0, .int .u64 0] 40 from KU.out)
      clear KU
      have hof2 : 13 ≤ n := hof
      clear hof hk
      by_cases hin : 21 ≤ n
      · have hg : Calls Tryd.prog 32 #[.slice A n cap, .int .i64 13, .int .i64 8] wr fun e w' => e = .returned (.tuple #[.int .u64 (num16 d 5), .bool true]) ∧ wr = w' := gy16 A n cap d wr (HD.out.below L9.out) 5 hin
        have hix := ids16_5
        have HG := Lib.hid hg; clear hg
        obtain ⟨cc, hcc⟩ : ∃ cc, cc = num16 d 5 := ⟨_, rfl⟩
        rw [← hcc] at HG
        have HCC := Lib.hid hcc; clear hcc
        go_wp2_with fail
        refine HG.out.mono ?_
        rintro e wx ⟨rfl, rfl⟩
        have m1_0 : wr.cell? ⟨B1_1, 0, none⟩ = some _ := K8.out.cell 0
        have m1_1 : wr.cell? ⟨B1_1, 1, none⟩ = some _ := K8.out.cell 1
        have m1_2 : wr.cell? ⟨B1_1, 2, none⟩ = some _ := K8.out.cell 2
        have m1_3 : wr.cell? ⟨B1_1, 3, none⟩ = some _ := K8.out.cell 3
        have m1_4 : wr.cell? ⟨B1_1, 4, none⟩ = some _ := K8.out.cell 4
        have m1_5 : wr.cell? ⟨B1_1, 5, none⟩ = some _ := K8.out.cell 5
        have m1_6 : wr.cell? ⟨B1_1, 6, none⟩ = some _ := K8.out.cell 6
        have mlt1 : B1_1 < wr.heap.size := K8.out.lt
        have mf1 : ∀ o, wr.frozen? ⟨B1_1, o, none⟩ = false := fun o => K8.out.free o
        go_wp2
        clear m1_0 m1_1 m1_2 m1_3 m1_4 m1_5 m1_6 mlt1 mf1
        go_roundw
        case rel => exact ⟨6, by decide, hin, int_eq (by simp only [of16]; decide +kernel), by go_num, K9.out.other ⟨B1_1, 5, none⟩ _ Y1_0_1.out, (by have h2 := K8.out.set 5 (.int .u64 cc); rw [HCC.out] at h2 ⊢; exact h2), Below.setCell L9.out G1_1.out _⟩
        case measure => simp [intOf]
      · have hg : Calls Tryd.prog 32 #[.slice A n cap, .int .i64 13, .int .i64 8] wr fun e w' => e = .returned (.tuple #[.int .u64 0, .bool false]) ∧ wr = w' := gn16 A n cap d wr (HD.out.below L9.out) 5 (by show n < 21; omega)
        have hix := ids16_5
        have HG := Lib.hid hg; clear hg
        go_wp2_with fail
        refine HG.out.mono ?_
        rintro e wx ⟨rfl, rfl⟩
        have m0_0 : wr.cell? ⟨B1_0, 0, none⟩ = some _ := K9.out.cell 0
        have m0_1 : wr.cell? ⟨B1_0, 1, none⟩ = some _ := K9.out.cell 1
        have m0_2 : wr.cell? ⟨B1_0, 2, none⟩ = some _ := K9.out.cell 2
        have m0_3 : wr.cell? ⟨B1_0, 3, none⟩ = some _ := K9.out.cell 3
        have m0_4 : wr.cell? ⟨B1_0, 4, none⟩ = some _ := K9.out.cell 4
        have m0_5 : wr.cell? ⟨B1_0, 5, none⟩ = some _ := K9.out.cell 5
        have m0_6 : wr.cell? ⟨B1_0, 6, none⟩ = some _ := K9.out.cell 6
        have mlt0 : B1_0 < wr.heap.size := K9.out.lt
        have mf0 : ∀ o, wr.frozen? ⟨B1_0, o, none⟩ = false := fun o => K9.out.free o
        have m1_0 : wr.cell? ⟨B1_1, 0, none⟩ = some _ := K8.out.cell 0
        have m1_1 : wr.cell? ⟨B1_1, 1, none⟩ = some _ := K8.out.cell 1
        have m1_2 : wr.cell? ⟨B1_1, 2, none⟩ = some _ := K8.out.cell 2
        have m1_3 : wr.cell? ⟨B1_1, 3, none⟩ = some _ := K8.out.cell 3
        have m1_4 : wr.cell? ⟨B1_1, 4, none⟩ = some _ := K8.out.cell 4
        have m1_5 : wr.cell? ⟨B1_1, 5, none⟩ = some _ := K8.out.cell 5
        have m1_6 : wr.cell? ⟨B1_1, 6, none⟩ = some _ := K8.out.cell 6
        have mlt1 : B1_1 < wr.heap.size := K8.out.lt
        go_wp2
        clear m0_0 m0_1 m0_2 m0_3 m0_4 m0_5 m0_6 mlt0 mf0 m1_0 m1_1 m1_2 m1_3 m1_4 m1_5 m1_6 mlt1
        obtain ⟨W21, hW⟩ : ∃ WX, WX = (((((((wr.setCell ⟨B1_0, 0, none⟩ (.int .u64 (num16 d 0))).setCell ⟨B1_0, 1, none⟩ (.int .u64 (num16 d 1))).setCell ⟨B1_0, 2, none⟩ (.int .u64 (num16 d 2))).setCell ⟨B1_0, 3, none⟩ (.int .u64 (num16 d 3))).setCell ⟨B1_0, 4, none⟩ (.int .u64 (num16 d 4))).setCell ⟨B1_0, 5, none⟩ (.int .u64 0)).setCell ⟨B1_0, 6, none⟩ (.int .u64 0)) := ⟨_, rfl⟩
        rw [← hW]
        have K21_0 := Lib.hid (show Blk W21 B1_0 [.int .u64 (num16 d 0), .int .u64 (num16 d 1), .int .u64 (num16 d 2), .int .u64 (num16 d 3), .int .u64 (num16 d 4), .int .u64 0, .int .u64 0] 40 from hW ▸ (((((((K9.out.set 0 (.int .u64 (num16 d 0))).set 1 (.int .u64 (num16 d 1))).set 2 (.int .u64 (num16 d 2))).set 3 (.int .u64 (num16 d 3))).set 4 (.int .u64 (num16 d 4))).set 5 (.int .u64 0)).set 6 (.int .u64 0)))
        have K21_1 := Lib.hid (show Blk W21 B1_1 [.int .u64 (num16 d 0), .int .u64 (num16 d 1), .int .u64 (num16 d 2), .int .u64 (num16 d 3), .int .u64 (num16 d 4), .int .u64 0, .int .u64 0] 40 from hW ▸ (((((((K8.out.other ⟨B1_0, 0, none⟩ (.int .u64 (num16 d 0)) (Ne.symm Y1_0_1.out)).other ⟨B1_0, 1, none⟩ (.int .u64 (num16 d 1)) (Ne.symm Y1_0_1.out)).other ⟨B1_0, 2, none⟩ (.int .u64 (num16 d 2)) (Ne.symm Y1_0_1.out)).other ⟨B1_0, 3, none⟩ (.int .u64 (num16 d 3)) (Ne.symm Y1_0_1.out)).other ⟨B1_0, 4, none⟩ (.int .u64 (num16 d 4)) (Ne.symm Y1_0_1.out)).other ⟨B1_0, 5, none⟩ (.int .u64 0) (Ne.symm Y1_0_1.out)).other ⟨B1_0, 6, none⟩ (.int .u64 0) (Ne.symm Y1_0_1.out)))
        have L21 := Lib.hid (show Below w.heap.size w W21 from hW ▸ (Below.setCell (Below.setCell (Below.setCell (Below.setCell (Below.setCell (Below.setCell (Below.setCell L9.out G1_0.out _) G1_0.out _) G1_0.out _) G1_0.out _) G1_0.out _) G1_0.out _) G1_0.out _))
        clear hW K9 K8
        have rr0 : W21.cell? ⟨B1_0, 0, none⟩ = some _ := K21_0.out.cell 0
        have rr1 : W21.cell? ⟨B1_0, 1, none⟩ = some _ := K21_0.out.cell 1
        have rr2 : W21.cell? ⟨B1_0, 2, none⟩ = some _ := K21_0.out.cell 2
        have rr3 : W21.cell? ⟨B1_0, 3, none⟩ = some _ := K21_0.out.cell 3
        have rr4 : W21.cell? ⟨B1_0, 4, none⟩ = some _ := K21_0.out.cell 4
        have rr5 : W21.cell? ⟨B1_0, 5, none⟩ = some _ := K21_0.out.cell 5
        have rr6 : W21.cell? ⟨B1_0, 6, none⟩ = some _ := K21_0.out.cell 6
        refine bodyPost_ret (v := .tuple #[.agg #[.int .u64 (num16 d 0), .int .u64 (num16 d 1), .int .u64 (num16 d 2), .int .u64 (num16 d 3), .int .u64 (num16 d 4), .int .u64 0, .int .u64 0], .bool false]) (by simp [results, Tryd.results21, go_sem, rr0, rr1, rr2, rr3, rr4, rr5, rr6]) rfl ⟨⟨_, _, _, _, _, _, _, (by rw [decide_eq_false (by omega)]), fun h => absurd h (by omega)⟩, L21.out⟩
    · have K8 := Lib.hid (show Blk wr B1_1 [.int .u64 (num16 d 0), .int .u64 (num16 d 1), .int .u64 (num16 d 2), .int .u64 (num16 d 3), .int .u64 (num16 d 4), .int .u64 (num16 d 5), .int .u64 0] 40 from KU.out)
      clear KU
      have hof2 : 21 ≤ n := hof
      clear hof hk
      by_cases hin : 23 ≤ n
      · have hg : Calls Tryd.prog 32 #[.slice A n cap, .int .i64 21, .int .i64 2] wr fun e w' => e = .returned (.tuple #[.int .u64 (num16 d 6), .bool true]) ∧ wr = w' := gy16 A n cap d wr (HD.out.below L9.out) 6 hin
        have hix := ids16_6
        have HG := Lib.hid hg; clear hg
        obtain ⟨cc, hcc⟩ : ∃ cc, cc = num16 d 6 := ⟨_, rfl⟩
        rw [← hcc] at HG
        have HCC := Lib.hid hcc; clear hcc
        go_wp2_with fail
        refine HG.out.mono ?_
        rintro e wx ⟨rfl, rfl⟩
        have m1_0 : wr.cell? ⟨B1_1, 0, none⟩ = some _ := K8.out.cell 0
        have m1_1 : wr.cell? ⟨B1_1, 1, none⟩ = some _ := K8.out.cell 1
        have m1_2 : wr.cell? ⟨B1_1, 2, none⟩ = some _ := K8.out.cell 2
        have m1_3 : wr.cell? ⟨B1_1, 3, none⟩ = some _ := K8.out.cell 3
        have m1_4 : wr.cell? ⟨B1_1, 4, none⟩ = some _ := K8.out.cell 4
        have m1_5 : wr.cell? ⟨B1_1, 5, none⟩ = some _ := K8.out.cell 5
        have m1_6 : wr.cell? ⟨B1_1, 6, none⟩ = some _ := K8.out.cell 6
        have mlt1 : B1_1 < wr.heap.size := K8.out.lt
        have mf1 : ∀ o, wr.frozen? ⟨B1_1, o, none⟩ = false := fun o => K8.out.free o
        go_wp2
        clear m1_0 m1_1 m1_2 m1_3 m1_4 m1_5 m1_6 mlt1 mf1
        go_roundw
        case rel => exact ⟨7, by decide, hin, int_eq (by simp only [of16]; decide +kernel), by go_num, K9.out.other ⟨B1_1, 6, none⟩ _ Y1_0_1.out, (by have h2 := K8.out.set 6 (.int .u64 cc); rw [HCC.out] at h2 ⊢; exact h2), Below.setCell L9.out G1_1.out _⟩
        case measure => simp [intOf]
      · have hg : Calls Tryd.prog 32 #[.slice A n cap, .int .i64 21, .int .i64 2] wr fun e w' => e = .returned (.tuple #[.int .u64 0, .bool false]) ∧ wr = w' := gn16 A n cap d wr (HD.out.below L9.out) 6 (by show n < 23; omega)
        have hix := ids16_6
        have HG := Lib.hid hg; clear hg
        go_wp2_with fail
        refine HG.out.mono ?_
        rintro e wx ⟨rfl, rfl⟩
        have m0_0 : wr.cell? ⟨B1_0, 0, none⟩ = some _ := K9.out.cell 0
        have m0_1 : wr.cell? ⟨B1_0, 1, none⟩ = some _ := K9.out.cell 1
        have m0_2 : wr.cell? ⟨B1_0, 2, none⟩ = some _ := K9.out.cell 2
        have m0_3 : wr.cell? ⟨B1_0, 3, none⟩ = some _ := K9.out.cell 3
        have m0_4 : wr.cell? ⟨B1_0, 4, none⟩ = some _ := K9.out.cell 4
        have m0_5 : wr.cell? ⟨B1_0, 5, none⟩ = some _ := K9.out.cell 5
        have m0_6 : wr.cell? ⟨B1_0, 6, none⟩ = some _ := K9.out.cell 6
        have mlt0 : B1_0 < wr.heap.size := K9.out.lt
        have mf0 : ∀ o, wr.frozen? ⟨B1_0, o, none⟩ = false := fun o => K9.out.free o
        have m1_0 : wr.cell? ⟨B1_1, 0, none⟩ = some _ := K8.out.cell 0
        have m1_1 : wr.cell? ⟨B1_1, 1, none⟩ = some _ := K8.out.cell 1
        have m1_2 : wr.cell? ⟨B1_1, 2, none⟩ = some _ := K8.out.cell 2
        have m1_3 : wr.cell? ⟨B1_1, 3, none⟩ = some _ := K8.out.cell 3
        have m1_4 : wr.cell? ⟨B1_1, 4, none⟩ = some _ := K8.out.cell 4
        have m1_5 : wr.cell? ⟨B1_1, 5, none⟩ = some _ := K8.out.cell 5
        have m1_6 : wr.cell? ⟨B1_1, 6, none⟩ = some _ := K8.out.cell 6
        have mlt1 : B1_1 < wr.heap.size := K8.out.lt
        go_wp2
        clear m0_0 m0_1 m0_2 m0_3 m0_4 m0_5 m0_6 mlt0 mf0 m1_0 m1_1 m1_2 m1_3 m1_4 m1_5 m1_6 mlt1
        obtain ⟨W21, hW⟩ : ∃ WX, WX = (((((((wr.setCell ⟨B1_0, 0, none⟩ (.int .u64 (num16 d 0))).setCell ⟨B1_0, 1, none⟩ (.int .u64 (num16 d 1))).setCell ⟨B1_0, 2, none⟩ (.int .u64 (num16 d 2))).setCell ⟨B1_0, 3, none⟩ (.int .u64 (num16 d 3))).setCell ⟨B1_0, 4, none⟩ (.int .u64 (num16 d 4))).setCell ⟨B1_0, 5, none⟩ (.int .u64 (num16 d 5))).setCell ⟨B1_0, 6, none⟩ (.int .u64 0)) := ⟨_, rfl⟩
        rw [← hW]
        have K21_0 := Lib.hid (show Blk W21 B1_0 [.int .u64 (num16 d 0), .int .u64 (num16 d 1), .int .u64 (num16 d 2), .int .u64 (num16 d 3), .int .u64 (num16 d 4), .int .u64 (num16 d 5), .int .u64 0] 40 from hW ▸ (((((((K9.out.set 0 (.int .u64 (num16 d 0))).set 1 (.int .u64 (num16 d 1))).set 2 (.int .u64 (num16 d 2))).set 3 (.int .u64 (num16 d 3))).set 4 (.int .u64 (num16 d 4))).set 5 (.int .u64 (num16 d 5))).set 6 (.int .u64 0)))
        have K21_1 := Lib.hid (show Blk W21 B1_1 [.int .u64 (num16 d 0), .int .u64 (num16 d 1), .int .u64 (num16 d 2), .int .u64 (num16 d 3), .int .u64 (num16 d 4), .int .u64 (num16 d 5), .int .u64 0] 40 from hW ▸ (((((((K8.out.other ⟨B1_0, 0, none⟩ (.int .u64 (num16 d 0)) (Ne.symm Y1_0_1.out)).other ⟨B1_0, 1, none⟩ (.int .u64 (num16 d 1)) (Ne.symm Y1_0_1.out)).other ⟨B1_0, 2, none⟩ (.int .u64 (num16 d 2)) (Ne.symm Y1_0_1.out)).other ⟨B1_0, 3, none⟩ (.int .u64 (num16 d 3)) (Ne.symm Y1_0_1.out)).other ⟨B1_0, 4, none⟩ (.int .u64 (num16 d 4)) (Ne.symm Y1_0_1.out)).other ⟨B1_0, 5, none⟩ (.int .u64 (num16 d 5)) (Ne.symm Y1_0_1.out)).other ⟨B1_0, 6, none⟩ (.int .u64 0) (Ne.symm Y1_0_1.out)))
        have L21 := Lib.hid (show Below w.heap.size w W21 from hW ▸ (Below.setCell (Below.setCell (Below.setCell (Below.setCell (Below.setCell (Below.setCell (Below.setCell L9.out G1_0.out _) G1_0.out _) G1_0.out _) G1_0.out _) G1_0.out _) G1_0.out _) G1_0.out _))
        clear hW K9 K8
        have rr0 : W21.cell? ⟨B1_0, 0, none⟩ = some _ := K21_0.out.cell 0
        have rr1 : W21.cell? ⟨B1_0, 1, none⟩ = some _ := K21_0.out.cell 1
        have rr2 : W21.cell? ⟨B1_0, 2, none⟩ = some _ := K21_0.out.cell 2
        have rr3 : W21.cell? ⟨B1_0, 3, none⟩ = some _ := K21_0.out.cell 3
        have rr4 : W21.cell? ⟨B1_0, 4, none⟩ = some _ := K21_0.out.cell 4
        have rr5 : W21.cell? ⟨B1_0, 5, none⟩ = some _ := K21_0.out.cell 5
        have rr6 : W21.cell? ⟨B1_0, 6, none⟩ = some _ := K21_0.out.cell 6
        refine bodyPost_ret (v := .tuple #[.agg #[.int .u64 (num16 d 0), .int .u64 (num16 d 1), .int .u64 (num16 d 2), .int .u64 (num16 d 3), .int .u64 (num16 d 4), .int .u64 (num16 d 5), .int .u64 0], .bool false]) (by simp [results, Tryd.results21, go_sem, rr0, rr1, rr2, rr3, rr4, rr5, rr6]) rfl ⟨⟨_, _, _, _, _, _, _, (by rw [decide_eq_false (by omega)]), fun h => absurd h (by omega)⟩, L21.out⟩
    · have K8 := Lib.hid (show Blk wr B1_1 [.int .u64 (num16 d 0), .int .u64 (num16 d 1), .int .u64 (num16 d 2), .int .u64 (num16 d 3), .int .u64 (num16 d 4), .int .u64 (num16 d 5), .int .u64 (num16 d 6)] 40 from KU.out)
      clear KU
      have hof2 : 23 ≤ n := hof
      clear hof hk
      have m0_0 : wr.cell? ⟨B1_0, 0, none⟩ = some _ := K9.out.cell 0
      have m0_1 : wr.cell? ⟨B1_0, 1, none⟩ = some _ := K9.out.cell 1
      have m0_2 : wr.cell? ⟨B1_0, 2, none⟩ = some _ := K9.out.cell 2
      have m0_3 : wr.cell? ⟨B1_0, 3, none⟩ = some _ := K9.out.cell 3
      have m0_4 : wr.cell? ⟨B1_0, 4, none⟩ = some _ := K9.out.cell 4
      have m0_5 : wr.cell? ⟨B1_0, 5, none⟩ = some _ := K9.out.cell 5
      have m0_6 : wr.cell? ⟨B1_0, 6, none⟩ = some _ := K9.out.cell 6
      have mlt0 : B1_0 < wr.heap.size := K9.out.lt
      have mf0 : ∀ o, wr.frozen? ⟨B1_0, o, none⟩ = false := fun o => K9.out.free o
      have m1_0 : wr.cell? ⟨B1_1, 0, none⟩ = some _ := K8.out.cell 0
      have m1_1 : wr.cell? ⟨B1_1, 1, none⟩ = some _ := K8.out.cell 1
      have m1_2 : wr.cell? ⟨B1_1, 2, none⟩ = some _ := K8.out.cell 2
      have m1_3 : wr.cell? ⟨B1_1, 3, none⟩ = some _ := K8.out.cell 3
      have m1_4 : wr.cell? ⟨B1_1, 4, none⟩ = some _ := K8.out.cell 4
      have m1_5 : wr.cell? ⟨B1_1, 5, none⟩ = some _ := K8.out.cell 5
      have m1_6 : wr.cell? ⟨B1_1, 6, none⟩ = some _ := K8.out.cell 6
      have mlt1 : B1_1 < wr.heap.size := K8.out.lt
      go_wp2
      clear m0_0 m0_1 m0_2 m0_3 m0_4 m0_5 m0_6 mlt0 mf0 m1_0 m1_1 m1_2 m1_3 m1_4 m1_5 m1_6 mlt1
      obtain ⟨W21, hW⟩ : ∃ WX, WX = (((((((wr.setCell ⟨B1_0, 0, none⟩ (.int .u64 (num16 d 0))).setCell ⟨B1_0, 1, none⟩ (.int .u64 (num16 d 1))).setCell ⟨B1_0, 2, none⟩ (.int .u64 (num16 d 2))).setCell ⟨B1_0, 3, none⟩ (.int .u64 (num16 d 3))).setCell ⟨B1_0, 4, none⟩ (.int .u64 (num16 d 4))).setCell ⟨B1_0, 5, none⟩ (.int .u64 (num16 d 5))).setCell ⟨B1_0, 6, none⟩ (.int .u64 (num16 d 6))) := ⟨_, rfl⟩
      rw [← hW]
      have K21_0 := Lib.hid (show Blk W21 B1_0 [.int .u64 (num16 d 0), .int .u64 (num16 d 1), .int .u64 (num16 d 2), .int .u64 (num16 d 3), .int .u64 (num16 d 4), .int .u64 (num16 d 5), .int .u64 (num16 d 6)] 40 from hW ▸ (((((((K9.out.set 0 (.int .u64 (num16 d 0))).set 1 (.int .u64 (num16 d 1))).set 2 (.int .u64 (num16 d 2))).set 3 (.int .u64 (num16 d 3))).set 4 (.int .u64 (num16 d 4))).set 5 (.int .u64 (num16 d 5))).set 6 (.int .u64 (num16 d 6))))
      have K21_1 := Lib.hid (show Blk W21 B1_1 [.int .u64 (num16 d 0), .int .u64 (num16 d 1), .int .u64 (num16 d 2), .int .u64 (num16 d 3), .int .u64 (num16 d 4), .int .u64 (num16 d 5), .int .u64 (num16 d 6)] 40 from hW ▸ (((((((K8.out.other ⟨B1_0, 0, none⟩ (.int .u64 (num16 d 0)) (Ne.symm Y1_0_1.out)).other ⟨B1_0, 1, none⟩ (.int .u64 (num16 d 1)) (Ne.symm Y1_0_1.out)).other ⟨B1_0, 2, none⟩ (.int .u64 (num16 d 2)) (Ne.symm Y1_0_1.out)).other ⟨B1_0, 3, none⟩ (.int .u64 (num16 d 3)) (Ne.symm Y1_0_1.out)).other ⟨B1_0, 4, none⟩ (.int .u64 (num16 d 4)) (Ne.symm Y1_0_1.out)).other ⟨B1_0, 5, none⟩ (.int .u64 (num16 d 5)) (Ne.symm Y1_0_1.out)).other ⟨B1_0, 6, none⟩ (.int .u64 (num16 d 6)) (Ne.symm Y1_0_1.out)))
      have L21 := Lib.hid (show Below w.heap.size w W21 from hW ▸ (Below.setCell (Below.setCell (Below.setCell (Below.setCell (Below.setCell (Below.setCell (Below.setCell L9.out G1_0.out _) G1_0.out _) G1_0.out _) G1_0.out _) G1_0.out _) G1_0.out _) G1_0.out _))
      clear hW K9 K8
      have rr0 : W21.cell? ⟨B1_0, 0, none⟩ = some _ := K21_0.out.cell 0
      have rr1 : W21.cell? ⟨B1_0, 1, none⟩ = some _ := K21_0.out.cell 1
      have rr2 : W21.cell? ⟨B1_0, 2, none⟩ = some _ := K21_0.out.cell 2
      have rr3 : W21.cell? ⟨B1_0, 3, none⟩ = some _ := K21_0.out.cell 3
      have rr4 : W21.cell? ⟨B1_0, 4, none⟩ = some _ := K21_0.out.cell 4
      have rr5 : W21.cell? ⟨B1_0, 5, none⟩ = some _ := K21_0.out.cell 5
      have rr6 : W21.cell? ⟨B1_0, 6, none⟩ = some _ := K21_0.out.cell 6
      refine bodyPost_ret (v := .tuple #[.agg #[.int .u64 (num16 d 0), .int .u64 (num16 d 1), .int .u64 (num16 d 2), .int .u64 (num16 d 3), .int .u64 (num16 d 4), .int .u64 (num16 d 5), .int .u64 (num16 d 6)], .bool true]) (by simp [results, Tryd.results21, go_sem, rr0, rr1, rr2, rr3, rr4, rr5, rr6]) rfl ⟨⟨_, _, _, _, _, _, _, (by rw [decide_eq_true (by omega)]), fun _ => rfl⟩, L21.out⟩
set_option maxHeartbeats 4000000 in
theorem rhead_any (c0 c1 c2 c3 c4 c5 c6 : Int) (L : Nat) (w : World) (hL : L ≤ 9223372036854775807) : Calls Tryd.prog 22 #[.agg #[.int .u64 c0, .int .u64 c1, .int .u64 c2, .int .u64 c3, .int .u64 c4, .int .u64 c5, .int .u64 c6], .int .i64 (L : Int)] w fun e w' => e = .returned (.bool (decide (c0 = 21074) && (decide (c1 ≤ 1) && decide (c6 = (L : Int))))) ∧ Below w.heap.size w w' := by
  obtain ⟨Q, hQ⟩ : ∃ Q, Q = (decide (c0 = 21074) && (decide (c1 ≤ 1) && decide (c6 = (L : Int)))) := ⟨_, rfl⟩
  rw [← hQ]
  have HQ := Lib.hid hQ
  have uw : IntKind.u64.wrap (L : Int) = L := by rw [wrap_u64]; omega
  clear hQ
  go_enter Tryd.func22, Tryd.ntmps22
  go_upto_region 1 with (fail)
  have nb0 : Blk (w.alloc (.cells #[.int .u64 c0, .int .u64 c1, .int .u64 c2, .int .u64 c3, .int .u64 c4, .int .u64 c5, .int .u64 c6] 40)) (w.heap.size) [.int .u64 c0, .int .u64 c1, .int .u64 c2, .int .u64 c3, .int .u64 c4, .int .u64 c5, .int .u64 c6] 40 := Blk.new w [.int .u64 c0, .int .u64 c1, .int .u64 c2, .int .u64 c3, .int .u64 c4, .int .u64 c5, .int .u64 c6] 40
  have nls : Below w.heap.size w w := (Below.refl w.heap.size w)
  have nl0 := nls.alloc nls.size (.cells #[.int .u64 c0, .int .u64 c1, .int .u64 c2, .int .u64 c3, .int .u64 c4, .int .u64 c5, .int .u64 c6] 40)
  have nl : Below w.heap.size w (w.alloc (.cells #[.int .u64 c0, .int .u64 c1, .int .u64 c2, .int .u64 c3, .int .u64 c4, .int .u64 c5, .int .u64 c6] 40)) := nl0; clear nls nl0
  obtain ⟨B1, hB0⟩ : ∃ B, B = w.heap.size := ⟨_, rfl⟩
  obtain ⟨W1, hW⟩ : ∃ W, W = (w.alloc (.cells #[.int .u64 c0, .int .u64 c1, .int .u64 c2, .int .u64 c3, .int .u64 c4, .int .u64 c5, .int .u64 c6] 40)) := ⟨_, rfl⟩
  rw [← hW] at nl nb0
  rw [← hB0] at nb0
  rw [← hW]
  try rw [← hB0]
  have K1_0 := Lib.hid nb0
  have G1 : Hid (w.heap.size ≤ B1) := Lib.hid (by have := (Nat.le_refl w.heap.size); omega)
  have L1 := Lib.hid nl
  clear nl hW nb0 hB0
  by_cases h0 : c0 = 21074
  · have e0 : (c0 == 21074) = true := by simpa using h0
    by_cases h1 : c1 ≤ 1
    · by_cases h6 : c6 = (L : Int)
      · have e6 : (c6 == (L : Int)) = true := by simpa using h6
        have hq : Q = true := by rw [HQ.out]; rw [decide_eq_true h0, decide_eq_true h1, decide_eq_true h6]; rfl
        have HQ2 := Lib.hid hq; clear hq
        have m0_0 : W1.cell? ⟨B1, 0, none⟩ = some _ := K1_0.out.cell 0
        have m0_1 : W1.cell? ⟨B1, 1, none⟩ = some _ := K1_0.out.cell 1
        have m0_2 : W1.cell? ⟨B1, 2, none⟩ = some _ := K1_0.out.cell 2
        have m0_3 : W1.cell? ⟨B1, 3, none⟩ = some _ := K1_0.out.cell 3
        have m0_4 : W1.cell? ⟨B1, 4, none⟩ = some _ := K1_0.out.cell 4
        have m0_5 : W1.cell? ⟨B1, 5, none⟩ = some _ := K1_0.out.cell 5
        have m0_6 : W1.cell? ⟨B1, 6, none⟩ = some _ := K1_0.out.cell 6
        have mlt0 : B1 < W1.heap.size := K1_0.out.lt
        go_wp2
        clear m0_0 m0_1 m0_2 m0_3 m0_4 m0_5 m0_6 mlt0
        go_ret
        exact ⟨ret_bool (by rw [HQ2.out] <;> simp <;> omega), L1.out⟩
      · have e6 : (c6 == (L : Int)) = false := by simpa using h6
        have hq : Q = false := by rw [HQ.out]; rw [decide_eq_false h6, Bool.and_false, Bool.and_false]
        have HQ2 := Lib.hid hq; clear hq
        have m0_0 : W1.cell? ⟨B1, 0, none⟩ = some _ := K1_0.out.cell 0
        have m0_1 : W1.cell? ⟨B1, 1, none⟩ = some _ := K1_0.out.cell 1
        have m0_2 : W1.cell? ⟨B1, 2, none⟩ = some _ := K1_0.out.cell 2
        have m0_3 : W1.cell? ⟨B1, 3, none⟩ = some _ := K1_0.out.cell 3
        have m0_4 : W1.cell? ⟨B1, 4, none⟩ = some _ := K1_0.out.cell 4
        have m0_5 : W1.cell? ⟨B1, 5, none⟩ = some _ := K1_0.out.cell 5
        have m0_6 : W1.cell? ⟨B1, 6, none⟩ = some _ := K1_0.out.cell 6
        have mlt0 : B1 < W1.heap.size := K1_0.out.lt
        go_wp2
        clear m0_0 m0_1 m0_2 m0_3 m0_4 m0_5 m0_6 mlt0
        go_ret
        exact ⟨ret_bool (by rw [HQ2.out] <;> simp <;> omega), L1.out⟩
    · have n1 : 1 < c1 := by omega
      have hq : Q = false := by rw [HQ.out]; rw [decide_eq_false h1, Bool.false_and, Bool.and_false]
      have HQ2 := Lib.hid hq; clear hq
      have m0_0 : W1.cell? ⟨B1, 0, none⟩ = some _ := K1_0.out.cell 0
      have m0_1 : W1.cell? ⟨B1, 1, none⟩ = some _ := K1_0.out.cell 1
      have m0_2 : W1.cell? ⟨B1, 2, none⟩ = some _ := K1_0.out.cell 2
      have m0_3 : W1.cell? ⟨B1, 3, none⟩ = some _ := K1_0.out.cell 3
      have m0_4 : W1.cell? ⟨B1, 4, none⟩ = some _ := K1_0.out.cell 4
      have m0_5 : W1.cell? ⟨B1, 5, none⟩ = some _ := K1_0.out.cell 5
      have m0_6 : W1.cell? ⟨B1, 6, none⟩ = some _ := K1_0.out.cell 6
      have mlt0 : B1 < W1.heap.size := K1_0.out.lt
      go_wp2
      clear m0_0 m0_1 m0_2 m0_3 m0_4 m0_5 m0_6 mlt0
      go_ret
      exact ⟨ret_bool (by rw [HQ2.out] <;> simp <;> omega), L1.out⟩
  · have e0 : (c0 == 21074) = false := by simpa using h0
    have hq : Q = false := by rw [HQ.out]; rw [decide_eq_false h0, Bool.false_and]
    have HQ2 := Lib.hid hq; clear hq
    have m0_0 : W1.cell? ⟨B1, 0, none⟩ = some _ := K1_0.out.cell 0
    have m0_1 : W1.cell? ⟨B1, 1, none⟩ = some _ := K1_0.out.cell 1
    have m0_2 : W1.cell? ⟨B1, 2, none⟩ = some _ := K1_0.out.cell 2
    have m0_3 : W1.cell? ⟨B1, 3, none⟩ = some _ := K1_0.out.cell 3
    have m0_4 : W1.cell? ⟨B1, 4, none⟩ = some _ := K1_0.out.cell 4
    have m0_5 : W1.cell? ⟨B1, 5, none⟩ = some _ := K1_0.out.cell 5
    have m0_6 : W1.cell? ⟨B1, 6, none⟩ = some _ := K1_0.out.cell 6
    have mlt0 : B1 < W1.heap.size := K1_0.out.lt
    go_wp2
    clear m0_0 m0_1 m0_2 m0_3 m0_4 m0_5 m0_6 mlt0
    go_ret
    exact ⟨ret_bool (by rw [HQ2.out] <;> simp <;> omega), L1.out⟩
end Go.Proofs.YtmdfopbigkfbnaaDoor
