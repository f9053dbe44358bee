/-
  What the smaller functions of package space answer: contracts over the translation. Each says its own conditions. What Right, frame, turn and Set of package space answer: contracts over the translation. Each says its own conditions. What turn and Set of package space answer: contracts over the translation. Each says its own conditions. What Data, Own, SetData and layCode of package space answer: contracts over the translation. Each says its own conditions. What Code of package space answers: a contract over the translation. It says its own conditions. What a space's unit answers to loads, fetches and stores: contracts over the translation. Each says its own conditions.
-/
import Derived.Test.YtgnjbjbgfhjakaaGreatMgS14
import Derived.Test.YtgnjbjbgfhjakaaGreatFlags09
import Derived.Deep.Cut
import Derived.Test.YtgnjbjbgfhjakaaGreatPhysC
import Derived.Deep.QuietTactic
import Derived.BigQuiet
namespace Go.Proofs.YtgnjbjbgfhjakaaGreat
open Go.RowKit
set_option linter.unusedVariables false
set_option linter.unusedSimpArgs false
attribute [local go_sem] setCell_drewN alloc_drewN

theorem wrapN (x : Nat) (h : x < 18446744073709551616) : IntKind.u64.wrap (x : Int) = (x : Int) := by rw [wrap_u64B]; omega
theorem shas_any (xp ns : Nat) (p : Int) (w : World) (c2 : w.cell? ⟨xp, 2, none⟩ = some (.int .i64 (ns : Int))) : Calls Tryz.prog 42 #[.pointer (some ⟨xp, 0, none⟩), .int .i64 p] w fun r w' => r = .returned (.bool (decide (0 ≤ p ∧ p < ns))) ∧ w = w' := by
  obtain ⟨Q, hQ⟩ : ∃ Q, Q = decide (0 ≤ p ∧ p < ns) := ⟨_, rfl⟩
  rw [← hQ]
  have HQ := Lib.hid hQ; clear hQ
  go_enter Tryz.func42, Tryz.ntmps42
  by_cases h0 : 0 ≤ p
  · by_cases h1 : p < ns
    · go_wp2
      go_ret
      exact ⟨ret_bool (by rw [HQ.out]; simp; omega), rfl⟩
    · have hn : (ns : Int) ≤ p := by omega
      go_wp2
      go_ret
      exact ⟨ret_bool (by rw [HQ.out]; simp; omega), rfl⟩
  · have hn : p < 0 := by omega
    go_wp2
    go_ret
    exact ⟨ret_bool (by rw [HQ.out]; simp; omega), rfl⟩
theorem saddr_any (p : Nat) (w : World) (hp : p < 65536) : Calls Tryz.prog 43 #[.int .i64 (p : Int)] w fun r w' => r = .returned (.int .u64 ((1073741824 + 4096 * p : Nat) : Int)) ∧ w = w' := by
  have w1 : IntKind.u64.wrap (p : Int) = (p : Int) := wrapN p (by omega)
  have w2 : IntKind.u64.wrap ((p : Int) * 4096) = (p : Int) * 4096 := by rw [wrap_u64B]; omega
  have w3 : IntKind.u64.wrap (1073741824 + (p : Int) * 4096) = ((1073741824 + 4096 * p : Nat) : Int) := by rw [wrap_u64B]; omega
  go_enter Tryz.func43, Tryz.ntmps43
  go_wp2
  go_ret
  exact ⟨congrArg Ending.returned (int_eqB (by omega)), rfl⟩
def strC : ByteArray := ⟨#[118, 114, 45, 120, 117, 45, 97, 45]⟩
def strW : ByteArray := ⟨#[118, 114, 119, 45, 117, 45, 97, 100]⟩
def strR : ByteArray := ⟨#[118, 114, 45, 45, 117, 45, 97, 45]⟩
/-- what the pages of a kind allow -/
def strM (m : Nat) : ByteArray := if m = 3 then strC else if m = 6 then strW else strR
def entM (m : Nat) : Ent := if m = 3 then ⟨true, true, false, true, true, false, true, false, 0, 0⟩ else if m = 6 then ⟨true, true, true, false, true, false, true, true, 0, 0⟩ else ⟨true, true, false, false, true, false, true, false, 0, 0⟩
theorem entM_p {m : Nat} (f : Nat) (h : m = 2 ∨ m = 3 ∨ m = 6) : entP m f = some { entM m with ppn := f } := by
  rcases h with rfl | rfl | rfl <;> rfl
theorem sflag_any (r : Int) (w : World) (hr : r = 1 ∨ r = 2) : Calls Tryz.prog 74 #[.int .i64 r] w fun e w' => e = .returned (.string (strM (mayR r.toNat))) ∧ w = w' := by
  rcases hr with rfl | rfl
  · go_enter Tryz.func74, Tryz.ntmps74
    go_wp2
    go_ret
    exact ⟨rfl, rfl⟩
  · go_enter Tryz.func74, Tryz.ntmps74
    go_wp2
    go_ret
    exact ⟨rfl, rfl⟩
theorem flags_C (w : World) : Calls Tryz.prog 100 #[.string strC] w fun r w' => r = .returned (.tuple #[pv (entM 3), .bool true]) ∧ Below w.heap.size w w' :=
  flags_8 118 114 45 120 117 45 97 45 strC w rfl (fun w => by kernel_rfl) (fun w => by kernel_rfl) (fun w => by kernel_rfl) (fun w => by kernel_rfl) (fun w => by kernel_rfl) (fun w => by kernel_rfl) (fun w => by kernel_rfl) (fun w => by kernel_rfl)
theorem flags_W (w : World) : Calls Tryz.prog 100 #[.string strW] w fun r w' => r = .returned (.tuple #[pv (entM 6), .bool true]) ∧ Below w.heap.size w w' :=
  flags_8 118 114 119 45 117 45 97 100 strW w rfl (fun w => by kernel_rfl) (fun w => by kernel_rfl) (fun w => by kernel_rfl) (fun w => by kernel_rfl) (fun w => by kernel_rfl) (fun w => by kernel_rfl) (fun w => by kernel_rfl) (fun w => by kernel_rfl)
theorem flags_R (w : World) : Calls Tryz.prog 100 #[.string strR] w fun r w' => r = .returned (.tuple #[pv (entM 2), .bool true]) ∧ Below w.heap.size w w' :=
  flags_8 118 114 45 45 117 45 97 45 strR w rfl (fun w => by kernel_rfl) (fun w => by kernel_rfl) (fun w => by kernel_rfl) (fun w => by kernel_rfl) (fun w => by kernel_rfl) (fun w => by kernel_rfl) (fun w => by kernel_rfl) (fun w => by kernel_rfl)
theorem flagsM (m : Nat) (h : m = 2 ∨ m = 3 ∨ m = 6) (w : World) : Calls Tryz.prog 100 #[.string (strM m)] w fun r w' => r = .returned (.tuple #[pv (entM m), .bool true]) ∧ Below w.heap.size w w' := by
  rcases h with rfl | rfl | rfl
  · exact flags_R w
  · exact flags_C w
  · exact flags_W w
set_option maxHeartbeats 4000000 in
theorem sentry_any (m f : Nat) (h : m = 2 ∨ m = 3 ∨ m = 6) (hf : f < 18446744073709551616) (w : World) : Calls Tryz.prog 73 #[.string (strM m), .int .i64 (f : Int)] w fun r w' => r = .returned (pv { entM m with ppn := f }) ∧ Below w.heap.size w w' := by
  have h1 := fun w => flagsM m h w
  have w1 := wrapN f hf
  generalize strM m = Z at *
  generalize entM m = E at *
  obtain ⟨v, r, x1, x, u, g, a, d, rsw, ppn⟩ := E
  unfold pv at *
  dsimp only at *
  have H1 := Lib.hid h1; clear h1 h
  go_enter Tryz.func73, Tryz.ntmps73
  go_upto_region 1 with (fail)
  have nb0 := Blk.new w [.bool false, .bool false, .bool false, .bool false, .bool false, .bool false, .bool false, .bool false, .int .i64 0, .int .u64 0] 39
  have nls : Below w.heap.size w w := (Below.refl w.heap.size w)
  have nl0 := nls.alloc nls.size (.cells #[.bool false, .bool false, .bool false, .bool false, .bool false, .bool false, .bool false, .bool false, .int .i64 0, .int .u64 0] 39)
  have nl : Below w.heap.size w (w.alloc (.cells #[.bool false, .bool false, .bool false, .bool false, .bool false, .bool false, .bool false, .bool false, .int .i64 0, .int .u64 0] 39)) := nl0; clear nls nl0
  obtain ⟨B1, hB0⟩ : ∃ B, B = w.heap.size := ⟨_, rfl⟩
  obtain ⟨W1, hW⟩ : ∃ W, W = (w.alloc (.cells #[.bool false, .bool false, .bool false, .bool false, .bool false, .bool false, .bool false, .bool false, .int .i64 0, .int .u64 0] 39)) := ⟨_, rfl⟩
  rw [← hW] at nl nb0
  rw [← hB0] at nb0
  rw [← hW]
  try rw [← hB0]
  have K1_0 := Lib.hid nb0
  have G1 : Hid (w.heap.size ≤ B1) := Lib.hid (by have := (Nat.le_refl w.heap.size); omega)
  have L1 := Lib.hid nl
  clear nl hW nb0 hB0
  go_wp2_with fail
  refine (H1.out _).mono ?_
  rintro e w2 ⟨rfl, hb⟩
  have L2 := Lib.hid (L1.out.trans (hb.mono L1.out.size))
  have K2_0 := Lib.hid (K1_0.out.below hb K1_0.out.lt)
  clear hb K1_0
  go_upto_region 2 with (fail)
  have nb0 := Blk.new w2 [.bool v, .bool r, .bool x1, .bool x, .bool u, .bool g, .bool a, .bool d, .int .i64 rsw, .int .u64 (ppn : Int)] 39
  have nls : Below w.heap.size w w2 := L2.out
  have nl0 := nls.alloc nls.size (.cells #[.bool v, .bool r, .bool x1, .bool x, .bool u, .bool g, .bool a, .bool d, .int .i64 rsw, .int .u64 (ppn : Int)] 39)
  have nl : Below w.heap.size w (w2.alloc (.cells #[.bool v, .bool r, .bool x1, .bool x, .bool u, .bool g, .bool a, .bool d, .int .i64 rsw, .int .u64 (ppn : Int)] 39)) := nl0; clear nls nl0
  have o0 := (K2_0.out.alloc (.cells #[.bool v, .bool r, .bool x1, .bool x, .bool u, .bool g, .bool a, .bool d, .int .i64 rsw, .int .u64 (ppn : Int)] 39))
  have d3_0 : B1 < w2.heap.size := K2_0.out.lt
  obtain ⟨B3, hB0⟩ : ∃ B, B = w2.heap.size := ⟨_, rfl⟩
  obtain ⟨W3, hW⟩ : ∃ W, W = (w2.alloc (.cells #[.bool v, .bool r, .bool x1, .bool x, .bool u, .bool g, .bool a, .bool d, .int .i64 rsw, .int .u64 (ppn : Int)] 39)) := ⟨_, rfl⟩
  rw [← hW] at nl nb0 o0
  rw [← hB0] at nb0
  rw [← hW]
  try rw [← hB0]
  have K3_0 := Lib.hid o0
  have K3_1 := Lib.hid nb0
  have G3 : Hid (w.heap.size ≤ B3) := Lib.hid (by have := L2.out.size; omega)
  have x3_0_0 : B1 ≠ B3 := by omega
  have X3_0_0 := Lib.hid x3_0_0; clear x3_0_0
  have L3 := Lib.hid nl
  clear nl hW nb0 hB0 o0 d3_0 K2_0
  have m0_0 := K3_0.out.c0
  have m0_1 := K3_0.out.c1
  have m0_2 := K3_0.out.c2
  have m0_3 := K3_0.out.c3
  have m0_4 := K3_0.out.c4
  have m0_5 := K3_0.out.c5
  have m0_6 := K3_0.out.c6
  have m0_7 := K3_0.out.c7
  have m0_8 := K3_0.out.c8
  have m0_9 := K3_0.out.c9
  have mlt0 : B1 < W3.heap.size := K3_0.out.lt
  have m1_0 := K3_1.out.c0
  have m1_1 := K3_1.out.c1
  have m1_2 := K3_1.out.c2
  have m1_3 := K3_1.out.c3
  have m1_4 := K3_1.out.c4
  have m1_5 := K3_1.out.c5
  have m1_6 := K3_1.out.c6
  have m1_7 := K3_1.out.c7
  have m1_8 := K3_1.out.c8
  have m1_9 := K3_1.out.c9
  have mlt1 : B3 < W3.heap.size := K3_1.out.lt
  have mf0 : ∀ o, W3.frozen? ⟨B1, o, none⟩ = false := fun o => K3_0.out.free o
  have mf1 : ∀ o, W3.frozen? ⟨B3, o, none⟩ = false := fun o => K3_1.out.free o
  go_upto_region 3 with (fail)
  clear m0_0 m0_1 m0_2 m0_3 m0_4 m0_5 m0_6 m0_7 m0_8 m0_9 mlt0 m1_0 m1_1 m1_2 m1_3 m1_4 m1_5 m1_6 m1_7 m1_8 m1_9 mlt1 mf0 mf1
  obtain ⟨W4, hW⟩ : ∃ WX, WX = (W3.setCell ⟨B3, 9, none⟩ (.int .u64 (f : Int))) := ⟨_, rfl⟩
  rw [← hW]
  have K4_0 := Lib.hid (show Blk W4 B1 [.bool false, .bool false, .bool false, .bool false, .bool false, .bool false, .bool false, .bool false, .int .i64 0, .int .u64 0] 39 from hW ▸ (K3_0.out.other ⟨B3, 9, none⟩ (.int .u64 (f : Int)) X3_0_0.out))
  have K4_1 := Lib.hid (show Blk W4 B3 [.bool v, .bool r, .bool x1, .bool x, .bool u, .bool g, .bool a, .bool d, .int .i64 rsw, .int .u64 (f : Int)] 39 from hW ▸ (K3_1.out.set 9 (.int .u64 (f : Int))))
  have L4 := Lib.hid (show Below w.heap.size w W4 from hW ▸ (Below.setCell L3.out G3.out _))
  clear hW K3_0 K3_1
  have m0_0 := K4_0.out.c0
  have m0_1 := K4_0.out.c1
  have m0_2 := K4_0.out.c2
  have m0_3 := K4_0.out.c3
  have m0_4 := K4_0.out.c4
  have m0_5 := K4_0.out.c5
  have m0_6 := K4_0.out.c6
  have m0_7 := K4_0.out.c7
  have m0_8 := K4_0.out.c8
  have m0_9 := K4_0.out.c9
  have mlt0 : B1 < W4.heap.size := K4_0.out.lt
  have m1_0 := K4_1.out.c0
  have m1_1 := K4_1.out.c1
  have m1_2 := K4_1.out.c2
  have m1_3 := K4_1.out.c3
  have m1_4 := K4_1.out.c4
  have m1_5 := K4_1.out.c5
  have m1_6 := K4_1.out.c6
  have m1_7 := K4_1.out.c7
  have m1_8 := K4_1.out.c8
  have m1_9 := K4_1.out.c9
  have mlt1 : B3 < W4.heap.size := K4_1.out.lt
  have mf0 : ∀ o, W4.frozen? ⟨B1, o, none⟩ = false := fun o => K4_0.out.free o
  go_wp2
  clear m0_0 m0_1 m0_2 m0_3 m0_4 m0_5 m0_6 m0_7 m0_8 m0_9 mlt0 m1_0 m1_1 m1_2 m1_3 m1_4 m1_5 m1_6 m1_7 m1_8 m1_9 mlt1 mf0
  obtain ⟨W5, hW⟩ : ∃ WX, WX = ((((((((((W4.setCell ⟨B1, 0, none⟩ (.bool v)).setCell ⟨B1, 1, none⟩ (.bool r)).setCell ⟨B1, 2, none⟩ (.bool x1)).setCell ⟨B1, 3, none⟩ (.bool x)).setCell ⟨B1, 4, none⟩ (.bool u)).setCell ⟨B1, 5, none⟩ (.bool g)).setCell ⟨B1, 6, none⟩ (.bool a)).setCell ⟨B1, 7, none⟩ (.bool d)).setCell ⟨B1, 8, none⟩ (.int .i64 rsw)).setCell ⟨B1, 9, none⟩ (.int .u64 (f : Int))) := ⟨_, rfl⟩
  rw [← hW]
  have K5_0 := Lib.hid (show Blk W5 B1 [.bool v, .bool r, .bool x1, .bool x, .bool u, .bool g, .bool a, .bool d, .int .i64 rsw, .int .u64 (f : Int)] 39 from hW ▸ ((((((((((K4_0.out.set 0 (.bool v)).set 1 (.bool r)).set 2 (.bool x1)).set 3 (.bool x)).set 4 (.bool u)).set 5 (.bool g)).set 6 (.bool a)).set 7 (.bool d)).set 8 (.int .i64 rsw)).set 9 (.int .u64 (f : Int))))
  have K5_1 := Lib.hid (show Blk W5 B3 [.bool v, .bool r, .bool x1, .bool x, .bool u, .bool g, .bool a, .bool d, .int .i64 rsw, .int .u64 (f : Int)] 39 from hW ▸ ((((((((((K4_1.out.other ⟨B1, 0, none⟩ (.bool v) (Ne.symm X3_0_0.out)).other ⟨B1, 1, none⟩ (.bool r) (Ne.symm X3_0_0.out)).other ⟨B1, 2, none⟩ (.bool x1) (Ne.symm X3_0_0.out)).other ⟨B1, 3, none⟩ (.bool x) (Ne.symm X3_0_0.out)).other ⟨B1, 4, none⟩ (.bool u) (Ne.symm X3_0_0.out)).other ⟨B1, 5, none⟩ (.bool g) (Ne.symm X3_0_0.out)).other ⟨B1, 6, none⟩ (.bool a) (Ne.symm X3_0_0.out)).other ⟨B1, 7, none⟩ (.bool d) (Ne.symm X3_0_0.out)).other ⟨B1, 8, none⟩ (.int .i64 rsw) (Ne.symm X3_0_0.out)).other ⟨B1, 9, none⟩ (.int .u64 (f : Int)) (Ne.symm X3_0_0.out)))
  have L5 := Lib.hid (show Below w.heap.size w W5 from hW ▸ (Below.setCell (Below.setCell (Below.setCell (Below.setCell (Below.setCell (Below.setCell (Below.setCell (Below.setCell (Below.setCell (Below.setCell L4.out G1.out _) G1.out _) G1.out _) G1.out _) G1.out _) G1.out _) G1.out _) G1.out _) G1.out _) G1.out _))
  clear hW K4_0 K4_1
  have rr0 := K5_0.out.c0
  have rr1 := K5_0.out.c1
  have rr2 := K5_0.out.c2
  have rr3 := K5_0.out.c3
  have rr4 := K5_0.out.c4
  have rr5 := K5_0.out.c5
  have rr6 := K5_0.out.c6
  have rr7 := K5_0.out.c7
  have rr8 := K5_0.out.c8
  have rr9 := K5_0.out.c9
  refine bodyPost_ret (v := .agg #[.bool v, .bool r, .bool x1, .bool x, .bool u, .bool g, .bool a, .bool d, .int .i64 rsw, .int .u64 (f : Int)]) (by simp [results, Tryz.results73, go_sem, rr0, rr1, rr2, rr3, rr4, rr5, rr6, rr7, rr8, rr9]) rfl ⟨rfl, L5.out⟩
section
variable {P : Pm} {n : Nat} {w : World} {Fm Gs : Nat → Prop} {C : Nat → List Int} {R : Nat → Nat → Wy} {S : Tt} {c : Nat} {s : Ss} {fr : Nat → Option Nat}
theorem swhich_any (h : SpX P n w Fm Gs C R S c s fr) (va : Nat) (hv : va < 18446744073709551616) : Calls Tryz.prog 12 #[.pointer (some ⟨P.xp, 0, none⟩), .int .u64 (va : Int)] w fun r w' => r = .returned (.tuple #[.int .i64 (whichS s va).1, .bool (whichS s va).2]) ∧ Chg no w w' := by
  have hL := h.tie.wf.shL
  have c2 : w.cell? ⟨P.xp, 2, none⟩ = some (.int .i64 (s.sh.length : Int)) := h.blk.cell 2
  obtain ⟨Q, hQ⟩ : ∃ Q, Q = whichS s va := ⟨_, rfl⟩
  rw [← hQ]
  unfold whichS at hQ
  generalize s.sh.length = ns at *
  have HQ := Lib.hid hQ; clear hQ h
  have w2 : IntKind.u64.wrap (ns : Int) = (ns : Int) := wrapN ns (by omega)
  go_enter Tryz.func12, Tryz.ntmps12
  by_cases h0 : 1073741824 ≤ va
  · have h0' : ¬ ((va : Int) < 1073741824) := by omega
    have w1 : IntKind.u64.wrap ((va : Int) - 1073741824) = ((va - 1073741824 : Nat) : Int) := by rw [wrap_u64B]; omega
    have w3 : ((va - 1073741824 : Nat) : Int).tdiv 4096 = (((va - 1073741824) / 4096 : Nat) : Int) := by rw [Int.tdiv_eq_ediv_of_nonneg (by omega)]; omega
    have w4 : IntKind.u64.wrap (((va - 1073741824) / 4096 : Nat) : Int) = (((va - 1073741824) / 4096 : Nat) : Int) := wrapN _ (by omega)
    have w5 : IntKind.i64.wrap (((va - 1073741824) / 4096 : Nat) : Int) = (((va - 1073741824) / 4096 : Nat) : Int) := by simp [IntKind.wrap, IntKind.bits, IntKind.signed]; omega
    generalize (va - 1073741824) / 4096 = q at *
    generalize va - 1073741824 = d at *
    by_cases h1 : q < ns
    · have h1' : ¬ ((ns : Int) ≤ q) := by omega
      go_wp2
      go_ret2
      rw [HQ.out, if_pos ⟨h0, h1⟩]
      exact ⟨rfl, Chg.refl _ _⟩
    · have h1' : (ns : Int) ≤ q := by omega
      go_wp2
      go_ret2
      rw [HQ.out, if_neg (fun e => h1 e.2)]
      exact ⟨rfl, Chg.refl _ _⟩
  · have h0' : (va : Int) < 1073741824 := by omega
    go_wp2
    go_ret2
    rw [HQ.out, if_neg (fun e => h0 e.1)]
    exact ⟨rfl, Chg.refl _ _⟩
theorem sunit_any (h : SpX P n w Fm Gs C R S c s fr) : Calls Tryz.prog 13 #[.pointer (some ⟨P.xp, 0, none⟩)] w fun r w' => r = .returned (.pointer (some ⟨P.up, 0, none⟩)) ∧ w = w' := by
  have c7 : w.cell? ⟨P.xp, 7, none⟩ = some (.pointer (some ⟨P.up, 0, none⟩)) := h.blk.cell 7
  clear h
  go_enter Tryz.func13, Tryz.ntmps13
  go_wp2
  go_ret
  exact ⟨rfl, rfl⟩
theorem sfind_of (l : Lf) (er : Int) (xp tp va : Nat) (w : World) (c5 : w.cell? ⟨xp, 5, none⟩ = some (.pointer (some ⟨tp, 0, none⟩))) (hx : xp < w.heap.size)
    (hF : ∀ w', Below w.heap.size w w' → Calls Tryz.prog 40 #[.pointer (some ⟨tp, 0, none⟩), .int .u64 (va : Int)] w' fun r w'' => r = .returned (.tuple #[lfv l, .int .i64 er]) ∧ Below w'.heap.size w' w'') :
    Calls Tryz.prog 11 #[.pointer (some ⟨xp, 0, none⟩), .int .u64 (va : Int)] w fun r w' => r = .returned (.tuple #[lfv l, .bool (decide (er = 0))]) ∧ Below w.heap.size w w' := by
  obtain ⟨Q, hQ⟩ : ∃ Q, Q = decide (er = 0) := ⟨_, rfl⟩
  rw [← hQ]
  have hq : (er == 0) = Q := by rw [hQ]; by_cases e : er = 0 <;> simp [e]
  have c5' : ∀ w' : World, Below w.heap.size w w' → w'.cell? ⟨xp, 5, none⟩ = some (.pointer (some ⟨tp, 0, none⟩)) := fun w' hb => (World.cell?_of_block (w := w) (a := ⟨xp, 5, none⟩) (hb.block xp hx)).trans c5
  obtain ⟨⟨v, r, x1, x, u, g, a, d, rsw, ppn⟩, lv, pl⟩ := l
  unfold lfv at *
  dsimp only at *
  have H1 := Lib.hid hF; have H5 := Lib.hid c5'; have HQ := Lib.hid hq
  clear hF c5 c5' hx hq hQ
  go_enter Tryz.func11, Tryz.ntmps11
  go_upto_region 1 with (fail)
  have nb0 := Blk.new w [.bool false, .bool false, .bool false, .bool false, .bool false, .bool false, .bool false, .bool false, .int .i64 0, .int .u64 0, .int .i64 0, .int .u64 0] 41
  have nls : Below w.heap.size w w := (Below.refl w.heap.size w)
  have nl0 := nls.alloc nls.size (.cells #[.bool false, .bool false, .bool false, .bool false, .bool false, .bool false, .bool false, .bool false, .int .i64 0, .int .u64 0, .int .i64 0, .int .u64 0] 41)
  have nl : Below w.heap.size w (w.alloc (.cells #[.bool false, .bool false, .bool false, .bool false, .bool false, .bool false, .bool false, .bool false, .int .i64 0, .int .u64 0, .int .i64 0, .int .u64 0] 41)) := nl0; clear nls nl0
  obtain ⟨B1, hB0⟩ : ∃ B, B = w.heap.size := ⟨_, rfl⟩
  obtain ⟨W1, hW⟩ : ∃ W, W = (w.alloc (.cells #[.bool false, .bool false, .bool false, .bool false, .bool false, .bool false, .bool false, .bool false, .int .i64 0, .int .u64 0, .int .i64 0, .int .u64 0] 41)) := ⟨_, rfl⟩
  rw [← hW] at nl nb0
  rw [← hB0] at nb0
  rw [← hW]
  try rw [← hB0]
  have K1_0 := Lib.hid nb0
  have G1 : Hid (w.heap.size ≤ B1) := Lib.hid (by have := (Nat.le_refl w.heap.size); omega)
  have L1 := Lib.hid nl
  clear nl hW nb0 hB0
  have k5 := H5.out _ L1.out
  go_wp2_with fail
  clear k5
  refine (H1.out _ L1.out).mono ?_
  rintro e w2 ⟨rfl, hb⟩
  have L2 := Lib.hid (L1.out.trans (hb.mono L1.out.size))
  have K2_0 := Lib.hid (K1_0.out.below hb K1_0.out.lt)
  clear hb K1_0
  go_upto_region 4 with (fail)
  have nb0 := Blk.new w2 [.bool v, .bool r, .bool x1, .bool x, .bool u, .bool g, .bool a, .bool d, .int .i64 rsw, .int .u64 (ppn : Int), .int .i64 (lv : Int), .int .u64 (pl : Int)] 41
  have nls : Below w.heap.size w w2 := L2.out
  have nl0 := nls.alloc nls.size (.cells #[.bool v, .bool r, .bool x1, .bool x, .bool u, .bool g, .bool a, .bool d, .int .i64 rsw, .int .u64 (ppn : Int), .int .i64 (lv : Int), .int .u64 (pl : Int)] 41)
  have nl : Below w.heap.size w (w2.alloc (.cells #[.bool v, .bool r, .bool x1, .bool x, .bool u, .bool g, .bool a, .bool d, .int .i64 rsw, .int .u64 (ppn : Int), .int .i64 (lv : Int), .int .u64 (pl : Int)] 41)) := nl0; clear nls nl0
  have o0 := (K2_0.out.alloc (.cells #[.bool v, .bool r, .bool x1, .bool x, .bool u, .bool g, .bool a, .bool d, .int .i64 rsw, .int .u64 (ppn : Int), .int .i64 (lv : Int), .int .u64 (pl : Int)] 41))
  have d3_0 : B1 < w2.heap.size := K2_0.out.lt
  obtain ⟨B3, hB0⟩ : ∃ B, B = w2.heap.size := ⟨_, rfl⟩
  obtain ⟨W3, hW⟩ : ∃ W, W = (w2.alloc (.cells #[.bool v, .bool r, .bool x1, .bool x, .bool u, .bool g, .bool a, .bool d, .int .i64 rsw, .int .u64 (ppn : Int), .int .i64 (lv : Int), .int .u64 (pl : Int)] 41)) := ⟨_, rfl⟩
  rw [← hW] at nl nb0 o0
  rw [← hB0] at nb0
  rw [← hW]
  try rw [← hB0]
  have K3_0 := Lib.hid o0
  have K3_1 := Lib.hid nb0
  have G3 : Hid (w.heap.size ≤ B3) := Lib.hid (by have := L2.out.size; omega)
  have x3_0_0 : B1 ≠ B3 := by omega
  have X3_0_0 := Lib.hid x3_0_0; clear x3_0_0
  have L3 := Lib.hid nl
  clear nl hW nb0 hB0 o0 d3_0 K2_0
  have m0_0 := K3_0.out.c0
  have m0_1 := K3_0.out.c1
  have m0_2 := K3_0.out.c2
  have m0_3 := K3_0.out.c3
  have m0_4 := K3_0.out.c4
  have m0_5 := K3_0.out.c5
  have m0_6 := K3_0.out.c6
  have m0_7 := K3_0.out.c7
  have m0_8 := K3_0.out.c8
  have m0_9 := K3_0.out.c9
  have m0_10 := K3_0.out.c10
  have m0_11 := K3_0.out.c11
  have mlt0 : B1 < W3.heap.size := K3_0.out.lt
  have m1_0 := K3_1.out.c0
  have m1_1 := K3_1.out.c1
  have m1_2 := K3_1.out.c2
  have m1_3 := K3_1.out.c3
  have m1_4 := K3_1.out.c4
  have m1_5 := K3_1.out.c5
  have m1_6 := K3_1.out.c6
  have m1_7 := K3_1.out.c7
  have m1_8 := K3_1.out.c8
  have m1_9 := K3_1.out.c9
  have m1_10 := K3_1.out.c10
  have m1_11 := K3_1.out.c11
  have mlt1 : B3 < W3.heap.size := K3_1.out.lt
  have mf0 : ∀ o, W3.frozen? ⟨B1, o, none⟩ = false := fun o => K3_0.out.free o
  have hq := HQ.out
  go_wp2
  clear m0_0 m0_1 m0_2 m0_3 m0_4 m0_5 m0_6 m0_7 m0_8 m0_9 m0_10 m0_11 mlt0 m1_0 m1_1 m1_2 m1_3 m1_4 m1_5 m1_6 m1_7 m1_8 m1_9 m1_10 m1_11 mlt1 mf0
  clear hq
  obtain ⟨W4, hW⟩ : ∃ WX, WX = ((((((((((((W3.setCell ⟨B1, 0, none⟩ (.bool v)).setCell ⟨B1, 1, none⟩ (.bool r)).setCell ⟨B1, 2, none⟩ (.bool x1)).setCell ⟨B1, 3, none⟩ (.bool x)).setCell ⟨B1, 4, none⟩ (.bool u)).setCell ⟨B1, 5, none⟩ (.bool g)).setCell ⟨B1, 6, none⟩ (.bool a)).setCell ⟨B1, 7, none⟩ (.bool d)).setCell ⟨B1, 8, none⟩ (.int .i64 rsw)).setCell ⟨B1, 9, none⟩ (.int .u64 (ppn : Int))).setCell ⟨B1, 10, none⟩ (.int .i64 (lv : Int))).setCell ⟨B1, 11, none⟩ (.int .u64 (pl : Int))) := ⟨_, rfl⟩
  rw [← hW]
  have K4_0 := Lib.hid (show Blk W4 B1 [.bool v, .bool r, .bool x1, .bool x, .bool u, .bool g, .bool a, .bool d, .int .i64 rsw, .int .u64 (ppn : Int), .int .i64 (lv : Int), .int .u64 (pl : Int)] 41 from hW ▸ ((((((((((((K3_0.out.set 0 (.bool v)).set 1 (.bool r)).set 2 (.bool x1)).set 3 (.bool x)).set 4 (.bool u)).set 5 (.bool g)).set 6 (.bool a)).set 7 (.bool d)).set 8 (.int .i64 rsw)).set 9 (.int .u64 (ppn : Int))).set 10 (.int .i64 (lv : Int))).set 11 (.int .u64 (pl : Int))))
  have K4_1 := Lib.hid (show Blk W4 B3 [.bool v, .bool r, .bool x1, .bool x, .bool u, .bool g, .bool a, .bool d, .int .i64 rsw, .int .u64 (ppn : Int), .int .i64 (lv : Int), .int .u64 (pl : Int)] 41 from hW ▸ ((((((((((((K3_1.out.other ⟨B1, 0, none⟩ (.bool v) (Ne.symm X3_0_0.out)).other ⟨B1, 1, none⟩ (.bool r) (Ne.symm X3_0_0.out)).other ⟨B1, 2, none⟩ (.bool x1) (Ne.symm X3_0_0.out)).other ⟨B1, 3, none⟩ (.bool x) (Ne.symm X3_0_0.out)).other ⟨B1, 4, none⟩ (.bool u) (Ne.symm X3_0_0.out)).other ⟨B1, 5, none⟩ (.bool g) (Ne.symm X3_0_0.out)).other ⟨B1, 6, none⟩ (.bool a) (Ne.symm X3_0_0.out)).other ⟨B1, 7, none⟩ (.bool d) (Ne.symm X3_0_0.out)).other ⟨B1, 8, none⟩ (.int .i64 rsw) (Ne.symm X3_0_0.out)).other ⟨B1, 9, none⟩ (.int .u64 (ppn : Int)) (Ne.symm X3_0_0.out)).other ⟨B1, 10, none⟩ (.int .i64 (lv : Int)) (Ne.symm X3_0_0.out)).other ⟨B1, 11, none⟩ (.int .u64 (pl : Int)) (Ne.symm X3_0_0.out)))
  have L4 := Lib.hid (show Below w.heap.size w W4 from hW ▸ (Below.setCell (Below.setCell (Below.setCell (Below.setCell (Below.setCell (Below.setCell (Below.setCell (Below.setCell (Below.setCell (Below.setCell (Below.setCell (Below.setCell L3.out G1.out _) G1.out _) G1.out _) G1.out _) G1.out _) G1.out _) G1.out _) G1.out _) G1.out _) G1.out _) G1.out _) G1.out _))
  clear hW K3_0 K3_1
  have rr0 := K4_0.out.c0
  have rr1 := K4_0.out.c1
  have rr2 := K4_0.out.c2
  have rr3 := K4_0.out.c3
  have rr4 := K4_0.out.c4
  have rr5 := K4_0.out.c5
  have rr6 := K4_0.out.c6
  have rr7 := K4_0.out.c7
  have rr8 := K4_0.out.c8
  have rr9 := K4_0.out.c9
  have rr10 := K4_0.out.c10
  have rr11 := K4_0.out.c11
  refine bodyPost_ret (v := .tuple #[.agg #[.bool v, .bool r, .bool x1, .bool x, .bool u, .bool g, .bool a, .bool d, .int .i64 rsw, .int .u64 (ppn : Int), .int .i64 (lv : Int), .int .u64 (pl : Int)], .bool Q]) (by simp [results, Tryz.results11, go_sem, rr0, rr1, rr2, rr3, rr4, rr5, rr6, rr7, rr8, rr9, rr10, rr11]) rfl ⟨rfl, L4.out⟩
theorem sfind_any (h : SpX P n w Fm Gs C R S c s fr) (va : Nat) (hv : va < 18446744073709551616) : ∃ l : Lf, (mayP s (va / 4096) ≠ 0 → l.e.w = decide (mayP s (va / 4096) = 6)) ∧ (mayP s (va / 4096) = 0 → l = zl) ∧
    ∀ w', Chg no w w' → Calls Tryz.prog 11 #[.pointer (some ⟨P.xp, 0, none⟩), .int .u64 (va : Int)] w' fun r w'' => r = .returned (.tuple #[lfv l, .bool (decide (mayP s (va / 4096) ≠ 0))]) ∧ Chg no w' w'' := by
  have h0 := h.sp.lv0
  have hC : ∀ w', Chg no w w' → ∀ w'', Below w'.heap.size w' w'' → Below w.heap.size w w'' := fun w' hc w'' hb => hc.none.trans (hb.mono hc.size)
  have hc5 : ∀ w', Chg no w w' → w'.cell? ⟨P.xp, 5, none⟩ = some (.pointer (some ⟨P.tp, 0, none⟩)) ∧ P.xp < w'.heap.size := fun w' hc => ⟨(h.blk.chg hc (fun h => h)).cell 5, Nat.lt_of_lt_of_le h.blk.lt hc.size⟩
  have hts := h.sp.ts
  rcases find13_two va hts hv with ⟨m, f, i, hh, _, _, _, _, _, hc, _, _, hcall⟩ | ⟨hh, _, hcall⟩
  · rw [hold_lv0 h0 hc] at hh
    have hm : mayP s (va / 4096) ≠ 0 := fun e => by rw [h.tie.nopage hc e] at hh; cases hh
    obtain ⟨p, f2, h1, h2, h3, h4⟩ := h.tie.page hc hm
    rw [hh] at h1
    have h1 := Option.some.inj h1
    subst h1
    have hmw : m.e.w = decide (mayP s (va / 4096) = 6) := by
      rcases may_cases s (va / 4096) with e | e | e | e <;> rw [e] at h3 hm ⊢
      · exact absurd rfl hm
      · exact (congrArg Ent.w (Option.some.inj h3)).symm
      · exact (congrArg Ent.w (Option.some.inj h3)).symm
      · exact (congrArg Ent.w (Option.some.inj h3)).symm
    refine ⟨⟨m.e, m.lv, f * 4096 + 8 * fld va (12 + 9 * m.lv) 9⟩, fun _ => hmw, fun e => absurd e hm, fun w' hw => ?_⟩
    obtain ⟨k1, k2⟩ := hc5 w' hw
    refine (sfind_of _ 0 P.xp P.tp va w' k1 k2 (fun w'' hb => hcall w'' (hC w' hw w'' hb))).mono ?_
    rintro r w'' ⟨rfl, hb⟩
    refine ⟨?_, Chg.of_below hb⟩
    rw [decide_eq_true hm]; rfl
  · have hm : mayP s (va / 4096) = 0 := by
      cases hq : decide (mayP s (va / 4096) = 0) with
      | true => exact of_decide_eq_true hq
      | false =>
        have hne := of_decide_eq_false hq
        have hc := low_can (may_has h.tie.wf hne).2
        obtain ⟨p, f2, h1, _⟩ := h.tie.page hc hne
        rw [hold_lv0 h0 hc, h1] at hh
        cases hh
    refine ⟨zl, fun e => absurd hm e, fun _ => rfl, fun w' hw => ?_⟩
    obtain ⟨k1, k2⟩ := hc5 w' hw
    refine (sfind_of zl 51 P.xp P.tp va w' k1 k2 (fun w'' hb => hcall w'' (hC w' hw w'' hb))).mono ?_
    rintro r w'' ⟨rfl, hb⟩
    refine ⟨?_, Chg.of_below hb⟩
    rw [hm]; rfl
end
end Go.Proofs.YtgnjbjbgfhjakaaGreat

namespace Go.Proofs.YtgnjbjbgfhjakaaGreat
open Go.RowKit
set_option linter.unusedVariables false
set_option linter.unusedSimpArgs false
attribute [local go_sem] setCell_drewN alloc_drewN

theorem load_entS {w : World} {b : Nat} {c0 c1 c2 c3 c4 c5 c6 c7 c8 c9 : Value} (h : Blk w b [c0, c1, c2, c3, c4, c5, c6, c7, c8, c9] 39) :
    (Instr.loadAt 39 (.pointer (some ⟨b, 0, none⟩))).run Tryz.prog w = .ok (.agg #[c0, c1, c2, c3, c4, c5, c6, c7, c8, c9]) w := by
  have h0 : w.cell? ⟨b, 0, none⟩ = some c0 := h.cell 0
  have h1 : w.cell? ⟨b, 1, none⟩ = some c1 := h.cell 1
  have h2 : w.cell? ⟨b, 2, none⟩ = some c2 := h.cell 2
  have h3 : w.cell? ⟨b, 3, none⟩ = some c3 := h.cell 3
  have h4 : w.cell? ⟨b, 4, none⟩ = some c4 := h.cell 4
  have h5 : w.cell? ⟨b, 5, none⟩ = some c5 := h.cell 5
  have h6 : w.cell? ⟨b, 6, none⟩ = some c6 := h.cell 6
  have h7 : w.cell? ⟨b, 7, none⟩ = some c7 := h.cell 7
  have h8 : w.cell? ⟨b, 8, none⟩ = some c8 := h.cell 8
  have h9 : w.cell? ⟨b, 9, none⟩ = some c9 := h.cell 9
  clear h
  go_simp
theorem yield_entS {w : World} {b : Nat} {c0 c1 c2 c3 c4 c5 c6 c7 c8 c9 : Value} (a : Act) (o : Oper) (x : Operand) (ho : o.op = .load 39 x) (hx : a.eval x = .pointer (some ⟨b, 0, none⟩)) (h : Blk w b [c0, c1, c2, c3, c4, c5, c6, c7, c8, c9] 39) :
    (execOp a.eval o).run Tryz.prog w = .ok (.value (.agg #[c0, c1, c2, c3, c4, c5, c6, c7, c8, c9])) w := by
  have e := load_entS h
  obtain ⟨op, _, _, _, _, _⟩ := o
  dsimp only at ho
  subst ho
  unfold execOp
  simp only [hx]
  simp [e]
theorem rt_may {s : Ss} (h : Wf s) {q : Nat} (hq : q < s.sh.length) : (shN s q).rt ≤ 2 ∧ mayP s ((1073741824 + 4096 * q) / 4096) = mayR (shN s q).rt := by
  refine ⟨(h.sh q hq).1, ?_⟩
  rw [show (1073741824 + 4096 * q) / 4096 = 262144 + q from by omega]
  exact (sh_fns h hq).2.1
section
variable {P : Pm} {n : Nat} {w : World} {Fm Gs : Nat → Prop} {C : Nat → List Int} {R : Nat → Nat → Wy} {S : Tt} {c : Nat} {s : Ss} {fr : Nat → Option Nat}
theorem sright_any (h : SpX P n w Fm Gs C R S c s fr) (p : Int) : ∀ w', Below w.heap.size w w' → Calls Tryz.prog 15 #[.pointer (some ⟨P.xp, 0, none⟩), .int .i64 p] w' fun r w'' => r = .returned (.int .i64 (rtS s p)) ∧ Below w'.heap.size w' w'' := by
  intro w0 hb0
  have h := h.below hb0
  clear hb0
  have hc2 : w0.cell? ⟨P.xp, 2, none⟩ = some (.int .i64 (s.sh.length : Int)) := h.blk.cell 2
  have h1 := shas_any P.xp s.sh.length p w0 hc2
  have hL := h.tie.wf.shL
  unfold rtS
  by_cases hp : 0 ≤ p ∧ p < s.sh.length
  · obtain ⟨q, rfl⟩ : ∃ q : Nat, p = q := ⟨p.toNat, by omega⟩
    rw [decide_eq_true hp] at h1
    rw [if_pos hp, Int.toNat_natCast]
    have hq : q < s.sh.length := by omega
    obtain ⟨r2, hm⟩ := rt_may h.tie.wf hq
    have h2 := fun w => saddr_any q w (by omega)
    obtain ⟨l, l1, l2, hF⟩ := sfind_any h (1073741824 + 4096 * q) (by omega)
    have h3 := fun w' (hb : Below w0.heap.size w0 w') => (hF w' (Chg.of_below hb)).mono (fun r w'' h => (⟨h.1, h.2.none⟩ : _ ∧ Below w'.heap.size w' w''))
    rw [hm] at l1 l2 h3
    generalize 1073741824 + 4096 * q = va at h2 h3
    obtain ⟨Q, hQ⟩ : ∃ Q, Q = decide (mayR (shN s q).rt ≠ 0) := ⟨_, rfl⟩
    rw [← hQ] at h3
    have k0 : Q = false → (0 : Int) = ((shN s q).rt : Int) := fun e => by
      rw [e] at hQ
      have := of_decide_eq_false hQ.symm
      unfold mayR at this
      split at this
      · omega
      · split at this <;> exact absurd (by decide) this
    have k1 : Q = true → l.e.w = decide (mayR (shN s q).rt = 6) := fun e => by rw [e] at hQ; exact l1 (of_decide_eq_true hQ.symm)
    have k2 : l.e.w = decide (mayR (shN s q).rt = 6) → l.e.w = true → (2 : Int) = ((shN s q).rt : Int) := fun e e2 => by
      rw [e2] at e
      have := of_decide_eq_true e.symm
      unfold mayR at this
      split at this
      · cases this
      · split at this
        · omega
        · cases this
    have k3 : Q = true → l.e.w = decide (mayR (shN s q).rt = 6) → l.e.w = false → (1 : Int) = ((shN s q).rt : Int) := fun e0 e e2 => by
      rw [e2] at e
      rw [e0] at hQ
      have a1 := of_decide_eq_false e.symm
      have a2 := of_decide_eq_true hQ.symm
      have b0 : (shN s q).rt ≠ 0 := fun hz => a2 (by rw [hz]; rfl)
      have b2 : (shN s q).rt ≠ 2 := fun hz => a1 (by rw [hz]; rfl)
      omega
    obtain ⟨⟨v, r, x1, x, u, g, a, d, rsw, ppn⟩, lv, pl⟩ := l
    unfold lfv at *
    dsimp only at *
    generalize ((shN s q).rt : Int) = V at *
    have H1 := Lib.hid h1; have H2 := Lib.hid h2; have H3 := Lib.hid h3; have K0 := Lib.hid k0; have K1 := Lib.hid k1; have K2 := Lib.hid k2; have K3 := Lib.hid k3
    clear h1 h2 h3 k0 k1 k2 k3 l1 l2 hF hQ hc2 h hL hp hm r2 hq
    go_enter Tryz.func15, Tryz.ntmps15
    go_wp2_with fail
    refine H1.out.mono ?_
    rintro e wx ⟨rfl, rfl⟩
    go_wp2_with fail
    refine (H2.out _).mono ?_
    rintro e wx ⟨rfl, rfl⟩
    go_wp2_with fail
    refine (H3.out _ (Below.refl _ _)).mono ?_
    rintro e w1 ⟨rfl, hb⟩
    have L1 := Lib.hid ((Below.refl w0.heap.size w0).trans (hb.mono (Nat.le_refl w0.heap.size)))
    clear hb
    go_upto_region 4 with (fail)
    have nb0 := Blk.new w1 [.bool v, .bool r, .bool x1, .bool x, .bool u, .bool g, .bool a, .bool d, .int .i64 rsw, .int .u64 (ppn : Int), .int .i64 (lv : Int), .int .u64 (pl : Int)] 41
    have nls : Below w0.heap.size w0 w1 := L1.out
    have nl0 := nls.alloc nls.size (.cells #[.bool v, .bool r, .bool x1, .bool x, .bool u, .bool g, .bool a, .bool d, .int .i64 rsw, .int .u64 (ppn : Int), .int .i64 (lv : Int), .int .u64 (pl : Int)] 41)
    have nl : Below w0.heap.size w0 (w1.alloc (.cells #[.bool v, .bool r, .bool x1, .bool x, .bool u, .bool g, .bool a, .bool d, .int .i64 rsw, .int .u64 (ppn : Int), .int .i64 (lv : Int), .int .u64 (pl : Int)] 41)) := nl0; clear nls nl0
    obtain ⟨B2, hB0⟩ : ∃ B, B = w1.heap.size := ⟨_, rfl⟩
    obtain ⟨W2, hW⟩ : ∃ W, W = (w1.alloc (.cells #[.bool v, .bool r, .bool x1, .bool x, .bool u, .bool g, .bool a, .bool d, .int .i64 rsw, .int .u64 (ppn : Int), .int .i64 (lv : Int), .int .u64 (pl : Int)] 41)) := ⟨_, rfl⟩
    rw [← hW] at nl nb0
    rw [← hB0] at nb0
    rw [← hW]
    try rw [← hB0]
    have K2_0 := Lib.hid nb0
    have G2 : Hid (w0.heap.size ≤ B2) := Lib.hid (by have := L1.out.size; omega)
    have L2 := Lib.hid nl
    clear nl hW nb0 hB0
    have m0_0 := K2_0.out.c0
    have m0_1 := K2_0.out.c1
    have m0_2 := K2_0.out.c2
    have m0_3 := K2_0.out.c3
    have m0_4 := K2_0.out.c4
    have m0_5 := K2_0.out.c5
    have m0_6 := K2_0.out.c6
    have m0_7 := K2_0.out.c7
    have m0_8 := K2_0.out.c8
    have m0_9 := K2_0.out.c9
    have m0_10 := K2_0.out.c10
    have m0_11 := K2_0.out.c11
    have mlt0 : B2 < W2.heap.size := K2_0.out.lt
    cases Q
    · go_wp2
      clear m0_0 m0_1 m0_2 m0_3 m0_4 m0_5 m0_6 m0_7 m0_8 m0_9 m0_10 m0_11 mlt0
      go_ret
      exact ⟨ret_int (K0.out (by trivial)), L2.out⟩
    · have kw := K1.out (by trivial); have k2 := K2.out kw; have k3 := K3.out (by trivial) kw
      have K4 := Lib.hid k2; have K5 := Lib.hid k3; clear kw k2 k3
      cases x1
      · go_wp2
        clear m0_0 m0_1 m0_2 m0_3 m0_4 m0_5 m0_6 m0_7 m0_8 m0_9 m0_10 m0_11 mlt0
        go_ret
        exact ⟨ret_int (K5.out (by trivial)), L2.out⟩
      · go_wp2
        clear m0_0 m0_1 m0_2 m0_3 m0_4 m0_5 m0_6 m0_7 m0_8 m0_9 m0_10 m0_11 mlt0
        go_ret
        exact ⟨ret_int (K4.out (by trivial)), L2.out⟩
  · rw [decide_eq_false hp] at h1
    rw [if_neg hp]
    have H1 := Lib.hid h1
    clear h1 h hc2 hL hp
    go_enter Tryz.func15, Tryz.ntmps15
    go_wp2_with fail
    refine H1.out.mono ?_
    rintro e wx ⟨rfl, rfl⟩
    go_wp2
    go_ret
    exact ⟨rfl, Below.refl _ _⟩
/-- the frame of a shared page -/
theorem sframe_any (h : SpX P n w Fm Gs C R S c s fr) (p : Nat) (hp : p < s.sh.length) : Calls Tryz.prog 47 #[.pointer (some ⟨P.xp, 0, none⟩), .int .i64 (p : Int)] w fun r w' => ∃ f S' fr', r = .returned (.tuple #[.int .i64 f, .int .i64 (frameS s p).2]) ∧ SpX P n w' Fm Gs C R S' c (frameS s p).1 fr' ∧
    ((frameS s p).2 = 0 → ∃ F : Nat, f = F ∧ fr' (262144 + p) = some F) ∧ Chg (FpX P Fm Gs) w w' := by
  have hL := h.tie.wf.shL
  have c10 : w.cell? ⟨P.xp, 10, none⟩ = some (.map (some P.hb)) := h.blk.cell 10
  have c4 : w.cell? ⟨P.xp, 4, none⟩ = some (.pointer (some ⟨P.sp, 0, none⟩)) := h.blk.cell 4
  have hdom := h.tie.dom (262144 + p)
  rw [(sh_fns h.tie.wf hp).1] at hdom
  obtain ⟨x, hlk, hx⟩ := h.map.look p (by omega)
  cases hh : (shN s p).has with
  | true =>
    rw [hh] at hdom
    obtain ⟨F, hF⟩ := Option.isSome_iff_exists.1 hdom
    have hfs : frameS s p = (s, 0) := by unfold frameS; rw [if_pos hh]
    have hxF := hx F hF
    subst hxF
    rw [hfs]
    dsimp only at hlk ⊢
    rw [hdom] at hlk
    have H0 := Lib.hid h; have HF := Lib.hid hF
    clear h hF hx hdom hh hfs hp
    go_enter Tryz.func47, Tryz.ntmps47
    go_wp2
    go_ret2
    exact ⟨_, S, fr, rfl, H0.out, fun _ => ⟨F, rfl, HF.out⟩, Chg.refl _ _⟩
  | false =>
    rw [hh] at hdom
    have hfull := h.tie.full
    have hD : fr (262144 + p) = none := Option.isNone_iff_eq_none.1 (Option.isSome_eq_false_iff.1 hdom)
    rw [hdom] at hlk
    by_cases hf : s.free = 0
    · have hfs : frameS s p = (s, 50) := by unfold frameS; rw [if_neg (by rw [hh]; decide), if_pos hf]
      have h1 := sp_take_full h.sp.toSPn (hfull.2 hf)
      rw [hfs]
      have H0 := Lib.hid h; have H1 := Lib.hid h1
      clear h h1 hx hdom hh hfs hp hfull hD hf
      go_enter Tryz.func47, Tryz.ntmps47
      go_wp2_with fail
      refine H1.out.mono ?_
      rintro e w1 ⟨rfl, hb⟩
      have HB := Lib.hid hb; clear hb
      go_wp2
      go_ret2
      exact ⟨_, S, fr, rfl, H0.out.below HB.out, (fun h => absurd h (by decide)), Chg.of_below HB.out⟩
    · have hok := (h.tie.take ⟨_, h.rt⟩ hp hh hf).1
      have h1 := sp_take_yes h.sp (fun e => hf (hfull.1 e))
      have h2 := fun w1 w2 => h.taken (w1 := w1) (w2 := w2) hp hh hf
      have h3 : ∀ w1, Chg Gs w w1 → w1.cell? ⟨P.xp, 10, none⟩ = some (.map (some P.hb)) ∧ Mi w1 P.hb (countS s) (fun p => fr (262144 + p)) := fun w1 hc => ⟨(h.blk.chg hc (fun e => h.ax (.inr (.inr (.inr (.inr (.inl e))))))).cell 10, h.map.chg hc (fun e => h.ah (.inr (.inr (.inr (.inr (.inl e))))))⟩
      have hcl : countS s < maxLen := by
        have : countS s ≤ s.sh.length := List.length_filter_le _ _
        unfold maxLen; omega
      have h4 := fun w1 (hc : Chg Gs w w1) => (h3 w1 hc).2.store p S.used (by omega) hcl hD
      generalize (frameS s p).1 = s1 at *
      generalize (frameS s p).2 = e1 at *
      subst hok
      have H1 := Lib.hid h1; have H2 := Lib.hid h2; have H3 := Lib.hid h3; have H4 := Lib.hid h4
      clear h h1 h2 h3 h4 hx hdom hh hp hfull hD hf hcl
      go_enter Tryz.func47, Tryz.ntmps47
      go_wp2_with fail
      refine H1.out.mono ?_
      rintro e w1 ⟨rfl, hs, hc⟩
      have k10 := (H3.out w1 hc).1
      obtain ⟨w2, hrun, hm2, hc2⟩ := H4.out w1 hc
      obtain ⟨r1, r2⟩ := H2.out w1 w2 hs hc hm2 hc2
      have R1 := Lib.hid r1; have R2 := Lib.hid r2
      clear hs hc hm2 hc2 r1 r2
      go_wp2
      go_ret2
      exact ⟨_, _, _, rfl, R1.out, fun _ => ⟨S.used, rfl, if_pos rfl⟩, R2.out⟩
end
end Go.Proofs.YtgnjbjbgfhjakaaGreat

namespace Go.Proofs.YtgnjbjbgfhjakaaGreat
open Go.RowKit
set_option linter.unusedVariables false
set_option linter.unusedSimpArgs false
attribute [local go_sem] setCell_drewN alloc_drewN

section
variable {P : Pm} {n : Nat} {w w' w'' : World} {Fm Gs : Nat → Prop} {C : Nat → List Int} {R : Nat → Nat → Wy} {S : Tt} {c c' : Nat} {s s' : Ss} {fr : Nat → Option Nat}
/-- a space whose buffer isn't fenced yet at an address -/
def UnX (P : Pm) (n : Nat) (w w' : World) (Fm Gs : Nat → Prop) (va : Nat) (s' : Ss) (c' : Nat) : Prop :=
  ∃ w1 Fm1 Gs1 C1 R1 S1 c1 s1 fr1 Fm' Gs' C' S', SpX P n w1 Fm1 Gs1 C1 R1 S1 c1 s1 fr1 ∧ (∀ j, FpX P Fm1 Gs1 j → FpX P Fm Gs j ∨ w.heap.size ≤ j) ∧ Chg (FpX P Fm Gs) w w1 ∧
    SPn 0 n P.N P.m w' P.up P.tp P.mp P.sp P.bp P.q P.g Fm' Gs' C' R1 S' c' ∧ Tie n s' S' C' fr1 ∧ (s'.nc = s1.nc ∧ s'.np = s1.np ∧ s'.sh.length = s1.sh.length ∧ countS s' = countS s1) ∧ (∀ j, FpC P Fm' Gs' j → FpC P Fm1 Gs1 j ∨ w1.heap.size ≤ j) ∧ Chg (FpC P Fm1 Gs1) w1 w' ∧ S'.L.length ≤ c' ∧ Coh R1 P.N P.m S1.L ∧ ∀ q ∈ S1.L, numN q.va 0 ≠ numN va 0 → q ∈ S'.L
theorem UnX.below {va : Nat} (h : UnX P n w w' Fm Gs va s' c') (hb : Below w'.heap.size w' w'') : UnX P n w w'' Fm Gs va s' c' := by
  obtain ⟨w1, Fm1, Gs1, C1, R1, S1, c1, s1, fr1, Fm', Gs', C', S', h1, h2, h3, h4, h5, h6, h7, h8, h9, h10, h11⟩ := h
  exact ⟨w1, Fm1, Gs1, C1, R1, S1, c1, s1, fr1, Fm', Gs', C', S', h1, h2, h3, h4.chg (Chg.of_below (F := no) hb) (fun _ _ h => h), h5, h6, h7, h8.trans (Chg.of_below hb), h9, h10, h11⟩
/-- the unit's fence -/
theorem UnX.fence {va b : Nat} {W : World} (h : UnX P n w w' Fm Gs va s' c') (hva : va < 18446744073709551616) (hb : Below w'.heap.size w' W) (hge : w'.heap.size ≤ b) (hcell : W.cell? ⟨b, 0, none⟩ = some (.int .u64 (va : Int))) :
    Calls Tryz.prog 45 #[.pointer (some ⟨P.up, 0, none⟩), .slice (some ⟨b, 0, none⟩) 1 1, .slice none 0 0] W fun r w'' => (∃ k, r = .returned (.int .i64 k)) ∧ StX P n w w'' Fm Gs s' c' := by
  have hlt : ∀ j, FpT P.bp P.q P.g P.N j → j < w'.heap.size := by
    obtain ⟨w1, Fm1, Gs1, C1, R1, S1, c1, s1, fr1, Fm', Gs', C', S', h1, h2, h3, h4, _⟩ := h
    exact fun j hj => h4.lt j (.inr (.inr (.inr (.inr (.inr hj)))))
  obtain ⟨w1, Fm1, Gs1, C1, R1, S1, c1, s1, fr1, Fm', Gs', C', S', h1, h2, h3, h4, h5, ⟨e1, e2, e3, e4⟩, h7, h8, h9, h10, h11⟩ := h.below hb
  refine (sp_fence h4 h10 va hva (.slice (some ⟨b, 0, none⟩) 1 1) (.slice none 0 0) ⟨b, 0, 1, 1, rfl, Nat.lt_succ_self _, hcell, fun hq => by have := hlt b hq; omega⟩ ⟨_, _, rfl⟩ h11).mono ?_
  rintro r w2 ⟨hr, hs, hc⟩
  refine ⟨hr, ?_⟩
  obtain ⟨k1, k2, k3⟩ := h1.core hs h5 e1 e2 e3 e4 h7 (h8.trans (hc.mono (fun j _ hj => .inr (.inr (.inr (.inr (.inr hj))))))) h9
  exact StX.trans h2 h3 ⟨_, _, _, _, _, _, k1, k2, k3⟩
theorem count_put {p : Nat} {x : Sh} (hx : x.has = (shN s p).has) : countS (putN s p x) = countS s := by
  unfold countS putN shN at *
  dsimp only
  have : ∀ (l : List Sh) (p : Nat), x.has = (l.getD p ⟨0, false, []⟩).has → ((l.set p x).filter Sh.has).length = (l.filter Sh.has).length := by
    intro l
    induction l with
    | nil => intro p _; rfl
    | cons a l ih =>
      intro p h1
      cases p with
      | zero =>
        have h1 : x.has = a.has := h1
        rw [List.set_cons_zero, List.filter_cons, List.filter_cons, h1]
        split <;> rfl
      | succ p =>
        have hi := ih p (by simpa using h1)
        rw [List.set_cons_succ, List.filter_cons, List.filter_cons]
        split
        · rw [List.length_cons, List.length_cons, hi]
        · exact hi
  exact this s.sh p hx
theorem count_right {p r : Nat} : countS (rightS s p r) = countS s := count_put rfl
theorem map_len {va : Nat} {e : Ent} : (mapT 0 n va 0 e S).1.L.length ≤ S.L.length + 1 := by
  unfold mapT
  have a1 := (room_facts (rt := 0) (n := n) va (0 : Int).toNat (2 - (0 : Int).toNat) S).1
  split
  · split
    · dsimp only
      rw [List.length_append, a1]; exact Nat.le_refl _
    · rw [a1]; omega
  · show S.L.length ≤ _; omega
theorem chg_len {va : Nat} {e : Ent} : (chgT va e S).1.L.length = S.L.length := by
  unfold chgT
  split
  · rfl
  · split
    · unfold setE; exact List.length_set
    · rfl
theorem unm_len {va : Nat} : (unmT va S).1.L.length ≤ S.L.length := by
  unfold unmT
  split
  · exact Nat.le_refl _
  · exact List.length_eraseIdx_le _ _
theorem room_count {k : Nat} : countS (roomS s k).1 = countS s := by unfold countS; rw [room_same.2.1]
/-- a page that isn't mapped is mapped -/
theorem tmap_any (h : SpX P n w Fm Gs C R S c s fr) {p r F : Nat} {e : Ent} (hp : p < s.sh.length) (hrt : (shN s p).rt = 0) (hf : fr (262144 + p) = some F) (hr : r = 1 ∨ r = 2) (he : entP (mayR r) F = some e) (hc : c < 960) (W : World) (hb : Below w.heap.size w W) :
    Calls Tryz.prog 75 #[.pointer (some ⟨P.tp, 0, none⟩), .int .u64 ((1073741824 + 4096 * p : Nat) : Int), .int .i64 0, pv e] W fun x w9 => x = .returned (.int .i64 (roomS s (p / 512)).2) ∧
      ((roomS s (p / 512)).2 = 0 → UnX P n w w9 Fm Gs (1073741824 + 4096 * p) (rightS (roomS s (p / 512)).1 p r) (c + 5)) ∧ ((roomS s (p / 512)).2 ≠ 0 → StX P n w w9 Fm Gs (roomS s (p / 512)).1 (c + 5)) := by
  have hW := h.below hb
  have hR := hW.rt
  have hL := h.tie.wf.shL
  have hlt := h.frlt _ _ hf
  have hmost := hR.most
  obtain ⟨m1, m2, m3⟩ := ent_may he (by omega)
  obtain ⟨t1, t2⟩ := tie_map hW.tie hR hW.sp.lv0 hp hrt hf hr he
  have hlen := map_len (n := n) (S := S) (va := 1073741824 + 4096 * p) (e := e)
  have hSl := h.len
  refine (sp_map hW.sp (1073741824 + 4096 * p) e (by omega) (by rw [m2]; omega) (by rw [m3]; exact hW.tie.lt _ _ hf) (by omega)).mono ?_
  rintro x w9 ⟨rfl, Fm', Gs', C', hs, hN, hk⟩
  rw [t1]
  obtain ⟨f1, f2, f3, _⟩ := map_facts (rt := 0) (n := n) (S := S) (1073741824 + 4096 * p) 0 e
  have hrs := room_same (s := s) (k := p / 512)
  have ht := t2.keep ⟨_, hs.tabs⟩ hk
  have hnw : ∀ j, FpC P Fm' Gs' j → FpC P Fm Gs j ∨ W.heap.size ≤ j := fun j hj => by
    rcases hj with e | e | e | e | e | e
    · exact .inl (.inl e)
    · exact .inl (.inr (.inl e))
    · exact .inl (.inr (.inr (.inl e)))
    · rcases hN.1 j (.inr (.inr (.inl e))) with (e | e | e | e) | e
      · exact .inl (.inr (.inl e))
      · exact .inl (.inr (.inr (.inl e)))
      · exact .inl (.inr (.inr (.inr (.inl e))))
      · exact .inl (.inr (.inr (.inr (.inr (.inl e)))))
      · exact .inr e
    · rcases hN.1 j (.inr (.inr (.inr e))) with (e | e | e | e) | e
      · exact .inl (.inr (.inl e))
      · exact .inl (.inr (.inr (.inl e)))
      · exact .inl (.inr (.inr (.inr (.inl e))))
      · exact .inl (.inr (.inr (.inr (.inr (.inl e)))))
      · exact .inr e
    · exact .inl (.inr (.inr (.inr (.inr (.inr e)))))
  have hcc : Chg (FpC P Fm Gs) W w9 := hN.2.mono (fun j _ hj => by
    rcases hj with e | e | e | e
    · exact .inr (.inl e)
    · exact .inr (.inr (.inl e))
    · exact .inr (.inr (.inr (.inl e)))
    · exact .inr (.inr (.inr (.inr (.inl e)))))
  have hbw : Chg (FpX P Fm Gs) w W := Chg.of_below hb
  refine ⟨rfl, fun h0 => ?_, fun h0 => ?_⟩
  · rw [if_pos h0] at ht
    refine ⟨W, Fm, Gs, C, R, S, c, s, fr, Fm', Gs', C', _, hW, fun j hj => .inl hj, hbw, hs.toSPn, ht, ⟨hrs.2.2.1, hrs.2.2.2.1, (put_len _ _ _).trans (by rw [hrs.2.1]), count_right.trans room_count⟩, hnw, hcc, by omega, hW.sp.coh, fun q hq _ => f1 q hq⟩
  · rw [if_neg h0] at ht
    obtain ⟨k1, k2, k3⟩ := hW.core hs ht hrs.2.2.1 hrs.2.2.2.1 (by rw [hrs.2.1]) room_count hnw hcc (by omega)
    exact StX.trans (fun j hj => .inl hj) hbw ⟨_, _, _, _, _, _, k1, k2, k3⟩
theorem nx_fp {W w9 : World} {Fm' Gs' : Nat → Prop} (hN : Nx W w9 P.tp P.mp Fm Gs Fm' Gs') : (∀ j, FpC P Fm' Gs' j → FpC P Fm Gs j ∨ W.heap.size ≤ j) ∧ Chg (FpC P Fm Gs) W w9 := by
  refine ⟨fun j hj => ?_, hN.2.mono (fun j _ hj => ?_)⟩
  · rcases hj with e | e | e | e | e | e
    · exact .inl (.inl e)
    · exact .inl (.inr (.inl e))
    · exact .inl (.inr (.inr (.inl e)))
    · rcases hN.1 j (.inr (.inr (.inl e))) with (e | e | e | e) | e
      · exact .inl (.inr (.inl e))
      · exact .inl (.inr (.inr (.inl e)))
      · exact .inl (.inr (.inr (.inr (.inl e))))
      · exact .inl (.inr (.inr (.inr (.inr (.inl e)))))
      · exact .inr e
    · rcases hN.1 j (.inr (.inr (.inr e))) with (e | e | e | e) | e
      · exact .inl (.inr (.inl e))
      · exact .inl (.inr (.inr (.inl e)))
      · exact .inl (.inr (.inr (.inr (.inl e))))
      · exact .inl (.inr (.inr (.inr (.inr (.inl e)))))
      · exact .inr e
    · exact .inl (.inr (.inr (.inr (.inr (.inr e)))))
  · rcases hj with e | e | e | e
    · exact .inr (.inl e)
    · exact .inr (.inr (.inl e))
    · exact .inr (.inr (.inr (.inl e)))
    · exact .inr (.inr (.inr (.inr (.inl e))))
/-- a page that is mapped is changed -/
theorem tchg_any (h : SpX P n w Fm Gs C R S c s fr) {p r F : Nat} {e : Ent} (hp : p < s.sh.length) (hrt : (shN s p).rt ≠ 0) (hf : fr (262144 + p) = some F) (hr : r = 1 ∨ r = 2) (he : entP (mayR r) F = some e) (hc : c < 960) (W : World) (hb : Below w.heap.size w W) :
    Calls Tryz.prog 76 #[.pointer (some ⟨P.tp, 0, none⟩), .int .u64 ((1073741824 + 4096 * p : Nat) : Int), pv e] W fun x w9 => x = .returned (.int .i64 0) ∧ UnX P n w w9 Fm Gs (1073741824 + 4096 * p) (rightS s p r) (c + 5) := by
  have hW := h.below hb
  have hR := hW.rt
  have hL := h.tie.wf.shL
  have hlt := h.frlt _ _ hf
  have hmost := hR.most
  obtain ⟨m1, m2, m3⟩ := ent_may he (by omega)
  obtain ⟨t1, t2, t3⟩ := tie_change hW.tie (Nat.le_trans (Nat.le_refl _) hmost) hW.sp.lv0 hp hrt hf hr he
  have hSl := h.len
  have hlen := chg_len (S := S) (va := 1073741824 + 4096 * p) (e := e)
  refine (sp_change hW.sp.toSPn (1073741824 + 4096 * p) e (by omega) (by rw [m2]; omega) (by rw [m3]; exact hW.tie.lt _ _ hf) (by omega)).mono ?_
  rintro x w9 ⟨rfl, Fm', Gs', C', hs, hN, hk⟩
  rw [t1]
  obtain ⟨n1, n2⟩ := nx_fp hN
  exact ⟨rfl, W, Fm, Gs, C, R, S, c, s, fr, Fm', Gs', C', _, hW, fun j hj => .inl hj, Chg.of_below hb, hs, t2.keep ⟨_, hs.tabs⟩ hk, ⟨rfl, rfl, put_len _ _ _, count_right⟩, n1, n2, by omega, hW.sp.coh, t3⟩
/-- .. is taken away -/
theorem tunm_any (h : SpX P n w Fm Gs C R S c s fr) {p : Nat} (hp : p < s.sh.length) (hrt : (shN s p).rt ≠ 0) (hc : c < 960) :
    ∃ E : Ent, Calls Tryz.prog 72 #[.pointer (some ⟨P.tp, 0, none⟩), .int .u64 ((1073741824 + 4096 * p : Nat) : Int)] w fun x w9 => x = .returned (.tuple #[pv E, .int .i64 0]) ∧ UnX P n w w9 Fm Gs (1073741824 + 4096 * p) (rightS s p 0) (c + 5) := by
  have hR := h.rt
  have hL := h.tie.wf.shL
  obtain ⟨t1, t2, t3⟩ := tie_unmap h.tie hR.uniqL h.sp.lv0 hp hrt
  have hSl := h.len
  have hlen := unm_len (S := S) (va := 1073741824 + 4096 * p)
  refine ⟨(unmT (1073741824 + 4096 * p) S).2.1, (sp_unmap h.sp.toSPn (1073741824 + 4096 * p) (by omega) (by omega)).mono ?_⟩
  rintro x w9 ⟨rfl, Fm', Gs', C', hs, hN, hk⟩
  rw [t1]
  obtain ⟨n1, n2⟩ := nx_fp hN
  exact ⟨rfl, w, Fm, Gs, C, R, S, c, s, fr, Fm', Gs', C', _, h, fun j hj => .inl hj, Chg.refl _ _, hs, t2.keep ⟨_, hs.tabs⟩ hk, ⟨rfl, rfl, put_len _ _ _, count_right⟩, n1, n2, by omega, h.sp.coh, t3⟩
theorem UnX.ahead {va : Nat} {w1 : World} (hc : Chg (FpX P Fm Gs) w w1) (h : UnX P n w1 w' Fm Gs va s' c') : UnX P n w w' Fm Gs va s' c' := by
  obtain ⟨w2, Fm1, Gs1, C1, R1, S1, c1, s1, fr1, Fm', Gs', C', S', h1, h2, h3, h4⟩ := h
  exact ⟨w2, Fm1, Gs1, C1, R1, S1, c1, s1, fr1, Fm', Gs', C', S', h1, fun j hj => (h2 j hj).imp id (fun h => Nat.le_trans hc.size h), hc.trans h3, h4⟩
theorem UnX.kept {va : Nat} (h : UnX P n w w' Fm Gs va s' c') : w'.cell? ⟨P.xp, 5, none⟩ = some (.pointer (some ⟨P.tp, 0, none⟩)) ∧ Chg (FpX P Fm Gs) w w' := by
  obtain ⟨w1, Fm1, Gs1, C1, R1, S1, c1, s1, fr1, Fm', Gs', C', S', h1, h2, h3, h4, h5, h6, h7, h8, _⟩ := h
  exact ⟨(h1.blk.chg h8 h1.ax).cell 5, h3.thenExt h8 (fun j hj => h2 j (.inl hj))⟩
theorem StX.kept (h : StX P n w w' Fm Gs s' c') : w'.cell? ⟨P.xp, 5, none⟩ = some (.pointer (some ⟨P.tp, 0, none⟩)) ∧ Chg (FpX P Fm Gs) w w' := by
  obtain ⟨Fm', Gs', C', R', S', fr', h1, h2, h3⟩ := h
  exact ⟨h1.blk.cell 5, h3⟩
theorem load_ptrT {b o : Nat} {x : Option Addr} (h : w.cell? ⟨b, o, none⟩ = some (.pointer x)) : (Instr.loadAt 91 (.pointer (some ⟨b, o, none⟩))).run Tryz.prog w = .ok (.pointer x) w := by
  go_simp
theorem yield_ptrT {b o : Nat} {x : Option Addr} (a : Act) (op : Oper) (y : Operand) (ho : op.op = .load 91 y) (hx : a.eval y = .pointer (some ⟨b, o, none⟩)) (h : w.cell? ⟨b, o, none⟩ = some (.pointer x)) :
    (execOp a.eval op).run Tryz.prog w = .ok (.value (.pointer x)) w := by
  have e := load_ptrT h
  obtain ⟨op, _, _, _, _, _⟩ := op
  dsimp only at ho
  subst ho
  unfold execOp
  simp only [hx]
  simp [e]
theorem turn_0 (hw : Wf s) {p : Nat} (hp : p < s.sh.length) (hrt : (shN s p).rt ≠ 0) {r : Nat} : turnS s p r = (rightS s p r, 0) := by
  obtain ⟨h1, h2⟩ := room_rt hw hp hrt
  unfold turnS
  rw [h1]
  dsimp only
  rw [h2]
  rfl
set_option maxHeartbeats 4000000 in
theorem sturn_0 (h : SpX P n w Fm Gs C R S c s fr) {p : Nat} (hp : p < s.sh.length) (hrt : (shN s p).rt ≠ 0) (hc : c < 960) :
    Calls Tryz.prog 44 #[.pointer (some ⟨P.xp, 0, none⟩), .int .i64 (p : Int), .int .i64 ((shN s p).rt : Int), .int .i64 0] w fun x w' => x = .returned (.int .i64 0) ∧ UnX P n w w' Fm Gs (1073741824 + 4096 * p) (rightS s p 0) (c + 5) := by
  have hL := h.tie.wf.shL
  obtain ⟨E, h1⟩ := tunm_any h hp hrt hc
  have h2 := fun w => saddr_any p w (by omega)
  have c5 : w.cell? ⟨P.xp, 5, none⟩ = some (.pointer (some ⟨P.tp, 0, none⟩)) := h.blk.cell 5
  generalize 1073741824 + 4096 * p = va at *
  generalize ((shN s p).rt : Int) = old at *
  generalize rightS s p 0 = s2 at *
  obtain ⟨v, r, x1, x, u, g, a, d, rsw, ppn⟩ := E
  unfold pv at *
  dsimp only at *
  have H1 := Lib.hid h1; have H2 := Lib.hid h2
  clear h1 h2 h hp hrt hc hL
  go_enter Tryz.func44, Tryz.ntmps44
  go_wp2_with fail
  refine (H2.out _).mono ?_
  rintro e wx ⟨rfl, rfl⟩
  go_wp2_with fail
  refine H1.out.mono ?_
  rintro e w1 ⟨rfl, hu⟩
  have HU := Lib.hid hu
  clear hu H1 H2 c5
  have hbz := Below.refl w1.heap.size w1
  have HBZ := Lib.hid hbz; clear hbz
  go_upto_region 4 with (fail)
  have nb0 := Blk.new w1 [.bool v, .bool r, .bool x1, .bool x, .bool u, .bool g, .bool a, .bool d, .int .i64 rsw, .int .u64 (ppn : Int)] 39
  have nls : Below w1.heap.size w1 w1 := (Below.refl w1.heap.size w1)
  have nl0 := nls.alloc nls.size (.cells #[.bool v, .bool r, .bool x1, .bool x, .bool u, .bool g, .bool a, .bool d, .int .i64 rsw, .int .u64 (ppn : Int)] 39)
  have nl : Below w1.heap.size w1 (w1.alloc (.cells #[.bool v, .bool r, .bool x1, .bool x, .bool u, .bool g, .bool a, .bool d, .int .i64 rsw, .int .u64 (ppn : Int)] 39)) := nl0; clear nls nl0
  obtain ⟨B6, hB0⟩ : ∃ B, B = w1.heap.size := ⟨_, rfl⟩
  obtain ⟨W6, hW⟩ : ∃ W, W = (w1.alloc (.cells #[.bool v, .bool r, .bool x1, .bool x, .bool u, .bool g, .bool a, .bool d, .int .i64 rsw, .int .u64 (ppn : Int)] 39)) := ⟨_, rfl⟩
  rw [← hW] at nl nb0
  rw [← hB0] at nb0
  rw [← hW]
  try rw [← hB0]
  have K6_0 := Lib.hid nb0
  have G6 : Hid (w1.heap.size ≤ B6) := Lib.hid (by have := (Nat.le_refl w1.heap.size); omega)
  have L6 := Lib.hid nl
  clear nl hW nb0 hB0
  go_wp2
  go_ret
  exact ⟨rfl, HU.out.below L6.out⟩
set_option maxHeartbeats 4000000 in
theorem sturn_map (h : SpX P n w Fm Gs C R S c s fr) {p r : Nat} (hp : p < s.sh.length) (hrt : (shN s p).rt = 0) (hr : r = 1 ∨ r = 2) (hc : c < 960) :
    Calls Tryz.prog 44 #[.pointer (some ⟨P.xp, 0, none⟩), .int .i64 (p : Int), .int .i64 ((shN s p).rt : Int), .int .i64 (r : Int)] w fun x w' => x = .returned (.int .i64 (turnS s p r).2) ∧ ((turnS s p r).2 = 0 → UnX P n w w' Fm Gs (1073741824 + 4096 * p) (turnS s p r).1 (c + 5)) ∧ ((turnS s p r).2 ≠ 0 → StX P n w w' Fm Gs (turnS s p r).1 (c + 5)) := by
  have hL := h.tie.wf.shL
  have hfs := frame_same (s := s) (p := p)
  have hfy := frame_yes (s := s) (p := p) hp
  have h1 := sframe_any h p hp
  have h2 := fun w => saddr_any p w (by omega)
  have h3 := fun w => sflag_any (r : Int) w (by omega)
  rw [Int.toNat_natCast] at h3
  have hm : mayR r = 2 ∨ mayR r = 3 ∨ mayR r = 6 := by rcases hr with rfl | rfl <;> simp [mayR]
  have h4 := fun f w => sentry_any (mayR r) f hm (w := w)
  have c5 := fun (w1 : World) (S1 : Tt) (s1 : Ss) (fr1 : Nat → Option Nat) (h1 : SpX P n w1 Fm Gs C R S1 c s1 fr1) => (h1.blk.cell 5 : w1.cell? ⟨P.xp, 5, none⟩ = some (.pointer (some ⟨P.tp, 0, none⟩)))
  have h5 := fun (w1 W : World) (S1 : Tt) (fr1 : Nat → Option Nat) (F : Nat) (k1 : SpX P n w1 Fm Gs C R S1 c (frameS s p).1 fr1) (e1 : (frameS s p).2 = 0) (kf : fr1 (262144 + p) = some F) (hb : Below w1.heap.size w1 W) =>
    tmap_any (k1.below hb) (p := p) (r := r) (F := F) (e := { entM (mayR r) with ppn := F }) (by rw [hfs.2.1]; exact hp) (by rw [(hfy e1).2]; exact hrt) kf hr (entM_p F hm) hc W (Below.refl _ _)
  have hlt := fun (w1 : World) (S1 : Tt) (fr1 : Nat → Option Nat) (F : Nat) (k1 : SpX P n w1 Fm Gs C R S1 c (frameS s p).1 fr1) (kf : fr1 (262144 + p) = some F) => (show F < 18446744073709551616 from by have := k1.frlt _ _ kf; have := k1.rt.most; omega)
  have hold : ((((shN s p).rt : Nat) : Int) == 0) = true := by rw [hrt]; rfl
  have hr0 : ((r : Int) == 0) = false := by rcases hr with rfl | rfl <;> rfl
  have htu : turnS s p r = if (frameS s p).2 = 0 then if (roomS (frameS s p).1 (p / 512)).2 = 0 then (rightS (roomS (frameS s p).1 (p / 512)).1 p r, 0) else roomS (frameS s p).1 (p / 512) else frameS s p := rfl
  generalize roomS (frameS s p).1 (p / 512) = RS at *
  generalize turnS s p r = TT at *
  obtain ⟨t1, t2⟩ := TT
  obtain ⟨s3, e3⟩ := RS
  generalize frameS s p = FS at *
  obtain ⟨s1, e1⟩ := FS
  dsimp only at *
  generalize 1073741824 + 4096 * p = va at *
  generalize ((shN s p).rt : Int) = old at *
  generalize strM (mayR r) = Z at *
  generalize entM (mayR r) = E at *
  obtain ⟨v, rr, x1, x, u, g, a, d, rsw, ppn⟩ := E
  unfold pv at *
  dsimp only at *
  have H1 := Lib.hid h1; have H2 := Lib.hid h2; have H3 := Lib.hid h3; have H4 := Lib.hid h4; have H5 := Lib.hid h5; have C5 := Lib.hid c5; have HLT := Lib.hid hlt; have HTU := Lib.hid htu
  clear h1 h2 h3 h4 h5 c5 hlt h hp hrt hr hL hfs hfy hm hc htu
  go_enter Tryz.func44, Tryz.ntmps44
  go_wp2_with fail
  refine (H2.out _).mono ?_
  rintro e wx ⟨rfl, rfl⟩
  go_wp2_with fail
  refine H1.out.mono ?_
  rintro e w1 ⟨f, S1, fr1, rfl, k1, kf, hc1⟩
  have K1 := Lib.hid k1; have KF := Lib.hid kf; have HC1 := Lib.hid hc1
  clear k1 kf hc1 H1
  by_cases he1 : e1 = 0
  rotate_left
  · have hb1 : (e1 != 0) = true := by simp [he1]
    have HE1 := Lib.hid he1; clear he1
    go_wp2
    go_ret
    have ht := HTU.out
    rw [if_neg HE1.out] at ht
    injection ht with ht1 ht2
    subst ht1 ht2
    exact ⟨rfl, fun h => absurd h HE1.out, fun _ => ⟨_, _, _, _, _, _, K1.out.mono (by omega), fun j hj => .inl hj, HC1.out⟩⟩
  subst he1
  obtain ⟨F, rfl, kF⟩ := KF.out (by first | rfl | trivial)
  have KFF := Lib.hid kF
  have FLT := Lib.hid (HLT.out _ _ _ _ K1.out kF)
  clear kF HLT
  go_wp2_with fail
  refine (H3.out _).mono ?_
  rintro e wx ⟨rfl, rfl⟩
  go_wp2_with fail
  refine (H4.out _ _ FLT.out).mono ?_
  rintro e w6 ⟨rfl, hb⟩
  have L6 := Lib.hid ((Below.refl w1.heap.size w1).trans (hb.mono (Nat.le_refl w1.heap.size)))
  clear hb
  go_upto_region 9 with (fail)
  have nb0 := Blk.new w6 [.bool v, .bool rr, .bool x1, .bool x, .bool u, .bool g, .bool a, .bool d, .int .i64 rsw, .int .u64 (F : Int)] 39
  have nls : Below w1.heap.size w1 w6 := L6.out
  have nl0 := nls.alloc nls.size (.cells #[.bool v, .bool rr, .bool x1, .bool x, .bool u, .bool g, .bool a, .bool d, .int .i64 rsw, .int .u64 (F : Int)] 39)
  have nl : Below w1.heap.size w1 (w6.alloc (.cells #[.bool v, .bool rr, .bool x1, .bool x, .bool u, .bool g, .bool a, .bool d, .int .i64 rsw, .int .u64 (F : Int)] 39)) := nl0; clear nls nl0
  obtain ⟨B7, hB0⟩ : ∃ B, B = w6.heap.size := ⟨_, rfl⟩
  obtain ⟨W7, hW⟩ : ∃ W, W = (w6.alloc (.cells #[.bool v, .bool rr, .bool x1, .bool x, .bool u, .bool g, .bool a, .bool d, .int .i64 rsw, .int .u64 (F : Int)] 39)) := ⟨_, rfl⟩
  rw [← hW] at nl nb0
  rw [← hB0] at nb0
  rw [← hW]
  try rw [← hB0]
  have K7_0 := Lib.hid nb0
  have G7 : Hid (w1.heap.size ≤ B7) := Lib.hid (by have := L6.out.size; omega)
  have L7 := Lib.hid nl
  clear nl hW nb0 hB0
  go_upto_region 10 with (fail)
  obtain ⟨KX, hKX⟩ : ∃ k : True, k = k := ⟨trivial, rfl⟩
  clear hKX KX
  have kxb := (K1.out.below L7.out).blk
  have KXB := Lib.hid kxb; clear kxb
  refine wp_region_held_drew (S := fun w' => Blk w' B7 [.bool v, .bool rr, .bool x1, .bool x, .bool u, .bool g, .bool a, .bool d, .int .i64 rsw, .int .u64 (F : Int)] 39 ∧ w'.cell? ⟨P.xp, 5, none⟩ = some (.pointer (some ⟨P.tp, 0, none⟩))) (by kernel_rfl) ⟨K7_0.out, KXB.out.cell 5⟩ (fun hHeld => ?_)
  simp only [List.size_toArray, List.length_cons, List.length_nil, Nat.reduceAdd]
  rw [show Array.replicate 8 false = [false, false, false, false, false, false, false, false].toArray from rfl]
  refine wpAnyH_take (i := 0) (v := ?_) rfl (by kernel_rfl) (by kernel_rfl) (by kernel_rfl) (fun _ _ _ h => h) (Or.inl ⟨by rfl, ?yldq⟩) (by assumption) ?_
  case yldq => (intro w hSw; (try dsimp only at hSw); go_simp; try with_reducible rfl)
  try simp only [Act.put, List.setIfInBounds_toArray, List.set_cons_zero, List.set_cons_succ, List.getElem_toArray, List.getElem_cons_succ, List.getElem_cons_zero]
  refine wpAnyH_take (i := 1) (v := ?_) rfl (by kernel_rfl) (by kernel_rfl) (by kernel_rfl) (fun _ _ _ h => h) (Or.inl ⟨by rfl, ?yldq⟩) (by assumption) ?_
  case yldq => (intro w hSw; (try dsimp only at hSw); go_simp; try with_reducible rfl)
  try simp only [Act.put, List.setIfInBounds_toArray, List.set_cons_zero, List.set_cons_succ, List.getElem_toArray, List.getElem_cons_succ, List.getElem_cons_zero]
  refine wpAnyH_take (i := 2) (v := ?_) rfl (by kernel_rfl) (by kernel_rfl) (by kernel_rfl) (fun _ _ _ h => h) (Or.inl ⟨by rfl, ?yldq⟩) (by assumption) ?_
  case yldq => (intro w hSw; (try dsimp only at hSw); go_simp; try with_reducible rfl)
  try simp only [Act.put, List.setIfInBounds_toArray, List.set_cons_zero, List.set_cons_succ, List.getElem_toArray, List.getElem_cons_succ, List.getElem_cons_zero]
  refine wpAnyH_take (i := 3) (v := _) rfl (by kernel_rfl) (by kernel_rfl) (by kernel_rfl) (fun _ _ _ h => h) (Or.inl ⟨by rfl, fun w hSw => yield_ptrT _ _ _ rfl rfl hSw.2⟩) (by assumption) ?_
  try simp only [Act.put, List.setIfInBounds_toArray, List.set_cons_zero, List.set_cons_succ, List.getElem_toArray, List.getElem_cons_succ, List.getElem_cons_zero]
  refine wpAnyH_take (i := 4) (v := ?_) rfl (by kernel_rfl) (by kernel_rfl) (by kernel_rfl) (fun _ _ _ h => h) (Or.inl ⟨by rfl, ?yldq⟩) (by assumption) ?_
  case yldq => (intro w hSw; (try dsimp only at hSw); go_simp; try with_reducible rfl)
  try simp only [Act.put, List.setIfInBounds_toArray, List.set_cons_zero, List.set_cons_succ, List.getElem_toArray, List.getElem_cons_succ, List.getElem_cons_zero]
  refine wpAnyH_take (i := 5) (v := _) rfl (by kernel_rfl) (by kernel_rfl) (by kernel_rfl) (fun _ _ _ h => h) (Or.inl ⟨by rfl, fun w hSw => yield_entS _ _ _ rfl rfl hSw.1⟩) (by assumption) ?_
  try simp only [Act.put, List.setIfInBounds_toArray, List.set_cons_zero, List.set_cons_succ, List.getElem_toArray, List.getElem_cons_succ, List.getElem_cons_zero]
  refine wpAnyH_ready (rs := [6]) (by kernel_rfl) (by simp) ?_
  refine AllReadyH.cons rfl (fun K hK => ?_) AllReadyH.nil
  go_simp
  refine (H5.out _ _ _ _ _ K1.out (by first | rfl | trivial) KFF.out (L7.out.drew)).mono ?_
  rintro e w9 ⟨rfl, hu, hs⟩
  have hkp : w9.cell? ⟨P.xp, 5, none⟩ = some (.pointer (some ⟨P.tp, 0, none⟩)) ∧ Chg (FpX P Fm Gs) (W7.drew) w9 := by
    by_cases he : e3 = 0
    · exact (hu he).kept
    · exact (hs he).kept
  have hbw : Below w1.heap.size w1 (W7.drew) := L7.out.drew
  have hu := fun e => (hu e).ahead (Chg.of_below hbw)
  have hs := fun e => StX.ahead hbw (hs e)
  have hl9 : Blk w9 B7 [.bool v, .bool rr, .bool x1, .bool x, .bool u, .bool g, .bool a, .bool d, .int .i64 rsw, .int .u64 (F : Int)] 39 := (Blk.drewN K7_0.out 1).chg hkp.2 (fun h => by have := K1.out.lt _ h; have := G7.out; omega)
  have HL9 := Lib.hid hl9; have HK9 := Lib.hid hkp.1
  clear hkp hbw hl9
  have HU := Lib.hid (fun e => (hu e).ahead HC1.out); have HS := Lib.hid (fun e => StX.trans (fun j hj => .inl hj) HC1.out (hs e))
  have ht := HTU.out
  first | rw [if_pos rfl] at ht | rw [if_pos trivial] at ht
  have HT := Lib.hid ht
  clear hu hs ht
  refine hK.out _ _ ⟨HL9.out, HK9.out⟩ (fun hS6 => ?_)
  clear hK K
  refine wpAnyH_take (i := 7) (v := ?_) rfl (by kernel_rfl) (by kernel_rfl) (by kernel_rfl) (fun _ _ _ h => h) (Or.inl ⟨by rfl, ?yldq⟩) (by assumption) ?_
  case yldq => (intro w hSw; (try dsimp only at hSw); go_simp; try with_reducible rfl)
  try simp only [Act.put, List.setIfInBounds_toArray, List.set_cons_zero, List.set_cons_succ, List.getElem_toArray, List.getElem_cons_succ, List.getElem_cons_zero]
  refine wpAnyH_done (by kernel_rfl) ?_ _
  go_wp2
  go_ret
  by_cases he3 : e3 = 0
  · subst he3
    have ht := HT.out
    first | rw [if_pos rfl] at ht | rw [if_pos trivial] at ht
    injection ht with ht1 ht2
    subst ht1 ht2
    exact ⟨rfl, fun _ => HU.out rfl, fun h => absurd rfl h⟩
  · have ht := HT.out
    rw [if_neg he3] at ht
    injection ht with ht1 ht2
    subst ht1 ht2
    exact ⟨rfl, fun h => absurd h he3, fun h => HS.out h⟩
set_option maxHeartbeats 4000000 in
theorem sturn_chg (h : SpX P n w Fm Gs C R S c s fr) {p r : Nat} (hp : p < s.sh.length) (hrt : (shN s p).rt ≠ 0) (hr : r = 1 ∨ r = 2) (hc : c < 960) :
    Calls Tryz.prog 44 #[.pointer (some ⟨P.xp, 0, none⟩), .int .i64 (p : Int), .int .i64 ((shN s p).rt : Int), .int .i64 (r : Int)] w fun x w' => x = .returned (.int .i64 0) ∧ UnX P n w w' Fm Gs (1073741824 + 4096 * p) (rightS s p r) (c + 5) := by
  have hL := h.tie.wf.shL
  have hfs := frame_same (s := s) (p := p)
  have hfy := frame_yes (s := s) (p := p) hp
  have h1 := sframe_any h p hp
  have h2 := fun w => saddr_any p w (by omega)
  have h3 := fun w => sflag_any (r : Int) w (by omega)
  rw [Int.toNat_natCast] at h3
  have hm : mayR r = 2 ∨ mayR r = 3 ∨ mayR r = 6 := by rcases hr with rfl | rfl <;> simp [mayR]
  have h4 := fun f w => sentry_any (mayR r) f hm (w := w)
  have c5 := fun (w1 : World) (S1 : Tt) (s1 : Ss) (fr1 : Nat → Option Nat) (h1 : SpX P n w1 Fm Gs C R S1 c s1 fr1) => (h1.blk.cell 5 : w1.cell? ⟨P.xp, 5, none⟩ = some (.pointer (some ⟨P.tp, 0, none⟩)))
  have hf0 : frameS s p = (s, 0) := (room_rt h.tie.wf hp hrt).1
  have h5 := fun (w1 W : World) (S1 : Tt) (fr1 : Nat → Option Nat) (F : Nat) (k1 : SpX P n w1 Fm Gs C R S1 c (frameS s p).1 fr1) (e1 : (frameS s p).2 = 0) (kf : fr1 (262144 + p) = some F) (hb : Below w1.heap.size w1 W) =>
    tchg_any (k1.below hb) (p := p) (r := r) (F := F) (e := { entM (mayR r) with ppn := F }) (by rw [hfs.2.1]; exact hp) (by rw [(hfy e1).2]; exact hrt) kf hr (entM_p F hm) hc W (Below.refl _ _)
  have ht0 := turn_0 h.tie.wf hp hrt (r := r)
  have hlt := fun (w1 : World) (S1 : Tt) (fr1 : Nat → Option Nat) (F : Nat) (k1 : SpX P n w1 Fm Gs C R S1 c (frameS s p).1 fr1) (kf : fr1 (262144 + p) = some F) => (show F < 18446744073709551616 from by have := k1.frlt _ _ kf; have := k1.rt.most; omega)
  have hold : ((((shN s p).rt : Nat) : Int) == 0) = false := by simp; omega
  have hr0 : ((r : Int) == 0) = false := by rcases hr with rfl | rfl <;> rfl
  rw [hf0] at h1 h5 hlt
  obtain ⟨FS, hFS⟩ : ∃ x : Ss × Int, x = (s, 0) := ⟨_, rfl⟩
  clear hf0 hFS
  dsimp only at *
  generalize 1073741824 + 4096 * p = va at *
  generalize ((shN s p).rt : Int) = old at *
  generalize strM (mayR r) = Z at *
  generalize entM (mayR r) = E at *
  obtain ⟨v, rr, x1, x, u, g, a, d, rsw, ppn⟩ := E
  unfold pv at *
  dsimp only at *
  have H1 := Lib.hid h1; have H2 := Lib.hid h2; have H3 := Lib.hid h3; have H4 := Lib.hid h4; have H5 := Lib.hid h5; have C5 := Lib.hid c5; have HLT := Lib.hid hlt
  clear h1 h2 h3 h4 h5 c5 hlt h hp hrt hr hL hfs hfy hm hc ht0
  go_enter Tryz.func44, Tryz.ntmps44
  go_wp2_with fail
  refine (H2.out _).mono ?_
  rintro e wx ⟨rfl, rfl⟩
  go_wp2_with fail
  refine H1.out.mono ?_
  rintro e w1 ⟨f, S1, fr1, rfl, k1, kf, hc1⟩
  have K1 := Lib.hid k1; have KF := Lib.hid kf; have HC1 := Lib.hid hc1
  clear k1 kf hc1 H1
  obtain ⟨F, rfl, kF⟩ := KF.out (by first | rfl | trivial)
  have KFF := Lib.hid kF
  have FLT := Lib.hid (HLT.out _ _ _ _ K1.out kF)
  clear kF HLT
  go_wp2_with fail
  refine (H3.out _).mono ?_
  rintro e wx ⟨rfl, rfl⟩
  go_wp2_with fail
  refine (H4.out _ _ FLT.out).mono ?_
  rintro e w6 ⟨rfl, hb⟩
  have L6 := Lib.hid ((Below.refl w1.heap.size w1).trans (hb.mono (Nat.le_refl w1.heap.size)))
  clear hb
  go_upto_region 9 with (fail)
  have nb0 := Blk.new w6 [.bool v, .bool rr, .bool x1, .bool x, .bool u, .bool g, .bool a, .bool d, .int .i64 rsw, .int .u64 (F : Int)] 39
  have nls : Below w1.heap.size w1 w6 := L6.out
  have nl0 := nls.alloc nls.size (.cells #[.bool v, .bool rr, .bool x1, .bool x, .bool u, .bool g, .bool a, .bool d, .int .i64 rsw, .int .u64 (F : Int)] 39)
  have nl : Below w1.heap.size w1 (w6.alloc (.cells #[.bool v, .bool rr, .bool x1, .bool x, .bool u, .bool g, .bool a, .bool d, .int .i64 rsw, .int .u64 (F : Int)] 39)) := nl0; clear nls nl0
  obtain ⟨B7, hB0⟩ : ∃ B, B = w6.heap.size := ⟨_, rfl⟩
  obtain ⟨W7, hW⟩ : ∃ W, W = (w6.alloc (.cells #[.bool v, .bool rr, .bool x1, .bool x, .bool u, .bool g, .bool a, .bool d, .int .i64 rsw, .int .u64 (F : Int)] 39)) := ⟨_, rfl⟩
  rw [← hW] at nl nb0
  rw [← hB0] at nb0
  rw [← hW]
  try rw [← hB0]
  have K7_0 := Lib.hid nb0
  have G7 : Hid (w1.heap.size ≤ B7) := Lib.hid (by have := L6.out.size; omega)
  have L7 := Lib.hid nl
  clear nl hW nb0 hB0
  go_upto_region 11 with (fail)
  obtain ⟨KX, hKX⟩ : ∃ k : True, k = k := ⟨trivial, rfl⟩
  clear hKX KX
  have kxb := (K1.out.below L7.out).blk
  have KXB := Lib.hid kxb; clear kxb
  refine wp_region_held_drew (S := fun w' => Blk w' B7 [.bool v, .bool rr, .bool x1, .bool x, .bool u, .bool g, .bool a, .bool d, .int .i64 rsw, .int .u64 (F : Int)] 39 ∧ w'.cell? ⟨P.xp, 5, none⟩ = some (.pointer (some ⟨P.tp, 0, none⟩))) (by kernel_rfl) ⟨K7_0.out, KXB.out.cell 5⟩ (fun hHeld => ?_)
  simp only [List.size_toArray, List.length_cons, List.length_nil, Nat.reduceAdd]
  rw [show Array.replicate 8 false = [false, false, false, false, false, false, false, false].toArray from rfl]
  refine wpAnyH_take (i := 0) (v := ?_) rfl (by kernel_rfl) (by kernel_rfl) (by kernel_rfl) (fun _ _ _ h => h) (Or.inl ⟨by rfl, ?yldq⟩) (by assumption) ?_
  case yldq => (intro w hSw; (try dsimp only at hSw); go_simp; try with_reducible rfl)
  try simp only [Act.put, List.setIfInBounds_toArray, List.set_cons_zero, List.set_cons_succ, List.getElem_toArray, List.getElem_cons_succ, List.getElem_cons_zero]
  refine wpAnyH_take (i := 1) (v := ?_) rfl (by kernel_rfl) (by kernel_rfl) (by kernel_rfl) (fun _ _ _ h => h) (Or.inl ⟨by rfl, ?yldq⟩) (by assumption) ?_
  case yldq => (intro w hSw; (try dsimp only at hSw); go_simp; try with_reducible rfl)
  try simp only [Act.put, List.setIfInBounds_toArray, List.set_cons_zero, List.set_cons_succ, List.getElem_toArray, List.getElem_cons_succ, List.getElem_cons_zero]
  refine wpAnyH_take (i := 2) (v := ?_) rfl (by kernel_rfl) (by kernel_rfl) (by kernel_rfl) (fun _ _ _ h => h) (Or.inl ⟨by rfl, ?yldq⟩) (by assumption) ?_
  case yldq => (intro w hSw; (try dsimp only at hSw); go_simp; try with_reducible rfl)
  try simp only [Act.put, List.setIfInBounds_toArray, List.set_cons_zero, List.set_cons_succ, List.getElem_toArray, List.getElem_cons_succ, List.getElem_cons_zero]
  refine wpAnyH_take (i := 3) (v := _) rfl (by kernel_rfl) (by kernel_rfl) (by kernel_rfl) (fun _ _ _ h => h) (Or.inl ⟨by rfl, fun w hSw => yield_ptrT _ _ _ rfl rfl hSw.2⟩) (by assumption) ?_
  try simp only [Act.put, List.setIfInBounds_toArray, List.set_cons_zero, List.set_cons_succ, List.getElem_toArray, List.getElem_cons_succ, List.getElem_cons_zero]
  refine wpAnyH_take (i := 4) (v := ?_) rfl (by kernel_rfl) (by kernel_rfl) (by kernel_rfl) (fun _ _ _ h => h) (Or.inl ⟨by rfl, ?yldq⟩) (by assumption) ?_
  case yldq => (intro w hSw; (try dsimp only at hSw); go_simp; try with_reducible rfl)
  try simp only [Act.put, List.setIfInBounds_toArray, List.set_cons_zero, List.set_cons_succ, List.getElem_toArray, List.getElem_cons_succ, List.getElem_cons_zero]
  refine wpAnyH_take (i := 5) (v := _) rfl (by kernel_rfl) (by kernel_rfl) (by kernel_rfl) (fun _ _ _ h => h) (Or.inl ⟨by rfl, fun w hSw => yield_entS _ _ _ rfl rfl hSw.1⟩) (by assumption) ?_
  try simp only [Act.put, List.setIfInBounds_toArray, List.set_cons_zero, List.set_cons_succ, List.getElem_toArray, List.getElem_cons_succ, List.getElem_cons_zero]
  refine wpAnyH_ready (rs := [6]) (by kernel_rfl) (by simp) ?_
  refine AllReadyH.cons rfl (fun K hK => ?_) AllReadyH.nil
  go_simp
  refine (H5.out _ _ _ _ _ K1.out (by first | rfl | trivial) KFF.out (L7.out.drew)).mono ?_
  rintro e w9 ⟨rfl, hu⟩
  have hkp := hu.kept
  have hbw : Below w1.heap.size w1 (W7.drew) := L7.out.drew
  have hl9 : Blk w9 B7 [.bool v, .bool rr, .bool x1, .bool x, .bool u, .bool g, .bool a, .bool d, .int .i64 rsw, .int .u64 (F : Int)] 39 := (Blk.drewN K7_0.out 1).chg hkp.2 (fun h => by have := K1.out.lt _ h; have := G7.out; omega)
  have HL9 := Lib.hid hl9; have HK9 := Lib.hid hkp.1
  have hu := hu.ahead (Chg.of_below hbw)
  clear hkp hbw hl9
  have HU := Lib.hid (hu.ahead HC1.out)
  clear hu
  refine hK.out _ _ ⟨HL9.out, HK9.out⟩ (fun hS6 => ?_)
  clear hK K
  refine wpAnyH_take (i := 7) (v := ?_) rfl (by kernel_rfl) (by kernel_rfl) (by kernel_rfl) (fun _ _ _ h => h) (Or.inl ⟨by rfl, ?yldq⟩) (by assumption) ?_
  case yldq => (intro w hSw; (try dsimp only at hSw); go_simp; try with_reducible rfl)
  try simp only [Act.put, List.setIfInBounds_toArray, List.set_cons_zero, List.set_cons_succ, List.getElem_toArray, List.getElem_cons_succ, List.getElem_cons_zero]
  refine wpAnyH_done (by kernel_rfl) ?_ _
  go_wp2
  go_ret
  exact ⟨rfl, HU.out⟩
theorem sturn_any (h : SpX P n w Fm Gs C R S c s fr) {p r : Nat} (hp : p < s.sh.length) (hr : r ≤ 2) (hne : (shN s p).rt ≠ r) (hc : c < 960) :
    Calls Tryz.prog 44 #[.pointer (some ⟨P.xp, 0, none⟩), .int .i64 (p : Int), .int .i64 ((shN s p).rt : Int), .int .i64 (r : Int)] w fun x w' => x = .returned (.int .i64 (turnS s p r).2) ∧ ((turnS s p r).2 = 0 → UnX P n w w' Fm Gs (1073741824 + 4096 * p) (turnS s p r).1 (c + 5)) ∧ ((turnS s p r).2 ≠ 0 → StX P n w w' Fm Gs (turnS s p r).1 (c + 5)) := by
  by_cases h0 : (shN s p).rt = 0
  · exact sturn_map h hp h0 (by omega) hc
  · have ht := turn_0 h.tie.wf hp h0 (r := r)
    rw [ht]
    by_cases hr0 : r = 0
    · subst hr0
      refine (sturn_0 h hp h0 hc).mono ?_
      rintro x w' ⟨rfl, hu⟩
      exact ⟨rfl, fun _ => hu, fun h => absurd rfl h⟩
    · refine (sturn_chg h hp h0 (by omega) hc).mono ?_
      rintro x w' ⟨rfl, hu⟩
      exact ⟨rfl, fun _ => hu, fun h => absurd rfl h⟩
theorem load_ptrU {b o : Nat} {x : Option Addr} (h : w.cell? ⟨b, o, none⟩ = some (.pointer x)) : (Instr.loadAt 46 (.pointer (some ⟨b, o, none⟩))).run Tryz.prog w = .ok (.pointer x) w := by
  go_simp
theorem yield_ptrU {b o : Nat} {x : Option Addr} (a : Act) (op : Oper) (y : Operand) (ho : op.op = .load 46 y) (hx : a.eval y = .pointer (some ⟨b, o, none⟩)) (h : w.cell? ⟨b, o, none⟩ = some (.pointer x)) :
    (execOp a.eval op).run Tryz.prog w = .ok (.value (.pointer x)) w := by
  have e := load_ptrU h
  obtain ⟨op, _, _, _, _, _⟩ := op
  dsimp only at ho
  subst ho
  unfold execOp
  simp only [hx]
  simp [e]
theorem UnX.unit {va : Nat} (h : UnX P n w w' Fm Gs va s' c') : w'.cell? ⟨P.xp, 7, none⟩ = some (.pointer (some ⟨P.up, 0, none⟩)) ∧ P.xp < w'.heap.size := by
  obtain ⟨w1, Fm1, Gs1, C1, R1, S1, c1, s1, fr1, Fm', Gs', C', S', h1, h2, h3, h4, h5, h6, h7, h8, _⟩ := h
  exact ⟨(h1.blk.chg h8 h1.ax).cell 7, Nat.lt_of_lt_of_le h1.blk.lt h8.size⟩
theorem StX.unit (h : StX P n w w' Fm Gs s' c') : w'.cell? ⟨P.xp, 7, none⟩ = some (.pointer (some ⟨P.up, 0, none⟩)) := by
  obtain ⟨Fm', Gs', C', R', S', fr', h1, h2, h3⟩ := h
  exact h1.blk.cell 7
set_option maxHeartbeats 4000000 in
theorem sset_any (h : SpX P n w Fm Gs C R S c s fr) (p r : Int) (hc : c < 960) : Calls Tryz.prog 16 #[.pointer (some ⟨P.xp, 0, none⟩), .int .i64 p, .int .i64 r] w fun x w' => x = .returned (.int .i64 (setS s p r).2) ∧ StX P n w w' Fm Gs (setS s p r).1 (c + 5) := by
  have hL := h.tie.wf.shL
  have c2 : w.cell? ⟨P.xp, 2, none⟩ = some (.int .i64 (s.sh.length : Int)) := h.blk.cell 2
  have h1 := shas_any P.xp s.sh.length p w c2
  by_cases hp : 0 ≤ p ∧ p < s.sh.length
  rotate_left
  · have hs : setS s p r = (s, 51) := by unfold setS; rw [if_neg hp]
    rw [hs]
    rw [decide_eq_false hp] at h1
    have H1 := Lib.hid h1; have H0 := Lib.hid (h.st.mono (c' := c + 5) (by omega))
    clear h h1 hc hp hs hL c2
    go_enter Tryz.func16, Tryz.ntmps16
    go_wp2_with fail
    refine H1.out.mono ?_
    rintro e wx ⟨rfl, rfl⟩
    go_wp2
    go_ret
    exact ⟨rfl, H0.out⟩
  rw [decide_eq_true hp] at h1
  obtain ⟨q, rfl⟩ : ∃ q : Nat, p = q := ⟨p.toNat, by omega⟩
  have hq : q < s.sh.length := by omega
  by_cases hr : 0 ≤ r ∧ r ≤ 2
  rotate_left
  · have hs : setS s q r = (s, 2) := by unfold setS; rw [if_pos hp, if_neg hr]
    rw [hs]
    have H1 := Lib.hid h1; have H0 := Lib.hid (h.st.mono (c' := c + 5) (by omega))
    have f0 : (r != 0) = true := by simp; omega
    have f1 : (r != 1) = true := by simp; omega
    have f2 : (r != 2) = true := by simp; omega
    clear h h1 hc hp hs hL c2 hr hq
    go_enter Tryz.func16, Tryz.ntmps16
    go_wp2_with fail
    refine H1.out.mono ?_
    rintro e wx ⟨rfl, rfl⟩
    go_wp2
    go_ret
    exact ⟨rfl, H0.out⟩
  obtain ⟨u, rfl⟩ : ∃ u : Nat, r = u := ⟨r.toNat, by omega⟩
  have hu : u ≤ 2 := by omega
  have h2 := sright_any h (q : Int)
  have hrt : rtS s q = ((shN s q).rt : Int) := by unfold rtS; rw [if_pos hp, Int.toNat_natCast]
  rw [hrt] at h2
  have hall : ∀ (Y : Bool), ((u : Int) == ((shN s q).rt : Int)) = Y → Calls Tryz.prog 16 #[.pointer (some ⟨P.xp, 0, none⟩), .int .i64 (q : Int), .int .i64 (u : Int)] w fun x w' => x = .returned (.int .i64 (setS s q u).2) ∧ StX P n w w' Fm Gs (setS s q u).1 (c + 5) := by
    intro Y hY
    cases Y with
    | true =>
      have hs : setS s q u = (s, 0) := by
        unfold setS
        rw [if_pos hp, if_pos hr, Int.toNat_natCast, if_pos (by have := of_decide_eq_true hY; omega)]
      rw [hs]
      have H1 := Lib.hid h1; have H0 := Lib.hid (h.st.mono (c' := c + 5) (by omega)); have H2 := Lib.hid h2
      generalize ((shN s q).rt : Int) = old at *
      have HY := Lib.hid hY
      clear h h1 hc hp hs hL c2 hr hq h2 hrt hY
      rcases (by omega : u = 0 ∨ u = 1 ∨ u = 2) with rfl | rfl | rfl
      · go_enter Tryz.func16, Tryz.ntmps16
        go_wp2_with fail
        refine H1.out.mono ?_
        rintro e wx ⟨rfl, rfl⟩
        go_wp2_with fail
        refine (H2.out _ (Below.refl _ _)).mono ?_
        rintro e w1 ⟨rfl, hb⟩
        have HB := Lib.hid hb; clear hb
        have hY := HY.out
        go_wp2
        go_ret
        exact ⟨rfl, H0.out.after HB.out⟩
      · go_enter Tryz.func16, Tryz.ntmps16
        go_wp2_with fail
        refine H1.out.mono ?_
        rintro e wx ⟨rfl, rfl⟩
        go_wp2_with fail
        refine (H2.out _ (Below.refl _ _)).mono ?_
        rintro e w1 ⟨rfl, hb⟩
        have HB := Lib.hid hb; clear hb
        have hY := HY.out
        go_wp2
        go_ret
        exact ⟨rfl, H0.out.after HB.out⟩
      · go_enter Tryz.func16, Tryz.ntmps16
        go_wp2_with fail
        refine H1.out.mono ?_
        rintro e wx ⟨rfl, rfl⟩
        go_wp2_with fail
        refine (H2.out _ (Below.refl _ _)).mono ?_
        rintro e w1 ⟨rfl, hb⟩
        have HB := Lib.hid hb; clear hb
        have hY := HY.out
        go_wp2
        go_ret
        exact ⟨rfl, H0.out.after HB.out⟩
    | false =>
      have hne : (shN s q).rt ≠ u := by have := of_decide_eq_false hY; omega
      have hs : setS s q u = turnS s q u := by
        unfold setS
        rw [if_pos hp, if_pos hr, Int.toNat_natCast, Int.toNat_natCast, if_neg (by omega)]
      rw [hs]
      have h3 := fun (w1 : World) (hb : Below w.heap.size w w1) => sturn_any (h.below hb) hq hu hne hc
      have h4 := fun w => saddr_any q w (by omega)
      have hva : 1073741824 + 4096 * q < 18446744073709551616 := by omega
      have h5 := fun (w1 w' W : World) (b : Nat) (s' : Ss) (hx : UnX P n w1 w' Fm Gs (1073741824 + 4096 * q) s' (c + 5)) => UnX.fence (b := b) (W := W) hx hva
      generalize turnS s q u = TS at *
      obtain ⟨t1, t2⟩ := TS
      dsimp only at *
      generalize 1073741824 + 4096 * q = va at *
      have H1 := Lib.hid h1; have H2 := Lib.hid h2; have H3 := Lib.hid h3; have H4 := Lib.hid h4; have H5 := Lib.hid h5
      generalize ((shN s q).rt : Int) = old at *
      have HY := Lib.hid hY
      clear h h1 hc hp hs hL c2 hr hq h2 hrt hY hne h3 h4 h5 hva
      have key : ∀ (f0 : ((u : Int) != 0 && ((u : Int) != 1 && (u : Int) != 2)) = false), True := fun _ => trivial
      clear key
      rcases (by omega : u = 0 ∨ u = 1 ∨ u = 2) with rfl | rfl | rfl
      · go_enter Tryz.func16, Tryz.ntmps16
        go_wp2_with fail
        refine H1.out.mono ?_
        rintro e wx ⟨rfl, rfl⟩
        go_wp2_with fail
        refine (H2.out _ (Below.refl _ _)).mono ?_
        rintro e w1 ⟨rfl, hb⟩
        have HB := Lib.hid hb; clear hb
        have hY := HY.out
        go_wp2_with fail
        clear hY
        refine (H3.out _ HB.out).mono ?_
        rintro e w2 ⟨rfl, hun, hst⟩
        have HU := Lib.hid hun; have HS := Lib.hid hst
        clear hun hst
        by_cases ht : t2 = 0
        · subst ht
          have hun := HU.out (by first | rfl | trivial)
          have HUN := Lib.hid hun
          have HX := Lib.hid hun.unit
          clear hun HU HS
          go_upto_region 13 with (fail)
          have hb6 : Below w2.heap.size w2 (w2.alloc (.cells #[.int .u64 (va : Int)] 37)) := (Below.refl w2.heap.size w2).alloc (Nat.le_refl _) _
          have hc6 : (w2.alloc (.cells #[.int .u64 (va : Int)] 37)).cell? ⟨w2.heap.size, 0, none⟩ = some (.int .u64 (va : Int)) := (Blk.new w2 [.int .u64 (va : Int)] 37).cell 0
          have hx6 : (w2.alloc (.cells #[.int .u64 (va : Int)] 37)).cell? ⟨P.xp, 7, none⟩ = some (.pointer (some ⟨P.up, 0, none⟩)) := (World.cell?_of_block (w := w2) (a := ⟨P.xp, 7, none⟩) (hb6.block P.xp HX.out.2)).trans HX.out.1
          have HB6 := Lib.hid hb6; have HC6 := Lib.hid hc6; have HX6 := Lib.hid hx6
          clear hb6 hc6 hx6
          refine wp_region_held_drew (S := fun w' => w'.cell? ⟨P.xp, 7, none⟩ = some (.pointer (some ⟨P.up, 0, none⟩))) (by kernel_rfl) HX.out.1 (fun hHeld => ?_)
          simp only [List.size_toArray, List.length_cons, List.length_nil, Nat.reduceAdd]
          rw [show Array.replicate 8 false = [false, false, false, false, false, false, false, false].toArray from rfl]
          refine wpAnyH_take (i := 0) (v := ?_) rfl (by kernel_rfl) (by kernel_rfl) (by kernel_rfl) (fun _ _ _ h => h) (Or.inl ⟨by rfl, ?yldq⟩) (by assumption) ?_
          case yldq => (intro w hSw; (try dsimp only at hSw); go_simp; try with_reducible rfl)
          try simp only [Act.put, List.setIfInBounds_toArray, List.set_cons_zero, List.set_cons_succ, List.getElem_toArray, List.getElem_cons_succ, List.getElem_cons_zero]
          refine wpAnyH_take (i := 1) (v := ?_) rfl (by kernel_rfl) (by kernel_rfl) (by kernel_rfl) (fun _ _ _ h => h) (Or.inl ⟨by rfl, ?yldq⟩) (by assumption) ?_
          case yldq => (intro w hSw; (try dsimp only at hSw); go_simp; try with_reducible rfl)
          try simp only [Act.put, List.setIfInBounds_toArray, List.set_cons_zero, List.set_cons_succ, List.getElem_toArray, List.getElem_cons_succ, List.getElem_cons_zero]
          refine wpAnyH_take (i := 2) (v := ?_) rfl (by kernel_rfl) (by kernel_rfl) (by kernel_rfl) (fun _ _ _ h => h) (Or.inl ⟨by rfl, ?yldq⟩) (by assumption) ?_
          case yldq => (intro w hSw; (try dsimp only at hSw); go_simp; try with_reducible rfl)
          try simp only [Act.put, List.setIfInBounds_toArray, List.set_cons_zero, List.set_cons_succ, List.getElem_toArray, List.getElem_cons_succ, List.getElem_cons_zero]
          refine wpAnyH_take (i := 3) (v := _) rfl (by kernel_rfl) (by kernel_rfl) (by kernel_rfl) (fun _ _ _ h => h) (Or.inl ⟨by rfl, fun w hSw => yield_ptrU _ _ _ rfl rfl hSw⟩) (by assumption) ?_
          try simp only [Act.put, List.setIfInBounds_toArray, List.set_cons_zero, List.set_cons_succ, List.getElem_toArray, List.getElem_cons_succ, List.getElem_cons_zero]
          refine wpAnyH_take (i := 4) (v := ?_) rfl (by kernel_rfl) (by kernel_rfl) (by kernel_rfl) (fun _ _ _ h => h) (Or.inl ⟨by rfl, ?yldq⟩) (by assumption) ?_
          case yldq => (intro w hSw; (try dsimp only at hSw); go_simp; try with_reducible rfl)
          try simp only [Act.put, List.setIfInBounds_toArray, List.set_cons_zero, List.set_cons_succ, List.getElem_toArray, List.getElem_cons_succ, List.getElem_cons_zero]
          refine wpAnyH_ready (rs := [5]) (by kernel_rfl) (by simp) ?_
          refine AllReadyH.cons rfl (fun K hK => ?_) AllReadyH.nil
          go_simp
          refine (H4.out _).mono ?_
          rintro e wx ⟨rfl, rfl⟩
          refine hK.out _ _ HX.out.1 (fun hS5 => ?_)
          clear hK K
          refine wpAnyH_ready (rs := [6]) (by kernel_rfl) (by simp) ?_
          refine AllReadyH.cons rfl (fun K hK => ?_) AllReadyH.nil
          go_simp
          refine hK.out _ _ HX6.out (fun hS6 => ?_)
          clear hK K
          refine wpAnyH_ready (rs := [7]) (by kernel_rfl) (by simp) ?_
          refine AllReadyH.cons rfl (fun K hK => ?_) AllReadyH.nil
          go_simp
          refine (H5.out _ _ _ _ _ HUN.out HB6.out.drew (Nat.le_refl _) HC6.out).mono ?_
          rintro e w9 ⟨⟨k, rfl⟩, hst⟩
          have HST := Lib.hid (StX.ahead HB.out hst)
          refine hK.out _ _ hst.unit (fun hS7 => ?_)
          clear hK K hst
          refine wpAnyH_done (by kernel_rfl) ?_ _
          go_wp2
          go_ret
          exact ⟨rfl, HST.out⟩
        · have f2 : (t2 != 0) = true := by simp [ht]
          have HT := Lib.hid ht; clear ht
          go_wp2
          go_ret
          exact ⟨rfl, StX.ahead HB.out (HS.out HT.out)⟩
      · go_enter Tryz.func16, Tryz.ntmps16
        go_wp2_with fail
        refine H1.out.mono ?_
        rintro e wx ⟨rfl, rfl⟩
        go_wp2_with fail
        refine (H2.out _ (Below.refl _ _)).mono ?_
        rintro e w1 ⟨rfl, hb⟩
        have HB := Lib.hid hb; clear hb
        have hY := HY.out
        go_wp2_with fail
        clear hY
        refine (H3.out _ HB.out).mono ?_
        rintro e w2 ⟨rfl, hun, hst⟩
        have HU := Lib.hid hun; have HS := Lib.hid hst
        clear hun hst
        by_cases ht : t2 = 0
        · subst ht
          have hun := HU.out (by first | rfl | trivial)
          have HUN := Lib.hid hun
          have HX := Lib.hid hun.unit
          clear hun HU HS
          go_upto_region 13 with (fail)
          have hb6 : Below w2.heap.size w2 (w2.alloc (.cells #[.int .u64 (va : Int)] 37)) := (Below.refl w2.heap.size w2).alloc (Nat.le_refl _) _
          have hc6 : (w2.alloc (.cells #[.int .u64 (va : Int)] 37)).cell? ⟨w2.heap.size, 0, none⟩ = some (.int .u64 (va : Int)) := (Blk.new w2 [.int .u64 (va : Int)] 37).cell 0
          have hx6 : (w2.alloc (.cells #[.int .u64 (va : Int)] 37)).cell? ⟨P.xp, 7, none⟩ = some (.pointer (some ⟨P.up, 0, none⟩)) := (World.cell?_of_block (w := w2) (a := ⟨P.xp, 7, none⟩) (hb6.block P.xp HX.out.2)).trans HX.out.1
          have HB6 := Lib.hid hb6; have HC6 := Lib.hid hc6; have HX6 := Lib.hid hx6
          clear hb6 hc6 hx6
          refine wp_region_held_drew (S := fun w' => w'.cell? ⟨P.xp, 7, none⟩ = some (.pointer (some ⟨P.up, 0, none⟩))) (by kernel_rfl) HX.out.1 (fun hHeld => ?_)
          simp only [List.size_toArray, List.length_cons, List.length_nil, Nat.reduceAdd]
          rw [show Array.replicate 8 false = [false, false, false, false, false, false, false, false].toArray from rfl]
          refine wpAnyH_take (i := 0) (v := ?_) rfl (by kernel_rfl) (by kernel_rfl) (by kernel_rfl) (fun _ _ _ h => h) (Or.inl ⟨by rfl, ?yldq⟩) (by assumption) ?_
          case yldq => (intro w hSw; (try dsimp only at hSw); go_simp; try with_reducible rfl)
          try simp only [Act.put, List.setIfInBounds_toArray, List.set_cons_zero, List.set_cons_succ, List.getElem_toArray, List.getElem_cons_succ, List.getElem_cons_zero]
          refine wpAnyH_take (i := 1) (v := ?_) rfl (by kernel_rfl) (by kernel_rfl) (by kernel_rfl) (fun _ _ _ h => h) (Or.inl ⟨by rfl, ?yldq⟩) (by assumption) ?_
          case yldq => (intro w hSw; (try dsimp only at hSw); go_simp; try with_reducible rfl)
          try simp only [Act.put, List.setIfInBounds_toArray, List.set_cons_zero, List.set_cons_succ, List.getElem_toArray, List.getElem_cons_succ, List.getElem_cons_zero]
          refine wpAnyH_take (i := 2) (v := ?_) rfl (by kernel_rfl) (by kernel_rfl) (by kernel_rfl) (fun _ _ _ h => h) (Or.inl ⟨by rfl, ?yldq⟩) (by assumption) ?_
          case yldq => (intro w hSw; (try dsimp only at hSw); go_simp; try with_reducible rfl)
          try simp only [Act.put, List.setIfInBounds_toArray, List.set_cons_zero, List.set_cons_succ, List.getElem_toArray, List.getElem_cons_succ, List.getElem_cons_zero]
          refine wpAnyH_take (i := 3) (v := _) rfl (by kernel_rfl) (by kernel_rfl) (by kernel_rfl) (fun _ _ _ h => h) (Or.inl ⟨by rfl, fun w hSw => yield_ptrU _ _ _ rfl rfl hSw⟩) (by assumption) ?_
          try simp only [Act.put, List.setIfInBounds_toArray, List.set_cons_zero, List.set_cons_succ, List.getElem_toArray, List.getElem_cons_succ, List.getElem_cons_zero]
          refine wpAnyH_take (i := 4) (v := ?_) rfl (by kernel_rfl) (by kernel_rfl) (by kernel_rfl) (fun _ _ _ h => h) (Or.inl ⟨by rfl, ?yldq⟩) (by assumption) ?_
          case yldq => (intro w hSw; (try dsimp only at hSw); go_simp; try with_reducible rfl)
          try simp only [Act.put, List.setIfInBounds_toArray, List.set_cons_zero, List.set_cons_succ, List.getElem_toArray, List.getElem_cons_succ, List.getElem_cons_zero]
          refine wpAnyH_ready (rs := [5]) (by kernel_rfl) (by simp) ?_
          refine AllReadyH.cons rfl (fun K hK => ?_) AllReadyH.nil
          go_simp
          refine (H4.out _).mono ?_
          rintro e wx ⟨rfl, rfl⟩
          refine hK.out _ _ HX.out.1 (fun hS5 => ?_)
          clear hK K
          refine wpAnyH_ready (rs := [6]) (by kernel_rfl) (by simp) ?_
          refine AllReadyH.cons rfl (fun K hK => ?_) AllReadyH.nil
          go_simp
          refine hK.out _ _ HX6.out (fun hS6 => ?_)
          clear hK K
          refine wpAnyH_ready (rs := [7]) (by kernel_rfl) (by simp) ?_
          refine AllReadyH.cons rfl (fun K hK => ?_) AllReadyH.nil
          go_simp
          refine (H5.out _ _ _ _ _ HUN.out HB6.out.drew (Nat.le_refl _) HC6.out).mono ?_
          rintro e w9 ⟨⟨k, rfl⟩, hst⟩
          have HST := Lib.hid (StX.ahead HB.out hst)
          refine hK.out _ _ hst.unit (fun hS7 => ?_)
          clear hK K hst
          refine wpAnyH_done (by kernel_rfl) ?_ _
          go_wp2
          go_ret
          exact ⟨rfl, HST.out⟩
        · have f2 : (t2 != 0) = true := by simp [ht]
          have HT := Lib.hid ht; clear ht
          go_wp2
          go_ret
          exact ⟨rfl, StX.ahead HB.out (HS.out HT.out)⟩
      · go_enter Tryz.func16, Tryz.ntmps16
        go_wp2_with fail
        refine H1.out.mono ?_
        rintro e wx ⟨rfl, rfl⟩
        go_wp2_with fail
        refine (H2.out _ (Below.refl _ _)).mono ?_
        rintro e w1 ⟨rfl, hb⟩
        have HB := Lib.hid hb; clear hb
        have hY := HY.out
        go_wp2_with fail
        clear hY
        refine (H3.out _ HB.out).mono ?_
        rintro e w2 ⟨rfl, hun, hst⟩
        have HU := Lib.hid hun; have HS := Lib.hid hst
        clear hun hst
        by_cases ht : t2 = 0
        · subst ht
          have hun := HU.out (by first | rfl | trivial)
          have HUN := Lib.hid hun
          have HX := Lib.hid hun.unit
          clear hun HU HS
          go_upto_region 13 with (fail)
          have hb6 : Below w2.heap.size w2 (w2.alloc (.cells #[.int .u64 (va : Int)] 37)) := (Below.refl w2.heap.size w2).alloc (Nat.le_refl _) _
          have hc6 : (w2.alloc (.cells #[.int .u64 (va : Int)] 37)).cell? ⟨w2.heap.size, 0, none⟩ = some (.int .u64 (va : Int)) := (Blk.new w2 [.int .u64 (va : Int)] 37).cell 0
          have hx6 : (w2.alloc (.cells #[.int .u64 (va : Int)] 37)).cell? ⟨P.xp, 7, none⟩ = some (.pointer (some ⟨P.up, 0, none⟩)) := (World.cell?_of_block (w := w2) (a := ⟨P.xp, 7, none⟩) (hb6.block P.xp HX.out.2)).trans HX.out.1
          have HB6 := Lib.hid hb6; have HC6 := Lib.hid hc6; have HX6 := Lib.hid hx6
          clear hb6 hc6 hx6
          refine wp_region_held_drew (S := fun w' => w'.cell? ⟨P.xp, 7, none⟩ = some (.pointer (some ⟨P.up, 0, none⟩))) (by kernel_rfl) HX.out.1 (fun hHeld => ?_)
          simp only [List.size_toArray, List.length_cons, List.length_nil, Nat.reduceAdd]
          rw [show Array.replicate 8 false = [false, false, false, false, false, false, false, false].toArray from rfl]
          refine wpAnyH_take (i := 0) (v := ?_) rfl (by kernel_rfl) (by kernel_rfl) (by kernel_rfl) (fun _ _ _ h => h) (Or.inl ⟨by rfl, ?yldq⟩) (by assumption) ?_
          case yldq => (intro w hSw; (try dsimp only at hSw); go_simp; try with_reducible rfl)
          try simp only [Act.put, List.setIfInBounds_toArray, List.set_cons_zero, List.set_cons_succ, List.getElem_toArray, List.getElem_cons_succ, List.getElem_cons_zero]
          refine wpAnyH_take (i := 1) (v := ?_) rfl (by kernel_rfl) (by kernel_rfl) (by kernel_rfl) (fun _ _ _ h => h) (Or.inl ⟨by rfl, ?yldq⟩) (by assumption) ?_
          case yldq => (intro w hSw; (try dsimp only at hSw); go_simp; try with_reducible rfl)
          try simp only [Act.put, List.setIfInBounds_toArray, List.set_cons_zero, List.set_cons_succ, List.getElem_toArray, List.getElem_cons_succ, List.getElem_cons_zero]
          refine wpAnyH_take (i := 2) (v := ?_) rfl (by kernel_rfl) (by kernel_rfl) (by kernel_rfl) (fun _ _ _ h => h) (Or.inl ⟨by rfl, ?yldq⟩) (by assumption) ?_
          case yldq => (intro w hSw; (try dsimp only at hSw); go_simp; try with_reducible rfl)
          try simp only [Act.put, List.setIfInBounds_toArray, List.set_cons_zero, List.set_cons_succ, List.getElem_toArray, List.getElem_cons_succ, List.getElem_cons_zero]
          refine wpAnyH_take (i := 3) (v := _) rfl (by kernel_rfl) (by kernel_rfl) (by kernel_rfl) (fun _ _ _ h => h) (Or.inl ⟨by rfl, fun w hSw => yield_ptrU _ _ _ rfl rfl hSw⟩) (by assumption) ?_
          try simp only [Act.put, List.setIfInBounds_toArray, List.set_cons_zero, List.set_cons_succ, List.getElem_toArray, List.getElem_cons_succ, List.getElem_cons_zero]
          refine wpAnyH_take (i := 4) (v := ?_) rfl (by kernel_rfl) (by kernel_rfl) (by kernel_rfl) (fun _ _ _ h => h) (Or.inl ⟨by rfl, ?yldq⟩) (by assumption) ?_
          case yldq => (intro w hSw; (try dsimp only at hSw); go_simp; try with_reducible rfl)
          try simp only [Act.put, List.setIfInBounds_toArray, List.set_cons_zero, List.set_cons_succ, List.getElem_toArray, List.getElem_cons_succ, List.getElem_cons_zero]
          refine wpAnyH_ready (rs := [5]) (by kernel_rfl) (by simp) ?_
          refine AllReadyH.cons rfl (fun K hK => ?_) AllReadyH.nil
          go_simp
          refine (H4.out _).mono ?_
          rintro e wx ⟨rfl, rfl⟩
          refine hK.out _ _ HX.out.1 (fun hS5 => ?_)
          clear hK K
          refine wpAnyH_ready (rs := [6]) (by kernel_rfl) (by simp) ?_
          refine AllReadyH.cons rfl (fun K hK => ?_) AllReadyH.nil
          go_simp
          refine hK.out _ _ HX6.out (fun hS6 => ?_)
          clear hK K
          refine wpAnyH_ready (rs := [7]) (by kernel_rfl) (by simp) ?_
          refine AllReadyH.cons rfl (fun K hK => ?_) AllReadyH.nil
          go_simp
          refine (H5.out _ _ _ _ _ HUN.out HB6.out.drew (Nat.le_refl _) HC6.out).mono ?_
          rintro e w9 ⟨⟨k, rfl⟩, hst⟩
          have HST := Lib.hid (StX.ahead HB.out hst)
          refine hK.out _ _ hst.unit (fun hS7 => ?_)
          clear hK K hst
          refine wpAnyH_done (by kernel_rfl) ?_ _
          go_wp2
          go_ret
          exact ⟨rfl, HST.out⟩
        · have f2 : (t2 != 0) = true := by simp [ht]
          have HT := Lib.hid ht; clear ht
          go_wp2
          go_ret
          exact ⟨rfl, StX.ahead HB.out (HS.out HT.out)⟩
  exact hall _ rfl
end
end Go.Proofs.YtgnjbjbgfhjakaaGreat

namespace Go.Proofs.YtgnjbjbgfhjakaaGreat
open Go.RowKit
set_option linter.unusedVariables false
set_option linter.unusedSimpArgs false
attribute [local go_sem] setCell_drewN alloc_drewN

theorem rd_blk {w : World} {b : Nat} {l : List Int} (h : Blk w b (l.map (Value.int .u8)) 5) (hb : Byt l) (hl : l.length ≤ 4096) : Rd w (some ⟨b, 0, none⟩) l := by
  refine ⟨hb, by omega, fun _ => ⟨b, 0, rfl, fun i hi => ?_⟩⟩
  rw [Nat.zero_add, h.cell i]
  simp [List.getD_eq_getElem?_getD, hi]
theorem rd_nil (w : World) (A : Option Addr) : Rd w A [] := ⟨Byt.nil, by simp, fun h => by simp at h⟩
section
variable {P : Pm} {n : Nat} {w : World} {Fm Gs : Nat → Prop} {C : Nat → List Int} {R : Nat → Nat → Wy} {S : Tt} {c : Nat} {s : Ss} {fr : Nat → Option Nat}
theorem sdata_any (h : SpX P n w Fm Gs C R S c s fr) (p : Int) : Calls Tryz.prog 17 #[.pointer (some ⟨P.xp, 0, none⟩), .int .i64 p] w fun r w' => (∃ A cap, r = .returned (.slice A (dataS s p).length cap) ∧ Rd w' A (dataS s p)) ∧ Below w.heap.size w w' := by
  have hL := h.tie.wf.shL
  have c2 : w.cell? ⟨P.xp, 2, none⟩ = some (.int .i64 (s.sh.length : Int)) := h.blk.cell 2
  have c3 : w.cell? ⟨P.xp, 3, none⟩ = some (.pointer (some ⟨P.mp, 0, none⟩)) := h.blk.cell 3
  have c10 : w.cell? ⟨P.xp, 10, none⟩ = some (.map (some P.hb)) := h.blk.cell 10
  have h1 := shas_any P.xp s.sh.length p w c2
  by_cases hp : 0 ≤ p ∧ p < s.sh.length
  rotate_left
  · have hs : dataS s p = [] := by unfold dataS; rw [if_neg hp]
    rw [hs]
    rw [decide_eq_false hp] at h1
    have H1 := Lib.hid h1
    clear h h1 hp hs hL c2 c3 c10
    go_enter Tryz.func17, Tryz.ntmps17
    go_wp2_with fail
    refine H1.out.mono ?_
    rintro e wx ⟨rfl, rfl⟩
    go_wp2
    go_ret
    exact ⟨⟨_, _, rfl, rd_nil _ _⟩, Below.refl _ _⟩
  rw [decide_eq_true hp] at h1
  obtain ⟨q, rfl⟩ : ∃ q : Nat, p = q := ⟨p.toNat, by omega⟩
  have hq : q < s.sh.length := by omega
  have hdom := h.tie.dom (262144 + q)
  rw [(sh_fns h.tie.wf hq).1] at hdom
  obtain ⟨x, hlk, hx⟩ := h.map.look q (by omega)
  try dsimp only at hlk
  have hds : dataS s q = if (shN s q).has then (shN s q).b else zP := by unfold dataS; rw [if_pos hp, Int.toNat_natCast]
  rw [hds]
  cases hh : (shN s q).has with
  | true =>
    rw [hh] at hdom
    obtain ⟨F, hF⟩ := Option.isSome_iff_exists.1 hdom
    have hxF := hx F hF
    subst hxF
    rw [hdom] at hlk
    obtain ⟨b1, b2⟩ := (h.tie.wf.sh q hq).2.1 hh
    have h2 := page_ok P.mp n c F C Fm w h.sp.un.mem (h.frlt _ _ hF)
    rw [h.tie.bytes _ _ hF, (sh_fns h.tie.wf hq).2.2] at h2
    rw [if_pos rfl]
    generalize (shN s q).b = b at *
    have H1 := Lib.hid h1; have H2 := Lib.hid h2; have B1 := Lib.hid b1; have B2 := Lib.hid b2
    clear h h1 hp hL c2 hds hdom hx hF hh hq h2 b1 b2
    go_enter Tryz.func17, Tryz.ntmps17
    go_wp2_with fail
    refine H1.out.mono ?_
    rintro e wx ⟨rfl, rfl⟩
    go_wp2_with fail
    refine H2.out.mono ?_
    rintro e w1 ⟨rfl, hb, hcg⟩
    have HB := Lib.hid hb; have HC := Lib.hid hcg
    clear hb hcg hlk
    go_wp2
    go_ret
    exact ⟨⟨_, _, by rw [B1.out]; rfl, rd_blk HB.out B2.out (by rw [B1.out]; exact Nat.le_refl _)⟩, HC.out.none⟩
  | false =>
    rw [hh] at hdom
    rw [hdom] at hlk
    rw [if_neg (by decide)]
    obtain ⟨i0, hi, hz0, hz1, hz2⟩ := info_parts info_u8
    have H1 := Lib.hid h1
    clear h h1 hp hL c2 c3 hds hdom hx hh hq
    go_enter Tryz.func17, Tryz.ntmps17
    go_wp2_with fail
    refine H1.out.mono ?_
    rintro e wx ⟨rfl, rfl⟩
    go_wp2_with (at_make; refine wpList_make_full _ rfl _ _ 52 rfl w.heap.size 5 i0 (.int .u8 0) 1 Tryz.underlying52 hi hz0 hz1 .i64 .i64 _ _ 4096 rfl rfl rfl rfl ?c1 ?c2 (Nat.le_refl _) ?_)
    case c1 => rw [hz2]; omega
    case c2 => unfold maxLen; omega
    intro w1 hown hgr
    rw [made_zero] at hown
    have hb := (own_blk hown).1
    have hcg : Chg no w w1 := Chg.grown hgr (fun j hj => by cases hj)
    have hb2 : Blk w1 w.heap.size (zP.map (Value.int .u8)) 5 := by unfold zP; rw [List.map_replicate]; exact hb
    have HB := Lib.hid hb2; have HC := Lib.hid hcg
    clear hown hgr hb hcg hb2 hi hz0 hz1 hz2 hlk c10
    go_wp2
    go_ret
    exact ⟨⟨_, _, by rw [zP_len]; rfl, rd_blk HB.out (byt_zero _) (by rw [zP_len]; exact Nat.le_refl _)⟩, HC.out.none⟩
/-- code as it is with bytes laid -/
def cdS (s : Ss) (a : Nat) (b : List Int) : Ss := { s with code := lay s.code a b }
end
end Go.Proofs.YtgnjbjbgfhjakaaGreat

namespace Go.Proofs.YtgnjbjbgfhjakaaGreat
open Go.RowKit
set_option linter.unusedVariables false
set_option linter.unusedSimpArgs false
attribute [local go_sem] setCell_drewN alloc_drewN

section
variable {P : Pm} {n : Nat} {w : World} {Fm Gs : Nat → Prop} {C : Nat → List Int} {R : Nat → Nat → Wy} {S : Tt} {c : Nat} {s : Ss} {fr : Nat → Option Nat}
/-- rounds and bytes -/
def RdK (a k j kk : Nat) : Prop := (j = 0 ∧ kk = 0) ∨ (1 ≤ j ∧ (a + kk) % 4096 = 0 ∧ 4096 * (j - 1) < kk) ∨ (kk = k ∧ 4096 * (j - 2) < kk)
theorem RdK.next {a k j kk : Nat} (h : RdK a k j kk) (hlt : kk < k) : RdK a k (j + 1) (kk + Nat.min (k - kk) (4096 - (a + kk) % 4096)) := by
  unfold RdK at *
  rcases Nat.le_total (k - kk) (4096 - (a + kk) % 4096) with hle | hle
  · rw [show Nat.min (k - kk) (4096 - (a + kk) % 4096) = k - kk from Nat.min_eq_left hle]
    refine .inr (.inr ⟨by omega, ?_⟩)
    rcases h with h | h | h <;> omega
  · rw [show Nat.min (k - kk) (4096 - (a + kk) % 4096) = 4096 - (a + kk) % 4096 from Nat.min_eq_right hle]
    refine .inr (.inl ⟨by omega, by omega, ?_⟩)
    rcases h with h | h | h <;> omega
theorem RdK.le {a k j kk : Nat} (h : RdK a k j kk) (hk : kk ≤ k) (hl : k ≤ 8000) : j ≤ 3 := by
  unfold RdK at h
  rcases h with h | h | h <;> omega
end
end Go.Proofs.YtgnjbjbgfhjakaaGreat

namespace Go.Proofs.YtgnjbjbgfhjakaaGreat
open Go.RowKit
set_option linter.unusedVariables false
set_option linter.unusedSimpArgs false

theorem own_facts (s : Ss) (o : List Int) : ({ s with own := o } : Ss).nc = s.nc ∧ ({ s with own := o } : Ss).np = s.np ∧ ({ s with own := o } : Ss).sh.length = s.sh.length ∧ countS { s with own := o } = countS s := ⟨rfl, rfl, rfl, rfl⟩
theorem stor_same (s : Ss) (va : Nat) (sz v : Int) : (storS s va sz v).nc = s.nc ∧ (storS s va sz v).np = s.np ∧ (storS s va sz v).sh.length = s.sh.length ∧ countS (storS s va sz v) = countS s := by
  unfold storS
  split
  · split
    · exact own_facts s _
    · exact ⟨rfl, rfl, put_len _ _ _, count_put rfl⟩
  · exact ⟨rfl, rfl, rfl, rfl⟩
section
variable {P : Pm} {n : Nat} {w : World} {Fm Gs : Nat → Prop} {C : Nat → List Int} {R : Nat → Nat → Wy} {S : Tt} {c : Nat} {s : Ss} {fr : Nat → Option Nat}
theorem SpX.bufd (h : SpX P n w Fm Gs C R S c s fr) {w' : World} {R' : Nat → Nat → Wy} (hs : SP 0 n P.N P.m w' P.up P.tp P.mp P.sp P.bp P.q P.g Fm Gs C R' S c) (hc : Chg (FpT P.bp P.q P.g P.N) w w') : StX P n w w' Fm Gs s c := by
  obtain ⟨k1, k2, k3⟩ := h.core hs h.tie rfl rfl rfl rfl (fun j hj => .inl hj) (hc.mono (fun j _ hj => .inr (.inr (.inr (.inr (.inr hj)))))) h.len
  exact ⟨_, _, _, _, _, _, k1, k2, k3⟩
theorem sload_any (h : SpX P n w Fm Gs C R S c s fr) (va : Nat) (sz pk : Int) (hv : va < 18446744073709551616) (hp : -9223372036854775808 ≤ pk ∧ pk < 9223372036854775808) :
    Calls Tryz.prog 29 #[.pointer (some ⟨P.up, 0, none⟩), .int .u64 (va : Int), .int .i64 sz, .int .i64 pk] w fun r w' => r = .returned (.tuple #[.int .u64 (accS s va sz 1).1, .int .i64 (accS s va sz 1).2]) ∧ StX P n w w' Fm Gs s c := by
  refine (sp_load h.sp va sz pk hv hp).mono ?_
  rintro r w' ⟨rfl, R', hs, hc⟩
  rw [h.tie.acc va sz 1 (.inr (.inl rfl))]
  exact ⟨rfl, h.bufd hs hc⟩
theorem sstore_any (h : SpX P n w Fm Gs C R S c s fr) (va : Nat) (sz pk v : Int) (hv : va < 18446744073709551616) (hp : -9223372036854775808 ≤ pk ∧ pk < 9223372036854775808) (h0 : 0 ≤ v) (h1 : v ≤ 18446744073709551615) (hn : c < 1000) :
    Calls Tryz.prog 28 #[.pointer (some ⟨P.up, 0, none⟩), .int .u64 (va : Int), .int .i64 sz, .int .u64 v, .int .i64 pk] w fun r w' => r = .returned (.int .i64 (accS s va sz 2).2) ∧ StX P n w w' Fm Gs (storS s va sz v) (c + 1) := by
  have hl := h.len
  refine (sp_store h.sp va sz pk v hv hp h0 h1 hn).mono ?_
  rintro r w' ⟨rfl, Fm', R', hs, hx, hc⟩
  rw [h.tie.acc va sz 2 (.inr (.inr rfl))]
  obtain ⟨e1, e2, e3, e4⟩ := stor_same s va sz v
  obtain ⟨k1, k2, k3⟩ := h.core hs (h.tie.stor h.frlt va sz v) e1 e2 e3 e4 (fun j hj => by
    rcases hj with e | e | e | e | e | e
    · exact .inl (.inl e)
    · exact .inl (.inr (.inl e))
    · exact .inl (.inr (.inr (.inl e)))
    · exact (hx j e).imp (fun e => .inr (.inr (.inr (.inl e)))) id
    · exact .inl (.inr (.inr (.inr (.inr (.inl e)))))
    · exact .inl (.inr (.inr (.inr (.inr (.inr e)))))) (hc.mono (fun j _ hj => hj.elim (fun h => .inr (.inr (.inr (.inl h)))) (fun h => .inr (.inr (.inr (.inr (.inr h))))))) (by omega)
  exact ⟨rfl, _, _, _, _, _, _, k1, k2, k3⟩
end
end Go.Proofs.YtgnjbjbgfhjakaaGreat
