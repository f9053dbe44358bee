/-
  Layer 8's laws: what 'first' answers, and each law's walk. No conditions but that the arguments are of their types.
-/
import Derived.Test.YtjghhgkgjeedeaaRef08
import Derived.Laws.StructEq
namespace Go.Proofs.Ytjghhgkgjeedeaa
open Go.RowKit
set_option linter.unusedVariables false
set_option linter.unusedSimpArgs false
attribute [local go_sem] setCell_drewN alloc_drewN

/-- what a variable that is an entry holds is loaded whole, in whatever world holds it -/
theorem load_ent {w : World} {b : Nat} {c0 c1 c2 c3 c4 c5 c6 c7 c8 c9 : Value} (h : Blk w b [c0, c1, c2, c3, c4, c5, c6, c7, c8, c9] 24) :
    (Instr.loadAt 24 (.pointer (some ⟨b, 0, none⟩))).run Try.prog w = .ok (.agg #[c0, c1, c2, c3, c4, c5, c6, c7, c8, c9]) w := by
  have h0 : w.cell? ⟨b, 0, none⟩ = some c0 := h.cell 0
  have h1 : w.cell? ⟨b, 1, none⟩ = some c1 := h.cell 1
  have h2 : w.cell? ⟨b, 2, none⟩ = some c2 := h.cell 2
  have h3 : w.cell? ⟨b, 3, none⟩ = some c3 := h.cell 3
  have h4 : w.cell? ⟨b, 4, none⟩ = some c4 := h.cell 4
  have h5 : w.cell? ⟨b, 5, none⟩ = some c5 := h.cell 5
  have h6 : w.cell? ⟨b, 6, none⟩ = some c6 := h.cell 6
  have h7 : w.cell? ⟨b, 7, none⟩ = some c7 := h.cell 7
  have h8 : w.cell? ⟨b, 8, none⟩ = some c8 := h.cell 8
  have h9 : w.cell? ⟨b, 9, none⟩ = some c9 := h.cell 9
  clear h
  go_simp
theorem load_yield {w : World} {b : Nat} {c0 c1 c2 c3 c4 c5 c6 c7 c8 c9 : Value} (a : Act) (o : Oper) (x : Operand) (ho : o.op = .load 24 x) (hx : a.eval x = .pointer (some ⟨b, 0, none⟩)) (h : Blk w b [c0, c1, c2, c3, c4, c5, c6, c7, c8, c9] 24) :
    (execOp a.eval o).run Try.prog w = .ok (.value (.agg #[c0, c1, c2, c3, c4, c5, c6, c7, c8, c9])) w := by
  have e := load_ent h
  obtain ⟨op, _, _, _, _, _⟩ := o
  dsimp only at ho
  subst ho
  unfold execOp
  simp only [hx]
  simp [e]
theorem g1 (w : World) : Calls Try.prog 10 #[.agg #[.bool true, .bool true, .bool true, .bool false, .bool false, .bool false, .bool true, .bool true, .int .i64 0, .int .u64 2]] w fun r w' => r = .returned (.int .u64 2247) ∧ Below w.heap.size w w' :=
  put_any ⟨true, true, true, false, false, false, true, true, 0, 2⟩ w (by decide) (by decide)
theorem g2 (w : World) : Calls Try.prog 8 #[.int .u64 2247] w fun r w' => r = .returned (.tuple #[.agg #[.bool true, .bool true, .bool true, .bool false, .bool false, .bool false, .bool true, .bool true, .int .i64 0, .int .u64 2], .bool true]) ∧ Below w.heap.size w w' :=
  get_any 2247 w (by decide)
theorem g3 (w : World) : Calls Try.prog 12 #[.int .u64 9223459997784997895] w fun r w' => r = .returned (.tuple #[.agg #[.bool true, .int .i64 5, .int .u64 7], .bool true]) ∧ Below w.heap.size w w' :=
  getS_any 9223459997784997895 w (by decide)
theorem g4 (w : World) : Calls Try.prog 12 #[.int .u64 10376293541461622784] w fun r w' => r = .returned (.tuple #[.agg #[.bool false, .int .i64 0, .int .u64 0], .bool false]) ∧ Below w.heap.size w w' :=
  getS_any 10376293541461622784 w (by decide)
theorem g5 (w : World) : Calls Try.prog 17 #[.int .u64 18446743798831644672] w fun r w' => r = .returned (.bool true) ∧ w = w' :=
  can_any 18446743798831644672 w (by decide)
theorem g6 (w : World) : Calls Try.prog 17 #[.int .u64 549755813888] w fun r w' => r = .returned (.bool false) ∧ w = w' :=
  can_any 549755813888 w (by decide)
theorem g7 (w : World) : Calls Try.prog 19 #[.int .u64 1075843072, .int .i64 1] w fun r w' => r = .returned (.int .i64 1) ∧ ∃ k, w' = w.drewN k :=
  index_yes 1075843072 1 w (by decide) (by decide)
theorem g8 (w : World) : Calls Try.prog 20 #[.int .i64 1] w fun r w' => r = .returned (.int .u64 2097152) ∧ w = w' :=
  span_yes 1 w (by decide)
theorem first_any (w : World) : Calls Try.prog 7 #[] w fun e w' => e = .returned (.bool true) ∧ Below w.heap.size w w' := by
  go_enter Try.func7, Try.ntmps7
  go_wp2_with fail
  refine (g1 _).mono ?_
  rintro e w1 ⟨rfl, hb1⟩
  have HB1 := Lib.hid hb1; clear hb1
  go_wp2_with fail
  refine (g2 _).mono ?_
  rintro e w2 ⟨rfl, hb2⟩
  have HB2 := Lib.hid hb2; clear hb2
  go_wp2_with fail
  refine (g3 _).mono ?_
  rintro e w3 ⟨rfl, hb3⟩
  have z3 : w2.heap.size < w3.heap.size := by have := hb3.size; (try simp at this); omega
  obtain ⟨hc3, hf3⟩ := bcell hb3
  have HB3 := Lib.hid hb3; clear hb3
  have z2 : w2.heap.size < w3.heap.size + 1 := by omega
  go_wp2_with fail
  refine (g4 _).mono ?_
  rintro e w4 ⟨rfl, hb4⟩
  have z4 : w3.heap.size < w4.heap.size := by have := hb4.size; (try simp at this); omega
  have z5 : w2.heap.size < w4.heap.size := by omega
  obtain ⟨hc4, hf4⟩ := bcell hb4
  have HB4 := Lib.hid hb4; clear hb4
  go_wp2_with fail
  refine (g5 _).mono ?_
  rintro e w5 ⟨rfl, rfl⟩
  go_wp2_with fail
  refine (g6 _).mono ?_
  rintro e w5 ⟨rfl, rfl⟩
  go_wp2_with fail
  refine (g7 _).mono ?_
  rintro e w5 ⟨rfl, n7, rfl⟩
  go_wp2_with fail
  refine (g8 _).mono ?_
  rintro e w5 ⟨rfl, rfl⟩
  go_wp2
  go_ret
  refine ⟨rfl, ?_⟩
  have a1 := HB1.out.size
  have a2 := HB2.out.size
  repeat (first | (with_reducible refine Below.setCell ?_ ?ybel _; case ybel => (first | omega | (simp <;> omega))) | (with_reducible refine Below.alloc ?_ ?ybel _; case ybel => (first | omega | (simp <;> omega))) | (with_reducible refine below_drewNs ?_ _) | (with_reducible refine Below.drew ?_) | (with_reducible exact Below.refl _ _))
  refine Below.trans ?_ (HB4.out.mono (by (try simp) <;> omega))
  repeat (first | (with_reducible refine Below.setCell ?_ ?ybel _; case ybel => (first | omega | (simp <;> omega))) | (with_reducible refine Below.alloc ?_ ?ybel _; case ybel => (first | omega | (simp <;> omega))) | (with_reducible refine below_drewNs ?_ _) | (with_reducible refine Below.drew ?_) | (with_reducible exact Below.refl _ _))
  refine Below.trans ?_ (HB3.out.mono (by (try simp) <;> omega))
  repeat (first | (with_reducible refine Below.setCell ?_ ?ybel _; case ybel => (first | omega | (simp <;> omega))) | (with_reducible refine Below.alloc ?_ ?ybel _; case ybel => (first | omega | (simp <;> omega))) | (with_reducible refine below_drewNs ?_ _) | (with_reducible refine Below.drew ?_) | (with_reducible exact Below.refl _ _))
  exact HB1.out.trans (HB2.out.mono a1)
theorem spells_walk (va : Nat) (w : World) (hv : va < 18446744073709551616) : Calls Try.prog 6 #[.int .u64 va] w fun e w' => e = .returned (.bool true) ∧ Below w.heap.size w w' := by
  have i0 := fun w => index_yes va 0 w hv (by omega)
  have i1 := fun w => index_yes va 1 w hv (by omega)
  have i2 := fun w => index_yes va 2 w hv (by omega)
  have j0 := fld_lt va 12 9
  have j1 := fld_lt va 21 9
  have j2 := fld_lt va 30 9
  have I0 := Lib.hid i0; have I1 := Lib.hid i1; have I2 := Lib.hid i2; clear i0 i1 i2
  go_enter Try.func6, Try.ntmps6
  go_wp2_with fail
  refine (first_any _).mono ?_
  rintro e w1 ⟨rfl, hb1⟩
  have HB1 := Lib.hid hb1; clear hb1
  go_wp2
  go_loopw [3, 4, 9] (fun x y z wr => ∃ (k : Nat) (u : Value), k ≤ 3 ∧ x = .int .u64 (va % 2 ^ (12 + 9 * k) : Nat) ∧ y = u ∧ z = .int .i64 (k : Int) ∧ ∃ n, wr = w1.drewN n) (fun _ _ z _ => 3 - (intOf z).toNat)
  case atStart => exact ⟨0, _, by omega, int_eq (u64_and_nat va 4095 hv (by omega) |>.trans (congrArg _ (Nat.and_two_pow_sub_one_eq_mod va 12))), rfl, rfl, 0, rfl⟩
  case round =>
    obtain ⟨k, u, hk, rfl, rfl, rfl, n, rfl⟩ := hrel
    by_cases h3 : k < 3
    · have hi := fun w => index_yes va k w hv h3
      have hs := spell_step va k h3
      have hf := fld_lt va (12 + 9 * k) 9
      have hp : ((12 + 9 * (k : Int)).toNat) = 12 + 9 * k := by omega
      have HS := Lib.hid hs; have HI := Lib.hid hi
      clear hi hs I0 I1 I2 j0 j1 j2
      go_wp2_with fail
      refine (HI.out _).mono ?_
      rintro e w2 ⟨rfl, m, rfl⟩
      go_wp2
      go_roundw
      case rel =>
        refine ⟨k + 1, _, by omega, ?_, rfl, by go_num, _, rfl⟩
        exact int_eq (by simpa using HS.out)
      case measure => simp [intOf]; omega
    · obtain rfl : k = 3 := by omega
      have hcan := fun w => can_any va w hv
      have hvp := fun w => vpn_any va w hv
      have hV : fld va 12 27 < 134217728 := fld_lt va 12 27
      have hjn := fun w => join_yes (fld va 12 27) va 0 w (by omega) hv (by omega)
      have s1 := spell_vpn va
      have s2 := spell_sign va
      have s3 := spell_join (fld va 12 27) va hv
      have s4 := spell_low va hv
      rw [show (2 : Nat) ^ (12 + 9 * 0) = 4096 from rfl] at hjn
      have hX : va % 2 ^ (12 + 9 * 3) = va % 549755813888 := rfl
      rw [hX]
      have hb : va % 549755813888 / 274877906944 = 0 ∨ va % 549755813888 / 274877906944 = 1 := by omega
      generalize fld va 12 27 = V at hvp hV hjn s1 s3
      generalize joinN V va 4096 = J at hjn s3
      generalize va / 274877906944 % 2 = D at s1 s2
      generalize va % 4096 = M at s3 s4
      clear I0 I1 I2 j0 j1 j2
      rcases hb with hb | hb
      · have hx := canon_low va hv hb
        have fb : (((va % 549755813888 : Nat) : Int) / 274877906944 == 1) = false := by simp; omega
        generalize va % 549755813888 = X at hx fb hb hX ⊢
        generalize canN va = c at hcan hx
        clear hb
        have HCAN := Lib.hid hcan
        have HV := Lib.hid hvp; have HJ := Lib.hid hjn
        clear hcan hvp hjn
        go_wp2_with fail
        refine (HCAN.out _).mono ?_
        rintro e w2 ⟨rfl, rfl⟩
        go_wp2_with fail
        refine (HV.out _).mono ?_
        rintro e w2 ⟨rfl, m, rfl⟩
        go_wp2_with fail
        refine (HV.out _).mono ?_
        rintro e w2 ⟨rfl, m2, rfl⟩
        go_wp2_with fail
        refine (HJ.out _).mono ?_
        rintro e w2 ⟨rfl, rfl⟩
        go_wp2
        go_ret
        refine ⟨rfl, ?_⟩
        repeat (first | (with_reducible refine Below.setCell ?_ ?ybel _; case ybel => (first | omega | (simp <;> omega))) | (with_reducible refine Below.alloc ?_ ?ybel _; case ybel => (first | omega | (simp <;> omega))) | (with_reducible refine below_drewNs ?_ _) | (with_reducible refine Below.drew ?_) | (with_reducible exact Below.refl _ _))
        exact HB1.out
      · have hx := canon_high va hv hb
        have fb : (((va % 549755813888 : Nat) : Int) / 274877906944 == 1) = true := by simp; omega
        have ho := or_high (va % 549755813888) (by omega)
        have hl : va % 549755813888 + 18446743523953737728 < 18446744073709551616 := by omega
        obtain ⟨Y, hY⟩ : ∃ Y, Y = va % 549755813888 + 18446743523953737728 := ⟨_, rfl⟩
        rw [← hY] at hx ho
        generalize va % 549755813888 = X at fb ho hX ⊢
        generalize canN va = c at hcan hx
        clear hb hl hY
        have HCAN := Lib.hid hcan
        have HV := Lib.hid hvp; have HJ := Lib.hid hjn
        clear hcan hvp hjn
        go_wp2_with fail
        refine (HCAN.out _).mono ?_
        rintro e w2 ⟨rfl, rfl⟩
        go_wp2_with fail
        refine (HV.out _).mono ?_
        rintro e w2 ⟨rfl, m, rfl⟩
        go_wp2_with fail
        refine (HV.out _).mono ?_
        rintro e w2 ⟨rfl, m2, rfl⟩
        go_wp2_with fail
        refine (HJ.out _).mono ?_
        rintro e w2 ⟨rfl, rfl⟩
        go_wp2
        go_ret
        refine ⟨rfl, ?_⟩
        repeat (first | (with_reducible refine Below.setCell ?_ ?ybel _; case ybel => (first | omega | (simp <;> omega))) | (with_reducible refine Below.alloc ?_ ?ybel _; case ybel => (first | omega | (simp <;> omega))) | (with_reducible refine below_drewNs ?_ _) | (with_reducible refine Below.drew ?_) | (with_reducible exact Below.refl _ _))
        exact HB1.out
theorem index_all (va : Nat) (l : Int) (w : World) (hv : va < 18446744073709551616) : Calls Try.prog 19 #[.int .u64 va, .int .i64 l] w fun e w' => e = .returned (.int .i64 (idxN va l)) ∧ ∃ k, w' = w.drewN k := by
  by_cases h : 0 ≤ l ∧ l < 3
  · obtain ⟨n, rfl⟩ : ∃ n : Nat, l = n := ⟨l.toNat, by omega⟩
    (try unfold idxN); (try unfold spnN); (try unfold joiN)
    rw [if_pos h, Int.toNat_natCast]
    exact (index_yes va n w hv (by omega)).mono fun _ _ h => h
  · (try unfold idxN); (try unfold spnN); (try unfold joiN)
    rw [if_neg h]
    exact (index_no va l w h).mono fun _ _ h => ⟨h.1, 0, h.2.symm⟩
theorem rindex_all (va : Nat) (l : Int) (w : World) (hv : va < 18446744073709551616) : Calls Try.prog 16 #[.int .u64 va, .int .i64 l] w fun e w' => e = .returned (.int .i64 (idxN va l)) ∧ ∃ k, w' = w.drewN k := by
  by_cases h : 0 ≤ l ∧ l < 3
  · obtain ⟨n, rfl⟩ : ∃ n : Nat, l = n := ⟨l.toNat, by omega⟩
    (try unfold idxN); (try unfold spnN); (try unfold joiN)
    rw [if_pos h, Int.toNat_natCast]
    exact (rindex_yes va n w hv (by omega)).mono fun _ _ h => h
  · (try unfold idxN); (try unfold spnN); (try unfold joiN)
    rw [if_neg h]
    exact (rindex_no va l w h).mono fun _ _ h => ⟨h.1, 0, h.2.symm⟩
theorem span_all  (l : Int) (w : World) : Calls Try.prog 20 #[.int .i64 l] w fun e w' => e = .returned (.int .u64 (spnN l)) ∧ w = w' := by
  by_cases h : 0 ≤ l ∧ l < 3
  · obtain ⟨n, rfl⟩ : ∃ n : Nat, l = n := ⟨l.toNat, by omega⟩
    (try unfold idxN); (try unfold spnN); (try unfold joiN)
    rw [if_pos h, Int.toNat_natCast]
    exact (span_yes n w (by omega)).mono fun _ _ h => h
  · (try unfold idxN); (try unfold spnN); (try unfold joiN)
    rw [if_neg h]
    exact (span_no l w h).mono fun _ _ h => h
theorem rspan_all  (l : Int) (w : World) : Calls Try.prog 21 #[.int .i64 l] w fun e w' => e = .returned (.int .u64 (spnN l)) ∧ w = w' := by
  by_cases h : 0 ≤ l ∧ l < 3
  · obtain ⟨n, rfl⟩ : ∃ n : Nat, l = n := ⟨l.toNat, by omega⟩
    (try unfold idxN); (try unfold spnN); (try unfold joiN)
    rw [if_pos h, Int.toNat_natCast]
    exact (rspan_yes n w (by omega)).mono fun _ _ h => h
  · (try unfold idxN); (try unfold spnN); (try unfold joiN)
    rw [if_neg h]
    exact (rspan_no l w h).mono fun _ _ h => h
theorem join_all (ppn va : Nat) (l : Int) (w : World) (hp : ppn < 18446744073709551616) (hv : va < 18446744073709551616) : Calls Try.prog 22 #[.int .u64 ppn, .int .u64 va, .int .i64 l] w fun e w' => e = .returned (.int .u64 (joiN ppn va l)) ∧ w = w' := by
  by_cases h : 0 ≤ l ∧ l < 3
  · obtain ⟨n, rfl⟩ : ∃ n : Nat, l = n := ⟨l.toNat, by omega⟩
    (try unfold idxN); (try unfold spnN); (try unfold joiN)
    rw [if_pos h, Int.toNat_natCast]
    exact (join_yes ppn va n w hp hv (by omega)).mono fun _ _ h => h
  · (try unfold idxN); (try unfold spnN); (try unfold joiN)
    rw [if_neg h]
    exact (join_no ppn va l w h).mono fun _ _ h => h
theorem rjoin_all (ppn va : Nat) (l : Int) (w : World) (hp : ppn < 18446744073709551616) (hv : va < 18446744073709551616) : Calls Try.prog 23 #[.int .u64 ppn, .int .u64 va, .int .i64 l] w fun e w' => e = .returned (.int .u64 (joiN ppn va l)) ∧ ∃ k, w' = w.drewN k := by
  by_cases h : 0 ≤ l ∧ l < 3
  · obtain ⟨n, rfl⟩ : ∃ n : Nat, l = n := ⟨l.toNat, by omega⟩
    (try unfold idxN); (try unfold spnN); (try unfold joiN)
    rw [if_pos h, Int.toNat_natCast]
    exact (rjoin_yes ppn va n w hp hv (by omega)).mono fun _ _ h => h
  · (try unfold idxN); (try unfold spnN); (try unfold joiN)
    rw [if_neg h]
    exact (rjoin_no ppn va l w h).mono fun _ _ h => ⟨h.1, 0, h.2.symm⟩
end Go.Proofs.Ytjghhgkgjeedeaa
