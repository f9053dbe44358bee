/-
  What Get of package runrigref15 answers: a contract over the translation. It says its own conditions.
-/
import Derived.Test.YtkddhjbdijegoaaDoorMsH15
namespace Go.Proofs.YtkddhjbdijegoaaDoor
open Go.RowKit
set_option linter.unusedVariables false
set_option linter.unusedSimpArgs false
attribute [local go_sem] setCell_drewN alloc_drewN

theorem load_b15 {w : World} {b k : Nat} {x : Int} (h : w.cell? ⟨b, k, none⟩ = some (.int .u8 x)) : (Instr.loadAt 5 (.pointer (some ⟨b, k, none⟩))).run Tryd.prog w = .ok (.int .u8 x) w := by
  go_simp
theorem yield_b15 {w : World} {b k : Nat} {x : Int} (a : Act) (o : Oper) (y : Operand) (ho : o.op = .load 5 y) (hx : a.eval y = .pointer (some ⟨b, k, none⟩)) (h : w.cell? ⟨b, k, none⟩ = some (.int .u8 x)) :
    (execOp a.eval o).run Tryd.prog w = .ok (.value (.int .u8 x)) w := by
  have e := load_b15 h
  obtain ⟨op, _, _, _, _, _⟩ := o
  dsimp only at ho
  subst ho
  unfold execOp
  simp only [hx]
  simp [e]
theorem load_n15 {w : World} {b k : Nat} (h : w.cell? ⟨b, k, none⟩ = some (.slice none 0 0)) : (Instr.loadAt 24 (.pointer (some ⟨b, k, none⟩))).run Tryd.prog w = .ok (.slice none 0 0) w := by
  go_simp
theorem yield_n15 {w : World} {b k : Nat} (a : Act) (o : Oper) (y : Operand) (ho : o.op = .load 24 y) (hx : a.eval y = .pointer (some ⟨b, k, none⟩)) (h : w.cell? ⟨b, k, none⟩ = some (.slice none 0 0)) :
    (execOp a.eval o).run Tryd.prog w = .ok (.value (.slice none 0 0)) w := by
  have e := load_n15 h
  obtain ⟨op, _, _, _, _, _⟩ := o
  dsimp only at ho
  subst ho
  unfold execOp
  simp only [hx]
  simp [e]
theorem load_m15 {w : World} {b : Nat} {c0 c1 c2 c3 c4 c5 : Value} (h : Blk w b [c0, c1, c2, c3, c4, c5] 26) :
    (Instr.loadAt 26 (.pointer (some ⟨b, 0, none⟩))).run Tryd.prog w = .ok (.agg #[c0, c1, c2, c3, c4, c5]) w := by
  have h0 : w.cell? ⟨b, 0, none⟩ = some c0 := h.cell 0
  have h1 : w.cell? ⟨b, 1, none⟩ = some c1 := h.cell 1
  have h2 : w.cell? ⟨b, 2, none⟩ = some c2 := h.cell 2
  have h3 : w.cell? ⟨b, 3, none⟩ = some c3 := h.cell 3
  have h4 : w.cell? ⟨b, 4, none⟩ = some c4 := h.cell 4
  have h5 : w.cell? ⟨b, 5, none⟩ = some c5 := h.cell 5
  clear h
  go_simp
theorem yield_m15 {w : World} {b : Nat} {c0 c1 c2 c3 c4 c5 : Value} (a : Act) (o : Oper) (x : Operand) (ho : o.op = .load 26 x) (hx : a.eval x = .pointer (some ⟨b, 0, none⟩)) (h : Blk w b [c0, c1, c2, c3, c4, c5] 26) :
    (execOp a.eval o).run Tryd.prog w = .ok (.value (.agg #[c0, c1, c2, c3, c4, c5])) w := by
  have e := load_m15 h
  obtain ⟨op, _, _, _, _, _⟩ := o
  dsimp only at ho
  subst ho
  unfold execOp
  simp only [hx]
  simp [e]
set_option maxHeartbeats 4000000 in
theorem rget_any (A : Option Addr) (n cap : Nat) (d : List Int) (w : World) (hd : Dat w A n cap d) : Calls Tryd.prog 15 #[.slice A n cap] w fun e w' =>
    (∃ A2 cap2, e = .returned (.tuple #[.agg #[.int .i64 (getM d).k, .int .i64 (getM d).p, .int .i64 (getM d).n, .int .i64 (getM d).h, .int .u16 (getM d).s, .slice A2 (getM d).d.length cap2], .bool (isM d)]) ∧ Dat w' A2 (getM d).d.length cap2 (getM d).d) ∧ Below w.heap.size w w' := by
  have HD := Lib.hid hd
  have hle := hd.le
  have zdat : ∀ w', Dat w' none ([] : List Int).length 0 [] := fun w' => ⟨⟨Byt.nil, by simp, fun h => by simp at h⟩, rfl, fun _ => rfl, Nat.le_refl _⟩
  have HZD := Lib.hid zdat
  have hlen := hd.len
  have hby := hd.rd.1
  have hgz : isM d = false → getM d = z15 := fun h => by unfold getM; rw [h]; rfl
  have HGZ := Lib.hid hgz
  obtain ⟨i0, hi, hz0, hz1, hz2⟩ := info_parts info_u8
  clear hd zdat hgz
  by_cases h11 : 11 ≤ n
  · by_cases h41 : n ≤ 4107
    · obtain ⟨b, off, rfl, hc⟩ := HD.out.rd.2.2 (by omega)
      obtain ⟨a0, ha0, hb0⟩ : ∃ a : Nat, d.getD 0 0 = a ∧ a ≤ 255 := ⟨(d.getD 0 0).toNat, by have := hby.getD 0; omega, by have := hby.getD 0; omega⟩
      obtain ⟨a1, ha1, hb1⟩ : ∃ a : Nat, d.getD 1 0 = a ∧ a ≤ 255 := ⟨(d.getD 1 0).toNat, by have := hby.getD 1; omega, by have := hby.getD 1; omega⟩
      obtain ⟨a2, ha2, hb2⟩ : ∃ a : Nat, d.getD 2 0 = a ∧ a ≤ 255 := ⟨(d.getD 2 0).toNat, by have := hby.getD 2; omega, by have := hby.getD 2; omega⟩
      obtain ⟨a3, ha3, hb3⟩ : ∃ a : Nat, d.getD 3 0 = a ∧ a ≤ 255 := ⟨(d.getD 3 0).toNat, by have := hby.getD 3; omega, by have := hby.getD 3; omega⟩
      obtain ⟨a4, ha4, hb4⟩ : ∃ a : Nat, d.getD 4 0 = a ∧ a ≤ 255 := ⟨(d.getD 4 0).toNat, by have := hby.getD 4; omega, by have := hby.getD 4; omega⟩
      obtain ⟨a5, ha5, hb5⟩ : ∃ a : Nat, d.getD 5 0 = a ∧ a ≤ 255 := ⟨(d.getD 5 0).toNat, by have := hby.getD 5; omega, by have := hby.getD 5; omega⟩
      obtain ⟨a6, ha6, hb6⟩ : ∃ a : Nat, d.getD 6 0 = a ∧ a ≤ 255 := ⟨(d.getD 6 0).toNat, by have := hby.getD 6; omega, by have := hby.getD 6; omega⟩
      obtain ⟨a7, ha7, hb7⟩ : ∃ a : Nat, d.getD 7 0 = a ∧ a ≤ 255 := ⟨(d.getD 7 0).toNat, by have := hby.getD 7; omega, by have := hby.getD 7; omega⟩
      obtain ⟨a8, ha8, hb8⟩ : ∃ a : Nat, d.getD 8 0 = a ∧ a ≤ 255 := ⟨(d.getD 8 0).toNat, by have := hby.getD 8; omega, by have := hby.getD 8; omega⟩
      have k0 := hc 0 (by omega)
      rw [ha0] at k0
      have k1 := hc 1 (by omega)
      rw [ha1] at k1
      have k2 := hc 2 (by omega)
      rw [ha2] at k2
      have k3 := hc 3 (by omega)
      rw [ha3] at k3
      have k4 := hc 4 (by omega)
      rw [ha4] at k4
      have k5 := hc 5 (by omega)
      rw [ha5] at k5
      have k6 := hc 6 (by omega)
      rw [ha6] at k6
      have k7 := hc 7 (by omega)
      rw [ha7] at k7
      have k8 := hc 8 (by omega)
      rw [ha8] at k8
      obtain ⟨p, hp⟩ : ∃ p, p = a3 + 256 * a4 := ⟨_, rfl⟩
      obtain ⟨s, hs⟩ : ∃ s, s = a7 + 256 * a8 := ⟨_, rfl⟩
      have hmk : isR.mkR d = ⟨a0, p, a1, a2, s, d.drop 11⟩ := by
        unfold isR.mkR
        rw [ha0, ha1, ha2, ha3, ha4, ha7, ha8, hp, hs]; simp
      have hM : isM d = (decide (a5 = 0) && (decide (a6 = 0) && (rgt ⟨a0, p, a1, a2, s, d.drop 11⟩ && decide (putM ⟨a0, p, a1, a2, s, d.drop 11⟩ = d)))) := by
        rw [← isR_eq hby]
        unfold isR
        rw [hmk, hlen, decide_eq_true h11, decide_eq_true h41, ha5, ha6, Bool.true_and, Bool.true_and]
        simp
      have hgt : isM d = true → getM d = ⟨a0, p, a1, a2, s, d.drop 11⟩ := fun h => by
        unfold getM
        rw [h, if_pos rfl, ← mkR_eq hby h, hmk]
      have HM := Lib.hid hM; have HGT := Lib.hid hgt; have H11 := Lib.hid h11
      have HB := Lib.hid hby
      have e1 : IntKind.i64.wrap (256 * (a4 : Int)) = 256 * (a4 : Int) := by simp [IntKind.wrap, IntKind.signed, IntKind.bits]; omega
      have e2 : IntKind.i64.wrap ((a3 : Int) + 256 * (a4 : Int)) = (p : Int) := by rw [hp]; simp [IntKind.wrap, IntKind.signed, IntKind.bits]; omega
      have e3 : IntKind.u16.wrap (256 * (a8 : Int)) = 256 * (a8 : Int) := by simp [IntKind.wrap, IntKind.signed, IntKind.bits]; omega
      have e4 : IntKind.u16.wrap ((a7 : Int) + 256 * (a8 : Int)) = (s : Int) := by rw [hs]; simp [IntKind.wrap, IntKind.signed, IntKind.bits]; omega
      have hs16 : s < 65536 := by omega
      have h11n : ¬ (n : Int) < 11 := by omega
      have h11i : (11 : Int) ≤ n := by omega
      have h41n : ¬ (4107 : Int) < n := by omega
      have h11c : (11 : Nat) ≤ cap := by have := HD.out.lc; omega
      have hlc := HD.out.lc
      have hcap : Hid (∀ i, i < d.length → w.cell? ⟨b, off + i, none⟩ = some (.int .u8 (d.getD i 0))) := Lib.hid hc
      have l0 : 0 < n := by omega
      have l1 : (1 : Int) < n := by omega
      have l2 : (2 : Int) < n := by omega
      have l3 : (3 : Int) < n := by omega
      have l4 : (4 : Int) < n := by omega
      have l5 : (5 : Int) < n := by omega
      have l6 : (6 : Int) < n := by omega
      have l7 : (7 : Int) < n := by omega
      have l8 : (8 : Int) < n := by omega
      have K0b := Lib.hid k0
      have K1b := Lib.hid k1
      have K2b := Lib.hid k2
      have K3b := Lib.hid k3
      have K4b := Lib.hid k4
      have K5b := Lib.hid k5
      have K6b := Lib.hid k6
      have K7b := Lib.hid k7
      have K8b := Lib.hid k8
      clear hM hgt hmk h11 hby hc ha0 ha1 ha2 ha3 ha4 ha5 ha6 ha7 ha8 k0 k1 k2 k3 k4 k5 k6 k7 k8 hp hs
      go_enter Tryd.func15, Tryd.ntmps15
      go_upto_region 1 with (fail)
      have nb0 : Blk (w.alloc (.cells #[.int .i64 0, .int .i64 0, .int .i64 0, .int .i64 0, .int .u16 0, .slice none 0 0] 26)) (w.heap.size) [.int .i64 0, .int .i64 0, .int .i64 0, .int .i64 0, .int .u16 0, .slice none 0 0] 26 := Blk.new w [.int .i64 0, .int .i64 0, .int .i64 0, .int .i64 0, .int .u16 0, .slice none 0 0] 26
      have nls : Below w.heap.size w w := (Below.refl w.heap.size w)
      have nl0 := nls.alloc nls.size (.cells #[.int .i64 0, .int .i64 0, .int .i64 0, .int .i64 0, .int .u16 0, .slice none 0 0] 26)
      have nl : Below w.heap.size w (w.alloc (.cells #[.int .i64 0, .int .i64 0, .int .i64 0, .int .i64 0, .int .u16 0, .slice none 0 0] 26)) := nl0; clear nls nl0
      obtain ⟨B1, hB0⟩ : ∃ B, B = w.heap.size := ⟨_, rfl⟩
      obtain ⟨W1, hW⟩ : ∃ W, W = (w.alloc (.cells #[.int .i64 0, .int .i64 0, .int .i64 0, .int .i64 0, .int .u16 0, .slice none 0 0] 26)) := ⟨_, rfl⟩
      rw [← hW] at nl nb0
      rw [← hB0] at nb0
      rw [← hW]
      try rw [← hB0]
      have K1_0 := Lib.hid nb0
      have G1 : Hid (w.heap.size ≤ B1) := Lib.hid (by have := (Nat.le_refl w.heap.size); omega)
      have L1 := Lib.hid nl
      clear nl hW nb0 hB0
      go_upto_region 3 with (fail)
      refine wp_region_held_drew (S := fun w' => w'.cell? ⟨b, off + 0, none⟩ = some (.int .u8 (a0 : Int)) ∧ w'.cell? ⟨b, off + 1, none⟩ = some (.int .u8 (a1 : Int)) ∧ w'.cell? ⟨b, off + 2, none⟩ = some (.int .u8 (a2 : Int)) ∧ w'.cell? ⟨b, off + 3, none⟩ = some (.int .u8 (a3 : Int)) ∧ w'.cell? ⟨b, off + 4, none⟩ = some (.int .u8 (a4 : Int)) ∧ w'.cell? ⟨b, off + 7, none⟩ = some (.int .u8 (a7 : Int)) ∧ w'.cell? ⟨b, off + 8, none⟩ = some (.int .u8 (a8 : Int))) (by kernel_rfl) ⟨((L1.out.drew).cell (p := ⟨b, off + 0, none⟩) (cell_lt K0b.out)).trans K0b.out, ((L1.out.drew).cell (p := ⟨b, off + 1, none⟩) (cell_lt K1b.out)).trans K1b.out, ((L1.out.drew).cell (p := ⟨b, off + 2, none⟩) (cell_lt K2b.out)).trans K2b.out, ((L1.out.drew).cell (p := ⟨b, off + 3, none⟩) (cell_lt K3b.out)).trans K3b.out, ((L1.out.drew).cell (p := ⟨b, off + 4, none⟩) (cell_lt K4b.out)).trans K4b.out, ((L1.out.drew).cell (p := ⟨b, off + 7, none⟩) (cell_lt K7b.out)).trans K7b.out, ((L1.out.drew).cell (p := ⟨b, off + 8, none⟩) (cell_lt K8b.out)).trans K8b.out⟩ (fun hHeld => ?_)
      clear hHeld
      obtain ⟨D2, hD⟩ : ∃ x, x = W1.drew := ⟨_, rfl⟩
      rw [← hD]
      have K2_0 := Lib.hid (show Blk D2 B1 [.int .i64 0, .int .i64 0, .int .i64 0, .int .i64 0, .int .u16 0, .slice none 0 0] 26 from hD ▸ Blk.drewN K1_0.out 1)
      have L2 := Lib.hid (show Below w.heap.size w D2 from hD ▸ L1.out.drew)
      clear hD K1_0
      have hSD2 : D2.cell? ⟨b, off + 0, none⟩ = some (.int .u8 (a0 : Int)) ∧ D2.cell? ⟨b, off + 1, none⟩ = some (.int .u8 (a1 : Int)) ∧ D2.cell? ⟨b, off + 2, none⟩ = some (.int .u8 (a2 : Int)) ∧ D2.cell? ⟨b, off + 3, none⟩ = some (.int .u8 (a3 : Int)) ∧ D2.cell? ⟨b, off + 4, none⟩ = some (.int .u8 (a4 : Int)) ∧ D2.cell? ⟨b, off + 7, none⟩ = some (.int .u8 (a7 : Int)) ∧ D2.cell? ⟨b, off + 8, none⟩ = some (.int .u8 (a8 : Int)) := ⟨(L2.out.cell (p := ⟨b, off + 0, none⟩) (cell_lt K0b.out)).trans K0b.out, (L2.out.cell (p := ⟨b, off + 1, none⟩) (cell_lt K1b.out)).trans K1b.out, (L2.out.cell (p := ⟨b, off + 2, none⟩) (cell_lt K2b.out)).trans K2b.out, (L2.out.cell (p := ⟨b, off + 3, none⟩) (cell_lt K3b.out)).trans K3b.out, (L2.out.cell (p := ⟨b, off + 4, none⟩) (cell_lt K4b.out)).trans K4b.out, (L2.out.cell (p := ⟨b, off + 7, none⟩) (cell_lt K7b.out)).trans K7b.out, (L2.out.cell (p := ⟨b, off + 8, none⟩) (cell_lt K8b.out)).trans K8b.out⟩
      simp only [List.size_toArray, List.length_cons, List.length_nil, Nat.reduceAdd]
      rw [show Array.replicate 35 false = [false, false, false, false, false, false, false, false, false, false, false, false, false, false, false, false, false, false, false, false, false, false, false, false, false, false, false, false, false, false, false, false, false, false, false].toArray from rfl]
      refine wpAnyH_take (i := 0) (v := ?_) rfl (by kernel_rfl) (by kernel_rfl) (by kernel_rfl) (fun _ _ _ h => h) (Or.inl ⟨by rfl, ?yldq⟩) (by assumption) ?_
      case yldq => (intro w hSw; (try dsimp only at hSw); go_simp; try with_reducible rfl)
      try simp only [Act.put, List.setIfInBounds_toArray, List.set_cons_zero, List.set_cons_succ, List.getElem_toArray, List.getElem_cons_succ, List.getElem_cons_zero]
      refine wpAnyH_take (i := 1) (v := ?_) rfl (by kernel_rfl) (by kernel_rfl) (by kernel_rfl) (fun _ _ _ h => h) (Or.inl ⟨by rfl, ?yldq⟩) (by assumption) ?_
      case yldq => (intro w hSw; (try dsimp only at hSw); go_simp; try with_reducible rfl)
      try simp only [Act.put, List.setIfInBounds_toArray, List.set_cons_zero, List.set_cons_succ, List.getElem_toArray, List.getElem_cons_succ, List.getElem_cons_zero]
      refine wpAnyH_take (i := 2) (v := _) rfl (by kernel_rfl) (by kernel_rfl) (by kernel_rfl) (fun _ _ _ h => h) (Or.inl ⟨by rfl, fun w hSw => yield_b15 _ _ _ rfl rfl hSw.1⟩) (by assumption) ?_
      try simp only [Act.put, List.setIfInBounds_toArray, List.set_cons_zero, List.set_cons_succ, List.getElem_toArray, List.getElem_cons_succ, List.getElem_cons_zero]
      refine wpAnyH_take (i := 3) (v := ?_) rfl (by kernel_rfl) (by kernel_rfl) (by kernel_rfl) (fun _ _ _ h => h) (Or.inl ⟨by rfl, ?yldq⟩) (by assumption) ?_
      case yldq => (intro w hSw; (try dsimp only at hSw); go_simp; try with_reducible rfl)
      try simp only [Act.put, List.setIfInBounds_toArray, List.set_cons_zero, List.set_cons_succ, List.getElem_toArray, List.getElem_cons_succ, List.getElem_cons_zero]
      refine wpAnyH_take (i := 4) (v := ?_) rfl (by kernel_rfl) (by kernel_rfl) (by kernel_rfl) (fun _ _ _ h => h) (Or.inl ⟨by rfl, ?yldq⟩) (by assumption) ?_
      case yldq => (intro w hSw; (try dsimp only at hSw); go_simp; try with_reducible rfl)
      try simp only [Act.put, List.setIfInBounds_toArray, List.set_cons_zero, List.set_cons_succ, List.getElem_toArray, List.getElem_cons_succ, List.getElem_cons_zero]
      refine wpAnyH_take (i := 5) (v := ?_) rfl (by kernel_rfl) (by kernel_rfl) (by kernel_rfl) (fun _ _ _ h => h) (Or.inl ⟨by rfl, ?yldq⟩) (by assumption) ?_
      case yldq => (intro w hSw; (try dsimp only at hSw); go_simp; try with_reducible rfl)
      try simp only [Act.put, List.setIfInBounds_toArray, List.set_cons_zero, List.set_cons_succ, List.getElem_toArray, List.getElem_cons_succ, List.getElem_cons_zero]
      refine wpAnyH_take (i := 6) (v := _) rfl (by kernel_rfl) (by kernel_rfl) (by kernel_rfl) (fun _ _ _ h => h) (Or.inl ⟨by rfl, fun w hSw => yield_b15 _ _ _ rfl rfl hSw.2.1⟩) (by assumption) ?_
      try simp only [Act.put, List.setIfInBounds_toArray, List.set_cons_zero, List.set_cons_succ, List.getElem_toArray, List.getElem_cons_succ, List.getElem_cons_zero]
      refine wpAnyH_take (i := 7) (v := ?_) rfl (by kernel_rfl) (by kernel_rfl) (by kernel_rfl) (fun _ _ _ h => h) (Or.inl ⟨by rfl, ?yldq⟩) (by assumption) ?_
      case yldq => (intro w hSw; (try dsimp only at hSw); go_simp; try with_reducible rfl)
      try simp only [Act.put, List.setIfInBounds_toArray, List.set_cons_zero, List.set_cons_succ, List.getElem_toArray, List.getElem_cons_succ, List.getElem_cons_zero]
      refine wpAnyH_take (i := 8) (v := ?_) rfl (by kernel_rfl) (by kernel_rfl) (by kernel_rfl) (fun _ _ _ h => h) (Or.inl ⟨by rfl, ?yldq⟩) (by assumption) ?_
      case yldq => (intro w hSw; (try dsimp only at hSw); go_simp; try with_reducible rfl)
      try simp only [Act.put, List.setIfInBounds_toArray, List.set_cons_zero, List.set_cons_succ, List.getElem_toArray, List.getElem_cons_succ, List.getElem_cons_zero]
      refine wpAnyH_take (i := 9) (v := ?_) rfl (by kernel_rfl) (by kernel_rfl) (by kernel_rfl) (fun _ _ _ h => h) (Or.inl ⟨by rfl, ?yldq⟩) (by assumption) ?_
      case yldq => (intro w hSw; (try dsimp only at hSw); go_simp; try with_reducible rfl)
      try simp only [Act.put, List.setIfInBounds_toArray, List.set_cons_zero, List.set_cons_succ, List.getElem_toArray, List.getElem_cons_succ, List.getElem_cons_zero]
      refine wpAnyH_take (i := 10) (v := _) rfl (by kernel_rfl) (by kernel_rfl) (by kernel_rfl) (fun _ _ _ h => h) (Or.inl ⟨by rfl, fun w hSw => yield_b15 _ _ _ rfl rfl hSw.2.2.1⟩) (by assumption) ?_
      try simp only [Act.put, List.setIfInBounds_toArray, List.set_cons_zero, List.set_cons_succ, List.getElem_toArray, List.getElem_cons_succ, List.getElem_cons_zero]
      refine wpAnyH_take (i := 11) (v := ?_) rfl (by kernel_rfl) (by kernel_rfl) (by kernel_rfl) (fun _ _ _ h => h) (Or.inl ⟨by rfl, ?yldq⟩) (by assumption) ?_
      case yldq => (intro w hSw; (try dsimp only at hSw); go_simp; try with_reducible rfl)
      try simp only [Act.put, List.setIfInBounds_toArray, List.set_cons_zero, List.set_cons_succ, List.getElem_toArray, List.getElem_cons_succ, List.getElem_cons_zero]
      refine wpAnyH_take (i := 12) (v := ?_) rfl (by kernel_rfl) (by kernel_rfl) (by kernel_rfl) (fun _ _ _ h => h) (Or.inl ⟨by rfl, ?yldq⟩) (by assumption) ?_
      case yldq => (intro w hSw; (try dsimp only at hSw); go_simp; try with_reducible rfl)
      try simp only [Act.put, List.setIfInBounds_toArray, List.set_cons_zero, List.set_cons_succ, List.getElem_toArray, List.getElem_cons_succ, List.getElem_cons_zero]
      refine wpAnyH_take (i := 13) (v := ?_) rfl (by kernel_rfl) (by kernel_rfl) (by kernel_rfl) (fun _ _ _ h => h) (Or.inl ⟨by rfl, ?yldq⟩) (by assumption) ?_
      case yldq => (intro w hSw; (try dsimp only at hSw); go_simp; try with_reducible rfl)
      try simp only [Act.put, List.setIfInBounds_toArray, List.set_cons_zero, List.set_cons_succ, List.getElem_toArray, List.getElem_cons_succ, List.getElem_cons_zero]
      refine wpAnyH_take (i := 14) (v := _) rfl (by kernel_rfl) (by kernel_rfl) (by kernel_rfl) (fun _ _ _ h => h) (Or.inl ⟨by rfl, fun w hSw => yield_b15 _ _ _ rfl rfl hSw.2.2.2.1⟩) (by assumption) ?_
      try simp only [Act.put, List.setIfInBounds_toArray, List.set_cons_zero, List.set_cons_succ, List.getElem_toArray, List.getElem_cons_succ, List.getElem_cons_zero]
      refine wpAnyH_take (i := 15) (v := ?_) rfl (by kernel_rfl) (by kernel_rfl) (by kernel_rfl) (fun _ _ _ h => h) (Or.inl ⟨by rfl, ?yldq⟩) (by assumption) ?_
      case yldq => (intro w hSw; (try dsimp only at hSw); go_simp; try with_reducible rfl)
      try simp only [Act.put, List.setIfInBounds_toArray, List.set_cons_zero, List.set_cons_succ, List.getElem_toArray, List.getElem_cons_succ, List.getElem_cons_zero]
      refine wpAnyH_take (i := 16) (v := ?_) rfl (by kernel_rfl) (by kernel_rfl) (by kernel_rfl) (fun _ _ _ h => h) (Or.inl ⟨by rfl, ?yldq⟩) (by assumption) ?_
      case yldq => (intro w hSw; (try dsimp only at hSw); go_simp; try with_reducible rfl)
      try simp only [Act.put, List.setIfInBounds_toArray, List.set_cons_zero, List.set_cons_succ, List.getElem_toArray, List.getElem_cons_succ, List.getElem_cons_zero]
      refine wpAnyH_take (i := 17) (v := ?_) rfl (by kernel_rfl) (by kernel_rfl) (by kernel_rfl) (fun _ _ _ h => h) (Or.inl ⟨by rfl, ?yldq⟩) (by assumption) ?_
      case yldq => (intro w hSw; (try dsimp only at hSw); go_simp; try with_reducible rfl)
      try simp only [Act.put, List.setIfInBounds_toArray, List.set_cons_zero, List.set_cons_succ, List.getElem_toArray, List.getElem_cons_succ, List.getElem_cons_zero]
      refine wpAnyH_take (i := 18) (v := _) rfl (by kernel_rfl) (by kernel_rfl) (by kernel_rfl) (fun _ _ _ h => h) (Or.inl ⟨by rfl, fun w hSw => yield_b15 _ _ _ rfl rfl hSw.2.2.2.2.1⟩) (by assumption) ?_
      try simp only [Act.put, List.setIfInBounds_toArray, List.set_cons_zero, List.set_cons_succ, List.getElem_toArray, List.getElem_cons_succ, List.getElem_cons_zero]
      refine wpAnyH_take (i := 19) (v := ?_) rfl (by kernel_rfl) (by kernel_rfl) (by kernel_rfl) (fun _ _ _ h => h) (Or.inl ⟨by rfl, ?yldq⟩) (by assumption) ?_
      case yldq => (intro w hSw; (try dsimp only at hSw); go_simp; try with_reducible rfl)
      try simp only [Act.put, List.setIfInBounds_toArray, List.set_cons_zero, List.set_cons_succ, List.getElem_toArray, List.getElem_cons_succ, List.getElem_cons_zero]
      refine wpAnyH_take (i := 20) (v := ?_) rfl (by kernel_rfl) (by kernel_rfl) (by kernel_rfl) (fun _ _ _ h => h) (Or.inl ⟨by rfl, ?yldq⟩) (by assumption) ?_
      case yldq => (intro w hSw; (try dsimp only at hSw); go_simp; try with_reducible rfl)
      try simp only [Act.put, List.setIfInBounds_toArray, List.set_cons_zero, List.set_cons_succ, List.getElem_toArray, List.getElem_cons_succ, List.getElem_cons_zero]
      refine wpAnyH_take (i := 21) (v := ?_) rfl (by kernel_rfl) (by kernel_rfl) (by kernel_rfl) (fun _ _ _ h => h) (Or.inl ⟨by rfl, ?yldq⟩) (by assumption) ?_
      case yldq => (intro w hSw; (try dsimp only at hSw); go_simp; try with_reducible rfl)
      try simp only [Act.put, List.setIfInBounds_toArray, List.set_cons_zero, List.set_cons_succ, List.getElem_toArray, List.getElem_cons_succ, List.getElem_cons_zero]
      refine wpAnyH_take (i := 22) (v := ?_) rfl (by kernel_rfl) (by kernel_rfl) (by kernel_rfl) (fun _ _ _ h => h) (Or.inl ⟨by rfl, ?yldq⟩) (by assumption) ?_
      case yldq => (intro w hSw; (try dsimp only at hSw); go_simp; try with_reducible rfl)
      try simp only [Act.put, List.setIfInBounds_toArray, List.set_cons_zero, List.set_cons_succ, List.getElem_toArray, List.getElem_cons_succ, List.getElem_cons_zero]
      refine wpAnyH_take (i := 23) (v := ?_) rfl (by kernel_rfl) (by kernel_rfl) (by kernel_rfl) (fun _ _ _ h => h) (Or.inl ⟨by rfl, ?yldq⟩) (by assumption) ?_
      case yldq => (intro w hSw; (try dsimp only at hSw); go_simp; try with_reducible rfl)
      try simp only [Act.put, List.setIfInBounds_toArray, List.set_cons_zero, List.set_cons_succ, List.getElem_toArray, List.getElem_cons_succ, List.getElem_cons_zero]
      refine wpAnyH_take (i := 24) (v := _) rfl (by kernel_rfl) (by kernel_rfl) (by kernel_rfl) (fun _ _ _ h => h) (Or.inl ⟨by rfl, fun w hSw => yield_b15 _ _ _ rfl rfl hSw.2.2.2.2.2.1⟩) (by assumption) ?_
      try simp only [Act.put, List.setIfInBounds_toArray, List.set_cons_zero, List.set_cons_succ, List.getElem_toArray, List.getElem_cons_succ, List.getElem_cons_zero]
      refine wpAnyH_take (i := 25) (v := ?_) rfl (by kernel_rfl) (by kernel_rfl) (by kernel_rfl) (fun _ _ _ h => h) (Or.inl ⟨by rfl, ?yldq⟩) (by assumption) ?_
      case yldq => (intro w hSw; (try dsimp only at hSw); go_simp; try with_reducible rfl)
      try simp only [Act.put, List.setIfInBounds_toArray, List.set_cons_zero, List.set_cons_succ, List.getElem_toArray, List.getElem_cons_succ, List.getElem_cons_zero]
      refine wpAnyH_take (i := 26) (v := ?_) rfl (by kernel_rfl) (by kernel_rfl) (by kernel_rfl) (fun _ _ _ h => h) (Or.inl ⟨by rfl, ?yldq⟩) (by assumption) ?_
      case yldq => (intro w hSw; (try dsimp only at hSw); go_simp; try with_reducible rfl)
      try simp only [Act.put, List.setIfInBounds_toArray, List.set_cons_zero, List.set_cons_succ, List.getElem_toArray, List.getElem_cons_succ, List.getElem_cons_zero]
      refine wpAnyH_take (i := 27) (v := ?_) rfl (by kernel_rfl) (by kernel_rfl) (by kernel_rfl) (fun _ _ _ h => h) (Or.inl ⟨by rfl, ?yldq⟩) (by assumption) ?_
      case yldq => (intro w hSw; (try dsimp only at hSw); go_simp; try with_reducible rfl)
      try simp only [Act.put, List.setIfInBounds_toArray, List.set_cons_zero, List.set_cons_succ, List.getElem_toArray, List.getElem_cons_succ, List.getElem_cons_zero]
      refine wpAnyH_take (i := 28) (v := _) rfl (by kernel_rfl) (by kernel_rfl) (by kernel_rfl) (fun _ _ _ h => h) (Or.inl ⟨by rfl, fun w hSw => yield_b15 _ _ _ rfl rfl hSw.2.2.2.2.2.2⟩) (by assumption) ?_
      try simp only [Act.put, List.setIfInBounds_toArray, List.set_cons_zero, List.set_cons_succ, List.getElem_toArray, List.getElem_cons_succ, List.getElem_cons_zero]
      refine wpAnyH_take (i := 29) (v := ?_) rfl (by kernel_rfl) (by kernel_rfl) (by kernel_rfl) (fun _ _ _ h => h) (Or.inl ⟨by rfl, ?yldq⟩) (by assumption) ?_
      case yldq => (intro w hSw; (try dsimp only at hSw); go_simp; try with_reducible rfl)
      try simp only [Act.put, List.setIfInBounds_toArray, List.set_cons_zero, List.set_cons_succ, List.getElem_toArray, List.getElem_cons_succ, List.getElem_cons_zero]
      refine wpAnyH_take (i := 30) (v := ?_) rfl (by kernel_rfl) (by kernel_rfl) (by kernel_rfl) (fun _ _ _ h => h) (Or.inl ⟨by rfl, ?yldq⟩) (by assumption) ?_
      case yldq => (intro w hSw; (try dsimp only at hSw); go_simp; try with_reducible rfl)
      try simp only [Act.put, List.setIfInBounds_toArray, List.set_cons_zero, List.set_cons_succ, List.getElem_toArray, List.getElem_cons_succ, List.getElem_cons_zero]
      refine wpAnyH_take (i := 31) (v := ?_) rfl (by kernel_rfl) (by kernel_rfl) (by kernel_rfl) (fun _ _ _ h => h) (Or.inl ⟨by rfl, ?yldq⟩) (by assumption) ?_
      case yldq => (intro w hSw; (try dsimp only at hSw); go_simp; try with_reducible rfl)
      try simp only [Act.put, List.setIfInBounds_toArray, List.set_cons_zero, List.set_cons_succ, List.getElem_toArray, List.getElem_cons_succ, List.getElem_cons_zero]
      refine wpAnyH_take (i := 32) (v := ?_) rfl (by kernel_rfl) (by kernel_rfl) (by kernel_rfl) (fun _ _ _ h => h) (Or.inl ⟨by rfl, ?yldq⟩) (by assumption) ?_
      case yldq => (intro w hSw; (try dsimp only at hSw); go_simp; try with_reducible rfl)
      try simp only [Act.put, List.setIfInBounds_toArray, List.set_cons_zero, List.set_cons_succ, List.getElem_toArray, List.getElem_cons_succ, List.getElem_cons_zero]
      have wa0 : IntKind.i64.wrap (a0 : Int) = a0 := by simp [IntKind.wrap, IntKind.signed, IntKind.bits]; omega
      have wa1 : IntKind.i64.wrap (a1 : Int) = a1 := by simp [IntKind.wrap, IntKind.signed, IntKind.bits]; omega
      have wa2 : IntKind.i64.wrap (a2 : Int) = a2 := by simp [IntKind.wrap, IntKind.signed, IntKind.bits]; omega
      have wa3 : IntKind.i64.wrap (a3 : Int) = a3 := by simp [IntKind.wrap, IntKind.signed, IntKind.bits]; omega
      have wa4 : IntKind.i64.wrap (a4 : Int) = a4 := by simp [IntKind.wrap, IntKind.signed, IntKind.bits]; omega
      have wa7 : IntKind.u16.wrap (a7 : Int) = a7 := by simp [IntKind.wrap, IntKind.signed, IntKind.bits]; omega
      have wa8 : IntKind.u16.wrap (a8 : Int) = a8 := by simp [IntKind.wrap, IntKind.signed, IntKind.bits]; omega
      simp only [wa0, wa1, wa2, wa3, wa4, wa7, wa8, e1, e2, e3, e4]
      clear wa0 wa1 wa2 wa3 wa4 wa7 wa8 e1 e2 e3 e4
      refine wpAnyH_ready (rs := [33]) (by kernel_rfl) (by simp) ?_
      refine AllReadyH.cons rfl (fun K hK => ?_) AllReadyH.nil
      go_simp
      have nb0 : Blk (D2.alloc (.cells #[.int .i64 0, .int .i64 0, .int .i64 0, .int .i64 0, .int .u16 0, .slice none 0 0] 26)) (D2.heap.size) [.int .i64 0, .int .i64 0, .int .i64 0, .int .i64 0, .int .u16 0, .slice none 0 0] 26 := Blk.new D2 [.int .i64 0, .int .i64 0, .int .i64 0, .int .i64 0, .int .u16 0, .slice none 0 0] 26
      have nls : Below w.heap.size w D2 := L2.out
      have nl0 := nls.alloc nls.size (.cells #[.int .i64 0, .int .i64 0, .int .i64 0, .int .i64 0, .int .u16 0, .slice none 0 0] 26)
      have nl : Below w.heap.size w (D2.alloc (.cells #[.int .i64 0, .int .i64 0, .int .i64 0, .int .i64 0, .int .u16 0, .slice none 0 0] 26)) := nl0; clear nls nl0
      have o0 : Blk (D2.alloc (.cells #[.int .i64 0, .int .i64 0, .int .i64 0, .int .i64 0, .int .u16 0, .slice none 0 0] 26)) B1 [.int .i64 0, .int .i64 0, .int .i64 0, .int .i64 0, .int .u16 0, .slice none 0 0] 26 := (K2_0.out.alloc (.cells #[.int .i64 0, .int .i64 0, .int .i64 0, .int .i64 0, .int .u16 0, .slice none 0 0] 26))
      have d3_0 : B1 < D2.heap.size := K2_0.out.lt
      obtain ⟨B3, hB0⟩ : ∃ B, B = D2.heap.size := ⟨_, rfl⟩
      obtain ⟨W3, hW⟩ : ∃ W, W = (D2.alloc (.cells #[.int .i64 0, .int .i64 0, .int .i64 0, .int .i64 0, .int .u16 0, .slice none 0 0] 26)) := ⟨_, rfl⟩
      rw [← hW] at nl nb0 o0
      rw [← hB0] at nb0
      rw [← hW]
      try rw [← hB0]
      have K3_0 := Lib.hid o0
      have K3_1 := Lib.hid nb0
      have G3 : Hid (w.heap.size ≤ B3) := Lib.hid (by have := L2.out.size; omega)
      have x3_0_0 : B1 ≠ B3 := by omega
      have X3_0_0 := Lib.hid x3_0_0; clear x3_0_0
      have L3 := Lib.hid nl
      clear nl hW nb0 hB0 o0 d3_0 K2_0
      refine hK.out _ _ ⟨(L3.out.cell (p := ⟨b, off + 0, none⟩) (cell_lt K0b.out)).trans K0b.out, (L3.out.cell (p := ⟨b, off + 1, none⟩) (cell_lt K1b.out)).trans K1b.out, (L3.out.cell (p := ⟨b, off + 2, none⟩) (cell_lt K2b.out)).trans K2b.out, (L3.out.cell (p := ⟨b, off + 3, none⟩) (cell_lt K3b.out)).trans K3b.out, (L3.out.cell (p := ⟨b, off + 4, none⟩) (cell_lt K4b.out)).trans K4b.out, (L3.out.cell (p := ⟨b, off + 7, none⟩) (cell_lt K7b.out)).trans K7b.out, (L3.out.cell (p := ⟨b, off + 8, none⟩) (cell_lt K8b.out)).trans K8b.out⟩ (fun hS33 => ?_)
      clear hK K
      refine wpAnyH_ready (rs := [34]) (by kernel_rfl) (by simp) ?_
      refine AllReadyH.cons rfl (fun K hK => ?_) AllReadyH.nil
      have m1_0 : W3.cell? ⟨B3, 0, none⟩ = some _ := K3_1.out.cell 0
      have m1_1 : W3.cell? ⟨B3, 1, none⟩ = some _ := K3_1.out.cell 1
      have m1_2 : W3.cell? ⟨B3, 2, none⟩ = some _ := K3_1.out.cell 2
      have m1_3 : W3.cell? ⟨B3, 3, none⟩ = some _ := K3_1.out.cell 3
      have m1_4 : W3.cell? ⟨B3, 4, none⟩ = some _ := K3_1.out.cell 4
      have m1_5 : W3.cell? ⟨B3, 5, none⟩ = some _ := K3_1.out.cell 5
      have mlt1 : B3 < W3.heap.size := K3_1.out.lt
      have mf1 : ∀ o, W3.frozen? ⟨B3, o, none⟩ = false := fun o => K3_1.out.free o
      go_simp
      clear m1_0 m1_1 m1_2 m1_3 m1_4 m1_5 mlt1 mf1
      obtain ⟨W4, hW⟩ : ∃ WX, WX = ((((((W3.setCell ⟨B3, 0, none⟩ (.int .i64 (a0 : Int))).setCell ⟨B3, 1, none⟩ (.int .i64 (p : Int))).setCell ⟨B3, 2, none⟩ (.int .i64 (a1 : Int))).setCell ⟨B3, 3, none⟩ (.int .i64 (a2 : Int))).setCell ⟨B3, 4, none⟩ (.int .u16 (s : Int))).setCell ⟨B3, 5, none⟩ (.slice none 0 0)) := ⟨_, rfl⟩
      rw [← hW]
      have K4_0 := Lib.hid (show Blk W4 B1 [.int .i64 0, .int .i64 0, .int .i64 0, .int .i64 0, .int .u16 0, .slice none 0 0] 26 from hW ▸ ((((((K3_0.out.other ⟨B3, 0, none⟩ (.int .i64 (a0 : Int)) X3_0_0.out).other ⟨B3, 1, none⟩ (.int .i64 (p : Int)) X3_0_0.out).other ⟨B3, 2, none⟩ (.int .i64 (a1 : Int)) X3_0_0.out).other ⟨B3, 3, none⟩ (.int .i64 (a2 : Int)) X3_0_0.out).other ⟨B3, 4, none⟩ (.int .u16 (s : Int)) X3_0_0.out).other ⟨B3, 5, none⟩ (.slice none 0 0) X3_0_0.out))
      have K4_1 := Lib.hid (show Blk W4 B3 [.int .i64 (a0 : Int), .int .i64 (p : Int), .int .i64 (a1 : Int), .int .i64 (a2 : Int), .int .u16 (s : Int), .slice none 0 0] 26 from hW ▸ ((((((K3_1.out.set 0 (.int .i64 (a0 : Int))).set 1 (.int .i64 (p : Int))).set 2 (.int .i64 (a1 : Int))).set 3 (.int .i64 (a2 : Int))).set 4 (.int .u16 (s : Int))).set 5 (.slice none 0 0)))
      have L4 := Lib.hid (show Below w.heap.size w W4 from hW ▸ (Below.setCell (Below.setCell (Below.setCell (Below.setCell (Below.setCell (Below.setCell L3.out G3.out _) G3.out _) G3.out _) G3.out _) G3.out _) G3.out _))
      clear hW K3_0 K3_1
      refine hK.out _ _ ⟨(L4.out.cell (p := ⟨b, off + 0, none⟩) (cell_lt K0b.out)).trans K0b.out, (L4.out.cell (p := ⟨b, off + 1, none⟩) (cell_lt K1b.out)).trans K1b.out, (L4.out.cell (p := ⟨b, off + 2, none⟩) (cell_lt K2b.out)).trans K2b.out, (L4.out.cell (p := ⟨b, off + 3, none⟩) (cell_lt K3b.out)).trans K3b.out, (L4.out.cell (p := ⟨b, off + 4, none⟩) (cell_lt K4b.out)).trans K4b.out, (L4.out.cell (p := ⟨b, off + 7, none⟩) (cell_lt K7b.out)).trans K7b.out, (L4.out.cell (p := ⟨b, off + 8, none⟩) (cell_lt K8b.out)).trans K8b.out⟩ (fun hS34 => ?_)
      clear hK K
      refine wpAnyH_done (by kernel_rfl) ?_ _
      clear hSD2 hS33 hS34
      go_upto_region 4 with (fail)
      refine wp_region_held_drew (S := fun _ => True) (by kernel_rfl) trivial (fun hHeld => ?_)
      clear hHeld
      obtain ⟨D5, hD⟩ : ∃ x, x = W4.drew := ⟨_, rfl⟩
      rw [← hD]
      have K5_0 := Lib.hid (show Blk D5 B1 [.int .i64 0, .int .i64 0, .int .i64 0, .int .i64 0, .int .u16 0, .slice none 0 0] 26 from hD ▸ Blk.drewN K4_0.out 1)
      have K5_1 := Lib.hid (show Blk D5 B3 [.int .i64 (a0 : Int), .int .i64 (p : Int), .int .i64 (a1 : Int), .int .i64 (a2 : Int), .int .u16 (s : Int), .slice none 0 0] 26 from hD ▸ Blk.drewN K4_1.out 1)
      have L5 := Lib.hid (show Below w.heap.size w D5 from hD ▸ L4.out.drew)
      clear hD K4_0 K4_1
      have hSD : True := trivial
      simp only [List.size_toArray, List.length_cons, List.length_nil, Nat.reduceAdd]
      rw [show Array.replicate 7 false = [false, false, false, false, false, false, false].toArray from rfl]
      refine wpAnyH_take (i := 0) (v := ?_) rfl (by kernel_rfl) (by kernel_rfl) (by kernel_rfl) (fun _ _ _ h => h) (Or.inl ⟨by rfl, ?yldq⟩) (by assumption) ?_
      case yldq => (intro w hSw; (try dsimp only at hSw); go_simp; try with_reducible rfl)
      try simp only [Act.put, List.setIfInBounds_toArray, List.set_cons_zero, List.set_cons_succ, List.getElem_toArray, List.getElem_cons_succ, List.getElem_cons_zero]
      refine wpAnyH_take (i := 2) (v := ?_) rfl (by kernel_rfl) (by kernel_rfl) (by kernel_rfl) (fun _ _ _ h => h) (Or.inl ⟨by rfl, ?yldq⟩) (by assumption) ?_
      case yldq => (intro w hSw; (try dsimp only at hSw); go_simp; try with_reducible rfl)
      try simp only [Act.put, List.setIfInBounds_toArray, List.set_cons_zero, List.set_cons_succ, List.getElem_toArray, List.getElem_cons_succ, List.getElem_cons_zero]
      refine wpAnyH_take (i := 3) (v := ?_) rfl (by kernel_rfl) (by kernel_rfl) (by kernel_rfl) (fun _ _ _ h => h) (Or.inl ⟨by rfl, ?yldq⟩) (by assumption) ?_
      case yldq => (intro w hSw; (try dsimp only at hSw); go_simp; try with_reducible rfl)
      try simp only [Act.put, List.setIfInBounds_toArray, List.set_cons_zero, List.set_cons_succ, List.getElem_toArray, List.getElem_cons_succ, List.getElem_cons_zero]
      obtain ⟨AA, hAA⟩ : ∃ AA, AA = (if cap = 11 then some (⟨b, off, none⟩ : Addr) else some ⟨b, off + 11, none⟩) := ⟨_, rfl⟩
      rw [← hAA]
      have HAA := Lib.hid hAA; clear hAA
      have hdd := (HD.out.below L5.out).from2 11 H11.out
      rw [← HAA.out] at hdd
      have hsr := hdd.src
      have lt1 : B1 < D5.heap.size := K5_0.out.lt
      have lt6 : B3 < D5.heap.size := K5_1.out.lt
      refine wpAnyH_ready (rs := [1]) (by kernel_rfl) (by simp) ?_
      refine AllReadyH.cons rfl (fun K hK => ?_) AllReadyH.nil
      have m1_0 : D5.cell? ⟨B3, 0, none⟩ = some _ := K5_1.out.cell 0
      have m1_1 : D5.cell? ⟨B3, 1, none⟩ = some _ := K5_1.out.cell 1
      have m1_2 : D5.cell? ⟨B3, 2, none⟩ = some _ := K5_1.out.cell 2
      have m1_3 : D5.cell? ⟨B3, 3, none⟩ = some _ := K5_1.out.cell 3
      have m1_4 : D5.cell? ⟨B3, 4, none⟩ = some _ := K5_1.out.cell 4
      have m1_5 : D5.cell? ⟨B3, 5, none⟩ = some _ := K5_1.out.cell 5
      have mlt1 : B3 < D5.heap.size := K5_1.out.lt
      go_simp
      clear m1_0 m1_1 m1_2 m1_3 m1_4 m1_5 mlt1
      refine hK.out _ _ trivial (fun hS1 => ?_)
      clear hK K
      refine wpAnyH_ready (rs := [4]) (by kernel_rfl) (by simp) ?_
      refine AllReadyH.cons rfl (fun K hK => ?_) AllReadyH.nil
      rw [if_pos (by rfl)]
      refine wp_append_src (.tmp 48) (.tmp 50) 24 rfl D5.heap.size 5 i0 (.int .u8 0) 1 1 Tryd.underlying24 hi hz0 hz1 hz2 rfl (by decide) (.slice none 0 0) 0 [] rfl (World.ownsRow_nil _ _ _ _) _ (n - 11) ((d.drop 11).map (Value.int .u8)) rfl hsr ?c1 ?c2 ?c3 ?c4 (Nat.le_refl _) ?_
      case c1 => rw [List.length_map, hdd.len, Nat.mul_one]
      case c2 => intro u hu; obtain ⟨x, _, rfl⟩ := List.mem_map.1 hu; rfl
      case c3 => unfold maxLen; omega
      case c4 => omega
      intro vv w20 ho hg
      have hov : OwnV D5.heap.size (d.drop 11) vv w20 := by unfold OwnV; rw [hdd.len]; simpa using ho
      have hb := (Below.refl D5.heap.size D5).grown hg (Nat.le_refl _) (fun k hk => by cases hk)
      clear ho hg hsr
      have L6 := Lib.hid (L5.out.trans (hb.mono L5.out.size))
      have K6_0 := Lib.hid (K5_0.out.below hb K5_0.out.lt)
      have K6_1 := Lib.hid (K5_1.out.below hb K5_1.out.lt)
      clear hb K5_0 K5_1
      have hlo := hov.lt
      obtain ⟨A2, cap2, rfl, hdt⟩ := OwnV.dat hov (HB.out.drop 11)
      obtain ⟨m2, hm2⟩ : ∃ m, m = (d.drop 11).length := ⟨_, rfl⟩
      rw [← hm2] at hdt hlo ⊢
      have hA2 : ∀ b o, A2 = some ⟨b, o, none⟩ → D5.heap.size ≤ b := fun b o e => (hlo b (by subst e; rfl)).1
      have neA : ∀ b o, A2 = some ⟨b, o, none⟩ → b ≠ B1 := fun b o e => by have := hA2 b o e; omega
      have neB : ∀ b o, A2 = some ⟨b, o, none⟩ → b ≠ B3 := fun b o e => by have := hA2 b o e; omega
      have NA := Lib.hid neA; have NB := Lib.hid neB; have T0 := Lib.hid hdt
      clear hlo hdt hA2 hov hm2 hdd neA neB lt1 lt6
      refine hK.out _ _ trivial (fun hS4 => ?_)
      clear hK K
      refine wpAnyH_take (i := 5) (v := ?_) rfl (by kernel_rfl) (by kernel_rfl) (by kernel_rfl) (fun _ _ _ h => h) (Or.inl ⟨by rfl, ?yldq⟩) (by assumption) ?_
      case yldq => (intro w hSw; (try dsimp only at hSw); go_simp; try with_reducible rfl)
      try simp only [Act.put, List.setIfInBounds_toArray, List.set_cons_zero, List.set_cons_succ, List.getElem_toArray, List.getElem_cons_succ, List.getElem_cons_zero]
      refine wpAnyH_ready (rs := [6]) (by kernel_rfl) (by simp) ?_
      refine AllReadyH.cons rfl (fun K hK => ?_) AllReadyH.nil
      have m1_0 : w20.cell? ⟨B3, 0, none⟩ = some _ := K6_1.out.cell 0
      have m1_1 : w20.cell? ⟨B3, 1, none⟩ = some _ := K6_1.out.cell 1
      have m1_2 : w20.cell? ⟨B3, 2, none⟩ = some _ := K6_1.out.cell 2
      have m1_3 : w20.cell? ⟨B3, 3, none⟩ = some _ := K6_1.out.cell 3
      have m1_4 : w20.cell? ⟨B3, 4, none⟩ = some _ := K6_1.out.cell 4
      have m1_5 : w20.cell? ⟨B3, 5, none⟩ = some _ := K6_1.out.cell 5
      have mlt1 : B3 < w20.heap.size := K6_1.out.lt
      have mf1 : ∀ o, w20.frozen? ⟨B3, o, none⟩ = false := fun o => K6_1.out.free o
      go_simp
      clear m1_0 m1_1 m1_2 m1_3 m1_4 m1_5 mlt1 mf1
      have dd0 : Dat (w20.setCell ⟨B3, 5, none⟩ (.slice A2 m2 cap2)) A2 m2 cap2 (d.drop 11) := T0.out.other ⟨B3, 5, none⟩ (.slice A2 m2 cap2) NB.out
      obtain ⟨W7, hW⟩ : ∃ WX, WX = (w20.setCell ⟨B3, 5, none⟩ (.slice A2 m2 cap2)) := ⟨_, rfl⟩
      rw [← hW] at dd0
      have T7_0 := Lib.hid dd0
      clear dd0 T0
      rw [← hW]
      have K7_0 := Lib.hid (show Blk W7 B1 [.int .i64 0, .int .i64 0, .int .i64 0, .int .i64 0, .int .u16 0, .slice none 0 0] 26 from hW ▸ (K6_0.out.other ⟨B3, 5, none⟩ (.slice A2 m2 cap2) X3_0_0.out))
      have K7_1 := Lib.hid (show Blk W7 B3 [.int .i64 (a0 : Int), .int .i64 (p : Int), .int .i64 (a1 : Int), .int .i64 (a2 : Int), .int .u16 (s : Int), .slice A2 m2 cap2] 26 from hW ▸ (K6_1.out.set 5 (.slice A2 m2 cap2)))
      have L7 := Lib.hid (show Below w.heap.size w W7 from hW ▸ (Below.setCell L6.out G3.out _))
      clear hW K6_0 K6_1
      refine hK.out _ _ trivial (fun hS6 => ?_)
      clear hK K
      refine wpAnyH_done (by kernel_rfl) ?_ _
      go_upto_region 5 with (fail)
      have hdc : ∀ w2, Below w.heap.size w w2 → (convert 24 9 (.slice (some ⟨b, off, none⟩) n cap)).run Tryd.prog w2 = .ok (.string (strOfNums d)) w2 := fun w2 h => (HD.out.below h).rd.conv n cap HD.out.len
      have HDC := Lib.hid hdc; clear hdc
      have lb5 : (5 : Int) < n := by omega
      have lb6 : (6 : Int) < n := by omega
      refine wp_region_held_drew (S := fun w' => w'.cell? ⟨b, off + 5, none⟩ = some (.int .u8 (a5 : Int)) ∧ w'.cell? ⟨b, off + 6, none⟩ = some (.int .u8 (a6 : Int)) ∧ Blk w' B3 [.int .i64 (a0 : Int), .int .i64 (p : Int), .int .i64 (a1 : Int), .int .i64 (a2 : Int), .int .u16 (s : Int), .slice A2 m2 cap2] 26 ∧ (convert 24 9 (.slice (some ⟨b, off, none⟩) n cap)).run Tryd.prog w' = .ok (.string (strOfNums d)) w') (by kernel_rfl) ⟨((L7.out.drew).cell (p := ⟨b, off + 5, none⟩) (cell_lt K5b.out)).trans K5b.out, ((L7.out.drew).cell (p := ⟨b, off + 6, none⟩) (cell_lt K6b.out)).trans K6b.out, K7_1.out, HDC.out _ (L7.out.drew)⟩ (fun hHeld => ?_)
      clear hHeld
      have dd0 : Dat W7.drew A2 m2 cap2 (d.drop 11) := T7_0.out.drew
      obtain ⟨D8, hD⟩ : ∃ x, x = W7.drew := ⟨_, rfl⟩
      rw [← hD] at dd0
      have T8_0 := Lib.hid dd0
      clear dd0 T7_0
      rw [← hD]
      have K8_0 := Lib.hid (show Blk D8 B1 [.int .i64 0, .int .i64 0, .int .i64 0, .int .i64 0, .int .u16 0, .slice none 0 0] 26 from hD ▸ Blk.drewN K7_0.out 1)
      have K8_1 := Lib.hid (show Blk D8 B3 [.int .i64 (a0 : Int), .int .i64 (p : Int), .int .i64 (a1 : Int), .int .i64 (a2 : Int), .int .u16 (s : Int), .slice A2 m2 cap2] 26 from hD ▸ Blk.drewN K7_1.out 1)
      have L8 := Lib.hid (show Below w.heap.size w D8 from hD ▸ L7.out.drew)
      clear hD K7_0 K7_1
      have hSD8 : D8.cell? ⟨b, off + 5, none⟩ = some (.int .u8 (a5 : Int)) ∧ D8.cell? ⟨b, off + 6, none⟩ = some (.int .u8 (a6 : Int)) ∧ Blk D8 B3 [.int .i64 (a0 : Int), .int .i64 (p : Int), .int .i64 (a1 : Int), .int .i64 (a2 : Int), .int .u16 (s : Int), .slice A2 m2 cap2] 26 ∧ (convert 24 9 (.slice (some ⟨b, off, none⟩) n cap)).run Tryd.prog D8 = .ok (.string (strOfNums d)) D8 := ⟨(L8.out.cell (p := ⟨b, off + 5, none⟩) (cell_lt K5b.out)).trans K5b.out, (L8.out.cell (p := ⟨b, off + 6, none⟩) (cell_lt K6b.out)).trans K6b.out, K8_1.out, HDC.out _ L8.out⟩
      simp only [List.size_toArray, List.length_cons, List.length_nil, Nat.reduceAdd]
      rw [show Array.replicate 22 false = [false, false, false, false, false, false, false, false, false, false, false, false, false, false, false, false, false, false, false, false, false, false].toArray from rfl]
      by_cases h5 : a5 = 0
      · have n5 : ((a5 : Int) != 0) = false := by simp; omega
        refine wpAnyH_take (i := 0) (v := ?_) rfl (by kernel_rfl) (by kernel_rfl) (by kernel_rfl) (fun _ _ _ h => h) (Or.inl ⟨by rfl, ?yldq⟩) (by assumption) ?_
        case yldq => (intro w hSw; (try dsimp only at hSw); go_simp; try with_reducible rfl)
        try simp only [Act.put, List.setIfInBounds_toArray, List.set_cons_zero, List.set_cons_succ, List.getElem_toArray, List.getElem_cons_succ, List.getElem_cons_zero]
        refine wpAnyH_take (i := 1) (v := ?_) rfl (by kernel_rfl) (by kernel_rfl) (by kernel_rfl) (fun _ _ _ h => h) (Or.inl ⟨by rfl, ?yldq⟩) (by assumption) ?_
        case yldq => (intro w hSw; (try dsimp only at hSw); go_simp; try with_reducible rfl)
        try simp only [Act.put, List.setIfInBounds_toArray, List.set_cons_zero, List.set_cons_succ, List.getElem_toArray, List.getElem_cons_succ, List.getElem_cons_zero]
        refine wpAnyH_take (i := 2) (v := _) rfl (by kernel_rfl) (by kernel_rfl) (by kernel_rfl) (fun _ _ _ h => h) (Or.inl ⟨by rfl, fun w hSw => yield_b15 _ _ _ rfl rfl hSw.1⟩) (by assumption) ?_
        try simp only [Act.put, List.setIfInBounds_toArray, List.set_cons_zero, List.set_cons_succ, List.getElem_toArray, List.getElem_cons_succ, List.getElem_cons_zero]
        refine wpAnyH_take (i := 3) (v := ?_) rfl (by kernel_rfl) (by kernel_rfl) (by kernel_rfl) (fun _ _ _ h => h) (Or.inl ⟨by rfl, ?yldq⟩) (by assumption) ?_
        case yldq => (intro w hSw; (try dsimp only at hSw); go_simp; try with_reducible rfl)
        try simp only [Act.put, List.setIfInBounds_toArray, List.set_cons_zero, List.set_cons_succ, List.getElem_toArray, List.getElem_cons_succ, List.getElem_cons_zero]
        refine wpAnyH_take (i := 4) (v := ?_) rfl (by kernel_rfl) (by kernel_rfl) (by kernel_rfl) (fun _ _ _ h => h) (Or.inl ⟨by rfl, ?yldq⟩) (by assumption) ?_
        case yldq => (intro w hSw; (try dsimp only at hSw); go_simp; try with_reducible rfl)
        try simp only [Act.put, List.setIfInBounds_toArray, List.set_cons_zero, List.set_cons_succ, List.getElem_toArray, List.getElem_cons_succ, List.getElem_cons_zero]
        refine wpAnyH_take (i := 5) (v := ?_) rfl (by kernel_rfl) (by kernel_rfl) (by kernel_rfl) (fun _ _ _ h => h) (Or.inl ⟨by rfl, ?yldq⟩) (by assumption) ?_
        case yldq => (intro w hSw; (try dsimp only at hSw); go_simp; try with_reducible rfl)
        try simp only [Act.put, List.setIfInBounds_toArray, List.set_cons_zero, List.set_cons_succ, List.getElem_toArray, List.getElem_cons_succ, List.getElem_cons_zero]
        refine wpAnyH_take (i := 6) (v := ?_) rfl (by kernel_rfl) (by kernel_rfl) (by kernel_rfl) (fun _ _ _ h => h) (Or.inl ⟨by rfl, ?yldq⟩) (by assumption) ?_
        case yldq => (intro w hSw; (try dsimp only at hSw); go_simp; try with_reducible rfl)
        try simp only [Act.put, List.setIfInBounds_toArray, List.set_cons_zero, List.set_cons_succ, List.getElem_toArray, List.getElem_cons_succ, List.getElem_cons_zero]
        refine wpAnyH_take (i := 7) (v := _) rfl (by kernel_rfl) (by kernel_rfl) (by kernel_rfl) (fun _ _ _ h => h) (Or.inl ⟨by rfl, fun w hSw => yield_b15 _ _ _ rfl rfl hSw.2.1⟩) (by assumption) ?_
        try simp only [Act.put, List.setIfInBounds_toArray, List.set_cons_zero, List.set_cons_succ, List.getElem_toArray, List.getElem_cons_succ, List.getElem_cons_zero]
        by_cases h6 : a6 = 0
        · have n6 : ((a6 : Int) != 0) = false := by simp; omega
          refine wpAnyH_take (i := 8) (v := ?_) rfl (by kernel_rfl) (by kernel_rfl) (by kernel_rfl) (fun _ _ _ h => h) (Or.inl ⟨by rfl, ?yldq⟩) (by assumption) ?_
          case yldq => (intro w hSw; (try dsimp only at hSw); go_simp; try with_reducible rfl)
          try simp only [Act.put, List.setIfInBounds_toArray, List.set_cons_zero, List.set_cons_succ, List.getElem_toArray, List.getElem_cons_succ, List.getElem_cons_zero]
          refine wpAnyH_take (i := 9) (v := ?_) rfl (by kernel_rfl) (by kernel_rfl) (by kernel_rfl) (fun _ _ _ h => h) (Or.inl ⟨by rfl, ?yldq⟩) (by assumption) ?_
          case yldq => (intro w hSw; (try dsimp only at hSw); go_simp; try with_reducible rfl)
          try simp only [Act.put, List.setIfInBounds_toArray, List.set_cons_zero, List.set_cons_succ, List.getElem_toArray, List.getElem_cons_succ, List.getElem_cons_zero]
          refine wpAnyH_take (i := 10) (v := ?_) rfl (by kernel_rfl) (by kernel_rfl) (by kernel_rfl) (fun _ _ _ h => h) (Or.inl ⟨by rfl, ?yldq⟩) (by assumption) ?_
          case yldq => (intro w hSw; (try dsimp only at hSw); go_simp; try with_reducible rfl)
          try simp only [Act.put, List.setIfInBounds_toArray, List.set_cons_zero, List.set_cons_succ, List.getElem_toArray, List.getElem_cons_succ, List.getElem_cons_zero]
          refine wpAnyH_take (i := 11) (v := _) rfl (by kernel_rfl) (by kernel_rfl) (by kernel_rfl) (fun _ _ _ h => h) (Or.inl ⟨by rfl, fun w hSw => yield_m15 _ _ _ rfl rfl hSw.2.2.1⟩) (by assumption) ?_
          try simp only [Act.put, List.setIfInBounds_toArray, List.set_cons_zero, List.set_cons_succ, List.getElem_toArray, List.getElem_cons_succ, List.getElem_cons_zero]
          cases hrr : rgt ⟨a0, p, a1, a2, s, d.drop 11⟩
          · have hri := rright_any (a0 : Int) p a1 a2 s A2 m2 cap2 (d.drop 11) _ T8_0.out.rd T8_0.out.len T8_0.out.le
            rw [hrr] at hri
            have HRI := Lib.hid hri; clear hri
            refine wpAnyH_ready (rs := [12]) (by kernel_rfl) (by simp) ?_
            refine AllReadyH.cons rfl (fun K hK => ?_) AllReadyH.nil
            go_simp
            refine (HRI.out).mono ?_
            rintro e w9 ⟨rfl, hb⟩
            have L9 := Lib.hid (L8.out.trans (hb.mono L8.out.size))
            have K9_0 := Lib.hid (K8_0.out.below hb K8_0.out.lt)
            have K9_1 := Lib.hid (K8_1.out.below hb K8_1.out.lt)
            have T9_0 := Lib.hid (T8_0.out.below hb)
            clear T8_0
            clear hb K8_0 K8_1
            refine hK.out _ _ ⟨(L9.out.cell (p := ⟨b, off + 5, none⟩) (cell_lt K5b.out)).trans K5b.out, (L9.out.cell (p := ⟨b, off + 6, none⟩) (cell_lt K6b.out)).trans K6b.out, K9_1.out, HDC.out _ L9.out⟩ (fun hS12 => ?_)
            clear hK K
            refine wpAnyH_take (i := 13) (v := ?_) rfl (by kernel_rfl) (by kernel_rfl) (by kernel_rfl) (fun _ _ _ h => h) (Or.inl ⟨by rfl, ?yldq⟩) (by assumption) ?_
            case yldq => (intro w hSw; (try dsimp only at hSw); go_simp; try with_reducible rfl)
            try simp only [Act.put, List.setIfInBounds_toArray, List.set_cons_zero, List.set_cons_succ, List.getElem_toArray, List.getElem_cons_succ, List.getElem_cons_zero]
            refine wpAnyH_take (i := 14) (v := ?_) rfl (by kernel_rfl) (by kernel_rfl) (by kernel_rfl) (fun _ _ _ h => h) (Or.inl ⟨by rfl, ?yldq⟩) (by assumption) ?_
            case yldq => (intro w hSw; (try dsimp only at hSw); go_simp; try with_reducible rfl)
            try simp only [Act.put, List.setIfInBounds_toArray, List.set_cons_zero, List.set_cons_succ, List.getElem_toArray, List.getElem_cons_succ, List.getElem_cons_zero]
            refine wpAnyH_take (i := 15) (v := ?_) rfl (by kernel_rfl) (by kernel_rfl) (by kernel_rfl) (fun _ _ _ h => h) (Or.inl ⟨by rfl, ?yldq⟩) (by assumption) ?_
            case yldq => (intro w hSw; (try dsimp only at hSw); go_simp; try with_reducible rfl)
            try simp only [Act.put, List.setIfInBounds_toArray, List.set_cons_zero, List.set_cons_succ, List.getElem_toArray, List.getElem_cons_succ, List.getElem_cons_zero]
            refine wpAnyH_take (i := 16) (v := undef) rfl (by kernel_rfl) (by kernel_rfl) (by kernel_rfl) (fun _ _ _ h => h) (Or.inr ⟨by rfl, rfl⟩) (by assumption) ?_
            try simp only [Act.put, List.setIfInBounds_toArray, List.set_cons_zero, List.set_cons_succ, List.getElem_toArray, List.getElem_cons_succ, List.getElem_cons_zero]
            refine wpAnyH_take (i := 17) (v := undef) rfl (by kernel_rfl) (by kernel_rfl) (by kernel_rfl) (fun _ _ _ h => h) (Or.inr ⟨by rfl, rfl⟩) (by assumption) ?_
            try simp only [Act.put, List.setIfInBounds_toArray, List.set_cons_zero, List.set_cons_succ, List.getElem_toArray, List.getElem_cons_succ, List.getElem_cons_zero]
            refine wpAnyH_take (i := 18) (v := undef) rfl (by kernel_rfl) (by kernel_rfl) (by kernel_rfl) (fun _ _ _ h => h) (Or.inr ⟨by rfl, rfl⟩) (by assumption) ?_
            try simp only [Act.put, List.setIfInBounds_toArray, List.set_cons_zero, List.set_cons_succ, List.getElem_toArray, List.getElem_cons_succ, List.getElem_cons_zero]
            refine wpAnyH_take (i := 19) (v := undef) rfl (by kernel_rfl) (by kernel_rfl) (by kernel_rfl) (fun _ _ _ h => h) (Or.inr ⟨by rfl, rfl⟩) (by assumption) ?_
            try simp only [Act.put, List.setIfInBounds_toArray, List.set_cons_zero, List.set_cons_succ, List.getElem_toArray, List.getElem_cons_succ, List.getElem_cons_zero]
            refine wpAnyH_take (i := 20) (v := undef) rfl (by kernel_rfl) (by kernel_rfl) (by kernel_rfl) (fun _ _ _ h => h) (Or.inr ⟨by rfl, rfl⟩) (by assumption) ?_
            try simp only [Act.put, List.setIfInBounds_toArray, List.set_cons_zero, List.set_cons_succ, List.getElem_toArray, List.getElem_cons_succ, List.getElem_cons_zero]
            refine wpAnyH_take (i := 21) (v := ?_) rfl (by kernel_rfl) (by kernel_rfl) (by kernel_rfl) (fun _ _ _ h => h) (Or.inl ⟨by rfl, ?yldq⟩) (by assumption) ?_
            case yldq => (intro w hSw; (try dsimp only at hSw); go_simp; try with_reducible rfl)
            try simp only [Act.put, List.setIfInBounds_toArray, List.set_cons_zero, List.set_cons_succ, List.getElem_toArray, List.getElem_cons_succ, List.getElem_cons_zero]
            refine wpAnyH_done (by kernel_rfl) ?_ _
            have hnm : isM d = false := by rw [HM.out, hrr, Bool.false_and, Bool.and_false, Bool.and_false]
            have hgm := HGZ.out hnm
            have HNM := Lib.hid hnm; have HGM := Lib.hid hgm; clear hnm hgm
            have m0_0 : w9.cell? ⟨B1, 0, none⟩ = some _ := K9_0.out.cell 0
            have m0_1 : w9.cell? ⟨B1, 1, none⟩ = some _ := K9_0.out.cell 1
            have m0_2 : w9.cell? ⟨B1, 2, none⟩ = some _ := K9_0.out.cell 2
            have m0_3 : w9.cell? ⟨B1, 3, none⟩ = some _ := K9_0.out.cell 3
            have m0_4 : w9.cell? ⟨B1, 4, none⟩ = some _ := K9_0.out.cell 4
            have m0_5 : w9.cell? ⟨B1, 5, none⟩ = some _ := K9_0.out.cell 5
            have mlt0 : B1 < w9.heap.size := K9_0.out.lt
            have mf0 : ∀ o, w9.frozen? ⟨B1, o, none⟩ = false := fun o => K9_0.out.free o
            go_wp2
            clear m0_0 m0_1 m0_2 m0_3 m0_4 m0_5 mlt0 mf0
            obtain ⟨W10, hW⟩ : ∃ WX, WX = ((((((w9.setCell ⟨B1, 0, none⟩ (.int .i64 0)).setCell ⟨B1, 1, none⟩ (.int .i64 0)).setCell ⟨B1, 2, none⟩ (.int .i64 0)).setCell ⟨B1, 3, none⟩ (.int .i64 0)).setCell ⟨B1, 4, none⟩ (.int .u16 0)).setCell ⟨B1, 5, none⟩ (.slice none 0 0)) := ⟨_, rfl⟩
            rw [← hW]
            have K10_0 := Lib.hid (show Blk W10 B1 [.int .i64 0, .int .i64 0, .int .i64 0, .int .i64 0, .int .u16 0, .slice none 0 0] 26 from hW ▸ ((((((K9_0.out.set 0 (.int .i64 0)).set 1 (.int .i64 0)).set 2 (.int .i64 0)).set 3 (.int .i64 0)).set 4 (.int .u16 0)).set 5 (.slice none 0 0)))
            have K10_1 := Lib.hid (show Blk W10 B3 [.int .i64 (a0 : Int), .int .i64 (p : Int), .int .i64 (a1 : Int), .int .i64 (a2 : Int), .int .u16 (s : Int), .slice A2 m2 cap2] 26 from hW ▸ ((((((K9_1.out.other ⟨B1, 0, none⟩ (.int .i64 0) (Ne.symm X3_0_0.out)).other ⟨B1, 1, none⟩ (.int .i64 0) (Ne.symm X3_0_0.out)).other ⟨B1, 2, none⟩ (.int .i64 0) (Ne.symm X3_0_0.out)).other ⟨B1, 3, none⟩ (.int .i64 0) (Ne.symm X3_0_0.out)).other ⟨B1, 4, none⟩ (.int .u16 0) (Ne.symm X3_0_0.out)).other ⟨B1, 5, none⟩ (.slice none 0 0) (Ne.symm X3_0_0.out)))
            have L10 := Lib.hid (show Below w.heap.size w W10 from hW ▸ (Below.setCell (Below.setCell (Below.setCell (Below.setCell (Below.setCell (Below.setCell L9.out G1.out _) G1.out _) G1.out _) G1.out _) G1.out _) G1.out _))
            clear hW K9_0 K9_1
            have rr0 : W10.cell? ⟨B1, 0, none⟩ = some _ := K10_0.out.cell 0
            have rr1 : W10.cell? ⟨B1, 1, none⟩ = some _ := K10_0.out.cell 1
            have rr2 : W10.cell? ⟨B1, 2, none⟩ = some _ := K10_0.out.cell 2
            have rr3 : W10.cell? ⟨B1, 3, none⟩ = some _ := K10_0.out.cell 3
            have rr4 : W10.cell? ⟨B1, 4, none⟩ = some _ := K10_0.out.cell 4
            have rr5 : W10.cell? ⟨B1, 5, none⟩ = some _ := K10_0.out.cell 5
            refine bodyPost_ret (v := .tuple #[.agg #[.int .i64 0, .int .i64 0, .int .i64 0, .int .i64 0, .int .u16 0, .slice none 0 0], .bool false]) (by simp [results, Tryd.results15, go_sem, rr0, rr1, rr2, rr3, rr4, rr5]) rfl (by rw [HGM.out, HNM.out]; exact ⟨⟨none, 0, rfl, HZD.out _⟩, L10.out⟩)
          · have hri := rright_any (a0 : Int) p a1 a2 s A2 m2 cap2 (d.drop 11) _ T8_0.out.rd T8_0.out.len T8_0.out.le
            rw [hrr] at hri
            have HRI := Lib.hid hri; clear hri
            refine wpAnyH_ready (rs := [12]) (by kernel_rfl) (by simp) ?_
            refine AllReadyH.cons rfl (fun K hK => ?_) AllReadyH.nil
            go_simp
            refine (HRI.out).mono ?_
            rintro e w11 ⟨rfl, hb⟩
            have L11 := Lib.hid (L8.out.trans (hb.mono L8.out.size))
            have K11_0 := Lib.hid (K8_0.out.below hb K8_0.out.lt)
            have K11_1 := Lib.hid (K8_1.out.below hb K8_1.out.lt)
            have T11_0 := Lib.hid (T8_0.out.below hb)
            clear T8_0
            clear hb K8_0 K8_1
            refine hK.out _ _ ⟨(L11.out.cell (p := ⟨b, off + 5, none⟩) (cell_lt K5b.out)).trans K5b.out, (L11.out.cell (p := ⟨b, off + 6, none⟩) (cell_lt K6b.out)).trans K6b.out, K11_1.out, HDC.out _ L11.out⟩ (fun hS12 => ?_)
            clear hK K
            refine wpAnyH_take (i := 13) (v := ?_) rfl (by kernel_rfl) (by kernel_rfl) (by kernel_rfl) (fun _ _ _ h => h) (Or.inl ⟨by rfl, ?yldq⟩) (by assumption) ?_
            case yldq => (intro w hSw; (try dsimp only at hSw); go_simp; try with_reducible rfl)
            try simp only [Act.put, List.setIfInBounds_toArray, List.set_cons_zero, List.set_cons_succ, List.getElem_toArray, List.getElem_cons_succ, List.getElem_cons_zero]
            refine wpAnyH_take (i := 14) (v := ?_) rfl (by kernel_rfl) (by kernel_rfl) (by kernel_rfl) (fun _ _ _ h => h) (Or.inl ⟨by rfl, ?yldq⟩) (by assumption) ?_
            case yldq => (intro w hSw; (try dsimp only at hSw); go_simp; try with_reducible rfl)
            try simp only [Act.put, List.setIfInBounds_toArray, List.set_cons_zero, List.set_cons_succ, List.getElem_toArray, List.getElem_cons_succ, List.getElem_cons_zero]
            refine wpAnyH_take (i := 15) (v := ?_) rfl (by kernel_rfl) (by kernel_rfl) (by kernel_rfl) (fun _ _ _ h => h) (Or.inl ⟨by rfl, ?yldq⟩) (by assumption) ?_
            case yldq => (intro w hSw; (try dsimp only at hSw); go_simp; try with_reducible rfl)
            try simp only [Act.put, List.setIfInBounds_toArray, List.set_cons_zero, List.set_cons_succ, List.getElem_toArray, List.getElem_cons_succ, List.getElem_cons_zero]
            refine wpAnyH_take (i := 16) (v := _) rfl (by kernel_rfl) (by kernel_rfl) (by kernel_rfl) (fun _ _ _ h => h) (Or.inl ⟨by rfl, fun w hSw => yield_m15 _ _ _ rfl rfl hSw.2.2.1⟩) (by assumption) ?_
            try simp only [Act.put, List.setIfInBounds_toArray, List.set_cons_zero, List.set_cons_succ, List.getElem_toArray, List.getElem_cons_succ, List.getElem_cons_zero]
            by_cases hpe : putM ⟨a0, p, a1, a2, s, d.drop 11⟩ = d
            · have hpi := rput_yes15 a0 p a1 a2 s A2 m2 cap2 (d.drop 11) _ T11_0.out hrr hs16
              rw [hpe] at hpi
              have HPI := Lib.hid hpi; clear hpi
              refine wpAnyH_take (i := 18) (v := ?_) rfl (by kernel_rfl) (by kernel_rfl) (by kernel_rfl) (fun _ _ _ h => h) (Or.inl ⟨by rfl, ?yldq⟩) (by assumption) ?_
              case yldq => (intro w hSw; (try dsimp only at hSw); go_simp; try with_reducible rfl)
              try simp only [Act.put, List.setIfInBounds_toArray, List.set_cons_zero, List.set_cons_succ, List.getElem_toArray, List.getElem_cons_succ, List.getElem_cons_zero]
              refine wpAnyH_take (i := 19) (v := ?_) rfl (by kernel_rfl) (by kernel_rfl) (by kernel_rfl) (fun _ _ _ h => h) (Or.inl ⟨by rfl, ?yldq⟩) (by assumption) ?_
              case yldq => (intro w hSw; (try dsimp only at hSw); go_simp; try with_reducible rfl)
              try simp only [Act.put, List.setIfInBounds_toArray, List.set_cons_zero, List.set_cons_succ, List.getElem_toArray, List.getElem_cons_succ, List.getElem_cons_zero]
              refine wpAnyH_ready (rs := [17]) (by kernel_rfl) (by simp) ?_
              refine AllReadyH.cons rfl (fun K hK => ?_) AllReadyH.nil
              go_simp
              refine (HPI.out).mono ?_
              rintro e w12 ⟨rfl, hb⟩
              have L12 := Lib.hid (L11.out.trans (hb.mono L11.out.size))
              have K12_0 := Lib.hid (K11_0.out.below hb K11_0.out.lt)
              have K12_1 := Lib.hid (K11_1.out.below hb K11_1.out.lt)
              have T12_0 := Lib.hid (T11_0.out.below hb)
              clear T11_0
              clear hb K11_0 K11_1
              refine hK.out _ _ ⟨(L12.out.cell (p := ⟨b, off + 5, none⟩) (cell_lt K5b.out)).trans K5b.out, (L12.out.cell (p := ⟨b, off + 6, none⟩) (cell_lt K6b.out)).trans K6b.out, K12_1.out, HDC.out _ L12.out⟩ (fun hS17 => ?_)
              clear hK K
              refine wpAnyH_take (i := 20) (v := ?_) rfl (by kernel_rfl) (by kernel_rfl) (by kernel_rfl) (fun _ _ _ h => h) (Or.inl ⟨by rfl, ?yldq⟩) (by assumption) ?_
              case yldq => (intro w hSw; (try dsimp only at hSw); go_simp; try with_reducible rfl)
              try simp only [Act.put, List.setIfInBounds_toArray, List.set_cons_zero, List.set_cons_succ, List.getElem_toArray, List.getElem_cons_succ, List.getElem_cons_zero]
              refine wpAnyH_take (i := 21) (v := ?_) rfl (by kernel_rfl) (by kernel_rfl) (by kernel_rfl) (fun _ _ _ h => h) (Or.inl ⟨by rfl, ?yldq⟩) (by assumption) ?_
              case yldq => (intro w hSw; (try dsimp only at hSw); go_simp; try with_reducible rfl)
              try simp only [Act.put, List.setIfInBounds_toArray, List.set_cons_zero, List.set_cons_succ, List.getElem_toArray, List.getElem_cons_succ, List.getElem_cons_zero]
              refine wpAnyH_done (by kernel_rfl) ?_ _
              have him : isM d = true := by rw [HM.out, hrr, decide_eq_true hpe, decide_eq_true h5, decide_eq_true h6]; rfl
              have hgm := HGT.out him
              have HNM := Lib.hid him; have HGM := Lib.hid hgm; clear him hgm
              have m0_0 : w12.cell? ⟨B1, 0, none⟩ = some _ := K12_0.out.cell 0
              have m0_1 : w12.cell? ⟨B1, 1, none⟩ = some _ := K12_0.out.cell 1
              have m0_2 : w12.cell? ⟨B1, 2, none⟩ = some _ := K12_0.out.cell 2
              have m0_3 : w12.cell? ⟨B1, 3, none⟩ = some _ := K12_0.out.cell 3
              have m0_4 : w12.cell? ⟨B1, 4, none⟩ = some _ := K12_0.out.cell 4
              have m0_5 : w12.cell? ⟨B1, 5, none⟩ = some _ := K12_0.out.cell 5
              have mlt0 : B1 < w12.heap.size := K12_0.out.lt
              have mf0 : ∀ o, w12.frozen? ⟨B1, o, none⟩ = false := fun o => K12_0.out.free o
              have m1_0 : w12.cell? ⟨B3, 0, none⟩ = some _ := K12_1.out.cell 0
              have m1_1 : w12.cell? ⟨B3, 1, none⟩ = some _ := K12_1.out.cell 1
              have m1_2 : w12.cell? ⟨B3, 2, none⟩ = some _ := K12_1.out.cell 2
              have m1_3 : w12.cell? ⟨B3, 3, none⟩ = some _ := K12_1.out.cell 3
              have m1_4 : w12.cell? ⟨B3, 4, none⟩ = some _ := K12_1.out.cell 4
              have m1_5 : w12.cell? ⟨B3, 5, none⟩ = some _ := K12_1.out.cell 5
              have mlt1 : B3 < w12.heap.size := K12_1.out.lt
              go_wp2
              clear m0_0 m0_1 m0_2 m0_3 m0_4 m0_5 mlt0 mf0 m1_0 m1_1 m1_2 m1_3 m1_4 m1_5 mlt1
              have dd0 : Dat ((((((w12.setCell ⟨B1, 0, none⟩ (.int .i64 (a0 : Int))).setCell ⟨B1, 1, none⟩ (.int .i64 (p : Int))).setCell ⟨B1, 2, none⟩ (.int .i64 (a1 : Int))).setCell ⟨B1, 3, none⟩ (.int .i64 (a2 : Int))).setCell ⟨B1, 4, none⟩ (.int .u16 (s : Int))).setCell ⟨B1, 5, none⟩ (.slice A2 m2 cap2)) A2 m2 cap2 (d.drop 11) := ((((((T12_0.out.other ⟨B1, 0, none⟩ (.int .i64 (a0 : Int)) NA.out).other ⟨B1, 1, none⟩ (.int .i64 (p : Int)) NA.out).other ⟨B1, 2, none⟩ (.int .i64 (a1 : Int)) NA.out).other ⟨B1, 3, none⟩ (.int .i64 (a2 : Int)) NA.out).other ⟨B1, 4, none⟩ (.int .u16 (s : Int)) NA.out).other ⟨B1, 5, none⟩ (.slice A2 m2 cap2) NA.out)
              obtain ⟨W13, hW⟩ : ∃ WX, WX = ((((((w12.setCell ⟨B1, 0, none⟩ (.int .i64 (a0 : Int))).setCell ⟨B1, 1, none⟩ (.int .i64 (p : Int))).setCell ⟨B1, 2, none⟩ (.int .i64 (a1 : Int))).setCell ⟨B1, 3, none⟩ (.int .i64 (a2 : Int))).setCell ⟨B1, 4, none⟩ (.int .u16 (s : Int))).setCell ⟨B1, 5, none⟩ (.slice A2 m2 cap2)) := ⟨_, rfl⟩
              rw [← hW] at dd0
              have T13_0 := Lib.hid dd0
              clear dd0 T12_0
              rw [← hW]
              have K13_0 := Lib.hid (show Blk W13 B1 [.int .i64 (a0 : Int), .int .i64 (p : Int), .int .i64 (a1 : Int), .int .i64 (a2 : Int), .int .u16 (s : Int), .slice A2 m2 cap2] 26 from hW ▸ ((((((K12_0.out.set 0 (.int .i64 (a0 : Int))).set 1 (.int .i64 (p : Int))).set 2 (.int .i64 (a1 : Int))).set 3 (.int .i64 (a2 : Int))).set 4 (.int .u16 (s : Int))).set 5 (.slice A2 m2 cap2)))
              have K13_1 := Lib.hid (show Blk W13 B3 [.int .i64 (a0 : Int), .int .i64 (p : Int), .int .i64 (a1 : Int), .int .i64 (a2 : Int), .int .u16 (s : Int), .slice A2 m2 cap2] 26 from hW ▸ ((((((K12_1.out.other ⟨B1, 0, none⟩ (.int .i64 (a0 : Int)) (Ne.symm X3_0_0.out)).other ⟨B1, 1, none⟩ (.int .i64 (p : Int)) (Ne.symm X3_0_0.out)).other ⟨B1, 2, none⟩ (.int .i64 (a1 : Int)) (Ne.symm X3_0_0.out)).other ⟨B1, 3, none⟩ (.int .i64 (a2 : Int)) (Ne.symm X3_0_0.out)).other ⟨B1, 4, none⟩ (.int .u16 (s : Int)) (Ne.symm X3_0_0.out)).other ⟨B1, 5, none⟩ (.slice A2 m2 cap2) (Ne.symm X3_0_0.out)))
              have L13 := Lib.hid (show Below w.heap.size w W13 from hW ▸ (Below.setCell (Below.setCell (Below.setCell (Below.setCell (Below.setCell (Below.setCell L12.out G1.out _) G1.out _) G1.out _) G1.out _) G1.out _) G1.out _))
              clear hW K12_0 K12_1
              have rr0 : W13.cell? ⟨B1, 0, none⟩ = some _ := K13_0.out.cell 0
              have rr1 : W13.cell? ⟨B1, 1, none⟩ = some _ := K13_0.out.cell 1
              have rr2 : W13.cell? ⟨B1, 2, none⟩ = some _ := K13_0.out.cell 2
              have rr3 : W13.cell? ⟨B1, 3, none⟩ = some _ := K13_0.out.cell 3
              have rr4 : W13.cell? ⟨B1, 4, none⟩ = some _ := K13_0.out.cell 4
              have rr5 : W13.cell? ⟨B1, 5, none⟩ = some _ := K13_0.out.cell 5
              refine bodyPost_ret (v := .tuple #[.agg #[.int .i64 (a0 : Int), .int .i64 (p : Int), .int .i64 (a1 : Int), .int .i64 (a2 : Int), .int .u16 (s : Int), .slice A2 m2 cap2], .bool true]) (by simp [results, Tryd.results15, go_sem, rr0, rr1, rr2, rr3, rr4, rr5]) rfl (by rw [HGM.out, HNM.out]; exact ⟨⟨A2, cap2, (by rw [T13_0.out.len]), (by rw [T13_0.out.len]; exact T13_0.out)⟩, L13.out⟩)
            · have hpi := rput_yes15 a0 p a1 a2 s A2 m2 cap2 (d.drop 11) _ T11_0.out hrr hs16
              have hq : ((strOfNums (putM ⟨a0, p, a1, a2, s, d.drop 11⟩)).toList == (strOfNums d).toList) = false := by
                rw [Lib.bytes_beq_false_iff]; exact fun e => hpe (str_inj (putM_Byt ⟨by show (0 : Int) ≤ s; omega, by show (s : Int) ≤ 65535; omega⟩ hrr (HB.out.drop 11)) HB.out e)
              generalize strOfNums (putM ⟨a0, p, a1, a2, s, d.drop 11⟩) = SP at hpi hq
              have HPI := Lib.hid hpi; clear hpi
              refine wpAnyH_take (i := 18) (v := ?_) rfl (by kernel_rfl) (by kernel_rfl) (by kernel_rfl) (fun _ _ _ h => h) (Or.inl ⟨by rfl, ?yldq⟩) (by assumption) ?_
              case yldq => (intro w hSw; (try dsimp only at hSw); go_simp; try with_reducible rfl)
              try simp only [Act.put, List.setIfInBounds_toArray, List.set_cons_zero, List.set_cons_succ, List.getElem_toArray, List.getElem_cons_succ, List.getElem_cons_zero]
              refine wpAnyH_take (i := 19) (v := ?_) rfl (by kernel_rfl) (by kernel_rfl) (by kernel_rfl) (fun _ _ _ h => h) (Or.inl ⟨by rfl, ?yldq⟩) (by assumption) ?_
              case yldq => (intro w hSw; (try dsimp only at hSw); go_simp; try with_reducible rfl)
              try simp only [Act.put, List.setIfInBounds_toArray, List.set_cons_zero, List.set_cons_succ, List.getElem_toArray, List.getElem_cons_succ, List.getElem_cons_zero]
              refine wpAnyH_ready (rs := [17]) (by kernel_rfl) (by simp) ?_
              refine AllReadyH.cons rfl (fun K hK => ?_) AllReadyH.nil
              go_simp
              refine (HPI.out).mono ?_
              rintro e w14 ⟨rfl, hb⟩
              have L14 := Lib.hid (L11.out.trans (hb.mono L11.out.size))
              have K14_0 := Lib.hid (K11_0.out.below hb K11_0.out.lt)
              have K14_1 := Lib.hid (K11_1.out.below hb K11_1.out.lt)
              have T14_0 := Lib.hid (T11_0.out.below hb)
              clear T11_0
              clear hb K11_0 K11_1
              refine hK.out _ _ ⟨(L14.out.cell (p := ⟨b, off + 5, none⟩) (cell_lt K5b.out)).trans K5b.out, (L14.out.cell (p := ⟨b, off + 6, none⟩) (cell_lt K6b.out)).trans K6b.out, K14_1.out, HDC.out _ L14.out⟩ (fun hS17 => ?_)
              clear hK K
              refine wpAnyH_take (i := 20) (v := ?_) rfl (by kernel_rfl) (by kernel_rfl) (by kernel_rfl) (fun _ _ _ h => h) (Or.inl ⟨by rfl, ?yldq⟩) (by assumption) ?_
              case yldq => (intro w hSw; (try dsimp only at hSw); go_simp; try with_reducible rfl)
              try simp only [Act.put, List.setIfInBounds_toArray, List.set_cons_zero, List.set_cons_succ, List.getElem_toArray, List.getElem_cons_succ, List.getElem_cons_zero]
              refine wpAnyH_take (i := 21) (v := ?_) rfl (by kernel_rfl) (by kernel_rfl) (by kernel_rfl) (fun _ _ _ h => h) (Or.inl ⟨by rfl, ?yldq⟩) (by assumption) ?_
              case yldq => (intro w hSw; (try dsimp only at hSw); go_simp; try with_reducible rfl)
              try simp only [Act.put, List.setIfInBounds_toArray, List.set_cons_zero, List.set_cons_succ, List.getElem_toArray, List.getElem_cons_succ, List.getElem_cons_zero]
              refine wpAnyH_done (by kernel_rfl) ?_ _
              have hnm : isM d = false := by rw [HM.out, decide_eq_false hpe, Bool.and_false, Bool.and_false, Bool.and_false]
              have hgm := HGZ.out hnm
              have HNM := Lib.hid hnm; have HGM := Lib.hid hgm; clear hnm hgm
              have m0_0 : w14.cell? ⟨B1, 0, none⟩ = some _ := K14_0.out.cell 0
              have m0_1 : w14.cell? ⟨B1, 1, none⟩ = some _ := K14_0.out.cell 1
              have m0_2 : w14.cell? ⟨B1, 2, none⟩ = some _ := K14_0.out.cell 2
              have m0_3 : w14.cell? ⟨B1, 3, none⟩ = some _ := K14_0.out.cell 3
              have m0_4 : w14.cell? ⟨B1, 4, none⟩ = some _ := K14_0.out.cell 4
              have m0_5 : w14.cell? ⟨B1, 5, none⟩ = some _ := K14_0.out.cell 5
              have mlt0 : B1 < w14.heap.size := K14_0.out.lt
              have mf0 : ∀ o, w14.frozen? ⟨B1, o, none⟩ = false := fun o => K14_0.out.free o
              go_wp2
              clear m0_0 m0_1 m0_2 m0_3 m0_4 m0_5 mlt0 mf0
              obtain ⟨W15, hW⟩ : ∃ WX, WX = ((((((w14.setCell ⟨B1, 0, none⟩ (.int .i64 0)).setCell ⟨B1, 1, none⟩ (.int .i64 0)).setCell ⟨B1, 2, none⟩ (.int .i64 0)).setCell ⟨B1, 3, none⟩ (.int .i64 0)).setCell ⟨B1, 4, none⟩ (.int .u16 0)).setCell ⟨B1, 5, none⟩ (.slice none 0 0)) := ⟨_, rfl⟩
              rw [← hW]
              have K15_0 := Lib.hid (show Blk W15 B1 [.int .i64 0, .int .i64 0, .int .i64 0, .int .i64 0, .int .u16 0, .slice none 0 0] 26 from hW ▸ ((((((K14_0.out.set 0 (.int .i64 0)).set 1 (.int .i64 0)).set 2 (.int .i64 0)).set 3 (.int .i64 0)).set 4 (.int .u16 0)).set 5 (.slice none 0 0)))
              have K15_1 := Lib.hid (show Blk W15 B3 [.int .i64 (a0 : Int), .int .i64 (p : Int), .int .i64 (a1 : Int), .int .i64 (a2 : Int), .int .u16 (s : Int), .slice A2 m2 cap2] 26 from hW ▸ ((((((K14_1.out.other ⟨B1, 0, none⟩ (.int .i64 0) (Ne.symm X3_0_0.out)).other ⟨B1, 1, none⟩ (.int .i64 0) (Ne.symm X3_0_0.out)).other ⟨B1, 2, none⟩ (.int .i64 0) (Ne.symm X3_0_0.out)).other ⟨B1, 3, none⟩ (.int .i64 0) (Ne.symm X3_0_0.out)).other ⟨B1, 4, none⟩ (.int .u16 0) (Ne.symm X3_0_0.out)).other ⟨B1, 5, none⟩ (.slice none 0 0) (Ne.symm X3_0_0.out)))
              have L15 := Lib.hid (show Below w.heap.size w W15 from hW ▸ (Below.setCell (Below.setCell (Below.setCell (Below.setCell (Below.setCell (Below.setCell L14.out G1.out _) G1.out _) G1.out _) G1.out _) G1.out _) G1.out _))
              clear hW K14_0 K14_1
              have rr0 : W15.cell? ⟨B1, 0, none⟩ = some _ := K15_0.out.cell 0
              have rr1 : W15.cell? ⟨B1, 1, none⟩ = some _ := K15_0.out.cell 1
              have rr2 : W15.cell? ⟨B1, 2, none⟩ = some _ := K15_0.out.cell 2
              have rr3 : W15.cell? ⟨B1, 3, none⟩ = some _ := K15_0.out.cell 3
              have rr4 : W15.cell? ⟨B1, 4, none⟩ = some _ := K15_0.out.cell 4
              have rr5 : W15.cell? ⟨B1, 5, none⟩ = some _ := K15_0.out.cell 5
              refine bodyPost_ret (v := .tuple #[.agg #[.int .i64 0, .int .i64 0, .int .i64 0, .int .i64 0, .int .u16 0, .slice none 0 0], .bool false]) (by simp [results, Tryd.results15, go_sem, rr0, rr1, rr2, rr3, rr4, rr5]) rfl (by rw [HGM.out, HNM.out]; exact ⟨⟨none, 0, rfl, HZD.out _⟩, L15.out⟩)
        · have n6 : ((a6 : Int) != 0) = true := by simp; omega
          refine wpAnyH_take (i := 8) (v := ?_) rfl (by kernel_rfl) (by kernel_rfl) (by kernel_rfl) (fun _ _ _ h => h) (Or.inl ⟨by rfl, ?yldq⟩) (by assumption) ?_
          case yldq => (intro w hSw; (try dsimp only at hSw); go_simp; try with_reducible rfl)
          try simp only [Act.put, List.setIfInBounds_toArray, List.set_cons_zero, List.set_cons_succ, List.getElem_toArray, List.getElem_cons_succ, List.getElem_cons_zero]
          refine wpAnyH_take (i := 9) (v := ?_) rfl (by kernel_rfl) (by kernel_rfl) (by kernel_rfl) (fun _ _ _ h => h) (Or.inl ⟨by rfl, ?yldq⟩) (by assumption) ?_
          case yldq => (intro w hSw; (try dsimp only at hSw); go_simp; try with_reducible rfl)
          try simp only [Act.put, List.setIfInBounds_toArray, List.set_cons_zero, List.set_cons_succ, List.getElem_toArray, List.getElem_cons_succ, List.getElem_cons_zero]
          refine wpAnyH_take (i := 10) (v := ?_) rfl (by kernel_rfl) (by kernel_rfl) (by kernel_rfl) (fun _ _ _ h => h) (Or.inl ⟨by rfl, ?yldq⟩) (by assumption) ?_
          case yldq => (intro w hSw; (try dsimp only at hSw); go_simp; try with_reducible rfl)
          try simp only [Act.put, List.setIfInBounds_toArray, List.set_cons_zero, List.set_cons_succ, List.getElem_toArray, List.getElem_cons_succ, List.getElem_cons_zero]
          refine wpAnyH_take (i := 11) (v := undef) rfl (by kernel_rfl) (by kernel_rfl) (by kernel_rfl) (fun _ _ _ h => h) (Or.inr ⟨by rfl, rfl⟩) (by assumption) ?_
          try simp only [Act.put, List.setIfInBounds_toArray, List.set_cons_zero, List.set_cons_succ, List.getElem_toArray, List.getElem_cons_succ, List.getElem_cons_zero]
          refine wpAnyH_take (i := 12) (v := undef) rfl (by kernel_rfl) (by kernel_rfl) (by kernel_rfl) (fun _ _ _ h => h) (Or.inr ⟨by rfl, rfl⟩) (by assumption) ?_
          try simp only [Act.put, List.setIfInBounds_toArray, List.set_cons_zero, List.set_cons_succ, List.getElem_toArray, List.getElem_cons_succ, List.getElem_cons_zero]
          refine wpAnyH_take (i := 13) (v := undef) rfl (by kernel_rfl) (by kernel_rfl) (by kernel_rfl) (fun _ _ _ h => h) (Or.inr ⟨by rfl, rfl⟩) (by assumption) ?_
          try simp only [Act.put, List.setIfInBounds_toArray, List.set_cons_zero, List.set_cons_succ, List.getElem_toArray, List.getElem_cons_succ, List.getElem_cons_zero]
          refine wpAnyH_take (i := 14) (v := ?_) rfl (by kernel_rfl) (by kernel_rfl) (by kernel_rfl) (fun _ _ _ h => h) (Or.inl ⟨by rfl, ?yldq⟩) (by assumption) ?_
          case yldq => (intro w hSw; (try dsimp only at hSw); go_simp; try with_reducible rfl)
          try simp only [Act.put, List.setIfInBounds_toArray, List.set_cons_zero, List.set_cons_succ, List.getElem_toArray, List.getElem_cons_succ, List.getElem_cons_zero]
          refine wpAnyH_take (i := 15) (v := ?_) rfl (by kernel_rfl) (by kernel_rfl) (by kernel_rfl) (fun _ _ _ h => h) (Or.inl ⟨by rfl, ?yldq⟩) (by assumption) ?_
          case yldq => (intro w hSw; (try dsimp only at hSw); go_simp; try with_reducible rfl)
          try simp only [Act.put, List.setIfInBounds_toArray, List.set_cons_zero, List.set_cons_succ, List.getElem_toArray, List.getElem_cons_succ, List.getElem_cons_zero]
          refine wpAnyH_take (i := 16) (v := undef) rfl (by kernel_rfl) (by kernel_rfl) (by kernel_rfl) (fun _ _ _ h => h) (Or.inr ⟨by rfl, rfl⟩) (by assumption) ?_
          try simp only [Act.put, List.setIfInBounds_toArray, List.set_cons_zero, List.set_cons_succ, List.getElem_toArray, List.getElem_cons_succ, List.getElem_cons_zero]
          refine wpAnyH_take (i := 17) (v := undef) rfl (by kernel_rfl) (by kernel_rfl) (by kernel_rfl) (fun _ _ _ h => h) (Or.inr ⟨by rfl, rfl⟩) (by assumption) ?_
          try simp only [Act.put, List.setIfInBounds_toArray, List.set_cons_zero, List.set_cons_succ, List.getElem_toArray, List.getElem_cons_succ, List.getElem_cons_zero]
          refine wpAnyH_take (i := 18) (v := undef) rfl (by kernel_rfl) (by kernel_rfl) (by kernel_rfl) (fun _ _ _ h => h) (Or.inr ⟨by rfl, rfl⟩) (by assumption) ?_
          try simp only [Act.put, List.setIfInBounds_toArray, List.set_cons_zero, List.set_cons_succ, List.getElem_toArray, List.getElem_cons_succ, List.getElem_cons_zero]
          refine wpAnyH_take (i := 19) (v := undef) rfl (by kernel_rfl) (by kernel_rfl) (by kernel_rfl) (fun _ _ _ h => h) (Or.inr ⟨by rfl, rfl⟩) (by assumption) ?_
          try simp only [Act.put, List.setIfInBounds_toArray, List.set_cons_zero, List.set_cons_succ, List.getElem_toArray, List.getElem_cons_succ, List.getElem_cons_zero]
          refine wpAnyH_take (i := 20) (v := undef) rfl (by kernel_rfl) (by kernel_rfl) (by kernel_rfl) (fun _ _ _ h => h) (Or.inr ⟨by rfl, rfl⟩) (by assumption) ?_
          try simp only [Act.put, List.setIfInBounds_toArray, List.set_cons_zero, List.set_cons_succ, List.getElem_toArray, List.getElem_cons_succ, List.getElem_cons_zero]
          refine wpAnyH_take (i := 21) (v := ?_) rfl (by kernel_rfl) (by kernel_rfl) (by kernel_rfl) (fun _ _ _ h => h) (Or.inl ⟨by rfl, ?yldq⟩) (by assumption) ?_
          case yldq => (intro w hSw; (try dsimp only at hSw); go_simp; try with_reducible rfl)
          try simp only [Act.put, List.setIfInBounds_toArray, List.set_cons_zero, List.set_cons_succ, List.getElem_toArray, List.getElem_cons_succ, List.getElem_cons_zero]
          refine wpAnyH_done (by kernel_rfl) ?_ _
          have hnm : isM d = false := by rw [HM.out, decide_eq_false h6, Bool.false_and, Bool.and_false]
          have hgm := HGZ.out hnm
          have HNM := Lib.hid hnm; have HGM := Lib.hid hgm; clear hnm hgm
          have m0_0 : D8.cell? ⟨B1, 0, none⟩ = some _ := K8_0.out.cell 0
          have m0_1 : D8.cell? ⟨B1, 1, none⟩ = some _ := K8_0.out.cell 1
          have m0_2 : D8.cell? ⟨B1, 2, none⟩ = some _ := K8_0.out.cell 2
          have m0_3 : D8.cell? ⟨B1, 3, none⟩ = some _ := K8_0.out.cell 3
          have m0_4 : D8.cell? ⟨B1, 4, none⟩ = some _ := K8_0.out.cell 4
          have m0_5 : D8.cell? ⟨B1, 5, none⟩ = some _ := K8_0.out.cell 5
          have mlt0 : B1 < D8.heap.size := K8_0.out.lt
          have mf0 : ∀ o, D8.frozen? ⟨B1, o, none⟩ = false := fun o => K8_0.out.free o
          go_wp2
          clear m0_0 m0_1 m0_2 m0_3 m0_4 m0_5 mlt0 mf0
          obtain ⟨W16, hW⟩ : ∃ WX, WX = ((((((D8.setCell ⟨B1, 0, none⟩ (.int .i64 0)).setCell ⟨B1, 1, none⟩ (.int .i64 0)).setCell ⟨B1, 2, none⟩ (.int .i64 0)).setCell ⟨B1, 3, none⟩ (.int .i64 0)).setCell ⟨B1, 4, none⟩ (.int .u16 0)).setCell ⟨B1, 5, none⟩ (.slice none 0 0)) := ⟨_, rfl⟩
          rw [← hW]
          have K16_0 := Lib.hid (show Blk W16 B1 [.int .i64 0, .int .i64 0, .int .i64 0, .int .i64 0, .int .u16 0, .slice none 0 0] 26 from hW ▸ ((((((K8_0.out.set 0 (.int .i64 0)).set 1 (.int .i64 0)).set 2 (.int .i64 0)).set 3 (.int .i64 0)).set 4 (.int .u16 0)).set 5 (.slice none 0 0)))
          have K16_1 := Lib.hid (show Blk W16 B3 [.int .i64 (a0 : Int), .int .i64 (p : Int), .int .i64 (a1 : Int), .int .i64 (a2 : Int), .int .u16 (s : Int), .slice A2 m2 cap2] 26 from hW ▸ ((((((K8_1.out.other ⟨B1, 0, none⟩ (.int .i64 0) (Ne.symm X3_0_0.out)).other ⟨B1, 1, none⟩ (.int .i64 0) (Ne.symm X3_0_0.out)).other ⟨B1, 2, none⟩ (.int .i64 0) (Ne.symm X3_0_0.out)).other ⟨B1, 3, none⟩ (.int .i64 0) (Ne.symm X3_0_0.out)).other ⟨B1, 4, none⟩ (.int .u16 0) (Ne.symm X3_0_0.out)).other ⟨B1, 5, none⟩ (.slice none 0 0) (Ne.symm X3_0_0.out)))
          have L16 := Lib.hid (show Below w.heap.size w W16 from hW ▸ (Below.setCell (Below.setCell (Below.setCell (Below.setCell (Below.setCell (Below.setCell L8.out G1.out _) G1.out _) G1.out _) G1.out _) G1.out _) G1.out _))
          clear hW K8_0 K8_1
          have rr0 : W16.cell? ⟨B1, 0, none⟩ = some _ := K16_0.out.cell 0
          have rr1 : W16.cell? ⟨B1, 1, none⟩ = some _ := K16_0.out.cell 1
          have rr2 : W16.cell? ⟨B1, 2, none⟩ = some _ := K16_0.out.cell 2
          have rr3 : W16.cell? ⟨B1, 3, none⟩ = some _ := K16_0.out.cell 3
          have rr4 : W16.cell? ⟨B1, 4, none⟩ = some _ := K16_0.out.cell 4
          have rr5 : W16.cell? ⟨B1, 5, none⟩ = some _ := K16_0.out.cell 5
          refine bodyPost_ret (v := .tuple #[.agg #[.int .i64 0, .int .i64 0, .int .i64 0, .int .i64 0, .int .u16 0, .slice none 0 0], .bool false]) (by simp [results, Tryd.results15, go_sem, rr0, rr1, rr2, rr3, rr4, rr5]) rfl (by rw [HGM.out, HNM.out]; exact ⟨⟨none, 0, rfl, HZD.out _⟩, L16.out⟩)
      · have n5 : ((a5 : Int) != 0) = true := by simp; omega
        refine wpAnyH_take (i := 0) (v := ?_) rfl (by kernel_rfl) (by kernel_rfl) (by kernel_rfl) (fun _ _ _ h => h) (Or.inl ⟨by rfl, ?yldq⟩) (by assumption) ?_
        case yldq => (intro w hSw; (try dsimp only at hSw); go_simp; try with_reducible rfl)
        try simp only [Act.put, List.setIfInBounds_toArray, List.set_cons_zero, List.set_cons_succ, List.getElem_toArray, List.getElem_cons_succ, List.getElem_cons_zero]
        refine wpAnyH_take (i := 1) (v := ?_) rfl (by kernel_rfl) (by kernel_rfl) (by kernel_rfl) (fun _ _ _ h => h) (Or.inl ⟨by rfl, ?yldq⟩) (by assumption) ?_
        case yldq => (intro w hSw; (try dsimp only at hSw); go_simp; try with_reducible rfl)
        try simp only [Act.put, List.setIfInBounds_toArray, List.set_cons_zero, List.set_cons_succ, List.getElem_toArray, List.getElem_cons_succ, List.getElem_cons_zero]
        refine wpAnyH_take (i := 2) (v := _) rfl (by kernel_rfl) (by kernel_rfl) (by kernel_rfl) (fun _ _ _ h => h) (Or.inl ⟨by rfl, fun w hSw => yield_b15 _ _ _ rfl rfl hSw.1⟩) (by assumption) ?_
        try simp only [Act.put, List.setIfInBounds_toArray, List.set_cons_zero, List.set_cons_succ, List.getElem_toArray, List.getElem_cons_succ, List.getElem_cons_zero]
        refine wpAnyH_take (i := 3) (v := ?_) rfl (by kernel_rfl) (by kernel_rfl) (by kernel_rfl) (fun _ _ _ h => h) (Or.inl ⟨by rfl, ?yldq⟩) (by assumption) ?_
        case yldq => (intro w hSw; (try dsimp only at hSw); go_simp; try with_reducible rfl)
        try simp only [Act.put, List.setIfInBounds_toArray, List.set_cons_zero, List.set_cons_succ, List.getElem_toArray, List.getElem_cons_succ, List.getElem_cons_zero]
        refine wpAnyH_take (i := 4) (v := ?_) rfl (by kernel_rfl) (by kernel_rfl) (by kernel_rfl) (fun _ _ _ h => h) (Or.inl ⟨by rfl, ?yldq⟩) (by assumption) ?_
        case yldq => (intro w hSw; (try dsimp only at hSw); go_simp; try with_reducible rfl)
        try simp only [Act.put, List.setIfInBounds_toArray, List.set_cons_zero, List.set_cons_succ, List.getElem_toArray, List.getElem_cons_succ, List.getElem_cons_zero]
        refine wpAnyH_take (i := 5) (v := undef) rfl (by kernel_rfl) (by kernel_rfl) (by kernel_rfl) (fun _ _ _ h => h) (Or.inr ⟨by rfl, rfl⟩) (by assumption) ?_
        try simp only [Act.put, List.setIfInBounds_toArray, List.set_cons_zero, List.set_cons_succ, List.getElem_toArray, List.getElem_cons_succ, List.getElem_cons_zero]
        refine wpAnyH_take (i := 6) (v := undef) rfl (by kernel_rfl) (by kernel_rfl) (by kernel_rfl) (fun _ _ _ h => h) (Or.inr ⟨by rfl, rfl⟩) (by assumption) ?_
        try simp only [Act.put, List.setIfInBounds_toArray, List.set_cons_zero, List.set_cons_succ, List.getElem_toArray, List.getElem_cons_succ, List.getElem_cons_zero]
        refine wpAnyH_take (i := 7) (v := undef) rfl (by kernel_rfl) (by kernel_rfl) (by kernel_rfl) (fun _ _ _ h => h) (Or.inr ⟨by rfl, rfl⟩) (by assumption) ?_
        try simp only [Act.put, List.setIfInBounds_toArray, List.set_cons_zero, List.set_cons_succ, List.getElem_toArray, List.getElem_cons_succ, List.getElem_cons_zero]
        refine wpAnyH_take (i := 8) (v := undef) rfl (by kernel_rfl) (by kernel_rfl) (by kernel_rfl) (fun _ _ _ h => h) (Or.inr ⟨by rfl, rfl⟩) (by assumption) ?_
        try simp only [Act.put, List.setIfInBounds_toArray, List.set_cons_zero, List.set_cons_succ, List.getElem_toArray, List.getElem_cons_succ, List.getElem_cons_zero]
        refine wpAnyH_take (i := 9) (v := ?_) rfl (by kernel_rfl) (by kernel_rfl) (by kernel_rfl) (fun _ _ _ h => h) (Or.inl ⟨by rfl, ?yldq⟩) (by assumption) ?_
        case yldq => (intro w hSw; (try dsimp only at hSw); go_simp; try with_reducible rfl)
        try simp only [Act.put, List.setIfInBounds_toArray, List.set_cons_zero, List.set_cons_succ, List.getElem_toArray, List.getElem_cons_succ, List.getElem_cons_zero]
        refine wpAnyH_take (i := 10) (v := ?_) rfl (by kernel_rfl) (by kernel_rfl) (by kernel_rfl) (fun _ _ _ h => h) (Or.inl ⟨by rfl, ?yldq⟩) (by assumption) ?_
        case yldq => (intro w hSw; (try dsimp only at hSw); go_simp; try with_reducible rfl)
        try simp only [Act.put, List.setIfInBounds_toArray, List.set_cons_zero, List.set_cons_succ, List.getElem_toArray, List.getElem_cons_succ, List.getElem_cons_zero]
        refine wpAnyH_take (i := 11) (v := undef) rfl (by kernel_rfl) (by kernel_rfl) (by kernel_rfl) (fun _ _ _ h => h) (Or.inr ⟨by rfl, rfl⟩) (by assumption) ?_
        try simp only [Act.put, List.setIfInBounds_toArray, List.set_cons_zero, List.set_cons_succ, List.getElem_toArray, List.getElem_cons_succ, List.getElem_cons_zero]
        refine wpAnyH_take (i := 12) (v := undef) rfl (by kernel_rfl) (by kernel_rfl) (by kernel_rfl) (fun _ _ _ h => h) (Or.inr ⟨by rfl, rfl⟩) (by assumption) ?_
        try simp only [Act.put, List.setIfInBounds_toArray, List.set_cons_zero, List.set_cons_succ, List.getElem_toArray, List.getElem_cons_succ, List.getElem_cons_zero]
        refine wpAnyH_take (i := 13) (v := undef) rfl (by kernel_rfl) (by kernel_rfl) (by kernel_rfl) (fun _ _ _ h => h) (Or.inr ⟨by rfl, rfl⟩) (by assumption) ?_
        try simp only [Act.put, List.setIfInBounds_toArray, List.set_cons_zero, List.set_cons_succ, List.getElem_toArray, List.getElem_cons_succ, List.getElem_cons_zero]
        refine wpAnyH_take (i := 14) (v := ?_) rfl (by kernel_rfl) (by kernel_rfl) (by kernel_rfl) (fun _ _ _ h => h) (Or.inl ⟨by rfl, ?yldq⟩) (by assumption) ?_
        case yldq => (intro w hSw; (try dsimp only at hSw); go_simp; try with_reducible rfl)
        try simp only [Act.put, List.setIfInBounds_toArray, List.set_cons_zero, List.set_cons_succ, List.getElem_toArray, List.getElem_cons_succ, List.getElem_cons_zero]
        refine wpAnyH_take (i := 15) (v := ?_) rfl (by kernel_rfl) (by kernel_rfl) (by kernel_rfl) (fun _ _ _ h => h) (Or.inl ⟨by rfl, ?yldq⟩) (by assumption) ?_
        case yldq => (intro w hSw; (try dsimp only at hSw); go_simp; try with_reducible rfl)
        try simp only [Act.put, List.setIfInBounds_toArray, List.set_cons_zero, List.set_cons_succ, List.getElem_toArray, List.getElem_cons_succ, List.getElem_cons_zero]
        refine wpAnyH_take (i := 16) (v := undef) rfl (by kernel_rfl) (by kernel_rfl) (by kernel_rfl) (fun _ _ _ h => h) (Or.inr ⟨by rfl, rfl⟩) (by assumption) ?_
        try simp only [Act.put, List.setIfInBounds_toArray, List.set_cons_zero, List.set_cons_succ, List.getElem_toArray, List.getElem_cons_succ, List.getElem_cons_zero]
        refine wpAnyH_take (i := 17) (v := undef) rfl (by kernel_rfl) (by kernel_rfl) (by kernel_rfl) (fun _ _ _ h => h) (Or.inr ⟨by rfl, rfl⟩) (by assumption) ?_
        try simp only [Act.put, List.setIfInBounds_toArray, List.set_cons_zero, List.set_cons_succ, List.getElem_toArray, List.getElem_cons_succ, List.getElem_cons_zero]
        refine wpAnyH_take (i := 18) (v := undef) rfl (by kernel_rfl) (by kernel_rfl) (by kernel_rfl) (fun _ _ _ h => h) (Or.inr ⟨by rfl, rfl⟩) (by assumption) ?_
        try simp only [Act.put, List.setIfInBounds_toArray, List.set_cons_zero, List.set_cons_succ, List.getElem_toArray, List.getElem_cons_succ, List.getElem_cons_zero]
        refine wpAnyH_take (i := 19) (v := undef) rfl (by kernel_rfl) (by kernel_rfl) (by kernel_rfl) (fun _ _ _ h => h) (Or.inr ⟨by rfl, rfl⟩) (by assumption) ?_
        try simp only [Act.put, List.setIfInBounds_toArray, List.set_cons_zero, List.set_cons_succ, List.getElem_toArray, List.getElem_cons_succ, List.getElem_cons_zero]
        refine wpAnyH_take (i := 20) (v := undef) rfl (by kernel_rfl) (by kernel_rfl) (by kernel_rfl) (fun _ _ _ h => h) (Or.inr ⟨by rfl, rfl⟩) (by assumption) ?_
        try simp only [Act.put, List.setIfInBounds_toArray, List.set_cons_zero, List.set_cons_succ, List.getElem_toArray, List.getElem_cons_succ, List.getElem_cons_zero]
        refine wpAnyH_take (i := 21) (v := ?_) rfl (by kernel_rfl) (by kernel_rfl) (by kernel_rfl) (fun _ _ _ h => h) (Or.inl ⟨by rfl, ?yldq⟩) (by assumption) ?_
        case yldq => (intro w hSw; (try dsimp only at hSw); go_simp; try with_reducible rfl)
        try simp only [Act.put, List.setIfInBounds_toArray, List.set_cons_zero, List.set_cons_succ, List.getElem_toArray, List.getElem_cons_succ, List.getElem_cons_zero]
        refine wpAnyH_done (by kernel_rfl) ?_ _
        have hnm : isM d = false := by rw [HM.out, decide_eq_false h5]; rfl
        have hgm := HGZ.out hnm
        have HNM := Lib.hid hnm; have HGM := Lib.hid hgm; clear hnm hgm
        have m0_0 : D8.cell? ⟨B1, 0, none⟩ = some _ := K8_0.out.cell 0
        have m0_1 : D8.cell? ⟨B1, 1, none⟩ = some _ := K8_0.out.cell 1
        have m0_2 : D8.cell? ⟨B1, 2, none⟩ = some _ := K8_0.out.cell 2
        have m0_3 : D8.cell? ⟨B1, 3, none⟩ = some _ := K8_0.out.cell 3
        have m0_4 : D8.cell? ⟨B1, 4, none⟩ = some _ := K8_0.out.cell 4
        have m0_5 : D8.cell? ⟨B1, 5, none⟩ = some _ := K8_0.out.cell 5
        have mlt0 : B1 < D8.heap.size := K8_0.out.lt
        have mf0 : ∀ o, D8.frozen? ⟨B1, o, none⟩ = false := fun o => K8_0.out.free o
        go_wp2
        clear m0_0 m0_1 m0_2 m0_3 m0_4 m0_5 mlt0 mf0
        obtain ⟨W17, hW⟩ : ∃ WX, WX = ((((((D8.setCell ⟨B1, 0, none⟩ (.int .i64 0)).setCell ⟨B1, 1, none⟩ (.int .i64 0)).setCell ⟨B1, 2, none⟩ (.int .i64 0)).setCell ⟨B1, 3, none⟩ (.int .i64 0)).setCell ⟨B1, 4, none⟩ (.int .u16 0)).setCell ⟨B1, 5, none⟩ (.slice none 0 0)) := ⟨_, rfl⟩
        rw [← hW]
        have K17_0 := Lib.hid (show Blk W17 B1 [.int .i64 0, .int .i64 0, .int .i64 0, .int .i64 0, .int .u16 0, .slice none 0 0] 26 from hW ▸ ((((((K8_0.out.set 0 (.int .i64 0)).set 1 (.int .i64 0)).set 2 (.int .i64 0)).set 3 (.int .i64 0)).set 4 (.int .u16 0)).set 5 (.slice none 0 0)))
        have K17_1 := Lib.hid (show Blk W17 B3 [.int .i64 (a0 : Int), .int .i64 (p : Int), .int .i64 (a1 : Int), .int .i64 (a2 : Int), .int .u16 (s : Int), .slice A2 m2 cap2] 26 from hW ▸ ((((((K8_1.out.other ⟨B1, 0, none⟩ (.int .i64 0) (Ne.symm X3_0_0.out)).other ⟨B1, 1, none⟩ (.int .i64 0) (Ne.symm X3_0_0.out)).other ⟨B1, 2, none⟩ (.int .i64 0) (Ne.symm X3_0_0.out)).other ⟨B1, 3, none⟩ (.int .i64 0) (Ne.symm X3_0_0.out)).other ⟨B1, 4, none⟩ (.int .u16 0) (Ne.symm X3_0_0.out)).other ⟨B1, 5, none⟩ (.slice none 0 0) (Ne.symm X3_0_0.out)))
        have L17 := Lib.hid (show Below w.heap.size w W17 from hW ▸ (Below.setCell (Below.setCell (Below.setCell (Below.setCell (Below.setCell (Below.setCell L8.out G1.out _) G1.out _) G1.out _) G1.out _) G1.out _) G1.out _))
        clear hW K8_0 K8_1
        have rr0 : W17.cell? ⟨B1, 0, none⟩ = some _ := K17_0.out.cell 0
        have rr1 : W17.cell? ⟨B1, 1, none⟩ = some _ := K17_0.out.cell 1
        have rr2 : W17.cell? ⟨B1, 2, none⟩ = some _ := K17_0.out.cell 2
        have rr3 : W17.cell? ⟨B1, 3, none⟩ = some _ := K17_0.out.cell 3
        have rr4 : W17.cell? ⟨B1, 4, none⟩ = some _ := K17_0.out.cell 4
        have rr5 : W17.cell? ⟨B1, 5, none⟩ = some _ := K17_0.out.cell 5
        refine bodyPost_ret (v := .tuple #[.agg #[.int .i64 0, .int .i64 0, .int .i64 0, .int .i64 0, .int .u16 0, .slice none 0 0], .bool false]) (by simp [results, Tryd.results15, go_sem, rr0, rr1, rr2, rr3, rr4, rr5]) rfl (by rw [HGM.out, HNM.out]; exact ⟨⟨none, 0, rfl, HZD.out _⟩, L17.out⟩)
    · skip
      have q1 : (4107 : Int) < n := by omega
      have hnm : isM d = false := by rw [← isR_eq hby]; unfold isR; rw [hlen, decide_eq_false h41, Bool.false_and, Bool.and_false]
      have hgm := HGZ.out hnm
      have HNM := Lib.hid hnm; have HGM := Lib.hid hgm; clear hnm hgm
      go_enter Tryd.func15, Tryd.ntmps15
      go_upto_region 1 with (fail)
      have nb0 : Blk (w.alloc (.cells #[.int .i64 0, .int .i64 0, .int .i64 0, .int .i64 0, .int .u16 0, .slice none 0 0] 26)) (w.heap.size) [.int .i64 0, .int .i64 0, .int .i64 0, .int .i64 0, .int .u16 0, .slice none 0 0] 26 := Blk.new w [.int .i64 0, .int .i64 0, .int .i64 0, .int .i64 0, .int .u16 0, .slice none 0 0] 26
      have nls : Below w.heap.size w w := (Below.refl w.heap.size w)
      have nl0 := nls.alloc nls.size (.cells #[.int .i64 0, .int .i64 0, .int .i64 0, .int .i64 0, .int .u16 0, .slice none 0 0] 26)
      have nl : Below w.heap.size w (w.alloc (.cells #[.int .i64 0, .int .i64 0, .int .i64 0, .int .i64 0, .int .u16 0, .slice none 0 0] 26)) := nl0; clear nls nl0
      obtain ⟨B1, hB0⟩ : ∃ B, B = w.heap.size := ⟨_, rfl⟩
      obtain ⟨W1, hW⟩ : ∃ W, W = (w.alloc (.cells #[.int .i64 0, .int .i64 0, .int .i64 0, .int .i64 0, .int .u16 0, .slice none 0 0] 26)) := ⟨_, rfl⟩
      rw [← hW] at nl nb0
      rw [← hB0] at nb0
      rw [← hW]
      try rw [← hB0]
      have K1_0 := Lib.hid nb0
      have G1 : Hid (w.heap.size ≤ B1) := Lib.hid (by have := (Nat.le_refl w.heap.size); omega)
      have L1 := Lib.hid nl
      clear nl hW nb0 hB0
      have m0_0 : W1.cell? ⟨B1, 0, none⟩ = some _ := K1_0.out.cell 0
      have m0_1 : W1.cell? ⟨B1, 1, none⟩ = some _ := K1_0.out.cell 1
      have m0_2 : W1.cell? ⟨B1, 2, none⟩ = some _ := K1_0.out.cell 2
      have m0_3 : W1.cell? ⟨B1, 3, none⟩ = some _ := K1_0.out.cell 3
      have m0_4 : W1.cell? ⟨B1, 4, none⟩ = some _ := K1_0.out.cell 4
      have m0_5 : W1.cell? ⟨B1, 5, none⟩ = some _ := K1_0.out.cell 5
      have mlt0 : B1 < W1.heap.size := K1_0.out.lt
      have mf0 : ∀ o, W1.frozen? ⟨B1, o, none⟩ = false := fun o => K1_0.out.free o
      go_wp2
      clear m0_0 m0_1 m0_2 m0_3 m0_4 m0_5 mlt0 mf0
      obtain ⟨W2, hW⟩ : ∃ WX, WX = ((((((W1.setCell ⟨B1, 0, none⟩ (.int .i64 0)).setCell ⟨B1, 1, none⟩ (.int .i64 0)).setCell ⟨B1, 2, none⟩ (.int .i64 0)).setCell ⟨B1, 3, none⟩ (.int .i64 0)).setCell ⟨B1, 4, none⟩ (.int .u16 0)).setCell ⟨B1, 5, none⟩ (.slice none 0 0)) := ⟨_, rfl⟩
      rw [← hW]
      have K2_0 := Lib.hid (show Blk W2 B1 [.int .i64 0, .int .i64 0, .int .i64 0, .int .i64 0, .int .u16 0, .slice none 0 0] 26 from hW ▸ ((((((K1_0.out.set 0 (.int .i64 0)).set 1 (.int .i64 0)).set 2 (.int .i64 0)).set 3 (.int .i64 0)).set 4 (.int .u16 0)).set 5 (.slice none 0 0)))
      have L2 := Lib.hid (show Below w.heap.size w W2 from hW ▸ (Below.setCell (Below.setCell (Below.setCell (Below.setCell (Below.setCell (Below.setCell L1.out G1.out _) G1.out _) G1.out _) G1.out _) G1.out _) G1.out _))
      clear hW K1_0
      have rr0 : W2.cell? ⟨B1, 0, none⟩ = some _ := K2_0.out.cell 0
      have rr1 : W2.cell? ⟨B1, 1, none⟩ = some _ := K2_0.out.cell 1
      have rr2 : W2.cell? ⟨B1, 2, none⟩ = some _ := K2_0.out.cell 2
      have rr3 : W2.cell? ⟨B1, 3, none⟩ = some _ := K2_0.out.cell 3
      have rr4 : W2.cell? ⟨B1, 4, none⟩ = some _ := K2_0.out.cell 4
      have rr5 : W2.cell? ⟨B1, 5, none⟩ = some _ := K2_0.out.cell 5
      refine bodyPost_ret (v := .tuple #[.agg #[.int .i64 0, .int .i64 0, .int .i64 0, .int .i64 0, .int .u16 0, .slice none 0 0], .bool false]) (by simp [results, Tryd.results15, go_sem, rr0, rr1, rr2, rr3, rr4, rr5]) rfl (by rw [HGM.out, HNM.out]; exact ⟨⟨none, 0, rfl, HZD.out _⟩, L2.out⟩)
  · skip
    have q1 : (n : Int) < 11 := by omega
    have hnm : isM d = false := by unfold isM; rw [hlen, decide_eq_false h11]; rfl
    have hgm := HGZ.out hnm
    have HNM := Lib.hid hnm; have HGM := Lib.hid hgm; clear hnm hgm
    go_enter Tryd.func15, Tryd.ntmps15
    go_upto_region 1 with (fail)
    have nb0 : Blk (w.alloc (.cells #[.int .i64 0, .int .i64 0, .int .i64 0, .int .i64 0, .int .u16 0, .slice none 0 0] 26)) (w.heap.size) [.int .i64 0, .int .i64 0, .int .i64 0, .int .i64 0, .int .u16 0, .slice none 0 0] 26 := Blk.new w [.int .i64 0, .int .i64 0, .int .i64 0, .int .i64 0, .int .u16 0, .slice none 0 0] 26
    have nls : Below w.heap.size w w := (Below.refl w.heap.size w)
    have nl0 := nls.alloc nls.size (.cells #[.int .i64 0, .int .i64 0, .int .i64 0, .int .i64 0, .int .u16 0, .slice none 0 0] 26)
    have nl : Below w.heap.size w (w.alloc (.cells #[.int .i64 0, .int .i64 0, .int .i64 0, .int .i64 0, .int .u16 0, .slice none 0 0] 26)) := nl0; clear nls nl0
    obtain ⟨B1, hB0⟩ : ∃ B, B = w.heap.size := ⟨_, rfl⟩
    obtain ⟨W1, hW⟩ : ∃ W, W = (w.alloc (.cells #[.int .i64 0, .int .i64 0, .int .i64 0, .int .i64 0, .int .u16 0, .slice none 0 0] 26)) := ⟨_, rfl⟩
    rw [← hW] at nl nb0
    rw [← hB0] at nb0
    rw [← hW]
    try rw [← hB0]
    have K1_0 := Lib.hid nb0
    have G1 : Hid (w.heap.size ≤ B1) := Lib.hid (by have := (Nat.le_refl w.heap.size); omega)
    have L1 := Lib.hid nl
    clear nl hW nb0 hB0
    have m0_0 : W1.cell? ⟨B1, 0, none⟩ = some _ := K1_0.out.cell 0
    have m0_1 : W1.cell? ⟨B1, 1, none⟩ = some _ := K1_0.out.cell 1
    have m0_2 : W1.cell? ⟨B1, 2, none⟩ = some _ := K1_0.out.cell 2
    have m0_3 : W1.cell? ⟨B1, 3, none⟩ = some _ := K1_0.out.cell 3
    have m0_4 : W1.cell? ⟨B1, 4, none⟩ = some _ := K1_0.out.cell 4
    have m0_5 : W1.cell? ⟨B1, 5, none⟩ = some _ := K1_0.out.cell 5
    have mlt0 : B1 < W1.heap.size := K1_0.out.lt
    have mf0 : ∀ o, W1.frozen? ⟨B1, o, none⟩ = false := fun o => K1_0.out.free o
    go_wp2
    clear m0_0 m0_1 m0_2 m0_3 m0_4 m0_5 mlt0 mf0
    obtain ⟨W2, hW⟩ : ∃ WX, WX = ((((((W1.setCell ⟨B1, 0, none⟩ (.int .i64 0)).setCell ⟨B1, 1, none⟩ (.int .i64 0)).setCell ⟨B1, 2, none⟩ (.int .i64 0)).setCell ⟨B1, 3, none⟩ (.int .i64 0)).setCell ⟨B1, 4, none⟩ (.int .u16 0)).setCell ⟨B1, 5, none⟩ (.slice none 0 0)) := ⟨_, rfl⟩
    rw [← hW]
    have K2_0 := Lib.hid (show Blk W2 B1 [.int .i64 0, .int .i64 0, .int .i64 0, .int .i64 0, .int .u16 0, .slice none 0 0] 26 from hW ▸ ((((((K1_0.out.set 0 (.int .i64 0)).set 1 (.int .i64 0)).set 2 (.int .i64 0)).set 3 (.int .i64 0)).set 4 (.int .u16 0)).set 5 (.slice none 0 0)))
    have L2 := Lib.hid (show Below w.heap.size w W2 from hW ▸ (Below.setCell (Below.setCell (Below.setCell (Below.setCell (Below.setCell (Below.setCell L1.out G1.out _) G1.out _) G1.out _) G1.out _) G1.out _) G1.out _))
    clear hW K1_0
    have rr0 : W2.cell? ⟨B1, 0, none⟩ = some _ := K2_0.out.cell 0
    have rr1 : W2.cell? ⟨B1, 1, none⟩ = some _ := K2_0.out.cell 1
    have rr2 : W2.cell? ⟨B1, 2, none⟩ = some _ := K2_0.out.cell 2
    have rr3 : W2.cell? ⟨B1, 3, none⟩ = some _ := K2_0.out.cell 3
    have rr4 : W2.cell? ⟨B1, 4, none⟩ = some _ := K2_0.out.cell 4
    have rr5 : W2.cell? ⟨B1, 5, none⟩ = some _ := K2_0.out.cell 5
    refine bodyPost_ret (v := .tuple #[.agg #[.int .i64 0, .int .i64 0, .int .i64 0, .int .i64 0, .int .u16 0, .slice none 0 0], .bool false]) (by simp [results, Tryd.results15, go_sem, rr0, rr1, rr2, rr3, rr4, rr5]) rfl (by rw [HGM.out, HNM.out]; exact ⟨⟨none, 0, rfl, HZD.out _⟩, L2.out⟩)
end Go.Proofs.YtkddhjbdijegoaaDoor
