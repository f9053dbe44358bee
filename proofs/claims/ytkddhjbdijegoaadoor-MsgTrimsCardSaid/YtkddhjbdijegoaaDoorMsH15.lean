/-
  What Get of package msg answers: a contract over the translation. It says its own conditions.
-/
import Derived.Test.YtkddhjbdijegoaaDoorMsG15
namespace Go.Proofs.YtkddhjbdijegoaaDoor
open Go.RowKit
set_option linter.unusedVariables false
set_option linter.unusedSimpArgs false
attribute [local go_sem] setCell_drewN alloc_drewN

theorem load_h15 {w : World} {b k : Nat} {x : Int} (h : w.cell? ⟨b, k, none⟩ = some (.int .u64 x)) : (Instr.loadAt 38 (.pointer (some ⟨b, k, none⟩))).run Tryd.prog w = .ok (.int .u64 x) w := by
  go_simp
theorem yield_h15 {w : World} {b k : Nat} {x : Int} (a : Act) (o : Oper) (y : Operand) (ho : o.op = .load 38 y) (hx : a.eval y = .pointer (some ⟨b, k, none⟩)) (h : w.cell? ⟨b, k, none⟩ = some (.int .u64 x)) :
    (execOp a.eval o).run Tryd.prog w = .ok (.value (.int .u64 x)) w := by
  have e := load_h15 h
  obtain ⟨op, _, _, _, _, _⟩ := o
  dsimp only at ho
  subst ho
  unfold execOp
  simp only [hx]
  simp [e]
theorem Dat.other {w : World} {A : Option Addr} {n cap : Nat} {d : List Int} (h : Dat w A n cap d) (p : Addr) (v : Value) (hp : ∀ b o, A = some ⟨b, o, none⟩ → b ≠ p.block) : Dat (w.setCell p v) A n cap d := by
  refine ⟨⟨h.rd.1, h.rd.2.1, fun h0 => ?_⟩, h.len, h.nil, h.lc⟩
  obtain ⟨b, off, rfl, hc⟩ := h.rd.2.2 h0
  exact ⟨b, off, rfl, fun i hi => (cell_other w ⟨b, off + i, none⟩ p v (hp b off rfl)).trans (hc i hi)⟩
theorem Dat.drew {w : World} {A : Option Addr} {n cap : Nat} {d : List Int} (h : Dat w A n cap d) : Dat w.drew A n cap d := h.below (Below.refl _ _).drew
theorem Dat.from {w : World} {b off n cap : Nat} {d : List Int} (h : Dat w (some ⟨b, off, none⟩) n cap d) (k : Nat) (hk : k ≤ n) : Dat w (some ⟨b, off + k, none⟩) (n - k) (cap - k) (d.drop k) :=
  ⟨h.rd.from_ k, by rw [List.length_drop, h.len], fun e => (by cases e), by have := h.lc; omega⟩
theorem Dat.from2 {w : World} {b off n cap : Nat} {d : List Int} (h : Dat w (some ⟨b, off, none⟩) n cap d) (k : Nat) (hk : k ≤ n) : Dat w (if cap = k then some ⟨b, off, none⟩ else some ⟨b, off + k, none⟩) (n - k) (cap - k) (d.drop k) := by
  by_cases e : cap = k
  · rw [if_pos e]
    have hl := h.lc
    have hn := h.len
    have h1 := h.from k hk
    have hz : d.drop k = [] := List.drop_eq_nil_of_le (by omega)
    refine ⟨⟨h1.rd.1, h1.rd.2.1, fun h0 => ?_⟩, h1.len, fun e => (by cases e), h1.lc⟩
    rw [hz] at h0; simp at h0
  · rw [if_neg e]; exact h.from k hk
theorem up15_six (d : List Int) : up15 d 6 = [num15 d 0, num15 d 1, num15 d 2, num15 d 3, num15 d 4, num15 d 5] := rfl
theorem num15_lt {d : List Int} (hb : Byt d) (i : Nat) : 0 ≤ num15 d i ∧ num15 d i < (256 ^ sz15 i : Nat) := by
  have h1 : Byt ((d.drop (of15 i)).take (sz15 i)) := (hb.drop _).take _
  refine ⟨le_nn _ h1, ?_⟩
  have h2 := le_lt _ h1
  have h3 : ((d.drop (of15 i)).take (sz15 i)).length ≤ sz15 i := by rw [List.length_take]; omega
  have h4 : (256 ^ ((d.drop (of15 i)).take (sz15 i)).length : Nat) ≤ 256 ^ sz15 i := Nat.pow_le_pow_right (by omega) h3
  unfold num15
  omega
set_option maxHeartbeats 4000000 in
theorem get_any (A : Option Addr) (n cap : Nat) (d : List Int) (w : World) (hd : Dat w A n cap d) (hS : Szs w) (hb : n ≤ 140737488355328) : Calls Tryd.prog 11 #[.slice A n cap] w fun e w' =>
    (∃ A2 cap2, e = .returned (.tuple #[.agg #[.int .i64 (getM d).k, .int .i64 (getM d).p, .int .i64 (getM d).n, .int .i64 (getM d).h, .int .u16 (getM d).s, .slice A2 (getM d).d.length cap2], .bool (isM d)]) ∧ Dat w' A2 (getM d).d.length cap2 (getM d).d) ∧ Below w.heap.size w w' := by
  have hrd : ∀ w2, Below w.heap.size w w2 → Calls Tryd.prog 22 #[.slice A n cap] w2 fun e w' =>
    (∃ c0 c1 c2 c3 c4 c5, e = .returned (.tuple #[.agg #[.int .u64 c0, .int .u64 c1, .int .u64 c2, .int .u64 c3, .int .u64 c4, .int .u64 c5], .bool (decide (11 ≤ n))]) ∧ (11 ≤ n → up15 d 6 = [c0, c1, c2, c3, c4, c5])) ∧ Below w2.heap.size w2 w' := fun w2 h => read_any A n cap d w2 (hd.below h) (hS.below h)
  have HR := Lib.hid hrd; have HD := Lib.hid hd
  have hle := hd.le
  have zdat : ∀ w', Dat w' none ([] : List Int).length 0 [] := fun w' => ⟨⟨Byt.nil, by simp, fun h => by simp at h⟩, rfl, fun _ => rfl, Nat.le_refl _⟩
  have HZD := Lib.hid zdat
  have hlen := hd.len
  clear hrd hd hS zdat
  by_cases h11 : 11 ≤ n
  · obtain ⟨b, off, rfl, hc⟩ := HD.out.rd.2.2 (by omega)
    have hbd : decide (11 ≤ n) = true := decide_eq_true h11
    rw [hbd] at HR
    have q0 := num15_lt HD.out.rd.1 0; have q1 := num15_lt HD.out.rd.1 1; have q2 := num15_lt HD.out.rd.1 2; have q3 := num15_lt HD.out.rd.1 3; have q4 := num15_lt HD.out.rd.1 4; have q5 := num15_lt HD.out.rd.1 5
    simp only [sz15, Nat.reducePow] at q0 q1 q2 q3 q4 q5
    have hM : isM d = (decide (num15 d 5 = (n : Int) - 11) && rgt (mk15 d)) := by unfold isM; rw [hlen, hbd, Bool.true_and]
    have hmk : mk15 d = ⟨num15 d 0, num15 d 3, num15 d 1, num15 d 2, num15 d 4, d.drop 11⟩ := rfl
    have hup : ∀ c0 c1 c2 c3 c4 c5, (11 ≤ n → up15 d 6 = [c0, c1, c2, c3, c4, c5]) → num15 d 0 = c0 ∧ num15 d 1 = c1 ∧ num15 d 2 = c2 ∧ num15 d 3 = c3 ∧ num15 d 4 = c4 ∧ num15 d 5 = c5 := fun c0 c1 c2 c3 c4 c5 h => by
      have := h h11
      rw [up15_six] at this
      simp at this
      omega
    rw [hmk] at hM
    have hgt : ∀ x, isM d = x → getM d = if x then ⟨num15 d 0, num15 d 3, num15 d 1, num15 d 2, num15 d 4, d.drop 11⟩ else z15 := fun x hx => by unfold getM; rw [hx, hmk]
    have HUP := Lib.hid hup; have HM := Lib.hid hM; have HGT := Lib.hid hgt; have H11 := Lib.hid h11
    clear hup hM hgt hmk hbd hc
    generalize num15 d 0 = c0 at *
    generalize num15 d 1 = c1 at *
    generalize num15 d 2 = c2 at *
    generalize num15 d 3 = c3 at *
    generalize num15 d 4 = c4 at *
    generalize num15 d 5 = c5 at *
    go_enter Tryd.func11, Tryd.ntmps11
    go_upto_region 1 with (fail)
    have nb0 : Blk (w.alloc (.cells #[.int .i64 0, .int .i64 0, .int .i64 0, .int .i64 0, .int .u16 0, .slice none 0 0] 26)) (w.heap.size) [.int .i64 0, .int .i64 0, .int .i64 0, .int .i64 0, .int .u16 0, .slice none 0 0] 26 := Blk.new w [.int .i64 0, .int .i64 0, .int .i64 0, .int .i64 0, .int .u16 0, .slice none 0 0] 26
    have nls : Below w.heap.size w w := (Below.refl w.heap.size w)
    have nl0 := nls.alloc nls.size (.cells #[.int .i64 0, .int .i64 0, .int .i64 0, .int .i64 0, .int .u16 0, .slice none 0 0] 26)
    have nl : Below w.heap.size w (w.alloc (.cells #[.int .i64 0, .int .i64 0, .int .i64 0, .int .i64 0, .int .u16 0, .slice none 0 0] 26)) := nl0; clear nls nl0
    obtain ⟨B1, hB0⟩ : ∃ B, B = w.heap.size := ⟨_, rfl⟩
    obtain ⟨W1, hW⟩ : ∃ W, W = (w.alloc (.cells #[.int .i64 0, .int .i64 0, .int .i64 0, .int .i64 0, .int .u16 0, .slice none 0 0] 26)) := ⟨_, rfl⟩
    rw [← hW] at nl nb0
    rw [← hB0] at nb0
    rw [← hW]
    try rw [← hB0]
    have K1_0 := Lib.hid nb0
    have G1 : Hid (w.heap.size ≤ B1) := Lib.hid (by have := (Nat.le_refl w.heap.size); omega)
    have L1 := Lib.hid nl
    clear nl hW nb0 hB0
    have m0_0 : W1.cell? ⟨B1, 0, none⟩ = some _ := K1_0.out.cell 0
    have m0_1 : W1.cell? ⟨B1, 1, none⟩ = some _ := K1_0.out.cell 1
    have m0_2 : W1.cell? ⟨B1, 2, none⟩ = some _ := K1_0.out.cell 2
    have m0_3 : W1.cell? ⟨B1, 3, none⟩ = some _ := K1_0.out.cell 3
    have m0_4 : W1.cell? ⟨B1, 4, none⟩ = some _ := K1_0.out.cell 4
    have m0_5 : W1.cell? ⟨B1, 5, none⟩ = some _ := K1_0.out.cell 5
    have mlt0 : B1 < W1.heap.size := K1_0.out.lt
    go_wp2_with fail
    clear m0_0 m0_1 m0_2 m0_3 m0_4 m0_5 mlt0
    refine (HR.out _ L1.out).mono ?_
    rintro e w2 ⟨⟨x0, x1, x2, x3, x4, x5, rfl, hx⟩, hb⟩
    have L2 := Lib.hid (L1.out.trans (hb.mono L1.out.size))
    have K2_0 := Lib.hid (K1_0.out.below hb K1_0.out.lt)
    clear hb K1_0
    obtain ⟨rfl, rfl, rfl, rfl, rfl, rfl⟩ := HUP.out _ _ _ _ _ _ hx
    clear hx
    go_upto_region 2 with (fail)
    have nb0 : Blk (w2.alloc (.cells #[.int .u64 c0, .int .u64 c1, .int .u64 c2, .int .u64 c3, .int .u64 c4, .int .u64 c5] 39)) (w2.heap.size) [.int .u64 c0, .int .u64 c1, .int .u64 c2, .int .u64 c3, .int .u64 c4, .int .u64 c5] 39 := Blk.new w2 [.int .u64 c0, .int .u64 c1, .int .u64 c2, .int .u64 c3, .int .u64 c4, .int .u64 c5] 39
    have nls : Below w.heap.size w w2 := L2.out
    have nl0 := nls.alloc nls.size (.cells #[.int .u64 c0, .int .u64 c1, .int .u64 c2, .int .u64 c3, .int .u64 c4, .int .u64 c5] 39)
    have nl : Below w.heap.size w (w2.alloc (.cells #[.int .u64 c0, .int .u64 c1, .int .u64 c2, .int .u64 c3, .int .u64 c4, .int .u64 c5] 39)) := nl0; clear nls nl0
    have o0 : Blk (w2.alloc (.cells #[.int .u64 c0, .int .u64 c1, .int .u64 c2, .int .u64 c3, .int .u64 c4, .int .u64 c5] 39)) B1 [.int .i64 0, .int .i64 0, .int .i64 0, .int .i64 0, .int .u16 0, .slice none 0 0] 26 := (K2_0.out.alloc (.cells #[.int .u64 c0, .int .u64 c1, .int .u64 c2, .int .u64 c3, .int .u64 c4, .int .u64 c5] 39))
    have d3_0 : B1 < w2.heap.size := K2_0.out.lt
    obtain ⟨B3, hB0⟩ : ∃ B, B = w2.heap.size := ⟨_, rfl⟩
    obtain ⟨W3, hW⟩ : ∃ W, W = (w2.alloc (.cells #[.int .u64 c0, .int .u64 c1, .int .u64 c2, .int .u64 c3, .int .u64 c4, .int .u64 c5] 39)) := ⟨_, rfl⟩
    rw [← hW] at nl nb0 o0
    rw [← hB0] at nb0
    rw [← hW]
    try rw [← hB0]
    have K3_0 := Lib.hid o0
    have K3_1 := Lib.hid nb0
    have G3 : Hid (w.heap.size ≤ B3) := Lib.hid (by have := L2.out.size; omega)
    have x3_0_0 : B1 ≠ B3 := by omega
    have X3_0_0 := Lib.hid x3_0_0; clear x3_0_0
    have L3 := Lib.hid nl
    clear nl hW nb0 hB0 o0 d3_0 K2_0
    have w6 : IntKind.u64.wrap (((n : Int) - 11)) = (n : Int) - 11 := by rw [wrap_u64]; omega
    by_cases hne : c5 = (n : Int) - 11
    · have he : (c5 != (n : Int) - 11) = false := by simpa using hne
      have HNE := Lib.hid hne
      clear hne
      have m1_0 : W3.cell? ⟨B3, 0, none⟩ = some _ := K3_1.out.cell 0
      have m1_1 : W3.cell? ⟨B3, 1, none⟩ = some _ := K3_1.out.cell 1
      have m1_2 : W3.cell? ⟨B3, 2, none⟩ = some _ := K3_1.out.cell 2
      have m1_3 : W3.cell? ⟨B3, 3, none⟩ = some _ := K3_1.out.cell 3
      have m1_4 : W3.cell? ⟨B3, 4, none⟩ = some _ := K3_1.out.cell 4
      have m1_5 : W3.cell? ⟨B3, 5, none⟩ = some _ := K3_1.out.cell 5
      have mlt1 : B3 < W3.heap.size := K3_1.out.lt
      go_upto_region 4 with (fail)
      clear m1_0 m1_1 m1_2 m1_3 m1_4 m1_5 mlt1
      have wi0 : IntKind.i64.wrap c0 = c0 := by simp [IntKind.wrap, IntKind.signed, IntKind.bits]; omega
      have wi1 : IntKind.i64.wrap c1 = c1 := by simp [IntKind.wrap, IntKind.signed, IntKind.bits]; omega
      have wi2 : IntKind.i64.wrap c2 = c2 := by simp [IntKind.wrap, IntKind.signed, IntKind.bits]; omega
      have wi3 : IntKind.i64.wrap c3 = c3 := by simp [IntKind.wrap, IntKind.signed, IntKind.bits]; omega
      have wi4 : IntKind.u16.wrap c4 = c4 := by simp [IntKind.wrap, IntKind.signed, IntKind.bits]; omega
      have h11' : (11 : Int) ≤ n := by have := H11.out; omega
      have h11c : (11 : Nat) ≤ cap := by have := HD.out.lc; have := H11.out; omega
      have hlc := HD.out.lc
      refine wp_region_held_drew (S := fun w' => Blk w' B3 [.int .u64 c0, .int .u64 c1, .int .u64 c2, .int .u64 c3, .int .u64 c4, .int .u64 c5] 39) (by kernel_rfl) K3_1.out (fun hHeld => ?_)
      clear hHeld
      obtain ⟨D4, hD⟩ : ∃ x, x = W3.drew := ⟨_, rfl⟩
      rw [← hD]
      have K4_0 := Lib.hid (show Blk D4 B1 [.int .i64 0, .int .i64 0, .int .i64 0, .int .i64 0, .int .u16 0, .slice none 0 0] 26 from hD ▸ Blk.drewN K3_0.out 1)
      have K4_1 := Lib.hid (show Blk D4 B3 [.int .u64 c0, .int .u64 c1, .int .u64 c2, .int .u64 c3, .int .u64 c4, .int .u64 c5] 39 from hD ▸ Blk.drewN K3_1.out 1)
      have L4 := Lib.hid (show Below w.heap.size w D4 from hD ▸ L3.out.drew)
      clear hD K3_0 K3_1
      have hSD4 : Blk D4 B3 [.int .u64 c0, .int .u64 c1, .int .u64 c2, .int .u64 c3, .int .u64 c4, .int .u64 c5] 39 := K4_1.out
      simp only [List.size_toArray, List.length_cons, List.length_nil, Nat.reduceAdd]
      rw [show Array.replicate 21 false = [false, false, false, false, false, false, false, false, false, false, false, false, false, false, false, false, false, false, false, false, false].toArray from rfl]
      refine wpAnyH_take (i := 0) (v := ?_) rfl (by kernel_rfl) (by kernel_rfl) (by kernel_rfl) (fun _ _ _ h => h) (Or.inl ⟨by rfl, ?yldq⟩) (by assumption) ?_
      case yldq => (intro w hSw; (try dsimp only at hSw); go_simp; try with_reducible rfl)
      try simp only [Act.put, List.setIfInBounds_toArray, List.set_cons_zero, List.set_cons_succ, List.getElem_toArray, List.getElem_cons_succ, List.getElem_cons_zero]
      refine wpAnyH_take (i := 1) (v := _) rfl (by kernel_rfl) (by kernel_rfl) (by kernel_rfl) (fun _ _ _ h => h) (Or.inl ⟨by rfl, fun w hSw => yield_h15 _ _ _ rfl rfl (hSw.cell 0)⟩) (by assumption) ?_
      try simp only [Act.put, List.setIfInBounds_toArray, List.set_cons_zero, List.set_cons_succ, List.getElem_toArray, List.getElem_cons_succ, List.getElem_cons_zero]
      refine wpAnyH_take (i := 2) (v := ?_) rfl (by kernel_rfl) (by kernel_rfl) (by kernel_rfl) (fun _ _ _ h => h) (Or.inl ⟨by rfl, ?yldq⟩) (by assumption) ?_
      case yldq => (intro w hSw; (try dsimp only at hSw); go_simp; try with_reducible rfl)
      try simp only [Act.put, List.setIfInBounds_toArray, List.set_cons_zero, List.set_cons_succ, List.getElem_toArray, List.getElem_cons_succ, List.getElem_cons_zero]
      refine wpAnyH_take (i := 3) (v := ?_) rfl (by kernel_rfl) (by kernel_rfl) (by kernel_rfl) (fun _ _ _ h => h) (Or.inl ⟨by rfl, ?yldq⟩) (by assumption) ?_
      case yldq => (intro w hSw; (try dsimp only at hSw); go_simp; try with_reducible rfl)
      try simp only [Act.put, List.setIfInBounds_toArray, List.set_cons_zero, List.set_cons_succ, List.getElem_toArray, List.getElem_cons_succ, List.getElem_cons_zero]
      refine wpAnyH_take (i := 4) (v := _) rfl (by kernel_rfl) (by kernel_rfl) (by kernel_rfl) (fun _ _ _ h => h) (Or.inl ⟨by rfl, fun w hSw => yield_h15 _ _ _ rfl rfl (hSw.cell 3)⟩) (by assumption) ?_
      try simp only [Act.put, List.setIfInBounds_toArray, List.set_cons_zero, List.set_cons_succ, List.getElem_toArray, List.getElem_cons_succ, List.getElem_cons_zero]
      refine wpAnyH_take (i := 5) (v := ?_) rfl (by kernel_rfl) (by kernel_rfl) (by kernel_rfl) (fun _ _ _ h => h) (Or.inl ⟨by rfl, ?yldq⟩) (by assumption) ?_
      case yldq => (intro w hSw; (try dsimp only at hSw); go_simp; try with_reducible rfl)
      try simp only [Act.put, List.setIfInBounds_toArray, List.set_cons_zero, List.set_cons_succ, List.getElem_toArray, List.getElem_cons_succ, List.getElem_cons_zero]
      refine wpAnyH_take (i := 6) (v := ?_) rfl (by kernel_rfl) (by kernel_rfl) (by kernel_rfl) (fun _ _ _ h => h) (Or.inl ⟨by rfl, ?yldq⟩) (by assumption) ?_
      case yldq => (intro w hSw; (try dsimp only at hSw); go_simp; try with_reducible rfl)
      try simp only [Act.put, List.setIfInBounds_toArray, List.set_cons_zero, List.set_cons_succ, List.getElem_toArray, List.getElem_cons_succ, List.getElem_cons_zero]
      refine wpAnyH_take (i := 7) (v := _) rfl (by kernel_rfl) (by kernel_rfl) (by kernel_rfl) (fun _ _ _ h => h) (Or.inl ⟨by rfl, fun w hSw => yield_h15 _ _ _ rfl rfl (hSw.cell 1)⟩) (by assumption) ?_
      try simp only [Act.put, List.setIfInBounds_toArray, List.set_cons_zero, List.set_cons_succ, List.getElem_toArray, List.getElem_cons_succ, List.getElem_cons_zero]
      refine wpAnyH_take (i := 8) (v := ?_) rfl (by kernel_rfl) (by kernel_rfl) (by kernel_rfl) (fun _ _ _ h => h) (Or.inl ⟨by rfl, ?yldq⟩) (by assumption) ?_
      case yldq => (intro w hSw; (try dsimp only at hSw); go_simp; try with_reducible rfl)
      try simp only [Act.put, List.setIfInBounds_toArray, List.set_cons_zero, List.set_cons_succ, List.getElem_toArray, List.getElem_cons_succ, List.getElem_cons_zero]
      refine wpAnyH_take (i := 9) (v := ?_) rfl (by kernel_rfl) (by kernel_rfl) (by kernel_rfl) (fun _ _ _ h => h) (Or.inl ⟨by rfl, ?yldq⟩) (by assumption) ?_
      case yldq => (intro w hSw; (try dsimp only at hSw); go_simp; try with_reducible rfl)
      try simp only [Act.put, List.setIfInBounds_toArray, List.set_cons_zero, List.set_cons_succ, List.getElem_toArray, List.getElem_cons_succ, List.getElem_cons_zero]
      refine wpAnyH_take (i := 10) (v := _) rfl (by kernel_rfl) (by kernel_rfl) (by kernel_rfl) (fun _ _ _ h => h) (Or.inl ⟨by rfl, fun w hSw => yield_h15 _ _ _ rfl rfl (hSw.cell 2)⟩) (by assumption) ?_
      try simp only [Act.put, List.setIfInBounds_toArray, List.set_cons_zero, List.set_cons_succ, List.getElem_toArray, List.getElem_cons_succ, List.getElem_cons_zero]
      refine wpAnyH_take (i := 11) (v := ?_) rfl (by kernel_rfl) (by kernel_rfl) (by kernel_rfl) (fun _ _ _ h => h) (Or.inl ⟨by rfl, ?yldq⟩) (by assumption) ?_
      case yldq => (intro w hSw; (try dsimp only at hSw); go_simp; try with_reducible rfl)
      try simp only [Act.put, List.setIfInBounds_toArray, List.set_cons_zero, List.set_cons_succ, List.getElem_toArray, List.getElem_cons_succ, List.getElem_cons_zero]
      refine wpAnyH_take (i := 12) (v := ?_) rfl (by kernel_rfl) (by kernel_rfl) (by kernel_rfl) (fun _ _ _ h => h) (Or.inl ⟨by rfl, ?yldq⟩) (by assumption) ?_
      case yldq => (intro w hSw; (try dsimp only at hSw); go_simp; try with_reducible rfl)
      try simp only [Act.put, List.setIfInBounds_toArray, List.set_cons_zero, List.set_cons_succ, List.getElem_toArray, List.getElem_cons_succ, List.getElem_cons_zero]
      refine wpAnyH_take (i := 13) (v := _) rfl (by kernel_rfl) (by kernel_rfl) (by kernel_rfl) (fun _ _ _ h => h) (Or.inl ⟨by rfl, fun w hSw => yield_h15 _ _ _ rfl rfl (hSw.cell 4)⟩) (by assumption) ?_
      try simp only [Act.put, List.setIfInBounds_toArray, List.set_cons_zero, List.set_cons_succ, List.getElem_toArray, List.getElem_cons_succ, List.getElem_cons_zero]
      refine wpAnyH_take (i := 14) (v := ?_) rfl (by kernel_rfl) (by kernel_rfl) (by kernel_rfl) (fun _ _ _ h => h) (Or.inl ⟨by rfl, ?yldq⟩) (by assumption) ?_
      case yldq => (intro w hSw; (try dsimp only at hSw); go_simp; try with_reducible rfl)
      try simp only [Act.put, List.setIfInBounds_toArray, List.set_cons_zero, List.set_cons_succ, List.getElem_toArray, List.getElem_cons_succ, List.getElem_cons_zero]
      refine wpAnyH_take (i := 15) (v := ?_) rfl (by kernel_rfl) (by kernel_rfl) (by kernel_rfl) (fun _ _ _ h => h) (Or.inl ⟨by rfl, ?yldq⟩) (by assumption) ?_
      case yldq => (intro w hSw; (try dsimp only at hSw); go_simp; try with_reducible rfl)
      try simp only [Act.put, List.setIfInBounds_toArray, List.set_cons_zero, List.set_cons_succ, List.getElem_toArray, List.getElem_cons_succ, List.getElem_cons_zero]
      refine wpAnyH_take (i := 16) (v := ?_) rfl (by kernel_rfl) (by kernel_rfl) (by kernel_rfl) (fun _ _ _ h => h) (Or.inl ⟨by rfl, ?yldq⟩) (by assumption) ?_
      case yldq => (intro w hSw; (try dsimp only at hSw); go_simp; try with_reducible rfl)
      try simp only [Act.put, List.setIfInBounds_toArray, List.set_cons_zero, List.set_cons_succ, List.getElem_toArray, List.getElem_cons_succ, List.getElem_cons_zero]
      obtain ⟨AA, hAA⟩ : ∃ AA, AA = (if cap = 11 then some (⟨b, off, none⟩ : Addr) else some ⟨b, off + 11, none⟩) := ⟨_, rfl⟩
      rw [← hAA]
      have HAA := Lib.hid hAA; clear hAA
      refine wpAnyH_ready (rs := [17, 19]) (by kernel_rfl) (by simp) ?_
      refine AllReadyH.cons rfl (fun K hK => ?_) (AllReadyH.cons rfl (fun K hK => ?_) AllReadyH.nil)
      · go_simp
        have hdd := (HD.out.below L4.out).from2 11 H11.out
        rw [← HAA.out] at hdd
        have lt1 : B1 < D4.heap.size := K4_0.out.lt
        refine (copied_any _ _ _ _ _ hdd (by omega)).mono ?_
        rintro e w5 ⟨vv, rfl, hov, hb⟩
        have L5 := Lib.hid (L4.out.trans (hb.mono L4.out.size))
        have K5_0 := Lib.hid (K4_0.out.below hb K4_0.out.lt)
        have K5_1 := Lib.hid (K4_1.out.below hb K4_1.out.lt)
        clear hb K4_0 K4_1
        have hlo := hov.lt
        obtain ⟨A2, cap2, rfl, hdt⟩ := OwnV.dat hov (HD.out.rd.1.drop 11)
        obtain ⟨m2, hm2⟩ : ∃ m, m = (d.drop 11).length := ⟨_, rfl⟩
        rw [← hm2] at hdt hlo ⊢
        have hA2 : ∀ b o, A2 = some ⟨b, o, none⟩ → D4.heap.size ≤ b ∧ b < w5.heap.size := fun b o e => hlo b (by subst e; rfl)
        have HA2 := Lib.hid hA2; have T0 := Lib.hid hdt
        clear hlo hdt hA2 hov hm2 hdd
        have neA : ∀ b o, A2 = some ⟨b, o, none⟩ → b ≠ B1 := fun b o e => by have := (HA2.out b o e).1; omega
        have NA := Lib.hid neA
        clear neA
        clear lt1
        refine hK.out _ _ K5_1.out (fun hS17 => ?_)
        clear hK K
        refine wpAnyH_take (i := 18) (v := ?_) rfl (by kernel_rfl) (by kernel_rfl) (by kernel_rfl) (fun _ _ _ h => h) (Or.inl ⟨by rfl, ?yldq⟩) (by assumption) ?_
        case yldq => (intro w hSw; (try dsimp only at hSw); go_simp; try with_reducible rfl)
        try simp only [Act.put, List.setIfInBounds_toArray, List.set_cons_zero, List.set_cons_succ, List.getElem_toArray, List.getElem_cons_succ, List.getElem_cons_zero]
        refine wpAnyH_ready (rs := [19]) (by kernel_rfl) (by simp) ?_
        refine AllReadyH.cons rfl (fun K hK => ?_) AllReadyH.nil
        go_simp
        have dd0 : Dat (w5.alloc (.cells #[.int .i64 0, .int .i64 0, .int .i64 0, .int .i64 0, .int .u16 0, .slice none 0 0] 26)) A2 m2 cap2 (d.drop 11) := (T0.out.below ((Below.refl _ _).alloc (Nat.le_refl _) _))
        have nb0 : Blk (w5.alloc (.cells #[.int .i64 0, .int .i64 0, .int .i64 0, .int .i64 0, .int .u16 0, .slice none 0 0] 26)) (w5.heap.size) [.int .i64 0, .int .i64 0, .int .i64 0, .int .i64 0, .int .u16 0, .slice none 0 0] 26 := Blk.new w5 [.int .i64 0, .int .i64 0, .int .i64 0, .int .i64 0, .int .u16 0, .slice none 0 0] 26
        have nls : Below w.heap.size w w5 := L5.out
        have nl0 := nls.alloc nls.size (.cells #[.int .i64 0, .int .i64 0, .int .i64 0, .int .i64 0, .int .u16 0, .slice none 0 0] 26)
        have nl : Below w.heap.size w (w5.alloc (.cells #[.int .i64 0, .int .i64 0, .int .i64 0, .int .i64 0, .int .u16 0, .slice none 0 0] 26)) := nl0; clear nls nl0
        have o0 : Blk (w5.alloc (.cells #[.int .i64 0, .int .i64 0, .int .i64 0, .int .i64 0, .int .u16 0, .slice none 0 0] 26)) B1 [.int .i64 0, .int .i64 0, .int .i64 0, .int .i64 0, .int .u16 0, .slice none 0 0] 26 := (K5_0.out.alloc (.cells #[.int .i64 0, .int .i64 0, .int .i64 0, .int .i64 0, .int .u16 0, .slice none 0 0] 26))
        have d6_0 : B1 < w5.heap.size := K5_0.out.lt
        have o1 : Blk (w5.alloc (.cells #[.int .i64 0, .int .i64 0, .int .i64 0, .int .i64 0, .int .u16 0, .slice none 0 0] 26)) B3 [.int .u64 c0, .int .u64 c1, .int .u64 c2, .int .u64 c3, .int .u64 c4, .int .u64 c5] 39 := (K5_1.out.alloc (.cells #[.int .i64 0, .int .i64 0, .int .i64 0, .int .i64 0, .int .u16 0, .slice none 0 0] 26))
        have d6_1 : B3 < w5.heap.size := K5_1.out.lt
        obtain ⟨B6, hB0⟩ : ∃ B, B = w5.heap.size := ⟨_, rfl⟩
        have neB : ∀ b o, A2 = some ⟨b, o, none⟩ → b ≠ B6 := fun b o e => by have := (HA2.out b o e).2; omega
        have NB := Lib.hid neB
        clear neB
        obtain ⟨W6, hW⟩ : ∃ W, W = (w5.alloc (.cells #[.int .i64 0, .int .i64 0, .int .i64 0, .int .i64 0, .int .u16 0, .slice none 0 0] 26)) := ⟨_, rfl⟩
        rw [← hW] at dd0
        have T6_0 := Lib.hid dd0
        clear dd0 T0
        rw [← hW] at nl nb0 o0 o1
        rw [← hB0] at nb0
        rw [← hW]
        try rw [← hB0]
        have K6_0 := Lib.hid o0
        have K6_1 := Lib.hid o1
        have K6_2 := Lib.hid nb0
        have G6 : Hid (w.heap.size ≤ B6) := Lib.hid (by have := L5.out.size; omega)
        have x6_0_0 : B1 ≠ B6 := by omega
        have x6_1_0 : B3 ≠ B6 := by omega
        have X6_0_0 := Lib.hid x6_0_0; clear x6_0_0
        have X6_1_0 := Lib.hid x6_1_0; clear x6_1_0
        have L6 := Lib.hid nl
        clear nl hW nb0 hB0 o0 d6_0 o1 d6_1 K5_0 K5_1
        refine hK.out _ _ K6_1.out (fun hS19 => ?_)
        clear hK K
        refine wpAnyH_ready (rs := [20]) (by kernel_rfl) (by simp) ?_
        refine AllReadyH.cons rfl (fun K hK => ?_) AllReadyH.nil
        have m2_0 : W6.cell? ⟨B6, 0, none⟩ = some _ := K6_2.out.cell 0
        have m2_1 : W6.cell? ⟨B6, 1, none⟩ = some _ := K6_2.out.cell 1
        have m2_2 : W6.cell? ⟨B6, 2, none⟩ = some _ := K6_2.out.cell 2
        have m2_3 : W6.cell? ⟨B6, 3, none⟩ = some _ := K6_2.out.cell 3
        have m2_4 : W6.cell? ⟨B6, 4, none⟩ = some _ := K6_2.out.cell 4
        have m2_5 : W6.cell? ⟨B6, 5, none⟩ = some _ := K6_2.out.cell 5
        have mlt2 : B6 < W6.heap.size := K6_2.out.lt
        have mf2 : ∀ o, W6.frozen? ⟨B6, o, none⟩ = false := fun o => K6_2.out.free o
        go_simp
        clear m2_0 m2_1 m2_2 m2_3 m2_4 m2_5 mlt2 mf2
        have dd0 : Dat ((((((W6.setCell ⟨B6, 0, none⟩ (.int .i64 c0)).setCell ⟨B6, 1, none⟩ (.int .i64 c3)).setCell ⟨B6, 2, none⟩ (.int .i64 c1)).setCell ⟨B6, 3, none⟩ (.int .i64 c2)).setCell ⟨B6, 4, none⟩ (.int .u16 c4)).setCell ⟨B6, 5, none⟩ (.slice A2 m2 cap2)) A2 m2 cap2 (d.drop 11) := ((((((T6_0.out.other ⟨B6, 0, none⟩ (.int .i64 c0) NB.out).other ⟨B6, 1, none⟩ (.int .i64 c3) NB.out).other ⟨B6, 2, none⟩ (.int .i64 c1) NB.out).other ⟨B6, 3, none⟩ (.int .i64 c2) NB.out).other ⟨B6, 4, none⟩ (.int .u16 c4) NB.out).other ⟨B6, 5, none⟩ (.slice A2 m2 cap2) NB.out)
        obtain ⟨W7, hW⟩ : ∃ WX, WX = ((((((W6.setCell ⟨B6, 0, none⟩ (.int .i64 c0)).setCell ⟨B6, 1, none⟩ (.int .i64 c3)).setCell ⟨B6, 2, none⟩ (.int .i64 c1)).setCell ⟨B6, 3, none⟩ (.int .i64 c2)).setCell ⟨B6, 4, none⟩ (.int .u16 c4)).setCell ⟨B6, 5, none⟩ (.slice A2 m2 cap2)) := ⟨_, rfl⟩
        rw [← hW] at dd0
        have T7_0 := Lib.hid dd0
        clear dd0 T6_0
        rw [← hW]
        have K7_0 := Lib.hid (show Blk W7 B1 [.int .i64 0, .int .i64 0, .int .i64 0, .int .i64 0, .int .u16 0, .slice none 0 0] 26 from hW ▸ ((((((K6_0.out.other ⟨B6, 0, none⟩ (.int .i64 c0) X6_0_0.out).other ⟨B6, 1, none⟩ (.int .i64 c3) X6_0_0.out).other ⟨B6, 2, none⟩ (.int .i64 c1) X6_0_0.out).other ⟨B6, 3, none⟩ (.int .i64 c2) X6_0_0.out).other ⟨B6, 4, none⟩ (.int .u16 c4) X6_0_0.out).other ⟨B6, 5, none⟩ (.slice A2 m2 cap2) X6_0_0.out))
        have K7_1 := Lib.hid (show Blk W7 B3 [.int .u64 c0, .int .u64 c1, .int .u64 c2, .int .u64 c3, .int .u64 c4, .int .u64 c5] 39 from hW ▸ ((((((K6_1.out.other ⟨B6, 0, none⟩ (.int .i64 c0) X6_1_0.out).other ⟨B6, 1, none⟩ (.int .i64 c3) X6_1_0.out).other ⟨B6, 2, none⟩ (.int .i64 c1) X6_1_0.out).other ⟨B6, 3, none⟩ (.int .i64 c2) X6_1_0.out).other ⟨B6, 4, none⟩ (.int .u16 c4) X6_1_0.out).other ⟨B6, 5, none⟩ (.slice A2 m2 cap2) X6_1_0.out))
        have K7_2 := Lib.hid (show Blk W7 B6 [.int .i64 c0, .int .i64 c3, .int .i64 c1, .int .i64 c2, .int .u16 c4, .slice A2 m2 cap2] 26 from hW ▸ ((((((K6_2.out.set 0 (.int .i64 c0)).set 1 (.int .i64 c3)).set 2 (.int .i64 c1)).set 3 (.int .i64 c2)).set 4 (.int .u16 c4)).set 5 (.slice A2 m2 cap2)))
        have L7 := Lib.hid (show Below w.heap.size w W7 from hW ▸ (Below.setCell (Below.setCell (Below.setCell (Below.setCell (Below.setCell (Below.setCell L6.out G6.out _) G6.out _) G6.out _) G6.out _) G6.out _) G6.out _))
        clear hW K6_0 K6_1 K6_2
        refine hK.out _ _ K7_1.out (fun hS20 => ?_)
        clear hK K
        refine wpAnyH_done (by kernel_rfl) ?_ _
        go_upto_region 5 with (fail)
        cases hrr : rgt ⟨c0, c3, c1, c2, c4, d.drop 11⟩
        · have hri := right_any c0 c3 c1 c2 c4 A2 m2 cap2 (d.drop 11) _ T7_0.out.rd T7_0.out.len T7_0.out.le
          rw [hrr] at hri
          have HRI := Lib.hid hri
          clear hri
          have m2_0 : W7.cell? ⟨B6, 0, none⟩ = some _ := K7_2.out.cell 0
          have m2_1 : W7.cell? ⟨B6, 1, none⟩ = some _ := K7_2.out.cell 1
          have m2_2 : W7.cell? ⟨B6, 2, none⟩ = some _ := K7_2.out.cell 2
          have m2_3 : W7.cell? ⟨B6, 3, none⟩ = some _ := K7_2.out.cell 3
          have m2_4 : W7.cell? ⟨B6, 4, none⟩ = some _ := K7_2.out.cell 4
          have m2_5 : W7.cell? ⟨B6, 5, none⟩ = some _ := K7_2.out.cell 5
          have mlt2 : B6 < W7.heap.size := K7_2.out.lt
          go_wp2_with fail
          clear m2_0 m2_1 m2_2 m2_3 m2_4 m2_5 mlt2
          refine (HRI.out).mono ?_
          rintro e w8 ⟨rfl, hb⟩
          have L8 := Lib.hid (L7.out.trans (hb.mono L7.out.size))
          have K8_0 := Lib.hid (K7_0.out.below hb K7_0.out.lt)
          have K8_1 := Lib.hid (K7_1.out.below hb K7_1.out.lt)
          have K8_2 := Lib.hid (K7_2.out.below hb K7_2.out.lt)
          have T8_0 := Lib.hid (T7_0.out.below hb)
          clear T7_0
          clear hb K7_0 K7_1 K7_2
          have hnm : isM d = false := by rw [HM.out, hrr, Bool.and_false]
          have hgm : getM d = z15 := by unfold getM; rw [hnm]; rfl
          have HNM := Lib.hid hnm; have HGM := Lib.hid hgm; clear hnm hgm
          have m0_0 : w8.cell? ⟨B1, 0, none⟩ = some _ := K8_0.out.cell 0
          have m0_1 : w8.cell? ⟨B1, 1, none⟩ = some _ := K8_0.out.cell 1
          have m0_2 : w8.cell? ⟨B1, 2, none⟩ = some _ := K8_0.out.cell 2
          have m0_3 : w8.cell? ⟨B1, 3, none⟩ = some _ := K8_0.out.cell 3
          have m0_4 : w8.cell? ⟨B1, 4, none⟩ = some _ := K8_0.out.cell 4
          have m0_5 : w8.cell? ⟨B1, 5, none⟩ = some _ := K8_0.out.cell 5
          have mlt0 : B1 < w8.heap.size := K8_0.out.lt
          have mf0 : ∀ o, w8.frozen? ⟨B1, o, none⟩ = false := fun o => K8_0.out.free o
          go_wp2
          clear m0_0 m0_1 m0_2 m0_3 m0_4 m0_5 mlt0 mf0
          have dd0 : Dat ((((((w8.setCell ⟨B1, 0, none⟩ (.int .i64 0)).setCell ⟨B1, 1, none⟩ (.int .i64 0)).setCell ⟨B1, 2, none⟩ (.int .i64 0)).setCell ⟨B1, 3, none⟩ (.int .i64 0)).setCell ⟨B1, 4, none⟩ (.int .u16 0)).setCell ⟨B1, 5, none⟩ (.slice none 0 0)) A2 m2 cap2 (d.drop 11) := ((((((T8_0.out.other ⟨B1, 0, none⟩ (.int .i64 0) NA.out).other ⟨B1, 1, none⟩ (.int .i64 0) NA.out).other ⟨B1, 2, none⟩ (.int .i64 0) NA.out).other ⟨B1, 3, none⟩ (.int .i64 0) NA.out).other ⟨B1, 4, none⟩ (.int .u16 0) NA.out).other ⟨B1, 5, none⟩ (.slice none 0 0) NA.out)
          obtain ⟨W9, hW⟩ : ∃ WX, WX = ((((((w8.setCell ⟨B1, 0, none⟩ (.int .i64 0)).setCell ⟨B1, 1, none⟩ (.int .i64 0)).setCell ⟨B1, 2, none⟩ (.int .i64 0)).setCell ⟨B1, 3, none⟩ (.int .i64 0)).setCell ⟨B1, 4, none⟩ (.int .u16 0)).setCell ⟨B1, 5, none⟩ (.slice none 0 0)) := ⟨_, rfl⟩
          rw [← hW] at dd0
          have T9_0 := Lib.hid dd0
          clear dd0 T8_0
          rw [← hW]
          have K9_0 := Lib.hid (show Blk W9 B1 [.int .i64 0, .int .i64 0, .int .i64 0, .int .i64 0, .int .u16 0, .slice none 0 0] 26 from hW ▸ ((((((K8_0.out.set 0 (.int .i64 0)).set 1 (.int .i64 0)).set 2 (.int .i64 0)).set 3 (.int .i64 0)).set 4 (.int .u16 0)).set 5 (.slice none 0 0)))
          have K9_1 := Lib.hid (show Blk W9 B3 [.int .u64 c0, .int .u64 c1, .int .u64 c2, .int .u64 c3, .int .u64 c4, .int .u64 c5] 39 from hW ▸ ((((((K8_1.out.other ⟨B1, 0, none⟩ (.int .i64 0) (Ne.symm X3_0_0.out)).other ⟨B1, 1, none⟩ (.int .i64 0) (Ne.symm X3_0_0.out)).other ⟨B1, 2, none⟩ (.int .i64 0) (Ne.symm X3_0_0.out)).other ⟨B1, 3, none⟩ (.int .i64 0) (Ne.symm X3_0_0.out)).other ⟨B1, 4, none⟩ (.int .u16 0) (Ne.symm X3_0_0.out)).other ⟨B1, 5, none⟩ (.slice none 0 0) (Ne.symm X3_0_0.out)))
          have K9_2 := Lib.hid (show Blk W9 B6 [.int .i64 c0, .int .i64 c3, .int .i64 c1, .int .i64 c2, .int .u16 c4, .slice A2 m2 cap2] 26 from hW ▸ ((((((K8_2.out.other ⟨B1, 0, none⟩ (.int .i64 0) (Ne.symm X6_0_0.out)).other ⟨B1, 1, none⟩ (.int .i64 0) (Ne.symm X6_0_0.out)).other ⟨B1, 2, none⟩ (.int .i64 0) (Ne.symm X6_0_0.out)).other ⟨B1, 3, none⟩ (.int .i64 0) (Ne.symm X6_0_0.out)).other ⟨B1, 4, none⟩ (.int .u16 0) (Ne.symm X6_0_0.out)).other ⟨B1, 5, none⟩ (.slice none 0 0) (Ne.symm X6_0_0.out)))
          have L9 := Lib.hid (show Below w.heap.size w W9 from hW ▸ (Below.setCell (Below.setCell (Below.setCell (Below.setCell (Below.setCell (Below.setCell L8.out G1.out _) G1.out _) G1.out _) G1.out _) G1.out _) G1.out _))
          clear hW K8_0 K8_1 K8_2
          have rr0 : W9.cell? ⟨B1, 0, none⟩ = some _ := K9_0.out.cell 0
          have rr1 : W9.cell? ⟨B1, 1, none⟩ = some _ := K9_0.out.cell 1
          have rr2 : W9.cell? ⟨B1, 2, none⟩ = some _ := K9_0.out.cell 2
          have rr3 : W9.cell? ⟨B1, 3, none⟩ = some _ := K9_0.out.cell 3
          have rr4 : W9.cell? ⟨B1, 4, none⟩ = some _ := K9_0.out.cell 4
          have rr5 : W9.cell? ⟨B1, 5, none⟩ = some _ := K9_0.out.cell 5
          refine bodyPost_ret (v := .tuple #[.agg #[.int .i64 0, .int .i64 0, .int .i64 0, .int .i64 0, .int .u16 0, .slice none 0 0], .bool false]) (by simp [results, Tryd.results11, go_sem, rr0, rr1, rr2, rr3, rr4, rr5]) rfl (by rw [HGM.out, HNM.out]; exact ⟨⟨none, 0, rfl, HZD.out _⟩, L9.out⟩)
        · have hri := right_any c0 c3 c1 c2 c4 A2 m2 cap2 (d.drop 11) _ T7_0.out.rd T7_0.out.len T7_0.out.le
          rw [hrr] at hri
          have HRI := Lib.hid hri
          clear hri
          have m2_0 : W7.cell? ⟨B6, 0, none⟩ = some _ := K7_2.out.cell 0
          have m2_1 : W7.cell? ⟨B6, 1, none⟩ = some _ := K7_2.out.cell 1
          have m2_2 : W7.cell? ⟨B6, 2, none⟩ = some _ := K7_2.out.cell 2
          have m2_3 : W7.cell? ⟨B6, 3, none⟩ = some _ := K7_2.out.cell 3
          have m2_4 : W7.cell? ⟨B6, 4, none⟩ = some _ := K7_2.out.cell 4
          have m2_5 : W7.cell? ⟨B6, 5, none⟩ = some _ := K7_2.out.cell 5
          have mlt2 : B6 < W7.heap.size := K7_2.out.lt
          go_wp2_with fail
          clear m2_0 m2_1 m2_2 m2_3 m2_4 m2_5 mlt2
          refine (HRI.out).mono ?_
          rintro e w10 ⟨rfl, hb⟩
          have L10 := Lib.hid (L7.out.trans (hb.mono L7.out.size))
          have K10_0 := Lib.hid (K7_0.out.below hb K7_0.out.lt)
          have K10_1 := Lib.hid (K7_1.out.below hb K7_1.out.lt)
          have K10_2 := Lib.hid (K7_2.out.below hb K7_2.out.lt)
          have T10_0 := Lib.hid (T7_0.out.below hb)
          clear T7_0
          clear hb K7_0 K7_1 K7_2
          have him : isM d = true := by rw [HM.out, hrr, decide_eq_true HNE.out]; rfl
          have hgm := HGT.out true him
          rw [if_pos rfl] at hgm
          have HNM := Lib.hid him; have HGM := Lib.hid hgm; clear him hgm
          have m0_0 : w10.cell? ⟨B1, 0, none⟩ = some _ := K10_0.out.cell 0
          have m0_1 : w10.cell? ⟨B1, 1, none⟩ = some _ := K10_0.out.cell 1
          have m0_2 : w10.cell? ⟨B1, 2, none⟩ = some _ := K10_0.out.cell 2
          have m0_3 : w10.cell? ⟨B1, 3, none⟩ = some _ := K10_0.out.cell 3
          have m0_4 : w10.cell? ⟨B1, 4, none⟩ = some _ := K10_0.out.cell 4
          have m0_5 : w10.cell? ⟨B1, 5, none⟩ = some _ := K10_0.out.cell 5
          have mlt0 : B1 < w10.heap.size := K10_0.out.lt
          have mf0 : ∀ o, w10.frozen? ⟨B1, o, none⟩ = false := fun o => K10_0.out.free o
          have m2_0 : w10.cell? ⟨B6, 0, none⟩ = some _ := K10_2.out.cell 0
          have m2_1 : w10.cell? ⟨B6, 1, none⟩ = some _ := K10_2.out.cell 1
          have m2_2 : w10.cell? ⟨B6, 2, none⟩ = some _ := K10_2.out.cell 2
          have m2_3 : w10.cell? ⟨B6, 3, none⟩ = some _ := K10_2.out.cell 3
          have m2_4 : w10.cell? ⟨B6, 4, none⟩ = some _ := K10_2.out.cell 4
          have m2_5 : w10.cell? ⟨B6, 5, none⟩ = some _ := K10_2.out.cell 5
          have mlt2 : B6 < w10.heap.size := K10_2.out.lt
          go_wp2
          clear m0_0 m0_1 m0_2 m0_3 m0_4 m0_5 mlt0 mf0 m2_0 m2_1 m2_2 m2_3 m2_4 m2_5 mlt2
          have dd0 : Dat ((((((w10.setCell ⟨B1, 0, none⟩ (.int .i64 c0)).setCell ⟨B1, 1, none⟩ (.int .i64 c3)).setCell ⟨B1, 2, none⟩ (.int .i64 c1)).setCell ⟨B1, 3, none⟩ (.int .i64 c2)).setCell ⟨B1, 4, none⟩ (.int .u16 c4)).setCell ⟨B1, 5, none⟩ (.slice A2 m2 cap2)) A2 m2 cap2 (d.drop 11) := ((((((T10_0.out.other ⟨B1, 0, none⟩ (.int .i64 c0) NA.out).other ⟨B1, 1, none⟩ (.int .i64 c3) NA.out).other ⟨B1, 2, none⟩ (.int .i64 c1) NA.out).other ⟨B1, 3, none⟩ (.int .i64 c2) NA.out).other ⟨B1, 4, none⟩ (.int .u16 c4) NA.out).other ⟨B1, 5, none⟩ (.slice A2 m2 cap2) NA.out)
          obtain ⟨W11, hW⟩ : ∃ WX, WX = ((((((w10.setCell ⟨B1, 0, none⟩ (.int .i64 c0)).setCell ⟨B1, 1, none⟩ (.int .i64 c3)).setCell ⟨B1, 2, none⟩ (.int .i64 c1)).setCell ⟨B1, 3, none⟩ (.int .i64 c2)).setCell ⟨B1, 4, none⟩ (.int .u16 c4)).setCell ⟨B1, 5, none⟩ (.slice A2 m2 cap2)) := ⟨_, rfl⟩
          rw [← hW] at dd0
          have T11_0 := Lib.hid dd0
          clear dd0 T10_0
          rw [← hW]
          have K11_0 := Lib.hid (show Blk W11 B1 [.int .i64 c0, .int .i64 c3, .int .i64 c1, .int .i64 c2, .int .u16 c4, .slice A2 m2 cap2] 26 from hW ▸ ((((((K10_0.out.set 0 (.int .i64 c0)).set 1 (.int .i64 c3)).set 2 (.int .i64 c1)).set 3 (.int .i64 c2)).set 4 (.int .u16 c4)).set 5 (.slice A2 m2 cap2)))
          have K11_1 := Lib.hid (show Blk W11 B3 [.int .u64 c0, .int .u64 c1, .int .u64 c2, .int .u64 c3, .int .u64 c4, .int .u64 c5] 39 from hW ▸ ((((((K10_1.out.other ⟨B1, 0, none⟩ (.int .i64 c0) (Ne.symm X3_0_0.out)).other ⟨B1, 1, none⟩ (.int .i64 c3) (Ne.symm X3_0_0.out)).other ⟨B1, 2, none⟩ (.int .i64 c1) (Ne.symm X3_0_0.out)).other ⟨B1, 3, none⟩ (.int .i64 c2) (Ne.symm X3_0_0.out)).other ⟨B1, 4, none⟩ (.int .u16 c4) (Ne.symm X3_0_0.out)).other ⟨B1, 5, none⟩ (.slice A2 m2 cap2) (Ne.symm X3_0_0.out)))
          have K11_2 := Lib.hid (show Blk W11 B6 [.int .i64 c0, .int .i64 c3, .int .i64 c1, .int .i64 c2, .int .u16 c4, .slice A2 m2 cap2] 26 from hW ▸ ((((((K10_2.out.other ⟨B1, 0, none⟩ (.int .i64 c0) (Ne.symm X6_0_0.out)).other ⟨B1, 1, none⟩ (.int .i64 c3) (Ne.symm X6_0_0.out)).other ⟨B1, 2, none⟩ (.int .i64 c1) (Ne.symm X6_0_0.out)).other ⟨B1, 3, none⟩ (.int .i64 c2) (Ne.symm X6_0_0.out)).other ⟨B1, 4, none⟩ (.int .u16 c4) (Ne.symm X6_0_0.out)).other ⟨B1, 5, none⟩ (.slice A2 m2 cap2) (Ne.symm X6_0_0.out)))
          have L11 := Lib.hid (show Below w.heap.size w W11 from hW ▸ (Below.setCell (Below.setCell (Below.setCell (Below.setCell (Below.setCell (Below.setCell L10.out G1.out _) G1.out _) G1.out _) G1.out _) G1.out _) G1.out _))
          clear hW K10_0 K10_1 K10_2
          have rr0 : W11.cell? ⟨B1, 0, none⟩ = some _ := K11_0.out.cell 0
          have rr1 : W11.cell? ⟨B1, 1, none⟩ = some _ := K11_0.out.cell 1
          have rr2 : W11.cell? ⟨B1, 2, none⟩ = some _ := K11_0.out.cell 2
          have rr3 : W11.cell? ⟨B1, 3, none⟩ = some _ := K11_0.out.cell 3
          have rr4 : W11.cell? ⟨B1, 4, none⟩ = some _ := K11_0.out.cell 4
          have rr5 : W11.cell? ⟨B1, 5, none⟩ = some _ := K11_0.out.cell 5
          refine bodyPost_ret (v := .tuple #[.agg #[.int .i64 c0, .int .i64 c3, .int .i64 c1, .int .i64 c2, .int .u16 c4, .slice A2 m2 cap2], .bool true]) (by simp [results, Tryd.results11, go_sem, rr0, rr1, rr2, rr3, rr4, rr5]) rfl (by rw [HGM.out, HNM.out]; exact ⟨⟨A2, cap2, (by rw [T11_0.out.len]), (by rw [T11_0.out.len]; exact T11_0.out)⟩, L11.out⟩)
      · go_simp
        have nb0 : Blk (D4.alloc (.cells #[.int .i64 0, .int .i64 0, .int .i64 0, .int .i64 0, .int .u16 0, .slice none 0 0] 26)) (D4.heap.size) [.int .i64 0, .int .i64 0, .int .i64 0, .int .i64 0, .int .u16 0, .slice none 0 0] 26 := Blk.new D4 [.int .i64 0, .int .i64 0, .int .i64 0, .int .i64 0, .int .u16 0, .slice none 0 0] 26
        have nls : Below w.heap.size w D4 := L4.out
        have nl0 := nls.alloc nls.size (.cells #[.int .i64 0, .int .i64 0, .int .i64 0, .int .i64 0, .int .u16 0, .slice none 0 0] 26)
        have nl : Below w.heap.size w (D4.alloc (.cells #[.int .i64 0, .int .i64 0, .int .i64 0, .int .i64 0, .int .u16 0, .slice none 0 0] 26)) := nl0; clear nls nl0
        have o0 : Blk (D4.alloc (.cells #[.int .i64 0, .int .i64 0, .int .i64 0, .int .i64 0, .int .u16 0, .slice none 0 0] 26)) B1 [.int .i64 0, .int .i64 0, .int .i64 0, .int .i64 0, .int .u16 0, .slice none 0 0] 26 := (K4_0.out.alloc (.cells #[.int .i64 0, .int .i64 0, .int .i64 0, .int .i64 0, .int .u16 0, .slice none 0 0] 26))
        have d12_0 : B1 < D4.heap.size := K4_0.out.lt
        have o1 : Blk (D4.alloc (.cells #[.int .i64 0, .int .i64 0, .int .i64 0, .int .i64 0, .int .u16 0, .slice none 0 0] 26)) B3 [.int .u64 c0, .int .u64 c1, .int .u64 c2, .int .u64 c3, .int .u64 c4, .int .u64 c5] 39 := (K4_1.out.alloc (.cells #[.int .i64 0, .int .i64 0, .int .i64 0, .int .i64 0, .int .u16 0, .slice none 0 0] 26))
        have d12_1 : B3 < D4.heap.size := K4_1.out.lt
        obtain ⟨B12, hB0⟩ : ∃ B, B = D4.heap.size := ⟨_, rfl⟩
        obtain ⟨W12, hW⟩ : ∃ W, W = (D4.alloc (.cells #[.int .i64 0, .int .i64 0, .int .i64 0, .int .i64 0, .int .u16 0, .slice none 0 0] 26)) := ⟨_, rfl⟩
        rw [← hW] at nl nb0 o0 o1
        rw [← hB0] at nb0
        rw [← hW]
        try rw [← hB0]
        have K12_0 := Lib.hid o0
        have K12_1 := Lib.hid o1
        have K12_2 := Lib.hid nb0
        have G12 : Hid (w.heap.size ≤ B12) := Lib.hid (by have := L4.out.size; omega)
        have x12_0_0 : B1 ≠ B12 := by omega
        have x12_1_0 : B3 ≠ B12 := by omega
        have X12_0_0 := Lib.hid x12_0_0; clear x12_0_0
        have X12_1_0 := Lib.hid x12_1_0; clear x12_1_0
        have L12 := Lib.hid nl
        clear nl hW nb0 hB0 o0 d12_0 o1 d12_1 K4_0 K4_1
        refine hK.out _ _ K12_1.out (fun hS19 => ?_)
        clear hK K
        refine wpAnyH_ready (rs := [17]) (by kernel_rfl) (by simp) ?_
        refine AllReadyH.cons rfl (fun K hK => ?_) AllReadyH.nil
        go_simp
        have hdd := (HD.out.below L12.out).from2 11 H11.out
        rw [← HAA.out] at hdd
        have lt1 : B1 < W12.heap.size := K12_0.out.lt
        have lt6 : B12 < W12.heap.size := K12_2.out.lt
        refine (copied_any _ _ _ _ _ hdd (by omega)).mono ?_
        rintro e w13 ⟨vv, rfl, hov, hb⟩
        have L13 := Lib.hid (L12.out.trans (hb.mono L12.out.size))
        have K13_0 := Lib.hid (K12_0.out.below hb K12_0.out.lt)
        have K13_1 := Lib.hid (K12_1.out.below hb K12_1.out.lt)
        have K13_2 := Lib.hid (K12_2.out.below hb K12_2.out.lt)
        clear hb K12_0 K12_1 K12_2
        have hlo := hov.lt
        obtain ⟨A2, cap2, rfl, hdt⟩ := OwnV.dat hov (HD.out.rd.1.drop 11)
        obtain ⟨m2, hm2⟩ : ∃ m, m = (d.drop 11).length := ⟨_, rfl⟩
        rw [← hm2] at hdt hlo ⊢
        have hA2 : ∀ b o, A2 = some ⟨b, o, none⟩ → W12.heap.size ≤ b ∧ b < w13.heap.size := fun b o e => hlo b (by subst e; rfl)
        have HA2 := Lib.hid hA2; have T0 := Lib.hid hdt
        clear hlo hdt hA2 hov hm2 hdd
        have neA : ∀ b o, A2 = some ⟨b, o, none⟩ → b ≠ B1 := fun b o e => by have := (HA2.out b o e).1; omega
        have NA := Lib.hid neA
        clear neA
        have neB : ∀ b o, A2 = some ⟨b, o, none⟩ → b ≠ B12 := fun b o e => by have := (HA2.out b o e).1; omega
        have NB := Lib.hid neB
        clear neB
        clear lt1 lt6
        refine hK.out _ _ K13_1.out (fun hS17 => ?_)
        clear hK K
        refine wpAnyH_take (i := 18) (v := ?_) rfl (by kernel_rfl) (by kernel_rfl) (by kernel_rfl) (fun _ _ _ h => h) (Or.inl ⟨by rfl, ?yldq⟩) (by assumption) ?_
        case yldq => (intro w hSw; (try dsimp only at hSw); go_simp; try with_reducible rfl)
        try simp only [Act.put, List.setIfInBounds_toArray, List.set_cons_zero, List.set_cons_succ, List.getElem_toArray, List.getElem_cons_succ, List.getElem_cons_zero]
        refine wpAnyH_ready (rs := [20]) (by kernel_rfl) (by simp) ?_
        refine AllReadyH.cons rfl (fun K hK => ?_) AllReadyH.nil
        have m2_0 : w13.cell? ⟨B12, 0, none⟩ = some _ := K13_2.out.cell 0
        have m2_1 : w13.cell? ⟨B12, 1, none⟩ = some _ := K13_2.out.cell 1
        have m2_2 : w13.cell? ⟨B12, 2, none⟩ = some _ := K13_2.out.cell 2
        have m2_3 : w13.cell? ⟨B12, 3, none⟩ = some _ := K13_2.out.cell 3
        have m2_4 : w13.cell? ⟨B12, 4, none⟩ = some _ := K13_2.out.cell 4
        have m2_5 : w13.cell? ⟨B12, 5, none⟩ = some _ := K13_2.out.cell 5
        have mlt2 : B12 < w13.heap.size := K13_2.out.lt
        have mf2 : ∀ o, w13.frozen? ⟨B12, o, none⟩ = false := fun o => K13_2.out.free o
        go_simp
        clear m2_0 m2_1 m2_2 m2_3 m2_4 m2_5 mlt2 mf2
        have dd0 : Dat ((((((w13.setCell ⟨B12, 0, none⟩ (.int .i64 c0)).setCell ⟨B12, 1, none⟩ (.int .i64 c3)).setCell ⟨B12, 2, none⟩ (.int .i64 c1)).setCell ⟨B12, 3, none⟩ (.int .i64 c2)).setCell ⟨B12, 4, none⟩ (.int .u16 c4)).setCell ⟨B12, 5, none⟩ (.slice A2 m2 cap2)) A2 m2 cap2 (d.drop 11) := ((((((T0.out.other ⟨B12, 0, none⟩ (.int .i64 c0) NB.out).other ⟨B12, 1, none⟩ (.int .i64 c3) NB.out).other ⟨B12, 2, none⟩ (.int .i64 c1) NB.out).other ⟨B12, 3, none⟩ (.int .i64 c2) NB.out).other ⟨B12, 4, none⟩ (.int .u16 c4) NB.out).other ⟨B12, 5, none⟩ (.slice A2 m2 cap2) NB.out)
        obtain ⟨W14, hW⟩ : ∃ WX, WX = ((((((w13.setCell ⟨B12, 0, none⟩ (.int .i64 c0)).setCell ⟨B12, 1, none⟩ (.int .i64 c3)).setCell ⟨B12, 2, none⟩ (.int .i64 c1)).setCell ⟨B12, 3, none⟩ (.int .i64 c2)).setCell ⟨B12, 4, none⟩ (.int .u16 c4)).setCell ⟨B12, 5, none⟩ (.slice A2 m2 cap2)) := ⟨_, rfl⟩
        rw [← hW] at dd0
        have T14_0 := Lib.hid dd0
        clear dd0 T0
        rw [← hW]
        have K14_0 := Lib.hid (show Blk W14 B1 [.int .i64 0, .int .i64 0, .int .i64 0, .int .i64 0, .int .u16 0, .slice none 0 0] 26 from hW ▸ ((((((K13_0.out.other ⟨B12, 0, none⟩ (.int .i64 c0) X12_0_0.out).other ⟨B12, 1, none⟩ (.int .i64 c3) X12_0_0.out).other ⟨B12, 2, none⟩ (.int .i64 c1) X12_0_0.out).other ⟨B12, 3, none⟩ (.int .i64 c2) X12_0_0.out).other ⟨B12, 4, none⟩ (.int .u16 c4) X12_0_0.out).other ⟨B12, 5, none⟩ (.slice A2 m2 cap2) X12_0_0.out))
        have K14_1 := Lib.hid (show Blk W14 B3 [.int .u64 c0, .int .u64 c1, .int .u64 c2, .int .u64 c3, .int .u64 c4, .int .u64 c5] 39 from hW ▸ ((((((K13_1.out.other ⟨B12, 0, none⟩ (.int .i64 c0) X12_1_0.out).other ⟨B12, 1, none⟩ (.int .i64 c3) X12_1_0.out).other ⟨B12, 2, none⟩ (.int .i64 c1) X12_1_0.out).other ⟨B12, 3, none⟩ (.int .i64 c2) X12_1_0.out).other ⟨B12, 4, none⟩ (.int .u16 c4) X12_1_0.out).other ⟨B12, 5, none⟩ (.slice A2 m2 cap2) X12_1_0.out))
        have K14_2 := Lib.hid (show Blk W14 B12 [.int .i64 c0, .int .i64 c3, .int .i64 c1, .int .i64 c2, .int .u16 c4, .slice A2 m2 cap2] 26 from hW ▸ ((((((K13_2.out.set 0 (.int .i64 c0)).set 1 (.int .i64 c3)).set 2 (.int .i64 c1)).set 3 (.int .i64 c2)).set 4 (.int .u16 c4)).set 5 (.slice A2 m2 cap2)))
        have L14 := Lib.hid (show Below w.heap.size w W14 from hW ▸ (Below.setCell (Below.setCell (Below.setCell (Below.setCell (Below.setCell (Below.setCell L13.out G12.out _) G12.out _) G12.out _) G12.out _) G12.out _) G12.out _))
        clear hW K13_0 K13_1 K13_2
        refine hK.out _ _ K14_1.out (fun hS20 => ?_)
        clear hK K
        refine wpAnyH_done (by kernel_rfl) ?_ _
        go_upto_region 5 with (fail)
        cases hrr : rgt ⟨c0, c3, c1, c2, c4, d.drop 11⟩
        · have hri := right_any c0 c3 c1 c2 c4 A2 m2 cap2 (d.drop 11) _ T14_0.out.rd T14_0.out.len T14_0.out.le
          rw [hrr] at hri
          have HRI := Lib.hid hri
          clear hri
          have m2_0 : W14.cell? ⟨B12, 0, none⟩ = some _ := K14_2.out.cell 0
          have m2_1 : W14.cell? ⟨B12, 1, none⟩ = some _ := K14_2.out.cell 1
          have m2_2 : W14.cell? ⟨B12, 2, none⟩ = some _ := K14_2.out.cell 2
          have m2_3 : W14.cell? ⟨B12, 3, none⟩ = some _ := K14_2.out.cell 3
          have m2_4 : W14.cell? ⟨B12, 4, none⟩ = some _ := K14_2.out.cell 4
          have m2_5 : W14.cell? ⟨B12, 5, none⟩ = some _ := K14_2.out.cell 5
          have mlt2 : B12 < W14.heap.size := K14_2.out.lt
          go_wp2_with fail
          clear m2_0 m2_1 m2_2 m2_3 m2_4 m2_5 mlt2
          refine (HRI.out).mono ?_
          rintro e w15 ⟨rfl, hb⟩
          have L15 := Lib.hid (L14.out.trans (hb.mono L14.out.size))
          have K15_0 := Lib.hid (K14_0.out.below hb K14_0.out.lt)
          have K15_1 := Lib.hid (K14_1.out.below hb K14_1.out.lt)
          have K15_2 := Lib.hid (K14_2.out.below hb K14_2.out.lt)
          have T15_0 := Lib.hid (T14_0.out.below hb)
          clear T14_0
          clear hb K14_0 K14_1 K14_2
          have hnm : isM d = false := by rw [HM.out, hrr, Bool.and_false]
          have hgm : getM d = z15 := by unfold getM; rw [hnm]; rfl
          have HNM := Lib.hid hnm; have HGM := Lib.hid hgm; clear hnm hgm
          have m0_0 : w15.cell? ⟨B1, 0, none⟩ = some _ := K15_0.out.cell 0
          have m0_1 : w15.cell? ⟨B1, 1, none⟩ = some _ := K15_0.out.cell 1
          have m0_2 : w15.cell? ⟨B1, 2, none⟩ = some _ := K15_0.out.cell 2
          have m0_3 : w15.cell? ⟨B1, 3, none⟩ = some _ := K15_0.out.cell 3
          have m0_4 : w15.cell? ⟨B1, 4, none⟩ = some _ := K15_0.out.cell 4
          have m0_5 : w15.cell? ⟨B1, 5, none⟩ = some _ := K15_0.out.cell 5
          have mlt0 : B1 < w15.heap.size := K15_0.out.lt
          have mf0 : ∀ o, w15.frozen? ⟨B1, o, none⟩ = false := fun o => K15_0.out.free o
          go_wp2
          clear m0_0 m0_1 m0_2 m0_3 m0_4 m0_5 mlt0 mf0
          have dd0 : Dat ((((((w15.setCell ⟨B1, 0, none⟩ (.int .i64 0)).setCell ⟨B1, 1, none⟩ (.int .i64 0)).setCell ⟨B1, 2, none⟩ (.int .i64 0)).setCell ⟨B1, 3, none⟩ (.int .i64 0)).setCell ⟨B1, 4, none⟩ (.int .u16 0)).setCell ⟨B1, 5, none⟩ (.slice none 0 0)) A2 m2 cap2 (d.drop 11) := ((((((T15_0.out.other ⟨B1, 0, none⟩ (.int .i64 0) NA.out).other ⟨B1, 1, none⟩ (.int .i64 0) NA.out).other ⟨B1, 2, none⟩ (.int .i64 0) NA.out).other ⟨B1, 3, none⟩ (.int .i64 0) NA.out).other ⟨B1, 4, none⟩ (.int .u16 0) NA.out).other ⟨B1, 5, none⟩ (.slice none 0 0) NA.out)
          obtain ⟨W16, hW⟩ : ∃ WX, WX = ((((((w15.setCell ⟨B1, 0, none⟩ (.int .i64 0)).setCell ⟨B1, 1, none⟩ (.int .i64 0)).setCell ⟨B1, 2, none⟩ (.int .i64 0)).setCell ⟨B1, 3, none⟩ (.int .i64 0)).setCell ⟨B1, 4, none⟩ (.int .u16 0)).setCell ⟨B1, 5, none⟩ (.slice none 0 0)) := ⟨_, rfl⟩
          rw [← hW] at dd0
          have T16_0 := Lib.hid dd0
          clear dd0 T15_0
          rw [← hW]
          have K16_0 := Lib.hid (show Blk W16 B1 [.int .i64 0, .int .i64 0, .int .i64 0, .int .i64 0, .int .u16 0, .slice none 0 0] 26 from hW ▸ ((((((K15_0.out.set 0 (.int .i64 0)).set 1 (.int .i64 0)).set 2 (.int .i64 0)).set 3 (.int .i64 0)).set 4 (.int .u16 0)).set 5 (.slice none 0 0)))
          have K16_1 := Lib.hid (show Blk W16 B3 [.int .u64 c0, .int .u64 c1, .int .u64 c2, .int .u64 c3, .int .u64 c4, .int .u64 c5] 39 from hW ▸ ((((((K15_1.out.other ⟨B1, 0, none⟩ (.int .i64 0) (Ne.symm X3_0_0.out)).other ⟨B1, 1, none⟩ (.int .i64 0) (Ne.symm X3_0_0.out)).other ⟨B1, 2, none⟩ (.int .i64 0) (Ne.symm X3_0_0.out)).other ⟨B1, 3, none⟩ (.int .i64 0) (Ne.symm X3_0_0.out)).other ⟨B1, 4, none⟩ (.int .u16 0) (Ne.symm X3_0_0.out)).other ⟨B1, 5, none⟩ (.slice none 0 0) (Ne.symm X3_0_0.out)))
          have K16_2 := Lib.hid (show Blk W16 B12 [.int .i64 c0, .int .i64 c3, .int .i64 c1, .int .i64 c2, .int .u16 c4, .slice A2 m2 cap2] 26 from hW ▸ ((((((K15_2.out.other ⟨B1, 0, none⟩ (.int .i64 0) (Ne.symm X12_0_0.out)).other ⟨B1, 1, none⟩ (.int .i64 0) (Ne.symm X12_0_0.out)).other ⟨B1, 2, none⟩ (.int .i64 0) (Ne.symm X12_0_0.out)).other ⟨B1, 3, none⟩ (.int .i64 0) (Ne.symm X12_0_0.out)).other ⟨B1, 4, none⟩ (.int .u16 0) (Ne.symm X12_0_0.out)).other ⟨B1, 5, none⟩ (.slice none 0 0) (Ne.symm X12_0_0.out)))
          have L16 := Lib.hid (show Below w.heap.size w W16 from hW ▸ (Below.setCell (Below.setCell (Below.setCell (Below.setCell (Below.setCell (Below.setCell L15.out G1.out _) G1.out _) G1.out _) G1.out _) G1.out _) G1.out _))
          clear hW K15_0 K15_1 K15_2
          have rr0 : W16.cell? ⟨B1, 0, none⟩ = some _ := K16_0.out.cell 0
          have rr1 : W16.cell? ⟨B1, 1, none⟩ = some _ := K16_0.out.cell 1
          have rr2 : W16.cell? ⟨B1, 2, none⟩ = some _ := K16_0.out.cell 2
          have rr3 : W16.cell? ⟨B1, 3, none⟩ = some _ := K16_0.out.cell 3
          have rr4 : W16.cell? ⟨B1, 4, none⟩ = some _ := K16_0.out.cell 4
          have rr5 : W16.cell? ⟨B1, 5, none⟩ = some _ := K16_0.out.cell 5
          refine bodyPost_ret (v := .tuple #[.agg #[.int .i64 0, .int .i64 0, .int .i64 0, .int .i64 0, .int .u16 0, .slice none 0 0], .bool false]) (by simp [results, Tryd.results11, go_sem, rr0, rr1, rr2, rr3, rr4, rr5]) rfl (by rw [HGM.out, HNM.out]; exact ⟨⟨none, 0, rfl, HZD.out _⟩, L16.out⟩)
        · have hri := right_any c0 c3 c1 c2 c4 A2 m2 cap2 (d.drop 11) _ T14_0.out.rd T14_0.out.len T14_0.out.le
          rw [hrr] at hri
          have HRI := Lib.hid hri
          clear hri
          have m2_0 : W14.cell? ⟨B12, 0, none⟩ = some _ := K14_2.out.cell 0
          have m2_1 : W14.cell? ⟨B12, 1, none⟩ = some _ := K14_2.out.cell 1
          have m2_2 : W14.cell? ⟨B12, 2, none⟩ = some _ := K14_2.out.cell 2
          have m2_3 : W14.cell? ⟨B12, 3, none⟩ = some _ := K14_2.out.cell 3
          have m2_4 : W14.cell? ⟨B12, 4, none⟩ = some _ := K14_2.out.cell 4
          have m2_5 : W14.cell? ⟨B12, 5, none⟩ = some _ := K14_2.out.cell 5
          have mlt2 : B12 < W14.heap.size := K14_2.out.lt
          go_wp2_with fail
          clear m2_0 m2_1 m2_2 m2_3 m2_4 m2_5 mlt2
          refine (HRI.out).mono ?_
          rintro e w17 ⟨rfl, hb⟩
          have L17 := Lib.hid (L14.out.trans (hb.mono L14.out.size))
          have K17_0 := Lib.hid (K14_0.out.below hb K14_0.out.lt)
          have K17_1 := Lib.hid (K14_1.out.below hb K14_1.out.lt)
          have K17_2 := Lib.hid (K14_2.out.below hb K14_2.out.lt)
          have T17_0 := Lib.hid (T14_0.out.below hb)
          clear T14_0
          clear hb K14_0 K14_1 K14_2
          have him : isM d = true := by rw [HM.out, hrr, decide_eq_true HNE.out]; rfl
          have hgm := HGT.out true him
          rw [if_pos rfl] at hgm
          have HNM := Lib.hid him; have HGM := Lib.hid hgm; clear him hgm
          have m0_0 : w17.cell? ⟨B1, 0, none⟩ = some _ := K17_0.out.cell 0
          have m0_1 : w17.cell? ⟨B1, 1, none⟩ = some _ := K17_0.out.cell 1
          have m0_2 : w17.cell? ⟨B1, 2, none⟩ = some _ := K17_0.out.cell 2
          have m0_3 : w17.cell? ⟨B1, 3, none⟩ = some _ := K17_0.out.cell 3
          have m0_4 : w17.cell? ⟨B1, 4, none⟩ = some _ := K17_0.out.cell 4
          have m0_5 : w17.cell? ⟨B1, 5, none⟩ = some _ := K17_0.out.cell 5
          have mlt0 : B1 < w17.heap.size := K17_0.out.lt
          have mf0 : ∀ o, w17.frozen? ⟨B1, o, none⟩ = false := fun o => K17_0.out.free o
          have m2_0 : w17.cell? ⟨B12, 0, none⟩ = some _ := K17_2.out.cell 0
          have m2_1 : w17.cell? ⟨B12, 1, none⟩ = some _ := K17_2.out.cell 1
          have m2_2 : w17.cell? ⟨B12, 2, none⟩ = some _ := K17_2.out.cell 2
          have m2_3 : w17.cell? ⟨B12, 3, none⟩ = some _ := K17_2.out.cell 3
          have m2_4 : w17.cell? ⟨B12, 4, none⟩ = some _ := K17_2.out.cell 4
          have m2_5 : w17.cell? ⟨B12, 5, none⟩ = some _ := K17_2.out.cell 5
          have mlt2 : B12 < w17.heap.size := K17_2.out.lt
          go_wp2
          clear m0_0 m0_1 m0_2 m0_3 m0_4 m0_5 mlt0 mf0 m2_0 m2_1 m2_2 m2_3 m2_4 m2_5 mlt2
          have dd0 : Dat ((((((w17.setCell ⟨B1, 0, none⟩ (.int .i64 c0)).setCell ⟨B1, 1, none⟩ (.int .i64 c3)).setCell ⟨B1, 2, none⟩ (.int .i64 c1)).setCell ⟨B1, 3, none⟩ (.int .i64 c2)).setCell ⟨B1, 4, none⟩ (.int .u16 c4)).setCell ⟨B1, 5, none⟩ (.slice A2 m2 cap2)) A2 m2 cap2 (d.drop 11) := ((((((T17_0.out.other ⟨B1, 0, none⟩ (.int .i64 c0) NA.out).other ⟨B1, 1, none⟩ (.int .i64 c3) NA.out).other ⟨B1, 2, none⟩ (.int .i64 c1) NA.out).other ⟨B1, 3, none⟩ (.int .i64 c2) NA.out).other ⟨B1, 4, none⟩ (.int .u16 c4) NA.out).other ⟨B1, 5, none⟩ (.slice A2 m2 cap2) NA.out)
          obtain ⟨W18, hW⟩ : ∃ WX, WX = ((((((w17.setCell ⟨B1, 0, none⟩ (.int .i64 c0)).setCell ⟨B1, 1, none⟩ (.int .i64 c3)).setCell ⟨B1, 2, none⟩ (.int .i64 c1)).setCell ⟨B1, 3, none⟩ (.int .i64 c2)).setCell ⟨B1, 4, none⟩ (.int .u16 c4)).setCell ⟨B1, 5, none⟩ (.slice A2 m2 cap2)) := ⟨_, rfl⟩
          rw [← hW] at dd0
          have T18_0 := Lib.hid dd0
          clear dd0 T17_0
          rw [← hW]
          have K18_0 := Lib.hid (show Blk W18 B1 [.int .i64 c0, .int .i64 c3, .int .i64 c1, .int .i64 c2, .int .u16 c4, .slice A2 m2 cap2] 26 from hW ▸ ((((((K17_0.out.set 0 (.int .i64 c0)).set 1 (.int .i64 c3)).set 2 (.int .i64 c1)).set 3 (.int .i64 c2)).set 4 (.int .u16 c4)).set 5 (.slice A2 m2 cap2)))
          have K18_1 := Lib.hid (show Blk W18 B3 [.int .u64 c0, .int .u64 c1, .int .u64 c2, .int .u64 c3, .int .u64 c4, .int .u64 c5] 39 from hW ▸ ((((((K17_1.out.other ⟨B1, 0, none⟩ (.int .i64 c0) (Ne.symm X3_0_0.out)).other ⟨B1, 1, none⟩ (.int .i64 c3) (Ne.symm X3_0_0.out)).other ⟨B1, 2, none⟩ (.int .i64 c1) (Ne.symm X3_0_0.out)).other ⟨B1, 3, none⟩ (.int .i64 c2) (Ne.symm X3_0_0.out)).other ⟨B1, 4, none⟩ (.int .u16 c4) (Ne.symm X3_0_0.out)).other ⟨B1, 5, none⟩ (.slice A2 m2 cap2) (Ne.symm X3_0_0.out)))
          have K18_2 := Lib.hid (show Blk W18 B12 [.int .i64 c0, .int .i64 c3, .int .i64 c1, .int .i64 c2, .int .u16 c4, .slice A2 m2 cap2] 26 from hW ▸ ((((((K17_2.out.other ⟨B1, 0, none⟩ (.int .i64 c0) (Ne.symm X12_0_0.out)).other ⟨B1, 1, none⟩ (.int .i64 c3) (Ne.symm X12_0_0.out)).other ⟨B1, 2, none⟩ (.int .i64 c1) (Ne.symm X12_0_0.out)).other ⟨B1, 3, none⟩ (.int .i64 c2) (Ne.symm X12_0_0.out)).other ⟨B1, 4, none⟩ (.int .u16 c4) (Ne.symm X12_0_0.out)).other ⟨B1, 5, none⟩ (.slice A2 m2 cap2) (Ne.symm X12_0_0.out)))
          have L18 := Lib.hid (show Below w.heap.size w W18 from hW ▸ (Below.setCell (Below.setCell (Below.setCell (Below.setCell (Below.setCell (Below.setCell L17.out G1.out _) G1.out _) G1.out _) G1.out _) G1.out _) G1.out _))
          clear hW K17_0 K17_1 K17_2
          have rr0 : W18.cell? ⟨B1, 0, none⟩ = some _ := K18_0.out.cell 0
          have rr1 : W18.cell? ⟨B1, 1, none⟩ = some _ := K18_0.out.cell 1
          have rr2 : W18.cell? ⟨B1, 2, none⟩ = some _ := K18_0.out.cell 2
          have rr3 : W18.cell? ⟨B1, 3, none⟩ = some _ := K18_0.out.cell 3
          have rr4 : W18.cell? ⟨B1, 4, none⟩ = some _ := K18_0.out.cell 4
          have rr5 : W18.cell? ⟨B1, 5, none⟩ = some _ := K18_0.out.cell 5
          refine bodyPost_ret (v := .tuple #[.agg #[.int .i64 c0, .int .i64 c3, .int .i64 c1, .int .i64 c2, .int .u16 c4, .slice A2 m2 cap2], .bool true]) (by simp [results, Tryd.results11, go_sem, rr0, rr1, rr2, rr3, rr4, rr5]) rfl (by rw [HGM.out, HNM.out]; exact ⟨⟨A2, cap2, (by rw [T18_0.out.len]), (by rw [T18_0.out.len]; exact T18_0.out)⟩, L18.out⟩)
    · have he : (c5 != (n : Int) - 11) = true := by simpa using hne
      have hnm : isM d = false := by rw [HM.out, decide_eq_false hne]; rfl
      have hgm : getM d = z15 := by unfold getM; rw [hnm]; rfl
      have HNM := Lib.hid hnm; have HGM := Lib.hid hgm; clear hnm hgm
      have m1_0 : W3.cell? ⟨B3, 0, none⟩ = some _ := K3_1.out.cell 0
      have m1_1 : W3.cell? ⟨B3, 1, none⟩ = some _ := K3_1.out.cell 1
      have m1_2 : W3.cell? ⟨B3, 2, none⟩ = some _ := K3_1.out.cell 2
      have m1_3 : W3.cell? ⟨B3, 3, none⟩ = some _ := K3_1.out.cell 3
      have m1_4 : W3.cell? ⟨B3, 4, none⟩ = some _ := K3_1.out.cell 4
      have m1_5 : W3.cell? ⟨B3, 5, none⟩ = some _ := K3_1.out.cell 5
      have mlt1 : B3 < W3.heap.size := K3_1.out.lt
      have m0_0 : W3.cell? ⟨B1, 0, none⟩ = some _ := K3_0.out.cell 0
      have m0_1 : W3.cell? ⟨B1, 1, none⟩ = some _ := K3_0.out.cell 1
      have m0_2 : W3.cell? ⟨B1, 2, none⟩ = some _ := K3_0.out.cell 2
      have m0_3 : W3.cell? ⟨B1, 3, none⟩ = some _ := K3_0.out.cell 3
      have m0_4 : W3.cell? ⟨B1, 4, none⟩ = some _ := K3_0.out.cell 4
      have m0_5 : W3.cell? ⟨B1, 5, none⟩ = some _ := K3_0.out.cell 5
      have mlt0 : B1 < W3.heap.size := K3_0.out.lt
      have mf0 : ∀ o, W3.frozen? ⟨B1, o, none⟩ = false := fun o => K3_0.out.free o
      go_wp2
      clear m1_0 m1_1 m1_2 m1_3 m1_4 m1_5 mlt1 m0_0 m0_1 m0_2 m0_3 m0_4 m0_5 mlt0 mf0
      obtain ⟨W19, hW⟩ : ∃ WX, WX = ((((((W3.setCell ⟨B1, 0, none⟩ (.int .i64 0)).setCell ⟨B1, 1, none⟩ (.int .i64 0)).setCell ⟨B1, 2, none⟩ (.int .i64 0)).setCell ⟨B1, 3, none⟩ (.int .i64 0)).setCell ⟨B1, 4, none⟩ (.int .u16 0)).setCell ⟨B1, 5, none⟩ (.slice none 0 0)) := ⟨_, rfl⟩
      rw [← hW]
      have K19_0 := Lib.hid (show Blk W19 B1 [.int .i64 0, .int .i64 0, .int .i64 0, .int .i64 0, .int .u16 0, .slice none 0 0] 26 from hW ▸ ((((((K3_0.out.set 0 (.int .i64 0)).set 1 (.int .i64 0)).set 2 (.int .i64 0)).set 3 (.int .i64 0)).set 4 (.int .u16 0)).set 5 (.slice none 0 0)))
      have K19_1 := Lib.hid (show Blk W19 B3 [.int .u64 c0, .int .u64 c1, .int .u64 c2, .int .u64 c3, .int .u64 c4, .int .u64 c5] 39 from hW ▸ ((((((K3_1.out.other ⟨B1, 0, none⟩ (.int .i64 0) (Ne.symm X3_0_0.out)).other ⟨B1, 1, none⟩ (.int .i64 0) (Ne.symm X3_0_0.out)).other ⟨B1, 2, none⟩ (.int .i64 0) (Ne.symm X3_0_0.out)).other ⟨B1, 3, none⟩ (.int .i64 0) (Ne.symm X3_0_0.out)).other ⟨B1, 4, none⟩ (.int .u16 0) (Ne.symm X3_0_0.out)).other ⟨B1, 5, none⟩ (.slice none 0 0) (Ne.symm X3_0_0.out)))
      have L19 := Lib.hid (show Below w.heap.size w W19 from hW ▸ (Below.setCell (Below.setCell (Below.setCell (Below.setCell (Below.setCell (Below.setCell L3.out G1.out _) G1.out _) G1.out _) G1.out _) G1.out _) G1.out _))
      clear hW K3_0 K3_1
      have rr0 : W19.cell? ⟨B1, 0, none⟩ = some _ := K19_0.out.cell 0
      have rr1 : W19.cell? ⟨B1, 1, none⟩ = some _ := K19_0.out.cell 1
      have rr2 : W19.cell? ⟨B1, 2, none⟩ = some _ := K19_0.out.cell 2
      have rr3 : W19.cell? ⟨B1, 3, none⟩ = some _ := K19_0.out.cell 3
      have rr4 : W19.cell? ⟨B1, 4, none⟩ = some _ := K19_0.out.cell 4
      have rr5 : W19.cell? ⟨B1, 5, none⟩ = some _ := K19_0.out.cell 5
      refine bodyPost_ret (v := .tuple #[.agg #[.int .i64 0, .int .i64 0, .int .i64 0, .int .i64 0, .int .u16 0, .slice none 0 0], .bool false]) (by simp [results, Tryd.results11, go_sem, rr0, rr1, rr2, rr3, rr4, rr5]) rfl (by rw [HGM.out, HNM.out]; exact ⟨⟨none, 0, rfl, HZD.out _⟩, L19.out⟩)
  · rw [decide_eq_false h11] at HR
    go_enter Tryd.func11, Tryd.ntmps11
    go_upto_region 1 with (fail)
    have nb0 : Blk (w.alloc (.cells #[.int .i64 0, .int .i64 0, .int .i64 0, .int .i64 0, .int .u16 0, .slice none 0 0] 26)) (w.heap.size) [.int .i64 0, .int .i64 0, .int .i64 0, .int .i64 0, .int .u16 0, .slice none 0 0] 26 := Blk.new w [.int .i64 0, .int .i64 0, .int .i64 0, .int .i64 0, .int .u16 0, .slice none 0 0] 26
    have nls : Below w.heap.size w w := (Below.refl w.heap.size w)
    have nl0 := nls.alloc nls.size (.cells #[.int .i64 0, .int .i64 0, .int .i64 0, .int .i64 0, .int .u16 0, .slice none 0 0] 26)
    have nl : Below w.heap.size w (w.alloc (.cells #[.int .i64 0, .int .i64 0, .int .i64 0, .int .i64 0, .int .u16 0, .slice none 0 0] 26)) := nl0; clear nls nl0
    obtain ⟨B1, hB0⟩ : ∃ B, B = w.heap.size := ⟨_, rfl⟩
    obtain ⟨W1, hW⟩ : ∃ W, W = (w.alloc (.cells #[.int .i64 0, .int .i64 0, .int .i64 0, .int .i64 0, .int .u16 0, .slice none 0 0] 26)) := ⟨_, rfl⟩
    rw [← hW] at nl nb0
    rw [← hB0] at nb0
    rw [← hW]
    try rw [← hB0]
    have K1_0 := Lib.hid nb0
    have G1 : Hid (w.heap.size ≤ B1) := Lib.hid (by have := (Nat.le_refl w.heap.size); omega)
    have L1 := Lib.hid nl
    clear nl hW nb0 hB0
    have m0_0 : W1.cell? ⟨B1, 0, none⟩ = some _ := K1_0.out.cell 0
    have m0_1 : W1.cell? ⟨B1, 1, none⟩ = some _ := K1_0.out.cell 1
    have m0_2 : W1.cell? ⟨B1, 2, none⟩ = some _ := K1_0.out.cell 2
    have m0_3 : W1.cell? ⟨B1, 3, none⟩ = some _ := K1_0.out.cell 3
    have m0_4 : W1.cell? ⟨B1, 4, none⟩ = some _ := K1_0.out.cell 4
    have m0_5 : W1.cell? ⟨B1, 5, none⟩ = some _ := K1_0.out.cell 5
    have mlt0 : B1 < W1.heap.size := K1_0.out.lt
    go_wp2_with fail
    clear m0_0 m0_1 m0_2 m0_3 m0_4 m0_5 mlt0
    refine (HR.out _ L1.out).mono ?_
    rintro e w2 ⟨⟨x0, x1, x2, x3, x4, x5, rfl, hx⟩, hb⟩
    have L2 := Lib.hid (L1.out.trans (hb.mono L1.out.size))
    have K2_0 := Lib.hid (K1_0.out.below hb K1_0.out.lt)
    clear hb K1_0
    clear hx
    go_upto_region 2 with (fail)
    have nb0 : Blk (w2.alloc (.cells #[.int .u64 x0, .int .u64 x1, .int .u64 x2, .int .u64 x3, .int .u64 x4, .int .u64 x5] 39)) (w2.heap.size) [.int .u64 x0, .int .u64 x1, .int .u64 x2, .int .u64 x3, .int .u64 x4, .int .u64 x5] 39 := Blk.new w2 [.int .u64 x0, .int .u64 x1, .int .u64 x2, .int .u64 x3, .int .u64 x4, .int .u64 x5] 39
    have nls : Below w.heap.size w w2 := L2.out
    have nl0 := nls.alloc nls.size (.cells #[.int .u64 x0, .int .u64 x1, .int .u64 x2, .int .u64 x3, .int .u64 x4, .int .u64 x5] 39)
    have nl : Below w.heap.size w (w2.alloc (.cells #[.int .u64 x0, .int .u64 x1, .int .u64 x2, .int .u64 x3, .int .u64 x4, .int .u64 x5] 39)) := nl0; clear nls nl0
    have o0 : Blk (w2.alloc (.cells #[.int .u64 x0, .int .u64 x1, .int .u64 x2, .int .u64 x3, .int .u64 x4, .int .u64 x5] 39)) B1 [.int .i64 0, .int .i64 0, .int .i64 0, .int .i64 0, .int .u16 0, .slice none 0 0] 26 := (K2_0.out.alloc (.cells #[.int .u64 x0, .int .u64 x1, .int .u64 x2, .int .u64 x3, .int .u64 x4, .int .u64 x5] 39))
    have d3_0 : B1 < w2.heap.size := K2_0.out.lt
    obtain ⟨B3, hB0⟩ : ∃ B, B = w2.heap.size := ⟨_, rfl⟩
    obtain ⟨W3, hW⟩ : ∃ W, W = (w2.alloc (.cells #[.int .u64 x0, .int .u64 x1, .int .u64 x2, .int .u64 x3, .int .u64 x4, .int .u64 x5] 39)) := ⟨_, rfl⟩
    rw [← hW] at nl nb0 o0
    rw [← hB0] at nb0
    rw [← hW]
    try rw [← hB0]
    have K3_0 := Lib.hid o0
    have K3_1 := Lib.hid nb0
    have G3 : Hid (w.heap.size ≤ B3) := Lib.hid (by have := L2.out.size; omega)
    have x3_0_0 : B1 ≠ B3 := by omega
    have X3_0_0 := Lib.hid x3_0_0; clear x3_0_0
    have L3 := Lib.hid nl
    clear nl hW nb0 hB0 o0 d3_0 K2_0
    have hnm : isM d = false := by unfold isM; rw [hlen, decide_eq_false h11]; rfl
    have hgm : getM d = z15 := by unfold getM; rw [hnm]; rfl
    have HNM := Lib.hid hnm; have HGM := Lib.hid hgm; clear hnm hgm
    have m0_0 : W3.cell? ⟨B1, 0, none⟩ = some _ := K3_0.out.cell 0
    have m0_1 : W3.cell? ⟨B1, 1, none⟩ = some _ := K3_0.out.cell 1
    have m0_2 : W3.cell? ⟨B1, 2, none⟩ = some _ := K3_0.out.cell 2
    have m0_3 : W3.cell? ⟨B1, 3, none⟩ = some _ := K3_0.out.cell 3
    have m0_4 : W3.cell? ⟨B1, 4, none⟩ = some _ := K3_0.out.cell 4
    have m0_5 : W3.cell? ⟨B1, 5, none⟩ = some _ := K3_0.out.cell 5
    have mlt0 : B1 < W3.heap.size := K3_0.out.lt
    have mf0 : ∀ o, W3.frozen? ⟨B1, o, none⟩ = false := fun o => K3_0.out.free o
    go_wp2
    clear m0_0 m0_1 m0_2 m0_3 m0_4 m0_5 mlt0 mf0
    obtain ⟨W4, hW⟩ : ∃ WX, WX = ((((((W3.setCell ⟨B1, 0, none⟩ (.int .i64 0)).setCell ⟨B1, 1, none⟩ (.int .i64 0)).setCell ⟨B1, 2, none⟩ (.int .i64 0)).setCell ⟨B1, 3, none⟩ (.int .i64 0)).setCell ⟨B1, 4, none⟩ (.int .u16 0)).setCell ⟨B1, 5, none⟩ (.slice none 0 0)) := ⟨_, rfl⟩
    rw [← hW]
    have K4_0 := Lib.hid (show Blk W4 B1 [.int .i64 0, .int .i64 0, .int .i64 0, .int .i64 0, .int .u16 0, .slice none 0 0] 26 from hW ▸ ((((((K3_0.out.set 0 (.int .i64 0)).set 1 (.int .i64 0)).set 2 (.int .i64 0)).set 3 (.int .i64 0)).set 4 (.int .u16 0)).set 5 (.slice none 0 0)))
    have K4_1 := Lib.hid (show Blk W4 B3 [.int .u64 x0, .int .u64 x1, .int .u64 x2, .int .u64 x3, .int .u64 x4, .int .u64 x5] 39 from hW ▸ ((((((K3_1.out.other ⟨B1, 0, none⟩ (.int .i64 0) (Ne.symm X3_0_0.out)).other ⟨B1, 1, none⟩ (.int .i64 0) (Ne.symm X3_0_0.out)).other ⟨B1, 2, none⟩ (.int .i64 0) (Ne.symm X3_0_0.out)).other ⟨B1, 3, none⟩ (.int .i64 0) (Ne.symm X3_0_0.out)).other ⟨B1, 4, none⟩ (.int .u16 0) (Ne.symm X3_0_0.out)).other ⟨B1, 5, none⟩ (.slice none 0 0) (Ne.symm X3_0_0.out)))
    have L4 := Lib.hid (show Below w.heap.size w W4 from hW ▸ (Below.setCell (Below.setCell (Below.setCell (Below.setCell (Below.setCell (Below.setCell L3.out G1.out _) G1.out _) G1.out _) G1.out _) G1.out _) G1.out _))
    clear hW K3_0 K3_1
    have rr0 : W4.cell? ⟨B1, 0, none⟩ = some _ := K4_0.out.cell 0
    have rr1 : W4.cell? ⟨B1, 1, none⟩ = some _ := K4_0.out.cell 1
    have rr2 : W4.cell? ⟨B1, 2, none⟩ = some _ := K4_0.out.cell 2
    have rr3 : W4.cell? ⟨B1, 3, none⟩ = some _ := K4_0.out.cell 3
    have rr4 : W4.cell? ⟨B1, 4, none⟩ = some _ := K4_0.out.cell 4
    have rr5 : W4.cell? ⟨B1, 5, none⟩ = some _ := K4_0.out.cell 5
    refine bodyPost_ret (v := .tuple #[.agg #[.int .i64 0, .int .i64 0, .int .i64 0, .int .i64 0, .int .u16 0, .slice none 0 0], .bool false]) (by simp [results, Tryd.results11, go_sem, rr0, rr1, rr2, rr3, rr4, rr5]) rfl (by rw [HGM.out, HNM.out]; exact ⟨⟨none, 0, rfl, HZD.out _⟩, L4.out⟩)
end Go.Proofs.YtkddhjbdijegoaaDoor
