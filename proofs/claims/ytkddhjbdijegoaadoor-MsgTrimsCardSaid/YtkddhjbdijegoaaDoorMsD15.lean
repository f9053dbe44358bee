/-
  What Put of package msg answers: contracts over the translation. Each says its own conditions.
-/
import Derived.Test.YtkddhjbdijegoaaDoorMsC15
import Derived.Test.YtkddhjbdijegoaaDoorByt15
import Derived.OwnWalk
namespace Go.Proofs.YtkddhjbdijegoaaDoor
open Go.RowKit
set_option linter.unusedVariables false
set_option linter.unusedSimpArgs false
attribute [local go_sem] setCell_drewN alloc_drewN

/-- the sizes of a message's numbers read as the program's text lays them -/
def Szs (w : World) : Prop := ∀ i : Nat, i < 6 → w.cell? ⟨0, i, none⟩ = some (.int .i64 (sz15 i : Nat))
theorem Szs.below {w w' : World} (h : Szs w) (hb : Below w.heap.size w w') : Szs w' := fun i hi => (hb.cell (p := ⟨0, i, none⟩) (cell_lt (h i hi))).trans (h i hi)
theorem Szs.later {w w1 w' : World} (h : Szs w1) (hs : w.heap.size ≤ w1.heap.size) (hb : Below w1.heap.size w1 w') : Szs w' := h.below hb
def vl15 (k p n h s dl : Nat) : Nat → Nat
  | 0 => k | 1 => n | 2 => h | 3 => p | 4 => s | _ => dl
def hd15 (k p n h s dl : Nat) : Nat → List Int
  | 0 => []
  | j + 1 => hd15 k p n h s dl j ++ byt (vl15 k p n h s dl j : Nat) (sz15 j)
theorem hd15_len (k p n h s dl : Nat) : ∀ j, j ≤ 6 → (hd15 k p n h s dl j).length ≤ 11 := by
  intro j hj
  have e : ∀ j, (hd15 k p n h s dl j).length = of15 j ∨ 6 < j := by
    intro j
    match j with
    | 0 => exact .inl rfl
    | 1 | 2 | 3 | 4 | 5 | 6 => left; simp [hd15, byt_len, sz15, of15]
    | j + 7 => right; omega
  rcases e j with e | e
  · rw [e]
    match j, hj with
    | 0, _ | 1, _ | 2, _ | 3, _ | 4, _ | 5, _ | 6, _ => decide
  · omega
theorem hd15_all {k p n h s dl : Nat} (hk : k < 256) (hn : n < 256) (hh : h < 256) : hd15 k p n h s dl 6 = [(k : Int), n, h] ++ byt p 4 ++ byt s 2 ++ byt dl 2 := by
  have e1 : (k : Int) % 256 = k := by omega
  have e2 : (n : Int) % 256 = n := by omega
  have e3 : (h : Int) % 256 = h := by omega
  simp [hd15, vl15, sz15, byt1, e1, e2, e3]
theorem sz15_SzI (j : Nat) : SzI (sz15 j : Nat) := by
  unfold sz15
  split <;> first | exact .inl rfl | exact .inr (.inl rfl) | exact .inr (.inr (.inl rfl))
theorem own_base15 {w : World} {B B' t n : Nat} {v : Value} {xs : List Value} (h : w.ownsRow B t 1 v n xs) (hB : B' ≤ B) : w.ownsRow B' t 1 v n xs := by
  refine ⟨h.1, ?_⟩
  rcases h.2 with h0 | ⟨g, cap, cur, e, hb, r⟩
  · exact .inl h0
  · exact .inr ⟨g, cap, cur, e, Nat.le_trans hB hb, r⟩
theorem put_no15 (k p n h s : Int) (A : Option Addr) (dl cap : Nat) (d : List Int) (w : World) (hd : Dat w A dl cap d) (hr : rgt ⟨k, p, n, h, s, d⟩ = false) : Calls Tryd.prog 8 #[.agg #[.int .i64 k, .int .i64 p, .int .i64 n, .int .i64 h, .int .u16 s, .slice A dl cap]] w fun e w' => e = .returned (.tuple #[.slice none 0 0, .int .i64 2]) ∧ Below w.heap.size w w' := by
  have hc : ∀ w2, Below w.heap.size w w2 → Calls Tryd.prog 10 #[.agg #[.int .i64 k, .int .i64 p, .int .i64 n, .int .i64 h, .int .u16 s, .slice A dl cap]] w2 fun e w' => e = .returned (.bool false) ∧ Below w2.heap.size w2 w' := fun w2 hb => by
    have := right_any k p n h s A dl cap d w2 (hd.rd.below hb) hd.len hd.le
    rwa [hr] at this
  have HC := Lib.hid hc
  clear hc hd hr
  go_enter Tryd.func8, Tryd.ntmps8
  go_upto_region 1 with (fail)
  have nb0 : Blk (w.alloc (.cells #[.int .i64 k, .int .i64 p, .int .i64 n, .int .i64 h, .int .u16 s, .slice A dl cap] 26)) (w.heap.size) [.int .i64 k, .int .i64 p, .int .i64 n, .int .i64 h, .int .u16 s, .slice A dl cap] 26 := Blk.new w [.int .i64 k, .int .i64 p, .int .i64 n, .int .i64 h, .int .u16 s, .slice A dl cap] 26
  have nls : Below w.heap.size w w := (Below.refl w.heap.size w)
  have nl0 := nls.alloc nls.size (.cells #[.int .i64 k, .int .i64 p, .int .i64 n, .int .i64 h, .int .u16 s, .slice A dl cap] 26)
  have nl : Below w.heap.size w (w.alloc (.cells #[.int .i64 k, .int .i64 p, .int .i64 n, .int .i64 h, .int .u16 s, .slice A dl cap] 26)) := nl0; clear nls nl0
  obtain ⟨B1, hB0⟩ : ∃ B, B = w.heap.size := ⟨_, rfl⟩
  obtain ⟨W1, hW⟩ : ∃ W, W = (w.alloc (.cells #[.int .i64 k, .int .i64 p, .int .i64 n, .int .i64 h, .int .u16 s, .slice A dl cap] 26)) := ⟨_, rfl⟩
  rw [← hW] at nl nb0
  rw [← hB0] at nb0
  rw [← hW]
  try rw [← hB0]
  have K1_0 := Lib.hid nb0
  have G1 : Hid (w.heap.size ≤ B1) := Lib.hid (by have := (Nat.le_refl w.heap.size); omega)
  have L1 := Lib.hid nl
  clear nl hW nb0 hB0
  have m0_0 : W1.cell? ⟨B1, 0, none⟩ = some _ := K1_0.out.cell 0
  have m0_1 : W1.cell? ⟨B1, 1, none⟩ = some _ := K1_0.out.cell 1
  have m0_2 : W1.cell? ⟨B1, 2, none⟩ = some _ := K1_0.out.cell 2
  have m0_3 : W1.cell? ⟨B1, 3, none⟩ = some _ := K1_0.out.cell 3
  have m0_4 : W1.cell? ⟨B1, 4, none⟩ = some _ := K1_0.out.cell 4
  have m0_5 : W1.cell? ⟨B1, 5, none⟩ = some _ := K1_0.out.cell 5
  have mlt0 : B1 < W1.heap.size := K1_0.out.lt
  go_wp2_with fail
  clear m0_0 m0_1 m0_2 m0_3 m0_4 m0_5 mlt0
  refine (HC.out _ L1.out).mono ?_
  rintro e w2 ⟨rfl, hb⟩
  have L2 := Lib.hid (L1.out.trans (hb.mono L1.out.size))
  have K2_0 := Lib.hid (K1_0.out.below hb K1_0.out.lt)
  clear hb K1_0
  go_wp2
  go_ret2
  exact ⟨rfl, L2.out⟩
theorem idx15_0 (v0 v1 v2 v3 v4 v5 : Value) (w0 : World) : (Instr.index 39 (.agg #[v0, v1, v2, v3, v4, v5]) (.int .i64 0)).run Tryd.prog w0 = .ok v0 w0 := by kernel_rfl
theorem idx15_1 (v0 v1 v2 v3 v4 v5 : Value) (w0 : World) : (Instr.index 39 (.agg #[v0, v1, v2, v3, v4, v5]) (.int .i64 1)).run Tryd.prog w0 = .ok v1 w0 := by kernel_rfl
theorem idx15_2 (v0 v1 v2 v3 v4 v5 : Value) (w0 : World) : (Instr.index 39 (.agg #[v0, v1, v2, v3, v4, v5]) (.int .i64 2)).run Tryd.prog w0 = .ok v2 w0 := by kernel_rfl
theorem idx15_3 (v0 v1 v2 v3 v4 v5 : Value) (w0 : World) : (Instr.index 39 (.agg #[v0, v1, v2, v3, v4, v5]) (.int .i64 3)).run Tryd.prog w0 = .ok v3 w0 := by kernel_rfl
theorem idx15_4 (v0 v1 v2 v3 v4 v5 : Value) (w0 : World) : (Instr.index 39 (.agg #[v0, v1, v2, v3, v4, v5]) (.int .i64 4)).run Tryd.prog w0 = .ok v4 w0 := by kernel_rfl
theorem idx15_5 (v0 v1 v2 v3 v4 v5 : Value) (w0 : World) : (Instr.index 39 (.agg #[v0, v1, v2, v3, v4, v5]) (.int .i64 5)).run Tryd.prog w0 = .ok v5 w0 := by kernel_rfl
set_option maxHeartbeats 4000000 in
theorem put_yes15 (k p n h s : Nat) (A : Option Addr) (dl cap : Nat) (d : List Int) (w : World) (hd : Dat w A dl cap d) (hr : rgt ⟨k, p, n, h, s, d⟩ = true) (hs : s < 65536) (hS : Szs w) : Calls Tryd.prog 8 #[.agg #[.int .i64 (k : Int), .int .i64 (p : Int), .int .i64 (n : Int), .int .i64 (h : Int), .int .u16 (s : Int), .slice A dl cap]] w fun e w' => ∃ v, e = .returned (.tuple #[v, .int .i64 0]) ∧ OwnV w.heap.size (putM ⟨k, p, n, h, s, d⟩) v w' ∧ Below w.heap.size w w' := by
  have hc : ∀ w2, Below w.heap.size w w2 → Calls Tryd.prog 10 #[.agg #[.int .i64 (k : Int), .int .i64 (p : Int), .int .i64 (n : Int), .int .i64 (h : Int), .int .u16 (s : Int), .slice A dl cap]] w2 fun e w' => e = .returned (.bool true) ∧ Below w2.heap.size w2 w' := fun w2 hb => by
    have := right_any k p n h s A dl cap d w2 (hd.rd.below hb) hd.len hd.le
    rwa [hr] at this
  obtain ⟨i0, hi, hz0, hz1, hz2⟩ := info_parts info_u8
  obtain ⟨bk, bp, bn, bh, bl⟩ := rgt_parts hr
  dsimp only at bk bp bn bh bl
  rw [hd.len] at bl
  have hpm : putM ⟨k, p, n, h, s, d⟩ = hd15 k p n h s dl 6 ++ d := by
    rw [hd15_all (by omega) (by omega) (by omega)]
    unfold putM
    dsimp only
    rw [hd.len]
  have uw1 : IntKind.u64.wrap (k : Int) = k := by rw [wrap_u64]; omega
  have uw2 : IntKind.u64.wrap (p : Int) = p := by rw [wrap_u64]; omega
  have uw3 : IntKind.u64.wrap (n : Int) = n := by rw [wrap_u64]; omega
  have uw4 : IntKind.u64.wrap (h : Int) = h := by rw [wrap_u64]; omega
  have uw5 : IntKind.u64.wrap (s : Int) = s := by rw [wrap_u64]; omega
  have uw6 : IntKind.u64.wrap (dl : Int) = dl := by rw [wrap_u64]; omega
  have uw7 : IntKind.i64.wrap (11 + (dl : Int)) = ((11 + dl : Nat) : Int) := by simp [IntKind.wrap, IntKind.signed, IntKind.bits]; omega
  have hvl : ∀ j, vl15 k p n h s dl j ≤ 18446744073709551615 := by
    intro j; unfold vl15; split <;> omega
  have HPM := Lib.hid hpm; have HC := Lib.hid hc; have HD := Lib.hid hd; have HSZ := Lib.hid hS; have HVL := Lib.hid hvl
  clear hpm hc hd hS hr bk bp bn bh hs hvl
  go_enter Tryd.func8, Tryd.ntmps8
  go_upto_region 1 with (fail)
  have nb0 : Blk (w.alloc (.cells #[.int .i64 (k : Int), .int .i64 (p : Int), .int .i64 (n : Int), .int .i64 (h : Int), .int .u16 (s : Int), .slice A dl cap] 26)) (w.heap.size) [.int .i64 (k : Int), .int .i64 (p : Int), .int .i64 (n : Int), .int .i64 (h : Int), .int .u16 (s : Int), .slice A dl cap] 26 := Blk.new w [.int .i64 (k : Int), .int .i64 (p : Int), .int .i64 (n : Int), .int .i64 (h : Int), .int .u16 (s : Int), .slice A dl cap] 26
  have nls : Below w.heap.size w w := (Below.refl w.heap.size w)
  have nl0 := nls.alloc nls.size (.cells #[.int .i64 (k : Int), .int .i64 (p : Int), .int .i64 (n : Int), .int .i64 (h : Int), .int .u16 (s : Int), .slice A dl cap] 26)
  have nl : Below w.heap.size w (w.alloc (.cells #[.int .i64 (k : Int), .int .i64 (p : Int), .int .i64 (n : Int), .int .i64 (h : Int), .int .u16 (s : Int), .slice A dl cap] 26)) := nl0; clear nls nl0
  obtain ⟨B1, hB0⟩ : ∃ B, B = w.heap.size := ⟨_, rfl⟩
  obtain ⟨W1, hW⟩ : ∃ W, W = (w.alloc (.cells #[.int .i64 (k : Int), .int .i64 (p : Int), .int .i64 (n : Int), .int .i64 (h : Int), .int .u16 (s : Int), .slice A dl cap] 26)) := ⟨_, rfl⟩
  rw [← hW] at nl nb0
  rw [← hB0] at nb0
  rw [← hW]
  try rw [← hB0]
  have K1_0 := Lib.hid nb0
  have G1 : Hid (w.heap.size ≤ B1) := Lib.hid (by have := (Nat.le_refl w.heap.size); omega)
  have L1 := Lib.hid nl
  clear nl hW nb0 hB0
  have m0_0 : W1.cell? ⟨B1, 0, none⟩ = some _ := K1_0.out.cell 0
  have m0_1 : W1.cell? ⟨B1, 1, none⟩ = some _ := K1_0.out.cell 1
  have m0_2 : W1.cell? ⟨B1, 2, none⟩ = some _ := K1_0.out.cell 2
  have m0_3 : W1.cell? ⟨B1, 3, none⟩ = some _ := K1_0.out.cell 3
  have m0_4 : W1.cell? ⟨B1, 4, none⟩ = some _ := K1_0.out.cell 4
  have m0_5 : W1.cell? ⟨B1, 5, none⟩ = some _ := K1_0.out.cell 5
  have mlt0 : B1 < W1.heap.size := K1_0.out.lt
  go_wp2_with fail
  clear m0_0 m0_1 m0_2 m0_3 m0_4 m0_5 mlt0
  refine (HC.out _ L1.out).mono ?_
  rintro e w2 ⟨rfl, hb⟩
  have L2 := Lib.hid (L1.out.trans (hb.mono L1.out.size))
  have K2_0 := Lib.hid (K1_0.out.below hb K1_0.out.lt)
  clear hb K1_0
  have m0_0 : w2.cell? ⟨B1, 0, none⟩ = some _ := K2_0.out.cell 0
  have m0_1 : w2.cell? ⟨B1, 1, none⟩ = some _ := K2_0.out.cell 1
  have m0_2 : w2.cell? ⟨B1, 2, none⟩ = some _ := K2_0.out.cell 2
  have m0_3 : w2.cell? ⟨B1, 3, none⟩ = some _ := K2_0.out.cell 3
  have m0_4 : w2.cell? ⟨B1, 4, none⟩ = some _ := K2_0.out.cell 4
  have m0_5 : w2.cell? ⟨B1, 5, none⟩ = some _ := K2_0.out.cell 5
  have mlt0 : B1 < w2.heap.size := K2_0.out.lt
  go_upto_region 4 with (fail)
  clear m0_0 m0_1 m0_2 m0_3 m0_4 m0_5 mlt0
  have nb0 : Blk (w2.alloc (.cells #[.int .u64 (k : Int), .int .u64 (n : Int), .int .u64 (h : Int), .int .u64 (p : Int), .int .u64 (s : Int), .int .u64 (dl : Int)] 39)) (w2.heap.size) [.int .u64 (k : Int), .int .u64 (n : Int), .int .u64 (h : Int), .int .u64 (p : Int), .int .u64 (s : Int), .int .u64 (dl : Int)] 39 := Blk.new w2 [.int .u64 (k : Int), .int .u64 (n : Int), .int .u64 (h : Int), .int .u64 (p : Int), .int .u64 (s : Int), .int .u64 (dl : Int)] 39
  have nls : Below w.heap.size w w2 := L2.out
  have nl0 := nls.alloc nls.size (.cells #[.int .u64 (k : Int), .int .u64 (n : Int), .int .u64 (h : Int), .int .u64 (p : Int), .int .u64 (s : Int), .int .u64 (dl : Int)] 39)
  have nl : Below w.heap.size w (w2.alloc (.cells #[.int .u64 (k : Int), .int .u64 (n : Int), .int .u64 (h : Int), .int .u64 (p : Int), .int .u64 (s : Int), .int .u64 (dl : Int)] 39)) := nl0; clear nls nl0
  have o0 : Blk (w2.alloc (.cells #[.int .u64 (k : Int), .int .u64 (n : Int), .int .u64 (h : Int), .int .u64 (p : Int), .int .u64 (s : Int), .int .u64 (dl : Int)] 39)) B1 [.int .i64 (k : Int), .int .i64 (p : Int), .int .i64 (n : Int), .int .i64 (h : Int), .int .u16 (s : Int), .slice A dl cap] 26 := (K2_0.out.alloc (.cells #[.int .u64 (k : Int), .int .u64 (n : Int), .int .u64 (h : Int), .int .u64 (p : Int), .int .u64 (s : Int), .int .u64 (dl : Int)] 39))
  have d3_0 : B1 < w2.heap.size := K2_0.out.lt
  obtain ⟨B3, hB0⟩ : ∃ B, B = w2.heap.size := ⟨_, rfl⟩
  obtain ⟨W3, hW⟩ : ∃ W, W = (w2.alloc (.cells #[.int .u64 (k : Int), .int .u64 (n : Int), .int .u64 (h : Int), .int .u64 (p : Int), .int .u64 (s : Int), .int .u64 (dl : Int)] 39)) := ⟨_, rfl⟩
  rw [← hW] at nl nb0 o0
  rw [← hB0] at nb0
  rw [← hW]
  try rw [← hB0]
  have K3_0 := Lib.hid o0
  have K3_1 := Lib.hid nb0
  have G3 : Hid (w.heap.size ≤ B3) := Lib.hid (by have := L2.out.size; omega)
  have x3_0_0 : B1 ≠ B3 := by omega
  have X3_0_0 := Lib.hid x3_0_0; clear x3_0_0
  have L3 := Lib.hid nl
  clear nl hW nb0 hB0 o0 d3_0 K2_0
  clear uw1 uw2 uw3 uw4 uw5 uw6
  have KM := Lib.hid K3_0.out
  have m0_0 : W3.cell? ⟨B1, 0, none⟩ = some _ := K3_0.out.cell 0
  have m0_1 : W3.cell? ⟨B1, 1, none⟩ = some _ := K3_0.out.cell 1
  have m0_2 : W3.cell? ⟨B1, 2, none⟩ = some _ := K3_0.out.cell 2
  have m0_3 : W3.cell? ⟨B1, 3, none⟩ = some _ := K3_0.out.cell 3
  have m0_4 : W3.cell? ⟨B1, 4, none⟩ = some _ := K3_0.out.cell 4
  have m0_5 : W3.cell? ⟨B1, 5, none⟩ = some _ := K3_0.out.cell 5
  have mlt0 : B1 < W3.heap.size := K3_0.out.lt
  go_wp2_with (at_make; refine wpList_make_own _ rfl _ _ 24 rfl W3.heap.size 5 i0 (.int .u8 0) 1 Tryd.underlying24 hi hz0 hz1 .i64 .i64 _ (11 + dl) rfl rfl ?c0 ?c1 ?c2 (Nat.le_refl _) ?_)
  case c0 => first | rfl | exact uw7 | simp
  case c1 => rw [hz2]; omega
  case c2 => unfold maxLen; omega
  intro w5 ho hg
  clear m0_0 m0_1 m0_2 m0_3 m0_4 m0_5 mlt0
  have hb := (Below.refl W3.heap.size W3).grown hg (Nat.le_refl _) (fun k hk => by cases hk)
  have HB5 := Lib.hid hb
  have HO := Lib.hid ho
  clear ho hg uw7
  have L4 := Lib.hid (L3.out.trans (hb.mono L3.out.size))
  have K4_0 := Lib.hid (K3_0.out.below hb K3_0.out.lt)
  have K4_1 := Lib.hid (K3_1.out.below hb K3_1.out.lt)
  clear hb K3_0 K3_1
  have m1_0 : w5.cell? ⟨B3, 0, none⟩ = some _ := K4_1.out.cell 0
  have m1_1 : w5.cell? ⟨B3, 1, none⟩ = some _ := K4_1.out.cell 1
  have m1_2 : w5.cell? ⟨B3, 2, none⟩ = some _ := K4_1.out.cell 2
  have m1_3 : w5.cell? ⟨B3, 3, none⟩ = some _ := K4_1.out.cell 3
  have m1_4 : w5.cell? ⟨B3, 4, none⟩ = some _ := K4_1.out.cell 4
  have m1_5 : w5.cell? ⟨B3, 5, none⟩ = some _ := K4_1.out.cell 5
  have mlt1 : B3 < w5.heap.size := K4_1.out.lt
  go_wp2
  clear m1_0 m1_1 m1_2 m1_3 m1_4 m1_5 mlt1
  go_loopw [5, 37] (fun v i wr => ∃ (j : Nat) (x : Value), j ≤ 6 ∧ i = .int .i64 (j : Int) ∧ x = v ∧ OwnV W3.heap.size (hd15 k p n h s dl j) x wr ∧ Below W3.heap.size W3 wr) (fun _ i _ => 6 - (intOf i).toNat)
  case atStart => exact ⟨0, _, Nat.zero_le _, rfl, rfl, HO.out, HB5.out⟩
  case round =>
    obtain ⟨j, x, hj, rfl, rfl, hov, hbr⟩ := hrel
    have hlen := hd15_len k p n h s dl j hj
    have hLr := L3.out.trans (hbr.mono L3.out.size)
    have HOV := Lib.hid hov; have HBR := Lib.hid hbr; have HLR := Lib.hid hLr
    clear hov hbr hLr
    by_cases hlt : j < 6
    · have hji : (j : Int) < 6 := by omega
      have hidx : ∀ w0, (Instr.index 39 (.agg #[.int .u64 (k : Int), .int .u64 (n : Int), .int .u64 (h : Int), .int .u64 (p : Int), .int .u64 (s : Int), .int .u64 (dl : Int)]) (.int .i64 (j : Int))).run Tryd.prog w0 = .ok (.int .u64 (vl15 k p n h s dl j : Nat)) w0 := by
        intro w0
        match j, hlt with
        | 0, _ => exact idx15_0 _ _ _ _ _ _ w0
        | 1, _ => exact idx15_1 _ _ _ _ _ _ w0
        | 2, _ => exact idx15_2 _ _ _ _ _ _ w0
        | 3, _ => exact idx15_3 _ _ _ _ _ _ w0
        | 4, _ => exact idx15_4 _ _ _ _ _ _ w0
        | 5, _ => exact idx15_5 _ _ _ _ _ _ w0
      have hcs := (HSZ.out.below HLR.out) j hlt
      have hv := HVL.out j
      have hsi := sz15_SzI j
      have hs4 : sz15 j ≤ 4 := by unfold sz15; split <;> omega
      have hsu : hd15 k p n h s dl (j + 1) = hd15 k p n h s dl j ++ byt (vl15 k p n h s dl j : Nat) (sz15 j) := rfl
      obtain ⟨X1, hX1⟩ : ∃ X1, X1 = hd15 k p n h s dl (j + 1) := ⟨_, rfl⟩
      rw [← hX1] at hsu
      have HX1 := Lib.hid hX1
      clear hX1
      generalize hd15 k p n h s dl j = X0 at hsu hlen HOV
      generalize vl15 k p n h s dl j = vj at hidx hv hsu
      generalize sz15 j = sj at hcs hsi hs4 hsu
      have HSU := Lib.hid hsu
      clear hsu
      go_wp2_with fail
      refine (bytes_yes (vj : Int) sj _ hsi (by omega) (by omega)).mono ?_
      rintro e w8 ⟨v8, rfl, hm8, hb8⟩
      have ho8 := hm8.own
      obtain ⟨g8, cap8, rfl, _⟩ := hm8
      have hx8 : w8.ownsRow W3.heap.size 5 1 x X0.length (X0.map (Value.int .u8)) := (HOV.out.below (hb8.mono (Nat.le_refl _)))
      have hs8 : Src w8 _ _ _ := Src.own ho8
      have hb8' := HBR.out.trans (hb8.mono HBR.out.size)
      have HX8 := Lib.hid hx8; have HS8 := Lib.hid hs8; have HB8 := Lib.hid hb8'
      clear hb8 ho8 hx8 hs8 hb8' hcs hidx
      go_wp2_with (at_builtin; refine wpList_append_src rfl _ _ 24 rfl W3.heap.size 5 i0 (.int .u8 0) 1 1 Tryd.underlying24 hi hz0 hz1 hz2 rfl (by decide) _ X0.length (X0.map (Value.int .u8)) rfl HX8.out _ (byt (vj : Int) sj).length ((byt (vj : Int) sj).map (Value.int .u8)) rfl HS8.out ?d1 ?d2 ?d3 ?d4 HB8.out.size ?_)
      case d1 => rw [List.length_map, Nat.mul_one]
      case d2 => intro u hu; obtain ⟨x, _, rfl⟩ := List.mem_map.1 hu; rfl
      case d3 => rw [byt_len]; unfold maxLen; omega
      case d4 => rw [byt_len]; omega
      intro v9 w9 ho9 hg9
      have ho9' : OwnV W3.heap.size X1 v9 w9 := by
        unfold OwnV
        rw [HSU.out, List.length_append, List.map_append]; exact ho9
      have hb9 : Below W3.heap.size W3 w9 := HB8.out.grown hg9 HB8.out.size (fun k hk => (HX8.out.lt k hk).1)
      have HO9 := Lib.hid ho9'; have HB9 := Lib.hid hb9
      clear ho9 ho9' hg9 hb9
      go_wp2
      go_roundw
      case rel => exact ⟨j + 1, v9, by omega, by go_num, rfl, by rw [← HX1.out]; exact HO9.out, HB9.out⟩
      case measure => simp [intOf]; omega
    · obtain rfl : j = 6 := by omega
      have hdw := HD.out.below HLR.out
      have hsr := hdw.src
      have hdl := hdw.len
      have HSR := Lib.hid hsr; have HDL := Lib.hid hdl
      have hkm := KM.out.below HBR.out KM.out.lt
      have m0_5 : wr.cell? ⟨B1, 5, none⟩ = some (.slice A dl cap) := hkm.cell 5
      have mlt0 : B1 < wr.heap.size := hkm.lt
      clear hsr hdw hdl hkm
      go_wp2_with (at_builtin; refine wpList_append_src rfl _ _ 24 rfl W3.heap.size 5 i0 (.int .u8 0) 1 1 Tryd.underlying24 hi hz0 hz1 hz2 rfl (by decide) _ (hd15 k p n h s dl 6).length ((hd15 k p n h s dl 6).map (Value.int .u8)) rfl HOV.out _ dl (d.map (Value.int .u8)) rfl HSR.out ?d1 ?d2 ?d3 ?d4 HBR.out.size ?_)
      case d1 => rw [List.length_map, Nat.mul_one, HDL.out]
      case d2 => intro u hu; obtain ⟨x, _, rfl⟩ := List.mem_map.1 hu; rfl
      case d3 => unfold maxLen; omega
      case d4 => omega
      intro v9 w9 ho9 hg9
      have ho9' : OwnV w.heap.size (putM ⟨k, p, n, h, s, d⟩) v9 w9 := by
        unfold OwnV
        rw [HPM.out, List.length_append, List.map_append, HDL.out]; exact own_base15 ho9 L3.out.size
      have hb9 : Below W3.heap.size W3 w9 := HBR.out.grown hg9 HBR.out.size (fun k hk => (HOV.out.lt k hk).1)
      have HO9 := Lib.hid ho9'; have HB9 := Lib.hid hb9
      clear ho9 ho9' hg9 hb9
      go_wp2
      go_ret2
      exact ⟨_, rfl, HO9.out, L3.out.trans (HB9.out.mono L3.out.size)⟩
end Go.Proofs.YtkddhjbdijegoaaDoor
