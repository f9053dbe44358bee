/-
  What Put of package wire answers: contracts over the translation. Each says its own conditions.
-/
import Derived.Test.YtmdfopbigkfbnaaDoorRgt16
import Derived.Test.YtmdfopbigkfbnaaDoorChk16
import Derived.Test.YtmdfopbigkfbnaaDoorFirst
namespace Go.Proofs.YtmdfopbigkfbnaaDoor
open Go.RowKit
set_option linter.unusedVariables false
set_option linter.unusedSimpArgs false
attribute [local go_sem] setCell_drewN alloc_drewN

theorem load_o16 {w : World} {b k : Nat} {x : Bool} (h : w.cell? ⟨b, k, none⟩ = some (.bool x)) : (Instr.loadAt 4 (.pointer (some ⟨b, k, none⟩))).run Tryd.prog w = .ok (.bool x) w := by
  go_simp
theorem yield_o16 {w : World} {b k : Nat} {x : Bool} (a : Act) (o : Oper) (y : Operand) (ho : o.op = .load 4 y) (hx : a.eval y = .pointer (some ⟨b, k, none⟩)) (h : w.cell? ⟨b, k, none⟩ = some (.bool x)) :
    (execOp a.eval o).run Tryd.prog w = .ok (.value (.bool x)) w := by
  have e := load_o16 h
  obtain ⟨op, _, _, _, _, _⟩ := o
  dsimp only at ho
  subst ho
  unfold execOp
  simp only [hx]
  simp [e]
theorem load_i16 {w : World} {b k : Nat} {x : Int} (h : w.cell? ⟨b, k, none⟩ = some (.int .i64 x)) : (Instr.loadAt 3 (.pointer (some ⟨b, k, none⟩))).run Tryd.prog w = .ok (.int .i64 x) w := by
  go_simp
theorem yield_i16 {w : World} {b k : Nat} {x : Int} (a : Act) (o : Oper) (y : Operand) (ho : o.op = .load 3 y) (hx : a.eval y = .pointer (some ⟨b, k, none⟩)) (h : w.cell? ⟨b, k, none⟩ = some (.int .i64 x)) :
    (execOp a.eval o).run Tryd.prog w = .ok (.value (.int .i64 x)) w := by
  have e := load_i16 h
  obtain ⟨op, _, _, _, _, _⟩ := o
  dsimp only at ho
  subst ho
  unfold execOp
  simp only [hx]
  simp [e]
theorem load_u16 {w : World} {b k : Nat} {x : Int} (h : w.cell? ⟨b, k, none⟩ = some (.int .u64 x)) : (Instr.loadAt 22 (.pointer (some ⟨b, k, none⟩))).run Tryd.prog w = .ok (.int .u64 x) w := by
  go_simp
theorem yield_u16 {w : World} {b k : Nat} {x : Int} (a : Act) (o : Oper) (y : Operand) (ho : o.op = .load 22 y) (hx : a.eval y = .pointer (some ⟨b, k, none⟩)) (h : w.cell? ⟨b, k, none⟩ = some (.int .u64 x)) :
    (execOp a.eval o).run Tryd.prog w = .ok (.value (.int .u64 x)) w := by
  have e := load_u16 h
  obtain ⟨op, _, _, _, _, _⟩ := o
  dsimp only at ho
  subst ho
  unfold execOp
  simp only [hx]
  simp [e]
theorem load_s16 {w : World} {b k : Nat} {A : Option Addr} {n c : Nat} (h : w.cell? ⟨b, k, none⟩ = some (.slice A n c)) : (Instr.loadAt 23 (.pointer (some ⟨b, k, none⟩))).run Tryd.prog w = .ok (.slice A n c) w := by
  go_simp
theorem yield_s16 {w : World} {b k : Nat} {A : Option Addr} {n c : Nat} (a : Act) (o : Oper) (y : Operand) (ho : o.op = .load 23 y) (hx : a.eval y = .pointer (some ⟨b, k, none⟩)) (h : w.cell? ⟨b, k, none⟩ = some (.slice A n c)) :
    (execOp a.eval o).run Tryd.prog w = .ok (.value (.slice A n c)) w := by
  have e := load_s16 h
  obtain ⟨op, _, _, _, _, _⟩ := o
  dsimp only at ho
  subst ho
  unfold execOp
  simp only [hx]
  simp [e]
/-- the sizes of a frame's numbers read as the program's text lays them -/
def Szs (w : World) : Prop := ∀ i : Nat, i < 7 → w.cell? ⟨0, i, none⟩ = some (.int .i64 (sz16 i : Nat))
theorem Szs.below {w w' : World} (h : Szs w) (hb : Below w.heap.size w w') : Szs w' := fun i hi => (hb.cell (p := ⟨0, i, none⟩) (cell_lt (h i hi))).trans (h i hi)
def vl16 (k f t s a dl : Nat) : Nat → Nat
  | 0 => 21074 | 1 => k | 2 => f | 3 => t | 4 => s | 5 => a | _ => dl
def hd16 (k f t s a dl : Nat) : Nat → List Int
  | 0 => []
  | j + 1 => hd16 k f t s a dl j ++ byt (vl16 k f t s a dl j : Nat) (sz16 j)
theorem hd16_len (k f t s a dl : Nat) : ∀ j, j ≤ 7 → (hd16 k f t s a dl j).length ≤ 23 := by
  intro j hj
  have e : ∀ j, (hd16 k f t s a dl j).length = of16 j ∨ 7 < j := by
    intro j
    match j with
    | 0 => exact .inl rfl
    | 1 | 2 | 3 | 4 | 5 | 6 | 7 => left; simp [hd16, byt_len, sz16, of16]
    | j + 8 => right; omega
  rcases e j with e | e
  · rw [e]
    match j, hj with
    | 0, _ | 1, _ | 2, _ | 3, _ | 4, _ | 5, _ | 6, _ | 7, _ => decide
  · omega
theorem hd16_seven (k f t s a dl : Nat) : (hd16 k f t s a dl 7).length = 23 := by simp [hd16, byt_len, sz16]
theorem hd16_all {k f t s a dl : Nat} (hk : k < 256) (hf : f < 256) (ht : t < 256) : hd16 k f t s a dl 7 = [82, 82, (k : Int), f, t] ++ byt s 8 ++ byt a 8 ++ byt dl 2 := by
  have e1 : (k : Int) % 256 = k := by omega
  have e2 : (f : Int) % 256 = f := by omega
  have e3 : (t : Int) % 256 = t := by omega
  have b1 : ∀ v : Int, byt v 1 = [v % 256] := fun v => rfl
  simp [hd16, vl16, sz16, b1, byt2, e1, e2, e3]
theorem sz16_SzI (j : Nat) : SzI (sz16 j : Nat) := by
  unfold sz16
  split <;> first | exact .inl rfl | exact .inr (.inl rfl) | exact .inr (.inr (.inl rfl)) | exact .inr (.inr (.inr rfl))
theorem bb_any (bb : Bool) (w : World) : Calls Tryd.prog 16 #[.bool bb] w fun e w' => e = .returned (.int .u64 (kb bb)) ∧ w = w' := by
  cases bb
  · go_enter Tryd.func16, Tryd.ntmps16
    go_wp2
    go_ret
    exact ⟨rfl, rfl⟩
  · go_enter Tryd.func16, Tryd.ntmps16
    go_wp2
    go_ret
    exact ⟨rfl, rfl⟩
theorem put_no16 (f t : Int) (bb : Bool) (s a : Int) (A : Option Addr) (dl cap : Nat) (w : World) (h0 : 0 ≤ s) (hd : dl ≤ 9223372036854775807) (hr : (nok f t && bok bb s dl) = false) : Calls Tryd.prog 7 #[.agg #[.int .i64 f, .int .i64 t, .bool bb, .int .u64 s, .int .u64 a, .slice A dl cap]] w fun e w' => e = .returned (.tuple #[.slice none 0 0, .int .i64 2]) ∧ Below w.heap.size w w' := by
  have hc : ∀ w2, Below w.heap.size w w2 → Calls Tryd.prog 9 #[.agg #[.int .i64 f, .int .i64 t, .bool bb, .int .u64 s, .int .u64 a, .slice A dl cap]] w2 fun e w' => e = .returned (.bool false) ∧ Below w2.heap.size w2 w' := fun w2 hb => by
    have := right_any f t s a bb A dl cap w2 h0 hd
    rwa [hr] at this
  have HC := Lib.hid hc
  clear hc hd hr
  go_enter Tryd.func7, Tryd.ntmps7
  go_upto_region 1 with (fail)
  have nb0 : Blk (w.alloc (.cells #[.int .i64 f, .int .i64 t, .bool bb, .int .u64 s, .int .u64 a, .slice A dl cap] 25)) (w.heap.size) [.int .i64 f, .int .i64 t, .bool bb, .int .u64 s, .int .u64 a, .slice A dl cap] 25 := Blk.new w [.int .i64 f, .int .i64 t, .bool bb, .int .u64 s, .int .u64 a, .slice A dl cap] 25
  have nls : Below w.heap.size w w := (Below.refl w.heap.size w)
  have nl0 := nls.alloc nls.size (.cells #[.int .i64 f, .int .i64 t, .bool bb, .int .u64 s, .int .u64 a, .slice A dl cap] 25)
  have nl : Below w.heap.size w (w.alloc (.cells #[.int .i64 f, .int .i64 t, .bool bb, .int .u64 s, .int .u64 a, .slice A dl cap] 25)) := nl0; clear nls nl0
  obtain ⟨B1, hB0⟩ : ∃ B, B = w.heap.size := ⟨_, rfl⟩
  obtain ⟨W1, hW⟩ : ∃ W, W = (w.alloc (.cells #[.int .i64 f, .int .i64 t, .bool bb, .int .u64 s, .int .u64 a, .slice A dl cap] 25)) := ⟨_, rfl⟩
  rw [← hW] at nl nb0
  rw [← hB0] at nb0
  rw [← hW]
  try rw [← hB0]
  have K1_0 := Lib.hid nb0
  have G1 : Hid (w.heap.size ≤ B1) := Lib.hid (by have := (Nat.le_refl w.heap.size); omega)
  have L1 := Lib.hid nl
  clear nl hW nb0 hB0
  have m0_0 : W1.cell? ⟨B1, 0, none⟩ = some _ := K1_0.out.cell 0
  have m0_1 : W1.cell? ⟨B1, 1, none⟩ = some _ := K1_0.out.cell 1
  have m0_2 : W1.cell? ⟨B1, 2, none⟩ = some _ := K1_0.out.cell 2
  have m0_3 : W1.cell? ⟨B1, 3, none⟩ = some _ := K1_0.out.cell 3
  have m0_4 : W1.cell? ⟨B1, 4, none⟩ = some _ := K1_0.out.cell 4
  have m0_5 : W1.cell? ⟨B1, 5, none⟩ = some _ := K1_0.out.cell 5
  have mlt0 : B1 < W1.heap.size := K1_0.out.lt
  go_wp2_with fail
  clear m0_0 m0_1 m0_2 m0_3 m0_4 m0_5 mlt0
  refine (HC.out _ L1.out).mono ?_
  rintro e w2 ⟨rfl, hb⟩
  have L2 := Lib.hid (L1.out.trans (hb.mono L1.out.size))
  have K2_0 := Lib.hid (K1_0.out.below hb K1_0.out.lt)
  clear hb K1_0
  go_wp2
  go_ret2
  exact ⟨rfl, L2.out⟩
theorem idx16_0 (v0 v1 v2 v3 v4 v5 v6 : Value) (w0 : World) : (Instr.index 40 (.agg #[v0, v1, v2, v3, v4, v5, v6]) (.int .i64 0)).run Tryd.prog w0 = .ok v0 w0 := by kernel_rfl
theorem idx16_1 (v0 v1 v2 v3 v4 v5 v6 : Value) (w0 : World) : (Instr.index 40 (.agg #[v0, v1, v2, v3, v4, v5, v6]) (.int .i64 1)).run Tryd.prog w0 = .ok v1 w0 := by kernel_rfl
theorem idx16_2 (v0 v1 v2 v3 v4 v5 v6 : Value) (w0 : World) : (Instr.index 40 (.agg #[v0, v1, v2, v3, v4, v5, v6]) (.int .i64 2)).run Tryd.prog w0 = .ok v2 w0 := by kernel_rfl
theorem idx16_3 (v0 v1 v2 v3 v4 v5 v6 : Value) (w0 : World) : (Instr.index 40 (.agg #[v0, v1, v2, v3, v4, v5, v6]) (.int .i64 3)).run Tryd.prog w0 = .ok v3 w0 := by kernel_rfl
theorem idx16_4 (v0 v1 v2 v3 v4 v5 v6 : Value) (w0 : World) : (Instr.index 40 (.agg #[v0, v1, v2, v3, v4, v5, v6]) (.int .i64 4)).run Tryd.prog w0 = .ok v4 w0 := by kernel_rfl
theorem idx16_5 (v0 v1 v2 v3 v4 v5 v6 : Value) (w0 : World) : (Instr.index 40 (.agg #[v0, v1, v2, v3, v4, v5, v6]) (.int .i64 5)).run Tryd.prog w0 = .ok v5 w0 := by kernel_rfl
theorem idx16_6 (v0 v1 v2 v3 v4 v5 v6 : Value) (w0 : World) : (Instr.index 40 (.agg #[v0, v1, v2, v3, v4, v5, v6]) (.int .i64 6)).run Tryd.prog w0 = .ok v6 w0 := by kernel_rfl
set_option maxHeartbeats 4000000 in
theorem put_yes16 (f t : Nat) (bb : Bool) (s a : Nat) (A : Option Addr) (dl cap : Nat) (d : List Int) (w : World) (hd : Dat w A dl cap d) (hr : rgt ⟨f, t, bb, s, a, d⟩ = true) (hs : s < 18446744073709551616) (ha : a < 18446744073709551616) (hS : Szs w) (hM : Mv w) : Calls Tryd.prog 7 #[.agg #[.int .i64 (f : Int), .int .i64 (t : Int), .bool bb, .int .u64 (s : Int), .int .u64 (a : Int), .slice A dl cap]] w fun e w' => ∃ v, e = .returned (.tuple #[v, .int .i64 0]) ∧ OwnV w.heap.size (sealed (plF ⟨f, t, bb, s, a, d⟩)) v w' ∧ Below w.heap.size w w' := by
  have hc : ∀ w2, Below w.heap.size w w2 → Calls Tryd.prog 9 #[.agg #[.int .i64 (f : Int), .int .i64 (t : Int), .bool bb, .int .u64 (s : Int), .int .u64 (a : Int), .slice A dl cap]] w2 fun e w' => e = .returned (.bool true) ∧ Below w2.heap.size w2 w' := fun w2 hb => by
    have := right_any f t s a bb A dl cap w2 (by omega) hd.le
    have e : (nok f t && bok bb s dl) = true := by unfold rgt at hr; dsimp only at hr; rwa [hd.len] at hr
    rwa [e] at this
  obtain ⟨i0, hi, hz0, hz1, hz2⟩ := info_parts info_u8
  obtain ⟨bf, bt, bl⟩ := rgt_parts hr
  have hby := plF_Byt hr hd.rd.1
  dsimp only at bf bt bl
  rw [hd.len] at bl
  obtain ⟨k, hk, hk2⟩ : ∃ k : Nat, kb bb = (k : Int) ∧ k < 2 := by cases bb; exact ⟨0, rfl, by decide⟩; exact ⟨1, rfl, by decide⟩
  have hpm : plF ⟨f, t, bb, s, a, d⟩ = hd16 k f t s a dl 7 ++ d := by
    rw [hd16_all (by omega) (by omega) (by omega)]
    unfold plF hdF
    dsimp only
    rw [hd.len, hk]
  have hbb := fun w => bb_any bb w
  rw [hk] at hbb
  have uw2 : IntKind.u64.wrap (f : Int) = f := by rw [wrap_u64]; omega
  have uw3 : IntKind.u64.wrap (t : Int) = t := by rw [wrap_u64]; omega
  have uw6 : IntKind.u64.wrap (dl : Int) = dl := by rw [wrap_u64]; omega
  have uw7 : IntKind.i64.wrap (23 + (dl : Int)) = ((23 + dl : Nat) : Int) := by simp [IntKind.wrap, IntKind.signed, IntKind.bits]; omega
  have hvl : ∀ j, vl16 k f t s a dl j ≤ 18446744073709551615 := by
    intro j; unfold vl16; split <;> omega
  obtain ⟨PM, hPM⟩ : ∃ PM, PM = plF ⟨f, t, bb, s, a, d⟩ := ⟨_, rfl⟩
  rw [← hPM] at hpm hby ⊢
  have hpl : PM.length = 23 + dl := by rw [hpm, List.length_append, hd16_seven, hd.len]
  have HPM := Lib.hid hpm; have HC := Lib.hid hc; have HD := Lib.hid hd; have HSZ := Lib.hid hS; have HVL := Lib.hid hvl; have HMV := Lib.hid hM; have HBB := Lib.hid hbb; have HBY := Lib.hid hby; have HPL := Lib.hid hpl
  clear hpm hc hd hS hr bf bt hs ha hvl hM hbb hby hPM hpl hk hk2
  go_enter Tryd.func7, Tryd.ntmps7
  go_upto_region 1 with (fail)
  have nb0 : Blk (w.alloc (.cells #[.int .i64 (f : Int), .int .i64 (t : Int), .bool bb, .int .u64 (s : Int), .int .u64 (a : Int), .slice A dl cap] 25)) (w.heap.size) [.int .i64 (f : Int), .int .i64 (t : Int), .bool bb, .int .u64 (s : Int), .int .u64 (a : Int), .slice A dl cap] 25 := Blk.new w [.int .i64 (f : Int), .int .i64 (t : Int), .bool bb, .int .u64 (s : Int), .int .u64 (a : Int), .slice A dl cap] 25
  have nls : Below w.heap.size w w := (Below.refl w.heap.size w)
  have nl0 := nls.alloc nls.size (.cells #[.int .i64 (f : Int), .int .i64 (t : Int), .bool bb, .int .u64 (s : Int), .int .u64 (a : Int), .slice A dl cap] 25)
  have nl : Below w.heap.size w (w.alloc (.cells #[.int .i64 (f : Int), .int .i64 (t : Int), .bool bb, .int .u64 (s : Int), .int .u64 (a : Int), .slice A dl cap] 25)) := nl0; clear nls nl0
  obtain ⟨B1, hB0⟩ : ∃ B, B = w.heap.size := ⟨_, rfl⟩
  obtain ⟨W1, hW⟩ : ∃ W, W = (w.alloc (.cells #[.int .i64 (f : Int), .int .i64 (t : Int), .bool bb, .int .u64 (s : Int), .int .u64 (a : Int), .slice A dl cap] 25)) := ⟨_, rfl⟩
  rw [← hW] at nl nb0
  rw [← hB0] at nb0
  rw [← hW]
  try rw [← hB0]
  have K1_0 := Lib.hid nb0
  have G1 : Hid (w.heap.size ≤ B1) := Lib.hid (by have := (Nat.le_refl w.heap.size); omega)
  have L1 := Lib.hid nl
  clear nl hW nb0 hB0
  have m0_0 : W1.cell? ⟨B1, 0, none⟩ = some _ := K1_0.out.cell 0
  have m0_1 : W1.cell? ⟨B1, 1, none⟩ = some _ := K1_0.out.cell 1
  have m0_2 : W1.cell? ⟨B1, 2, none⟩ = some _ := K1_0.out.cell 2
  have m0_3 : W1.cell? ⟨B1, 3, none⟩ = some _ := K1_0.out.cell 3
  have m0_4 : W1.cell? ⟨B1, 4, none⟩ = some _ := K1_0.out.cell 4
  have m0_5 : W1.cell? ⟨B1, 5, none⟩ = some _ := K1_0.out.cell 5
  have mlt0 : B1 < W1.heap.size := K1_0.out.lt
  go_wp2_with fail
  clear m0_0 m0_1 m0_2 m0_3 m0_4 m0_5 mlt0
  refine (HC.out _ L1.out).mono ?_
  rintro e w2 ⟨rfl, hb⟩
  have L2 := Lib.hid (L1.out.trans (hb.mono L1.out.size))
  have K2_0 := Lib.hid (K1_0.out.below hb K1_0.out.lt)
  clear hb K1_0
  go_upto_region 3 with (fail)
  refine wp_region_held_drew (S := fun w' => Blk w' B1 [.int .i64 (f : Int), .int .i64 (t : Int), .bool bb, .int .u64 (s : Int), .int .u64 (a : Int), .slice A dl cap] 25) (by kernel_rfl) K2_0.out (fun hHeld => ?_)
  clear hHeld
  obtain ⟨D3, hD⟩ : ∃ x, x = w2.drew := ⟨_, rfl⟩
  rw [← hD]
  have K3_0 := Lib.hid (show Blk D3 B1 [.int .i64 (f : Int), .int .i64 (t : Int), .bool bb, .int .u64 (s : Int), .int .u64 (a : Int), .slice A dl cap] 25 from hD ▸ Blk.drewN K2_0.out 1)
  have L3 := Lib.hid (show Below w.heap.size w D3 from hD ▸ L2.out.drew)
  clear hD K2_0
  have hSD3 : Blk D3 B1 [.int .i64 (f : Int), .int .i64 (t : Int), .bool bb, .int .u64 (s : Int), .int .u64 (a : Int), .slice A dl cap] 25 := K3_0.out
  simp only [List.size_toArray, List.length_cons, List.length_nil, Nat.reduceAdd]
  rw [show Array.replicate 20 false = [false, false, false, false, false, false, false, false, false, false, false, false, false, false, false, false, false, false, false, false].toArray from rfl]
  refine wpAnyH_take (i := 0) (v := ?_) rfl (by kernel_rfl) (by kernel_rfl) (by kernel_rfl) (fun _ _ _ h => h) (Or.inl ⟨by rfl, ?yldq⟩) (by assumption) ?_
  case yldq => (intro w hSw; (try dsimp only at hSw); go_simp; try with_reducible rfl)
  try simp only [Act.put, List.setIfInBounds_toArray, List.set_cons_zero, List.set_cons_succ, List.getElem_toArray, List.getElem_cons_succ, List.getElem_cons_zero]
  refine wpAnyH_take (i := 1) (v := _) rfl (by kernel_rfl) (by kernel_rfl) (by kernel_rfl) (fun _ _ _ h => h) (Or.inl ⟨by rfl, fun w hSw => yield_o16 _ _ _ rfl rfl (show w.cell? ⟨B1, 2, none⟩ = some (.bool bb) from hSw.cell 2)⟩) (by assumption) ?_
  try simp only [Act.put, List.setIfInBounds_toArray, List.set_cons_zero, List.set_cons_succ, List.getElem_toArray, List.getElem_cons_succ, List.getElem_cons_zero]
  refine wpAnyH_enter (i := 2) (v := _) rfl (by kernel_rfl) (by kernel_rfl) (by kernel_rfl) (fun _ _ _ h => h) ⟨by rfl, fun w hSw => ⟨_, _, ?yldr, HBB.out w⟩⟩ (by assumption) ?_
  case yldr => (go_simp; try with_reducible rfl)
  try simp only [Act.put, List.setIfInBounds_toArray, List.set_cons_zero, List.set_cons_succ, List.getElem_toArray, List.getElem_cons_succ, List.getElem_cons_zero]
  refine wpAnyH_take (i := 3) (v := ?_) rfl (by kernel_rfl) (by kernel_rfl) (by kernel_rfl) (fun _ _ _ h => h) (Or.inl ⟨by rfl, ?yldq⟩) (by assumption) ?_
  case yldq => (intro w hSw; (try dsimp only at hSw); go_simp; try with_reducible rfl)
  try simp only [Act.put, List.setIfInBounds_toArray, List.set_cons_zero, List.set_cons_succ, List.getElem_toArray, List.getElem_cons_succ, List.getElem_cons_zero]
  refine wpAnyH_take (i := 4) (v := _) rfl (by kernel_rfl) (by kernel_rfl) (by kernel_rfl) (fun _ _ _ h => h) (Or.inl ⟨by rfl, fun w hSw => yield_i16 _ _ _ rfl rfl (show w.cell? ⟨B1, 0, none⟩ = some (.int .i64 (f : Int)) from hSw.cell 0)⟩) (by assumption) ?_
  try simp only [Act.put, List.setIfInBounds_toArray, List.set_cons_zero, List.set_cons_succ, List.getElem_toArray, List.getElem_cons_succ, List.getElem_cons_zero]
  refine wpAnyH_take (i := 5) (v := ?_) rfl (by kernel_rfl) (by kernel_rfl) (by kernel_rfl) (fun _ _ _ h => h) (Or.inl ⟨by rfl, ?yldq⟩) (by assumption) ?_
  case yldq => (intro w hSw; (try dsimp only at hSw); go_simp; try with_reducible rfl)
  try simp only [Act.put, List.setIfInBounds_toArray, List.set_cons_zero, List.set_cons_succ, List.getElem_toArray, List.getElem_cons_succ, List.getElem_cons_zero]
  refine wpAnyH_take (i := 6) (v := ?_) rfl (by kernel_rfl) (by kernel_rfl) (by kernel_rfl) (fun _ _ _ h => h) (Or.inl ⟨by rfl, ?yldq⟩) (by assumption) ?_
  case yldq => (intro w hSw; (try dsimp only at hSw); go_simp; try with_reducible rfl)
  try simp only [Act.put, List.setIfInBounds_toArray, List.set_cons_zero, List.set_cons_succ, List.getElem_toArray, List.getElem_cons_succ, List.getElem_cons_zero]
  refine wpAnyH_take (i := 7) (v := _) rfl (by kernel_rfl) (by kernel_rfl) (by kernel_rfl) (fun _ _ _ h => h) (Or.inl ⟨by rfl, fun w hSw => yield_i16 _ _ _ rfl rfl (show w.cell? ⟨B1, 1, none⟩ = some (.int .i64 (t : Int)) from hSw.cell 1)⟩) (by assumption) ?_
  try simp only [Act.put, List.setIfInBounds_toArray, List.set_cons_zero, List.set_cons_succ, List.getElem_toArray, List.getElem_cons_succ, List.getElem_cons_zero]
  refine wpAnyH_take (i := 8) (v := ?_) rfl (by kernel_rfl) (by kernel_rfl) (by kernel_rfl) (fun _ _ _ h => h) (Or.inl ⟨by rfl, ?yldq⟩) (by assumption) ?_
  case yldq => (intro w hSw; (try dsimp only at hSw); go_simp; try with_reducible rfl)
  try simp only [Act.put, List.setIfInBounds_toArray, List.set_cons_zero, List.set_cons_succ, List.getElem_toArray, List.getElem_cons_succ, List.getElem_cons_zero]
  refine wpAnyH_take (i := 9) (v := ?_) rfl (by kernel_rfl) (by kernel_rfl) (by kernel_rfl) (fun _ _ _ h => h) (Or.inl ⟨by rfl, ?yldq⟩) (by assumption) ?_
  case yldq => (intro w hSw; (try dsimp only at hSw); go_simp; try with_reducible rfl)
  try simp only [Act.put, List.setIfInBounds_toArray, List.set_cons_zero, List.set_cons_succ, List.getElem_toArray, List.getElem_cons_succ, List.getElem_cons_zero]
  refine wpAnyH_take (i := 10) (v := _) rfl (by kernel_rfl) (by kernel_rfl) (by kernel_rfl) (fun _ _ _ h => h) (Or.inl ⟨by rfl, fun w hSw => yield_u16 _ _ _ rfl rfl (show w.cell? ⟨B1, 3, none⟩ = some (.int .u64 (s : Int)) from hSw.cell 3)⟩) (by assumption) ?_
  try simp only [Act.put, List.setIfInBounds_toArray, List.set_cons_zero, List.set_cons_succ, List.getElem_toArray, List.getElem_cons_succ, List.getElem_cons_zero]
  refine wpAnyH_take (i := 11) (v := ?_) rfl (by kernel_rfl) (by kernel_rfl) (by kernel_rfl) (fun _ _ _ h => h) (Or.inl ⟨by rfl, ?yldq⟩) (by assumption) ?_
  case yldq => (intro w hSw; (try dsimp only at hSw); go_simp; try with_reducible rfl)
  try simp only [Act.put, List.setIfInBounds_toArray, List.set_cons_zero, List.set_cons_succ, List.getElem_toArray, List.getElem_cons_succ, List.getElem_cons_zero]
  refine wpAnyH_take (i := 12) (v := _) rfl (by kernel_rfl) (by kernel_rfl) (by kernel_rfl) (fun _ _ _ h => h) (Or.inl ⟨by rfl, fun w hSw => yield_u16 _ _ _ rfl rfl (show w.cell? ⟨B1, 4, none⟩ = some (.int .u64 (a : Int)) from hSw.cell 4)⟩) (by assumption) ?_
  try simp only [Act.put, List.setIfInBounds_toArray, List.set_cons_zero, List.set_cons_succ, List.getElem_toArray, List.getElem_cons_succ, List.getElem_cons_zero]
  refine wpAnyH_take (i := 13) (v := ?_) rfl (by kernel_rfl) (by kernel_rfl) (by kernel_rfl) (fun _ _ _ h => h) (Or.inl ⟨by rfl, ?yldq⟩) (by assumption) ?_
  case yldq => (intro w hSw; (try dsimp only at hSw); go_simp; try with_reducible rfl)
  try simp only [Act.put, List.setIfInBounds_toArray, List.set_cons_zero, List.set_cons_succ, List.getElem_toArray, List.getElem_cons_succ, List.getElem_cons_zero]
  refine wpAnyH_take (i := 14) (v := _) rfl (by kernel_rfl) (by kernel_rfl) (by kernel_rfl) (fun _ _ _ h => h) (Or.inl ⟨by rfl, fun w hSw => yield_s16 _ _ _ rfl rfl (show w.cell? ⟨B1, 5, none⟩ = some (.slice A dl cap) from hSw.cell 5)⟩) (by assumption) ?_
  try simp only [Act.put, List.setIfInBounds_toArray, List.set_cons_zero, List.set_cons_succ, List.getElem_toArray, List.getElem_cons_succ, List.getElem_cons_zero]
  refine wpAnyH_take (i := 15) (v := ?_) rfl (by kernel_rfl) (by kernel_rfl) (by kernel_rfl) (fun _ _ _ h => h) (Or.inl ⟨by rfl, ?yldq⟩) (by assumption) ?_
  case yldq => (intro w hSw; (try dsimp only at hSw); go_simp; try with_reducible rfl)
  try simp only [Act.put, List.setIfInBounds_toArray, List.set_cons_zero, List.set_cons_succ, List.getElem_toArray, List.getElem_cons_succ, List.getElem_cons_zero]
  refine wpAnyH_take (i := 16) (v := ?_) rfl (by kernel_rfl) (by kernel_rfl) (by kernel_rfl) (fun _ _ _ h => h) (Or.inl ⟨by rfl, ?yldq⟩) (by assumption) ?_
  case yldq => (intro w hSw; (try dsimp only at hSw); go_simp; try with_reducible rfl)
  try simp only [Act.put, List.setIfInBounds_toArray, List.set_cons_zero, List.set_cons_succ, List.getElem_toArray, List.getElem_cons_succ, List.getElem_cons_zero]
  refine wpAnyH_take (i := 17) (v := ?_) rfl (by kernel_rfl) (by kernel_rfl) (by kernel_rfl) (fun _ _ _ h => h) (Or.inl ⟨by rfl, ?yldq⟩) (by assumption) ?_
  case yldq => (intro w hSw; (try dsimp only at hSw); go_simp; try with_reducible rfl)
  try simp only [Act.put, List.setIfInBounds_toArray, List.set_cons_zero, List.set_cons_succ, List.getElem_toArray, List.getElem_cons_succ, List.getElem_cons_zero]
  refine wpAnyH_ready (rs := [18]) (by kernel_rfl) (by simp) ?_
  refine AllReadyH.cons rfl (fun K hK => ?_) AllReadyH.nil
  go_simp
  have nb0 : Blk (D3.alloc (.cells #[.int .u64 0, .int .u64 0, .int .u64 0, .int .u64 0, .int .u64 0, .int .u64 0, .int .u64 0] 40)) (D3.heap.size) [.int .u64 0, .int .u64 0, .int .u64 0, .int .u64 0, .int .u64 0, .int .u64 0, .int .u64 0] 40 := Blk.new D3 [.int .u64 0, .int .u64 0, .int .u64 0, .int .u64 0, .int .u64 0, .int .u64 0, .int .u64 0] 40
  have nls : Below w.heap.size w D3 := L3.out
  have nl0 := nls.alloc nls.size (.cells #[.int .u64 0, .int .u64 0, .int .u64 0, .int .u64 0, .int .u64 0, .int .u64 0, .int .u64 0] 40)
  have nl : Below w.heap.size w (D3.alloc (.cells #[.int .u64 0, .int .u64 0, .int .u64 0, .int .u64 0, .int .u64 0, .int .u64 0, .int .u64 0] 40)) := nl0; clear nls nl0
  have o0 : Blk (D3.alloc (.cells #[.int .u64 0, .int .u64 0, .int .u64 0, .int .u64 0, .int .u64 0, .int .u64 0, .int .u64 0] 40)) B1 [.int .i64 (f : Int), .int .i64 (t : Int), .bool bb, .int .u64 (s : Int), .int .u64 (a : Int), .slice A dl cap] 25 := (K3_0.out.alloc (.cells #[.int .u64 0, .int .u64 0, .int .u64 0, .int .u64 0, .int .u64 0, .int .u64 0, .int .u64 0] 40))
  have d4_0 : B1 < D3.heap.size := K3_0.out.lt
  obtain ⟨B4, hB0⟩ : ∃ B, B = D3.heap.size := ⟨_, rfl⟩
  obtain ⟨W4, hW⟩ : ∃ W, W = (D3.alloc (.cells #[.int .u64 0, .int .u64 0, .int .u64 0, .int .u64 0, .int .u64 0, .int .u64 0, .int .u64 0] 40)) := ⟨_, rfl⟩
  rw [← hW] at nl nb0 o0
  rw [← hB0] at nb0
  rw [← hW]
  try rw [← hB0]
  have K4_0 := Lib.hid o0
  have K4_1 := Lib.hid nb0
  have G4 : Hid (w.heap.size ≤ B4) := Lib.hid (by have := L3.out.size; omega)
  have x4_0_0 : B1 ≠ B4 := by omega
  have X4_0_0 := Lib.hid x4_0_0; clear x4_0_0
  have L4 := Lib.hid nl
  clear nl hW nb0 hB0 o0 d4_0 K3_0
  refine hK.out _ _ K4_0.out (fun hS18 => ?_)
  clear hK K
  refine wpAnyH_ready (rs := [19]) (by kernel_rfl) (by simp) ?_
  refine AllReadyH.cons rfl (fun K hK => ?_) AllReadyH.nil
  have m1_0 : W4.cell? ⟨B4, 0, none⟩ = some _ := K4_1.out.cell 0
  have m1_1 : W4.cell? ⟨B4, 1, none⟩ = some _ := K4_1.out.cell 1
  have m1_2 : W4.cell? ⟨B4, 2, none⟩ = some _ := K4_1.out.cell 2
  have m1_3 : W4.cell? ⟨B4, 3, none⟩ = some _ := K4_1.out.cell 3
  have m1_4 : W4.cell? ⟨B4, 4, none⟩ = some _ := K4_1.out.cell 4
  have m1_5 : W4.cell? ⟨B4, 5, none⟩ = some _ := K4_1.out.cell 5
  have m1_6 : W4.cell? ⟨B4, 6, none⟩ = some _ := K4_1.out.cell 6
  have mlt1 : B4 < W4.heap.size := K4_1.out.lt
  have mf1 : ∀ o, W4.frozen? ⟨B4, o, none⟩ = false := fun o => K4_1.out.free o
  go_simp
  clear m1_0 m1_1 m1_2 m1_3 m1_4 m1_5 m1_6 mlt1 mf1
  obtain ⟨W5, hW⟩ : ∃ WX, WX = (((((((W4.setCell ⟨B4, 0, none⟩ (.int .u64 21074)).setCell ⟨B4, 1, none⟩ (.int .u64 (k : Int))).setCell ⟨B4, 2, none⟩ (.int .u64 (f : Int))).setCell ⟨B4, 3, none⟩ (.int .u64 (t : Int))).setCell ⟨B4, 4, none⟩ (.int .u64 (s : Int))).setCell ⟨B4, 5, none⟩ (.int .u64 (a : Int))).setCell ⟨B4, 6, none⟩ (.int .u64 (dl : Int))) := ⟨_, rfl⟩
  rw [← hW]
  have K5_0 := Lib.hid (show Blk W5 B1 [.int .i64 (f : Int), .int .i64 (t : Int), .bool bb, .int .u64 (s : Int), .int .u64 (a : Int), .slice A dl cap] 25 from hW ▸ (((((((K4_0.out.other ⟨B4, 0, none⟩ (.int .u64 21074) X4_0_0.out).other ⟨B4, 1, none⟩ (.int .u64 (k : Int)) X4_0_0.out).other ⟨B4, 2, none⟩ (.int .u64 (f : Int)) X4_0_0.out).other ⟨B4, 3, none⟩ (.int .u64 (t : Int)) X4_0_0.out).other ⟨B4, 4, none⟩ (.int .u64 (s : Int)) X4_0_0.out).other ⟨B4, 5, none⟩ (.int .u64 (a : Int)) X4_0_0.out).other ⟨B4, 6, none⟩ (.int .u64 (dl : Int)) X4_0_0.out))
  have K5_1 := Lib.hid (show Blk W5 B4 [.int .u64 21074, .int .u64 (k : Int), .int .u64 (f : Int), .int .u64 (t : Int), .int .u64 (s : Int), .int .u64 (a : Int), .int .u64 (dl : Int)] 40 from hW ▸ (((((((K4_1.out.set 0 (.int .u64 21074)).set 1 (.int .u64 (k : Int))).set 2 (.int .u64 (f : Int))).set 3 (.int .u64 (t : Int))).set 4 (.int .u64 (s : Int))).set 5 (.int .u64 (a : Int))).set 6 (.int .u64 (dl : Int))))
  have L5 := Lib.hid (show Below w.heap.size w W5 from hW ▸ (Below.setCell (Below.setCell (Below.setCell (Below.setCell (Below.setCell (Below.setCell (Below.setCell L4.out G4.out _) G4.out _) G4.out _) G4.out _) G4.out _) G4.out _) G4.out _))
  clear hW K4_0 K4_1
  refine hK.out _ _ K5_0.out (fun hS19 => ?_)
  clear hK K
  refine wpAnyH_done (by kernel_rfl) ?_ _
  clear uw2 uw3 uw6 hS18 hS19
  have KM := Lib.hid K5_0.out
  have m0_0 : W5.cell? ⟨B1, 0, none⟩ = some _ := K5_0.out.cell 0
  have m0_1 : W5.cell? ⟨B1, 1, none⟩ = some _ := K5_0.out.cell 1
  have m0_2 : W5.cell? ⟨B1, 2, none⟩ = some _ := K5_0.out.cell 2
  have m0_3 : W5.cell? ⟨B1, 3, none⟩ = some _ := K5_0.out.cell 3
  have m0_4 : W5.cell? ⟨B1, 4, none⟩ = some _ := K5_0.out.cell 4
  have m0_5 : W5.cell? ⟨B1, 5, none⟩ = some _ := K5_0.out.cell 5
  have mlt0 : B1 < W5.heap.size := K5_0.out.lt
  go_wp2_with (at_make; refine wpList_make_own _ rfl _ _ 23 rfl W5.heap.size 5 i0 (.int .u8 0) 1 Tryd.underlying23 hi hz0 hz1 .i64 .i64 _ (23 + dl) rfl rfl ?c0 ?c1 ?c2 (Nat.le_refl _) ?_)
  case c0 => first | rfl | exact uw7 | simp
  case c1 => rw [hz2]; omega
  case c2 => unfold maxLen; omega
  intro w5 ho hg
  clear m0_0 m0_1 m0_2 m0_3 m0_4 m0_5 mlt0
  have hb := (Below.refl W5.heap.size W5).grown hg (Nat.le_refl _) (fun k hk => by cases hk)
  have HB5 := Lib.hid hb
  have HO := Lib.hid ho
  clear ho hg uw7
  have L6 := Lib.hid (L5.out.trans (hb.mono L5.out.size))
  have K6_0 := Lib.hid (K5_0.out.below hb K5_0.out.lt)
  have K6_1 := Lib.hid (K5_1.out.below hb K5_1.out.lt)
  clear hb K5_0 K5_1
  have m1_0 : w5.cell? ⟨B4, 0, none⟩ = some _ := K6_1.out.cell 0
  have m1_1 : w5.cell? ⟨B4, 1, none⟩ = some _ := K6_1.out.cell 1
  have m1_2 : w5.cell? ⟨B4, 2, none⟩ = some _ := K6_1.out.cell 2
  have m1_3 : w5.cell? ⟨B4, 3, none⟩ = some _ := K6_1.out.cell 3
  have m1_4 : w5.cell? ⟨B4, 4, none⟩ = some _ := K6_1.out.cell 4
  have m1_5 : w5.cell? ⟨B4, 5, none⟩ = some _ := K6_1.out.cell 5
  have m1_6 : w5.cell? ⟨B4, 6, none⟩ = some _ := K6_1.out.cell 6
  have mlt1 : B4 < w5.heap.size := K6_1.out.lt
  go_wp2
  clear m1_0 m1_1 m1_2 m1_3 m1_4 m1_5 m1_6 mlt1
  go_loopw [5, 35] (fun v i wr => ∃ (j : Nat) (x : Value), j ≤ 7 ∧ i = .int .i64 (j : Int) ∧ x = v ∧ OwnV W5.heap.size (hd16 k f t s a dl j) x wr ∧ Below W5.heap.size W5 wr) (fun _ i _ => 7 - (intOf i).toNat)
  case atStart => exact ⟨0, _, Nat.zero_le _, rfl, rfl, HO.out, HB5.out⟩
  case round =>
    obtain ⟨j, x, hj, rfl, rfl, hov, hbr⟩ := hrel
    have hlen := hd16_len k f t s a dl j hj
    have hLr := L5.out.trans (hbr.mono L5.out.size)
    have HOV := Lib.hid hov; have HBR := Lib.hid hbr; have HLR := Lib.hid hLr
    clear hov hbr hLr
    by_cases hlt : j < 7
    · have hji : (j : Int) < 7 := by omega
      have hidx : ∀ w0, (Instr.index 40 (.agg #[.int .u64 21074, .int .u64 (k : Int), .int .u64 (f : Int), .int .u64 (t : Int), .int .u64 (s : Int), .int .u64 (a : Int), .int .u64 (dl : Int)]) (.int .i64 (j : Int))).run Tryd.prog w0 = .ok (.int .u64 (vl16 k f t s a dl j : Nat)) w0 := by
        intro w0
        match j, hlt with
        | 0, _ => exact idx16_0 _ _ _ _ _ _ _ w0
        | 1, _ => exact idx16_1 _ _ _ _ _ _ _ w0
        | 2, _ => exact idx16_2 _ _ _ _ _ _ _ w0
        | 3, _ => exact idx16_3 _ _ _ _ _ _ _ w0
        | 4, _ => exact idx16_4 _ _ _ _ _ _ _ w0
        | 5, _ => exact idx16_5 _ _ _ _ _ _ _ w0
        | 6, _ => exact idx16_6 _ _ _ _ _ _ _ w0
      have hcs := (HSZ.out.below HLR.out) j hlt
      have hv := HVL.out j
      have hsi := sz16_SzI j
      have hs4 : sz16 j ≤ 8 := by unfold sz16; split <;> omega
      have hsu : hd16 k f t s a dl (j + 1) = hd16 k f t s a dl j ++ byt (vl16 k f t s a dl j : Nat) (sz16 j) := rfl
      obtain ⟨X1, hX1⟩ : ∃ X1, X1 = hd16 k f t s a dl (j + 1) := ⟨_, rfl⟩
      rw [← hX1] at hsu
      have HX1 := Lib.hid hX1
      clear hX1
      generalize hd16 k f t s a dl j = X0 at hsu hlen HOV
      generalize vl16 k f t s a dl j = vj at hidx hv hsu
      generalize sz16 j = sj at hcs hsi hs4 hsu
      have HSU := Lib.hid hsu
      clear hsu
      go_wp2_with fail
      refine (bytes_yes (vj : Int) sj _ hsi (by omega) (by omega)).mono ?_
      rintro e w8 ⟨v8, rfl, hm8, hb8⟩
      have ho8 := hm8.own
      obtain ⟨g8, cap8, rfl, _⟩ := hm8
      have hx8 : w8.ownsRow W5.heap.size 5 1 x X0.length (X0.map (Value.int .u8)) := (HOV.out.below (hb8.mono (Nat.le_refl _)))
      have hs8 : Src w8 _ _ _ := Src.own ho8
      have hb8' := HBR.out.trans (hb8.mono HBR.out.size)
      have HX8 := Lib.hid hx8; have HS8 := Lib.hid hs8; have HB8 := Lib.hid hb8'
      clear hb8 ho8 hx8 hs8 hb8' hcs hidx
      go_wp2_with (at_builtin; refine wpList_append_src rfl _ _ 23 rfl W5.heap.size 5 i0 (.int .u8 0) 1 1 Tryd.underlying23 hi hz0 hz1 hz2 rfl (by decide) _ X0.length (X0.map (Value.int .u8)) rfl HX8.out _ (byt (vj : Int) sj).length ((byt (vj : Int) sj).map (Value.int .u8)) rfl HS8.out ?d1 ?d2 ?d3 ?d4 HB8.out.size ?_)
      case d1 => rw [List.length_map, Nat.mul_one]
      case d2 => intro u hu; obtain ⟨x, _, rfl⟩ := List.mem_map.1 hu; rfl
      case d3 => rw [byt_len]; unfold maxLen; omega
      case d4 => rw [byt_len]; omega
      intro v9 w9 ho9 hg9
      have ho9' : OwnV W5.heap.size X1 v9 w9 := by
        unfold OwnV
        rw [HSU.out, List.length_append, List.map_append]; exact ho9
      have hb9 : Below W5.heap.size W5 w9 := HB8.out.grown hg9 HB8.out.size (fun k hk => (HX8.out.lt k hk).1)
      have HO9 := Lib.hid ho9'; have HB9 := Lib.hid hb9
      clear ho9 ho9' hg9 hb9
      go_wp2
      go_roundw
      case rel => exact ⟨j + 1, v9, by omega, by go_num, rfl, by rw [← HX1.out]; exact HO9.out, HB9.out⟩
      case measure => simp [intOf]; omega
    · obtain rfl : j = 7 := by omega
      have hdw := HD.out.below HLR.out
      have hsr := hdw.src
      have hdl := hdw.len
      have HSR := Lib.hid hsr; have HDL := Lib.hid hdl
      have hkm := KM.out.below HBR.out KM.out.lt
      have m0_5 : wr.cell? ⟨B1, 5, none⟩ = some (.slice A dl cap) := hkm.cell 5
      have mlt0 : B1 < wr.heap.size := hkm.lt
      clear hsr hdw hdl hkm
      go_wp2_with (at_builtin; refine wpList_append_src rfl _ _ 23 rfl W5.heap.size 5 i0 (.int .u8 0) 1 1 Tryd.underlying23 hi hz0 hz1 hz2 rfl (by decide) _ (hd16 k f t s a dl 7).length ((hd16 k f t s a dl 7).map (Value.int .u8)) rfl HOV.out _ dl (d.map (Value.int .u8)) rfl HSR.out ?d1 ?d2 ?d3 ?d4 HBR.out.size ?_)
      case d1 => rw [List.length_map, Nat.mul_one, HDL.out]
      case d2 => intro u hu; obtain ⟨x, _, rfl⟩ := List.mem_map.1 hu; rfl
      case d3 => unfold maxLen; omega
      case d4 => omega
      intro v9 w9 ho9 hg9
      have ho9' : OwnV w.heap.size PM v9 w9 := by
        unfold OwnV
        rw [HPM.out, List.length_append, List.map_append, HDL.out]; exact own_base15 ho9 L5.out.size
      have hb9 : Below W5.heap.size W5 w9 := HBR.out.grown hg9 HBR.out.size (fun k hk => (HOV.out.lt k hk).1)
      have hb9' := L5.out.trans (hb9.mono L5.out.size)
      obtain ⟨A9, c9, rfl, hr9⟩ := ho9'.rd HBY.out (by rw [HPL.out]; omega)
      have hse := seal_any A9 PM.length c9 PM w9 hr9 rfl (by rw [HPL.out]; omega) (HMV.out.below hb9')
      have HO9 := Lib.hid ho9'; have HB9 := Lib.hid hb9'; have HSE := Lib.hid hse
      clear ho9 ho9' hg9 hb9 hb9' hr9 hse
      go_wp2_with fail
      refine HSE.out.mono ?_
      rintro e w10 ⟨g, rfl, ho10, hb10⟩
      have ho11 : OwnV w.heap.size (sealed PM) (.slice (some ⟨g, 0, none⟩) (PM.length + 4) (PM.length + 4)) w10 := by
        unfold OwnV
        rw [seal_len]
        exact own_base15 ho10 HB9.out.size
      have HO11 := Lib.hid ho11
      have HB11 := Lib.hid (HB9.out.trans (hb10.mono HB9.out.size))
      clear ho10 ho11 hb10
      go_wp2
      go_ret2
      exact ⟨_, rfl, HO11.out, HB11.out⟩
end Go.Proofs.YtmdfopbigkfbnaaDoor
