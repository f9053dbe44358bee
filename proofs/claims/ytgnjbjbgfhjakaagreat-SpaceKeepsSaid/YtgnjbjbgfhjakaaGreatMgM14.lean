/-
  What a unit's translation answers: contracts over the translation. Each says its own conditions. What a unit's reach, Load and Fetch answer: contracts over the translation. Each says its own conditions. What package mmu makes of a word by a function that it is handed: a store's own function, behind a deferred recover. Contracts over the translation. What a unit's Swap by a store's function, its Store and its Fence answer: contracts over the translation. Each says its own conditions. A buffer that has nothing but what the tables have, all pages of the lowest level: what a unit finds is what the tables have. No function of the program stands here.
-/
import Derived.Test.YtgnjbjbgfhjakaaGreatMmuA14
import Derived.Test.YtgnjbjbgfhjakaaGreatPerm09
import Derived.Test.YtgnjbjbgfhjakaaGreatPte08
import Derived.Tactics2
import Derived.Defers
import Derived.Recover
import Derived.Deep.Cut
import Derived.Test.YtgnjbjbgfhjakaaGreatTlbC11
import Derived.Test.YtgnjbjbgfhjakaaGreatTab14
namespace Go.Proofs.YtgnjbjbgfhjakaaGreat
open Go.RowKit
set_option linter.unusedVariables false
set_option linter.unusedSimpArgs false
attribute [local go_sem] setCell_drewN alloc_drewN

theorem load_lfpteU {w : World} {b : Nat} {c0 c1 c2 c3 c4 c5 c6 c7 c8 c9 c10 c11 : Value} (h : Blk w b [c0, c1, c2, c3, c4, c5, c6, c7, c8, c9, c10, c11] 41) : (Instr.loadAt 39 (.pointer (some ⟨b, 0, none⟩))).run Tryz.prog w = .ok (.agg #[c0, c1, c2, c3, c4, c5, c6, c7, c8, c9]) w := by
  have h0 : w.cell? ⟨b, 0, none⟩ = some c0 := h.cell 0
  have h1 : w.cell? ⟨b, 1, none⟩ = some c1 := h.cell 1
  have h2 : w.cell? ⟨b, 2, none⟩ = some c2 := h.cell 2
  have h3 : w.cell? ⟨b, 3, none⟩ = some c3 := h.cell 3
  have h4 : w.cell? ⟨b, 4, none⟩ = some c4 := h.cell 4
  have h5 : w.cell? ⟨b, 5, none⟩ = some c5 := h.cell 5
  have h6 : w.cell? ⟨b, 6, none⟩ = some c6 := h.cell 6
  have h7 : w.cell? ⟨b, 7, none⟩ = some c7 := h.cell 7
  have h8 : w.cell? ⟨b, 8, none⟩ = some c8 := h.cell 8
  have h9 : w.cell? ⟨b, 9, none⟩ = some c9 := h.cell 9
  have h10 : w.cell? ⟨b, 10, none⟩ = some c10 := h.cell 10
  have h11 : w.cell? ⟨b, 11, none⟩ = some c11 := h.cell 11
  clear h
  go_simp
theorem yield_lfpteU {w : World} {b : Nat} {c0 c1 c2 c3 c4 c5 c6 c7 c8 c9 c10 c11 : Value} (a : Act) (o : Oper) (x : Operand) (ho : o.op = .load 39 x) (hx : a.eval x = .pointer (some ⟨b, 0, none⟩)) (h : Blk w b [c0, c1, c2, c3, c4, c5, c6, c7, c8, c9, c10, c11] 41) :
    (execOp a.eval o).run Tryz.prog w = .ok (.value (.agg #[c0, c1, c2, c3, c4, c5, c6, c7, c8, c9])) w := by
  have e := load_lfpteU h
  obtain ⟨op, _, _, _, _, _⟩ := o
  dsimp only at ho
  subst ho
  unfold execOp
  simp only [hx]
  simp [e]
/-- what an access comes to, by what is found -/
def trU (f : Lf) (er : Nat) (k : Int) (m : Md) : Lf × Int := if er = 61 then (zl, cau k 1 5 7) else if (er != 0) || !chk f.e k m then (zl, cau k 12 13 15) else (f, -1)
set_option maxHeartbeats 8000000 in
theorem translate_any (up mp bp q : Nat) (g : Nat → Nat) (N m n c : Nat) (C : Nat → List Int) (Fm : Nat → Prop) (R : Nat → Nat → Wy) (S : Stp) (M : Md) (va : Nat) (k pk : Int) (w : World) (h : UW w up mp bp q g N m n c C Fm R S M) (hv : va < 18446744073709551616) (hs : S.ppn < 18446744073709551616) (hp : -9223372036854775808 ≤ pk ∧ pk < 9223372036854775808) :
    Calls Tryz.prog 89 #[.pointer (some ⟨up, 0, none⟩), .int .u64 (va : Int), .int .i64 k, .int .i64 pk] w fun r w' => r = .returned (.tuple #[lfv (trU (fnU R N m n (Mw C) S va pk).1 (fnU R N m n (Mw C) S va pk).2.1 k M).1, .int .i64 (trU (fnU R N m n (Mw C) S va pk).1 (fnU R N m n (Mw C) S va pk).2.1 k M).2]) ∧ Buf w' bp q g N m (fnU R N m n (Mw C) S va pk).2.2 ∧ Chg (FpT bp q g N) w w' := by
  have h1 := fun w' (hb : Below w.heap.size w w') => ufind_any up mp bp q g N m n c C Fm R S M va pk w' (h.below hb) hv hs hp
  generalize fnU R N m n (Mw C) S va pk = F at *
  obtain ⟨f, er, R2⟩ := F
  dsimp only at *
  have h2 := fun w => Calls.belowE (bound_any k w)
  have h3 := fun w => Calls.belowE (page_any k w)
  have h4 := fun w => check_any f.e k M w
  have hB := h.blk
  have hub := h.ub
  have hlt : ∀ j, FpT bp q g N j → j < w.heap.size := h.buf.lt
  unfold trU
  generalize cau k 1 5 7 = c1 at *
  generalize cau k 12 13 15 = c2 at *
  generalize chk f.e k M = Q at *
  obtain ⟨Z, hZ⟩ : ∃ Z : Lf × Int, Z = if er = 61 then (zl, c1) else if ((er != 0) || !Q) = true then (zl, c2) else (f, -1) := ⟨_, rfl⟩
  rw [← hZ]
  have e1 : er = 61 → Z = (zl, c1) := fun h => by rw [hZ, if_pos h]
  have e2 : er ≠ 61 → er ≠ 0 → Z = (zl, c2) := fun h h' => by rw [hZ, if_neg h, if_pos (by simp [h'])]
  have e3 : er = 0 → Q = false → Z = (zl, c2) := fun h h' => by rw [hZ, if_neg (by omega), if_pos (by simp [h'])]
  have e4 : er = 0 → Q = true → Z = (f, -1) := fun h h' => by rw [hZ, if_neg (by omega), if_neg (by simp [h, h'])]
  clear hZ
  obtain ⟨on, asid, root⟩ := S
  obtain ⟨us, sm, mx⟩ := M
  obtain ⟨⟨v, r, x1, x, u, g9, a, d, rsw, pn⟩, lv, pl⟩ := f
  unfold lfv pv mv at *
  dsimp only at *
  have H1 := Lib.hid h1; have H2 := Lib.hid h2; have H3 := Lib.hid h3; have H4 := Lib.hid h4; have HB := Lib.hid hB; have HLT := Lib.hid hlt; have HUB := Lib.hid hub; have E1 := Lib.hid e1; have E2 := Lib.hid e2; have E3 := Lib.hid e3; have E4 := Lib.hid e4
  clear h1 h2 h3 h4 hB hlt hub e1 e2 e3 e4 h hv hs hp
  have HNF : Hid (∀ j, w.heap.size ≤ j → ¬ FpT bp q g N j) := Lib.hid (fun j hj h => by have := HLT.out j h; omega)
  go_enter Tryz.func89, Tryz.ntmps89
  go_wp2_with fail
  have nb0 := Blk.new w [.bool false, .bool false, .bool false, .bool false, .bool false, .bool false, .bool false, .bool false, .int .i64 0, .int .u64 0, .int .i64 0, .int .u64 0] 41
  have nls : Below w.heap.size w w := (Below.refl w.heap.size w)
  have nl0 := nls.alloc nls.size (.cells #[.bool false, .bool false, .bool false, .bool false, .bool false, .bool false, .bool false, .bool false, .int .i64 0, .int .u64 0, .int .i64 0, .int .u64 0] 41)
  have nl : Below w.heap.size w (w.alloc (.cells #[.bool false, .bool false, .bool false, .bool false, .bool false, .bool false, .bool false, .bool false, .int .i64 0, .int .u64 0, .int .i64 0, .int .u64 0] 41)) := nl0; clear nls nl0
  have o0 : Blk (w.alloc (.cells #[.bool false, .bool false, .bool false, .bool false, .bool false, .bool false, .bool false, .bool false, .int .i64 0, .int .u64 0, .int .i64 0, .int .u64 0] 41)) up [.pointer (some ⟨mp, 0, none⟩), .pointer (some ⟨bp, 0, none⟩), .bool on, .int .i64 asid, .int .u64 (root : Int), .bool us, .bool sm, .bool mx] 145 := (HB.out.alloc (.cells #[.bool false, .bool false, .bool false, .bool false, .bool false, .bool false, .bool false, .bool false, .int .i64 0, .int .u64 0, .int .i64 0, .int .u64 0] 41))
  have d1_0 : up < w.heap.size := HB.out.lt
  obtain ⟨B1, hB0⟩ : ∃ B, B = w.heap.size := ⟨_, rfl⟩
  obtain ⟨W1, hW⟩ : ∃ W, W = (w.alloc (.cells #[.bool false, .bool false, .bool false, .bool false, .bool false, .bool false, .bool false, .bool false, .int .i64 0, .int .u64 0, .int .i64 0, .int .u64 0] 41)) := ⟨_, rfl⟩
  rw [← hW] at nl nb0 o0
  rw [← hB0] at nb0
  rw [← hW]
  try rw [← hB0]
  have K1_0 := Lib.hid o0
  have K1_1 := Lib.hid nb0
  have G1 : Hid (w.heap.size ≤ B1) := Lib.hid (by have := (Nat.le_refl w.heap.size); omega)
  have x1_0_0 : up ≠ B1 := by omega
  have X1_0_0 := Lib.hid x1_0_0; clear x1_0_0
  have L1 := Lib.hid nl
  clear nl hW nb0 hB0 o0 d1_0 HB
  refine (H1.out _ L1.out).mono ?_
  rintro e w2 ⟨rfl, hb, hc⟩
  have KU := Lib.hid (K1_0.out.chg hc HUB.out); have KR := Lib.hid (K1_1.out.chg hc (HNF.out _ G1.out))
  have HB2 := Lib.hid hb; have HC2 := Lib.hid ((Chg.of_below (F := FpT bp q g N) L1.out).trans hc)
  clear hb hc
  go_upto_region 2 with (fail)
  have nb0 := Blk.new w2 [.bool v, .bool r, .bool x1, .bool x, .bool u, .bool g9, .bool a, .bool d, .int .i64 rsw, .int .u64 (pn : Int), .int .i64 (lv : Int), .int .u64 (pl : Int)] 41
  have nls : Below w2.heap.size w2 w2 := (Below.refl w2.heap.size w2)
  have nl0 := nls.alloc nls.size (.cells #[.bool v, .bool r, .bool x1, .bool x, .bool u, .bool g9, .bool a, .bool d, .int .i64 rsw, .int .u64 (pn : Int), .int .i64 (lv : Int), .int .u64 (pl : Int)] 41)
  have nl : Below w2.heap.size w2 (w2.alloc (.cells #[.bool v, .bool r, .bool x1, .bool x, .bool u, .bool g9, .bool a, .bool d, .int .i64 rsw, .int .u64 (pn : Int), .int .i64 (lv : Int), .int .u64 (pl : Int)] 41)) := nl0; clear nls nl0
  have o0 := (KU.out.alloc (.cells #[.bool v, .bool r, .bool x1, .bool x, .bool u, .bool g9, .bool a, .bool d, .int .i64 rsw, .int .u64 (pn : Int), .int .i64 (lv : Int), .int .u64 (pl : Int)] 41))
  have d5_0 : up < w2.heap.size := KU.out.lt
  have o1 := (KR.out.alloc (.cells #[.bool v, .bool r, .bool x1, .bool x, .bool u, .bool g9, .bool a, .bool d, .int .i64 rsw, .int .u64 (pn : Int), .int .i64 (lv : Int), .int .u64 (pl : Int)] 41))
  have d5_1 : B1 < w2.heap.size := KR.out.lt
  obtain ⟨B5, hB0⟩ : ∃ B, B = w2.heap.size := ⟨_, rfl⟩
  obtain ⟨W5, hW⟩ : ∃ W, W = (w2.alloc (.cells #[.bool v, .bool r, .bool x1, .bool x, .bool u, .bool g9, .bool a, .bool d, .int .i64 rsw, .int .u64 (pn : Int), .int .i64 (lv : Int), .int .u64 (pl : Int)] 41)) := ⟨_, rfl⟩
  rw [← hW] at nl nb0 o0 o1
  rw [← hB0] at nb0
  rw [← hW]
  try rw [← hB0]
  have K5_0 := Lib.hid o0
  have K5_1 := Lib.hid o1
  have K5_2 := Lib.hid nb0
  have G5 : Hid (w2.heap.size ≤ B5) := Lib.hid (by have := (Nat.le_refl w2.heap.size); omega)
  have x5_0_0 : up ≠ B5 := by omega
  have x5_1_0 : B1 ≠ B5 := by omega
  have X5_0_0 := Lib.hid x5_0_0; clear x5_0_0
  have X5_1_0 := Lib.hid x5_1_0; clear x5_1_0
  have L5 := Lib.hid nl
  clear nl hW nb0 hB0 o0 d5_0 o1 d5_1 KU KR
  by_cases h61 : er = 61
  · subst h61
    obtain rfl := E1.out rfl
    go_wp2_with fail
    refine (H2.out _).mono ?_
    rintro e w6 ⟨rfl, hb⟩
    have L6 := Lib.hid (L5.out.trans (hb.mono L5.out.size))
    have K6_0 := Lib.hid (K5_0.out.below hb K5_0.out.lt)
    have K6_1 := Lib.hid (K5_1.out.below hb K5_1.out.lt)
    have K6_2 := Lib.hid (K5_2.out.below hb K5_2.out.lt)
    clear hb K5_0 K5_1 K5_2
    have HBF := Lib.hid (HB2.out.below L6.out); have HCH := Lib.hid (HC2.out.trans (Chg.of_below (F := FpT bp q g N) L6.out))
    have m1_0 := K6_1.out.c0
    have m1_1 := K6_1.out.c1
    have m1_2 := K6_1.out.c2
    have m1_3 := K6_1.out.c3
    have m1_4 := K6_1.out.c4
    have m1_5 := K6_1.out.c5
    have m1_6 := K6_1.out.c6
    have m1_7 := K6_1.out.c7
    have m1_8 := K6_1.out.c8
    have m1_9 := K6_1.out.c9
    have m1_10 := K6_1.out.c10
    have m1_11 := K6_1.out.c11
    have mlt1 : B1 < w6.heap.size := K6_1.out.lt
    have mf1 : ∀ o, w6.frozen? ⟨B1, o, none⟩ = false := fun o => K6_1.out.free o
    go_wp2
    clear m1_0 m1_1 m1_2 m1_3 m1_4 m1_5 m1_6 m1_7 m1_8 m1_9 m1_10 m1_11 mlt1 mf1
    obtain ⟨W11, hW11⟩ : ∃ WX, WX = ((((((((((((w6.setCell ⟨B1, 0, none⟩ (.bool false)).setCell ⟨B1, 1, none⟩ (.bool false)).setCell ⟨B1, 2, none⟩ (.bool false)).setCell ⟨B1, 3, none⟩ (.bool false)).setCell ⟨B1, 4, none⟩ (.bool false)).setCell ⟨B1, 5, none⟩ (.bool false)).setCell ⟨B1, 6, none⟩ (.bool false)).setCell ⟨B1, 7, none⟩ (.bool false)).setCell ⟨B1, 8, none⟩ (.int .i64 0)).setCell ⟨B1, 9, none⟩ (.int .u64 0)).setCell ⟨B1, 10, none⟩ (.int .i64 0)).setCell ⟨B1, 11, none⟩ (.int .u64 0)) := ⟨_, rfl⟩
    rw [← hW11]
    have ka : Blk W11 B1 [.bool false, .bool false, .bool false, .bool false, .bool false, .bool false, .bool false, .bool false, .int .i64 0, .int .u64 0, .int .i64 0, .int .u64 0] 41 := hW11 ▸ ((((((((((((K6_1.out.set 0 (.bool false)).set 1 (.bool false)).set 2 (.bool false)).set 3 (.bool false)).set 4 (.bool false)).set 5 (.bool false)).set 6 (.bool false)).set 7 (.bool false)).set 8 (.int .i64 0)).set 9 (.int .u64 0)).set 10 (.int .i64 0)).set 11 (.int .u64 0))
    have kc : Chg (fun k => k = B1) w6 W11 := hW11 ▸ (((((((((((((Chg.refl (fun k => k = B1) w6).setc ⟨B1, 0, none⟩ (.bool false) (.inl rfl)).setc ⟨B1, 1, none⟩ (.bool false) (.inl rfl)).setc ⟨B1, 2, none⟩ (.bool false) (.inl rfl)).setc ⟨B1, 3, none⟩ (.bool false) (.inl rfl)).setc ⟨B1, 4, none⟩ (.bool false) (.inl rfl)).setc ⟨B1, 5, none⟩ (.bool false) (.inl rfl)).setc ⟨B1, 6, none⟩ (.bool false) (.inl rfl)).setc ⟨B1, 7, none⟩ (.bool false) (.inl rfl)).setc ⟨B1, 8, none⟩ (.int .i64 0) (.inl rfl)).setc ⟨B1, 9, none⟩ (.int .u64 0) (.inl rfl)).setc ⟨B1, 10, none⟩ (.int .i64 0) (.inl rfl)).setc ⟨B1, 11, none⟩ (.int .u64 0) (.inl rfl))
    clear hW11
    have HB11 := Lib.hid (HBF.out.chg kc (fun k hk e => HNF.out _ G1.out (by have e : k = B1 := e; rw [← e]; exact hk)))
    have HC11 := Lib.hid (HCH.out.thenExt kc (fun j hj => .inr (by have hj : j = B1 := hj; have := G1.out; omega)))
    have KA := Lib.hid ka
    clear ka kc
    have rr0 := KA.out.c0
    have rr1 := KA.out.c1
    have rr2 := KA.out.c2
    have rr3 := KA.out.c3
    have rr4 := KA.out.c4
    have rr5 := KA.out.c5
    have rr6 := KA.out.c6
    have rr7 := KA.out.c7
    have rr8 := KA.out.c8
    have rr9 := KA.out.c9
    have rr10 := KA.out.c10
    have rr11 := KA.out.c11
    refine bodyPost_ret (v := .tuple #[.agg #[.bool false, .bool false, .bool false, .bool false, .bool false, .bool false, .bool false, .bool false, .int .i64 0, .int .u64 0, .int .i64 0, .int .u64 0], .int .i64 c1]) (by simp [results, Tryz.results89, go_sem, rr0, rr1, rr2, rr3, rr4, rr5, rr6, rr7, rr8, rr9, rr10, rr11]) rfl ⟨rfl, HB11.out, HC11.out⟩
  have f61 : ((er : Int) == 61) = false := by simp; omega
  by_cases h0 : er = 0
  · subst h0
    go_upto_region 4 with (fail)
    refine wp_region_held_drew (S := fun w' => Blk w' up [.pointer (some ⟨mp, 0, none⟩), .pointer (some ⟨bp, 0, none⟩), .bool on, .int .i64 asid, .int .u64 (root : Int), .bool us, .bool sm, .bool mx] 145 ∧ Blk w' B5 [.bool v, .bool r, .bool x1, .bool x, .bool u, .bool g9, .bool a, .bool d, .int .i64 rsw, .int .u64 (pn : Int), .int .i64 (lv : Int), .int .u64 (pl : Int)] 41) (by kernel_rfl) ⟨K5_0.out, K5_2.out⟩ (fun hHeld => ?_)
    clear hHeld
    obtain ⟨D7, hD⟩ : ∃ x, x = W5.drew := ⟨_, rfl⟩
    rw [← hD]
    have K7_0 := Lib.hid (show Blk D7 up [.pointer (some ⟨mp, 0, none⟩), .pointer (some ⟨bp, 0, none⟩), .bool on, .int .i64 asid, .int .u64 (root : Int), .bool us, .bool sm, .bool mx] 145 from hD ▸ Blk.drewN K5_0.out 1)
    have K7_1 := Lib.hid (show Blk D7 B1 [.bool false, .bool false, .bool false, .bool false, .bool false, .bool false, .bool false, .bool false, .int .i64 0, .int .u64 0, .int .i64 0, .int .u64 0] 41 from hD ▸ Blk.drewN K5_1.out 1)
    have K7_2 := Lib.hid (show Blk D7 B5 [.bool v, .bool r, .bool x1, .bool x, .bool u, .bool g9, .bool a, .bool d, .int .i64 rsw, .int .u64 (pn : Int), .int .i64 (lv : Int), .int .u64 (pl : Int)] 41 from hD ▸ Blk.drewN K5_2.out 1)
    have L7 := Lib.hid (show Below w2.heap.size w2 D7 from hD ▸ L5.out.drew)
    clear hD K5_0 K5_1 K5_2
    have hSD7 : Blk D7 up [.pointer (some ⟨mp, 0, none⟩), .pointer (some ⟨bp, 0, none⟩), .bool on, .int .i64 asid, .int .u64 (root : Int), .bool us, .bool sm, .bool mx] 145 ∧ Blk D7 B5 [.bool v, .bool r, .bool x1, .bool x, .bool u, .bool g9, .bool a, .bool d, .int .i64 rsw, .int .u64 (pn : Int), .int .i64 (lv : Int), .int .u64 (pl : Int)] 41 := ⟨K7_0.out, K7_2.out⟩
    simp only [List.size_toArray, List.length_cons, List.length_nil, Nat.reduceAdd]
    rw [show Array.replicate 13 false = [false, false, false, false, false, false, false, false, false, false, false, false, false].toArray from rfl]
    refine wpAnyH_take (i := 0) (v := ?_) rfl (by kernel_rfl) (by kernel_rfl) (by kernel_rfl) (fun _ _ _ h => h) (Or.inl ⟨by rfl, ?yldq⟩) (by assumption) ?_
    case yldq => (intro w hSw; (try dsimp only at hSw); go_simp; try with_reducible rfl)
    try simp only [Act.put, List.setIfInBounds_toArray, List.set_cons_zero, List.set_cons_succ, List.getElem_toArray, List.getElem_cons_succ, List.getElem_cons_zero]
    refine wpAnyH_take (i := 1) (v := ?_) rfl (by kernel_rfl) (by kernel_rfl) (by kernel_rfl) (fun _ _ _ h => h) (Or.inl ⟨by rfl, ?yldq⟩) (by assumption) ?_
    case yldq => (intro w hSw; (try dsimp only at hSw); go_simp; try with_reducible rfl)
    try simp only [Act.put, List.setIfInBounds_toArray, List.set_cons_zero, List.set_cons_succ, List.getElem_toArray, List.getElem_cons_succ, List.getElem_cons_zero]
    refine wpAnyH_take (i := 2) (v := ?_) rfl (by kernel_rfl) (by kernel_rfl) (by kernel_rfl) (fun _ _ _ h => h) (Or.inl ⟨by rfl, ?yldq⟩) (by assumption) ?_
    case yldq => (intro w hSw; (try dsimp only at hSw); go_simp; try with_reducible rfl)
    try simp only [Act.put, List.setIfInBounds_toArray, List.set_cons_zero, List.set_cons_succ, List.getElem_toArray, List.getElem_cons_succ, List.getElem_cons_zero]
    refine wpAnyH_take (i := 3) (v := ?_) rfl (by kernel_rfl) (by kernel_rfl) (by kernel_rfl) (fun _ _ _ h => h) (Or.inl ⟨by rfl, ?yldq⟩) (by assumption) ?_
    case yldq => (intro w hSw; (try dsimp only at hSw); go_simp; try with_reducible rfl)
    try simp only [Act.put, List.setIfInBounds_toArray, List.set_cons_zero, List.set_cons_succ, List.getElem_toArray, List.getElem_cons_succ, List.getElem_cons_zero]
    refine wpAnyH_take (i := 4) (v := _) rfl (by kernel_rfl) (by kernel_rfl) (by kernel_rfl) (fun _ _ _ h => h) (Or.inl ⟨by rfl, fun w hSw => yield_lfpteU _ _ _ rfl rfl hSw.2⟩) (by assumption) ?_
    try simp only [Act.put, List.setIfInBounds_toArray, List.set_cons_zero, List.set_cons_succ, List.getElem_toArray, List.getElem_cons_succ, List.getElem_cons_zero]
    refine wpAnyH_take (i := 5) (v := ?_) rfl (by kernel_rfl) (by kernel_rfl) (by kernel_rfl) (fun _ _ _ h => h) (Or.inl ⟨by rfl, ?yldq⟩) (by assumption) ?_
    case yldq => (intro w hSw; (try dsimp only at hSw); go_simp; try with_reducible rfl)
    try simp only [Act.put, List.setIfInBounds_toArray, List.set_cons_zero, List.set_cons_succ, List.getElem_toArray, List.getElem_cons_succ, List.getElem_cons_zero]
    refine wpAnyH_take (i := 6) (v := ?_) rfl (by kernel_rfl) (by kernel_rfl) (by kernel_rfl) (fun _ _ _ h => h) (Or.inl ⟨by rfl, ?yldq⟩) (by assumption) ?_
    case yldq => (intro w hSw; (try dsimp only at hSw); go_simp; try with_reducible rfl)
    try simp only [Act.put, List.setIfInBounds_toArray, List.set_cons_zero, List.set_cons_succ, List.getElem_toArray, List.getElem_cons_succ, List.getElem_cons_zero]
    refine wpAnyH_take (i := 7) (v := ?_) rfl (by kernel_rfl) (by kernel_rfl) (by kernel_rfl) (fun _ _ _ h => h) (Or.inl ⟨by rfl, ?yldq⟩) (by assumption) ?_
    case yldq => (intro w hSw; (try dsimp only at hSw); go_simp; try with_reducible rfl)
    try simp only [Act.put, List.setIfInBounds_toArray, List.set_cons_zero, List.set_cons_succ, List.getElem_toArray, List.getElem_cons_succ, List.getElem_cons_zero]
    refine wpAnyH_take (i := 8) (v := ?_) rfl (by kernel_rfl) (by kernel_rfl) (by kernel_rfl) (fun _ _ _ h => h) (Or.inl ⟨by rfl, ?yldq⟩) (by assumption) ?_
    case yldq => (intro w hSw; (try dsimp only at hSw); go_simp; try with_reducible rfl)
    try simp only [Act.put, List.setIfInBounds_toArray, List.set_cons_zero, List.set_cons_succ, List.getElem_toArray, List.getElem_cons_succ, List.getElem_cons_zero]
    refine wpAnyH_take (i := 9) (v := _) rfl (by kernel_rfl) (by kernel_rfl) (by kernel_rfl) (fun _ _ _ h => h) (Or.inl ⟨by rfl, fun w hSw => yield_unmode _ _ _ rfl rfl hSw.1⟩) (by assumption) ?_
    try simp only [Act.put, List.setIfInBounds_toArray, List.set_cons_zero, List.set_cons_succ, List.getElem_toArray, List.getElem_cons_succ, List.getElem_cons_zero]
    refine wpAnyH_ready (rs := [10]) (by kernel_rfl) (by simp) ?_
    refine AllReadyH.cons rfl (fun K hK => ?_) AllReadyH.nil
    go_simp
    refine (H4.out _).mono ?_
    rintro e w8 ⟨rfl, hb⟩
    have L8 := Lib.hid (L7.out.trans (hb.mono L7.out.size))
    have K8_0 := Lib.hid (K7_0.out.below hb K7_0.out.lt)
    have K8_1 := Lib.hid (K7_1.out.below hb K7_1.out.lt)
    have K8_2 := Lib.hid (K7_2.out.below hb K7_2.out.lt)
    clear hb K7_0 K7_1 K7_2
    refine hK.out _ _ ⟨K8_0.out, K8_2.out⟩ (fun hS10 => ?_)
    clear hK K
    refine wpAnyH_take (i := 11) (v := ?_) rfl (by kernel_rfl) (by kernel_rfl) (by kernel_rfl) (fun _ _ _ h => h) (Or.inl ⟨by rfl, ?yldq⟩) (by assumption) ?_
    case yldq => (intro w hSw; (try dsimp only at hSw); go_simp; try with_reducible rfl)
    try simp only [Act.put, List.setIfInBounds_toArray, List.set_cons_zero, List.set_cons_succ, List.getElem_toArray, List.getElem_cons_succ, List.getElem_cons_zero]
    refine wpAnyH_take (i := 12) (v := ?_) rfl (by kernel_rfl) (by kernel_rfl) (by kernel_rfl) (fun _ _ _ h => h) (Or.inl ⟨by rfl, ?yldq⟩) (by assumption) ?_
    case yldq => (intro w hSw; (try dsimp only at hSw); go_simp; try with_reducible rfl)
    try simp only [Act.put, List.setIfInBounds_toArray, List.set_cons_zero, List.set_cons_succ, List.getElem_toArray, List.getElem_cons_succ, List.getElem_cons_zero]
    refine wpAnyH_done (by kernel_rfl) ?_ _
    cases Q
    · obtain rfl := E3.out (by trivial) (by trivial)
      go_wp2_with fail
      refine (H3.out _).mono ?_
      rintro e w9 ⟨rfl, hb⟩
      have L9 := Lib.hid (L8.out.trans (hb.mono L8.out.size))
      have K9_0 := Lib.hid (K8_0.out.below hb K8_0.out.lt)
      have K9_1 := Lib.hid (K8_1.out.below hb K8_1.out.lt)
      have K9_2 := Lib.hid (K8_2.out.below hb K8_2.out.lt)
      clear hb K8_0 K8_1 K8_2
      have HBF := Lib.hid (HB2.out.below L9.out); have HCH := Lib.hid (HC2.out.trans (Chg.of_below (F := FpT bp q g N) L9.out))
      have m1_0 := K9_1.out.c0
      have m1_1 := K9_1.out.c1
      have m1_2 := K9_1.out.c2
      have m1_3 := K9_1.out.c3
      have m1_4 := K9_1.out.c4
      have m1_5 := K9_1.out.c5
      have m1_6 := K9_1.out.c6
      have m1_7 := K9_1.out.c7
      have m1_8 := K9_1.out.c8
      have m1_9 := K9_1.out.c9
      have m1_10 := K9_1.out.c10
      have m1_11 := K9_1.out.c11
      have mlt1 : B1 < w9.heap.size := K9_1.out.lt
      have mf1 : ∀ o, w9.frozen? ⟨B1, o, none⟩ = false := fun o => K9_1.out.free o
      go_wp2
      clear m1_0 m1_1 m1_2 m1_3 m1_4 m1_5 m1_6 m1_7 m1_8 m1_9 m1_10 m1_11 mlt1 mf1
      obtain ⟨W11, hW11⟩ : ∃ WX, WX = ((((((((((((w9.setCell ⟨B1, 0, none⟩ (.bool false)).setCell ⟨B1, 1, none⟩ (.bool false)).setCell ⟨B1, 2, none⟩ (.bool false)).setCell ⟨B1, 3, none⟩ (.bool false)).setCell ⟨B1, 4, none⟩ (.bool false)).setCell ⟨B1, 5, none⟩ (.bool false)).setCell ⟨B1, 6, none⟩ (.bool false)).setCell ⟨B1, 7, none⟩ (.bool false)).setCell ⟨B1, 8, none⟩ (.int .i64 0)).setCell ⟨B1, 9, none⟩ (.int .u64 0)).setCell ⟨B1, 10, none⟩ (.int .i64 0)).setCell ⟨B1, 11, none⟩ (.int .u64 0)) := ⟨_, rfl⟩
      rw [← hW11]
      have ka : Blk W11 B1 [.bool false, .bool false, .bool false, .bool false, .bool false, .bool false, .bool false, .bool false, .int .i64 0, .int .u64 0, .int .i64 0, .int .u64 0] 41 := hW11 ▸ ((((((((((((K9_1.out.set 0 (.bool false)).set 1 (.bool false)).set 2 (.bool false)).set 3 (.bool false)).set 4 (.bool false)).set 5 (.bool false)).set 6 (.bool false)).set 7 (.bool false)).set 8 (.int .i64 0)).set 9 (.int .u64 0)).set 10 (.int .i64 0)).set 11 (.int .u64 0))
      have kc : Chg (fun k => k = B1) w9 W11 := hW11 ▸ (((((((((((((Chg.refl (fun k => k = B1) w9).setc ⟨B1, 0, none⟩ (.bool false) (.inl rfl)).setc ⟨B1, 1, none⟩ (.bool false) (.inl rfl)).setc ⟨B1, 2, none⟩ (.bool false) (.inl rfl)).setc ⟨B1, 3, none⟩ (.bool false) (.inl rfl)).setc ⟨B1, 4, none⟩ (.bool false) (.inl rfl)).setc ⟨B1, 5, none⟩ (.bool false) (.inl rfl)).setc ⟨B1, 6, none⟩ (.bool false) (.inl rfl)).setc ⟨B1, 7, none⟩ (.bool false) (.inl rfl)).setc ⟨B1, 8, none⟩ (.int .i64 0) (.inl rfl)).setc ⟨B1, 9, none⟩ (.int .u64 0) (.inl rfl)).setc ⟨B1, 10, none⟩ (.int .i64 0) (.inl rfl)).setc ⟨B1, 11, none⟩ (.int .u64 0) (.inl rfl))
      clear hW11
      have HB11 := Lib.hid (HBF.out.chg kc (fun k hk e => HNF.out _ G1.out (by have e : k = B1 := e; rw [← e]; exact hk)))
      have HC11 := Lib.hid (HCH.out.thenExt kc (fun j hj => .inr (by have hj : j = B1 := hj; have := G1.out; omega)))
      have KA := Lib.hid ka
      clear ka kc
      have rr0 := KA.out.c0
      have rr1 := KA.out.c1
      have rr2 := KA.out.c2
      have rr3 := KA.out.c3
      have rr4 := KA.out.c4
      have rr5 := KA.out.c5
      have rr6 := KA.out.c6
      have rr7 := KA.out.c7
      have rr8 := KA.out.c8
      have rr9 := KA.out.c9
      have rr10 := KA.out.c10
      have rr11 := KA.out.c11
      refine bodyPost_ret (v := .tuple #[.agg #[.bool false, .bool false, .bool false, .bool false, .bool false, .bool false, .bool false, .bool false, .int .i64 0, .int .u64 0, .int .i64 0, .int .u64 0], .int .i64 c2]) (by simp [results, Tryz.results89, go_sem, rr0, rr1, rr2, rr3, rr4, rr5, rr6, rr7, rr8, rr9, rr10, rr11]) rfl ⟨rfl, HB11.out, HC11.out⟩
    · obtain rfl := E4.out (by trivial) (by trivial)
      have HBF := Lib.hid (HB2.out.below L8.out); have HCH := Lib.hid (HC2.out.trans (Chg.of_below (F := FpT bp q g N) L8.out))
      have m2_0 := K8_2.out.c0
      have m2_1 := K8_2.out.c1
      have m2_2 := K8_2.out.c2
      have m2_3 := K8_2.out.c3
      have m2_4 := K8_2.out.c4
      have m2_5 := K8_2.out.c5
      have m2_6 := K8_2.out.c6
      have m2_7 := K8_2.out.c7
      have m2_8 := K8_2.out.c8
      have m2_9 := K8_2.out.c9
      have m2_10 := K8_2.out.c10
      have m2_11 := K8_2.out.c11
      have mlt2 : B5 < w8.heap.size := K8_2.out.lt
      have m1_0 := K8_1.out.c0
      have m1_1 := K8_1.out.c1
      have m1_2 := K8_1.out.c2
      have m1_3 := K8_1.out.c3
      have m1_4 := K8_1.out.c4
      have m1_5 := K8_1.out.c5
      have m1_6 := K8_1.out.c6
      have m1_7 := K8_1.out.c7
      have m1_8 := K8_1.out.c8
      have m1_9 := K8_1.out.c9
      have m1_10 := K8_1.out.c10
      have m1_11 := K8_1.out.c11
      have mlt1 : B1 < w8.heap.size := K8_1.out.lt
      have mf1 : ∀ o, w8.frozen? ⟨B1, o, none⟩ = false := fun o => K8_1.out.free o
      go_wp2
      clear m2_0 m2_1 m2_2 m2_3 m2_4 m2_5 m2_6 m2_7 m2_8 m2_9 m2_10 m2_11 mlt2 m1_0 m1_1 m1_2 m1_3 m1_4 m1_5 m1_6 m1_7 m1_8 m1_9 m1_10 m1_11 mlt1 mf1
      obtain ⟨W11, hW11⟩ : ∃ WX, WX = ((((((((((((w8.setCell ⟨B1, 0, none⟩ (.bool v)).setCell ⟨B1, 1, none⟩ (.bool r)).setCell ⟨B1, 2, none⟩ (.bool x1)).setCell ⟨B1, 3, none⟩ (.bool x)).setCell ⟨B1, 4, none⟩ (.bool u)).setCell ⟨B1, 5, none⟩ (.bool g9)).setCell ⟨B1, 6, none⟩ (.bool a)).setCell ⟨B1, 7, none⟩ (.bool d)).setCell ⟨B1, 8, none⟩ (.int .i64 rsw)).setCell ⟨B1, 9, none⟩ (.int .u64 (pn : Int))).setCell ⟨B1, 10, none⟩ (.int .i64 (lv : Int))).setCell ⟨B1, 11, none⟩ (.int .u64 (pl : Int))) := ⟨_, rfl⟩
      rw [← hW11]
      have ka : Blk W11 B1 [.bool v, .bool r, .bool x1, .bool x, .bool u, .bool g9, .bool a, .bool d, .int .i64 rsw, .int .u64 (pn : Int), .int .i64 (lv : Int), .int .u64 (pl : Int)] 41 := hW11 ▸ ((((((((((((K8_1.out.set 0 (.bool v)).set 1 (.bool r)).set 2 (.bool x1)).set 3 (.bool x)).set 4 (.bool u)).set 5 (.bool g9)).set 6 (.bool a)).set 7 (.bool d)).set 8 (.int .i64 rsw)).set 9 (.int .u64 (pn : Int))).set 10 (.int .i64 (lv : Int))).set 11 (.int .u64 (pl : Int)))
      have kc : Chg (fun k => k = B1) w8 W11 := hW11 ▸ (((((((((((((Chg.refl (fun k => k = B1) w8).setc ⟨B1, 0, none⟩ (.bool v) (.inl rfl)).setc ⟨B1, 1, none⟩ (.bool r) (.inl rfl)).setc ⟨B1, 2, none⟩ (.bool x1) (.inl rfl)).setc ⟨B1, 3, none⟩ (.bool x) (.inl rfl)).setc ⟨B1, 4, none⟩ (.bool u) (.inl rfl)).setc ⟨B1, 5, none⟩ (.bool g9) (.inl rfl)).setc ⟨B1, 6, none⟩ (.bool a) (.inl rfl)).setc ⟨B1, 7, none⟩ (.bool d) (.inl rfl)).setc ⟨B1, 8, none⟩ (.int .i64 rsw) (.inl rfl)).setc ⟨B1, 9, none⟩ (.int .u64 (pn : Int)) (.inl rfl)).setc ⟨B1, 10, none⟩ (.int .i64 (lv : Int)) (.inl rfl)).setc ⟨B1, 11, none⟩ (.int .u64 (pl : Int)) (.inl rfl))
      clear hW11
      have HB11 := Lib.hid (HBF.out.chg kc (fun k hk e => HNF.out _ G1.out (by have e : k = B1 := e; rw [← e]; exact hk)))
      have HC11 := Lib.hid (HCH.out.thenExt kc (fun j hj => .inr (by have hj : j = B1 := hj; have := G1.out; omega)))
      have KA := Lib.hid ka
      clear ka kc
      have rr0 := KA.out.c0
      have rr1 := KA.out.c1
      have rr2 := KA.out.c2
      have rr3 := KA.out.c3
      have rr4 := KA.out.c4
      have rr5 := KA.out.c5
      have rr6 := KA.out.c6
      have rr7 := KA.out.c7
      have rr8 := KA.out.c8
      have rr9 := KA.out.c9
      have rr10 := KA.out.c10
      have rr11 := KA.out.c11
      refine bodyPost_ret (v := .tuple #[.agg #[.bool v, .bool r, .bool x1, .bool x, .bool u, .bool g9, .bool a, .bool d, .int .i64 rsw, .int .u64 (pn : Int), .int .i64 (lv : Int), .int .u64 (pl : Int)], .int .i64 (-1)]) (by simp [results, Tryz.results89, go_sem, rr0, rr1, rr2, rr3, rr4, rr5, rr6, rr7, rr8, rr9, rr10, rr11]) rfl ⟨rfl, HB11.out, HC11.out⟩
  · have f0 : ((er : Int) != 0) = true := by simp; omega
    obtain rfl := E2.out h61 h0
    clear h61 h0
    go_upto_region 4 with (fail)
    refine wp_region_held_drew (S := fun w' => Blk w' up [.pointer (some ⟨mp, 0, none⟩), .pointer (some ⟨bp, 0, none⟩), .bool on, .int .i64 asid, .int .u64 (root : Int), .bool us, .bool sm, .bool mx] 145 ∧ Blk w' B5 [.bool v, .bool r, .bool x1, .bool x, .bool u, .bool g9, .bool a, .bool d, .int .i64 rsw, .int .u64 (pn : Int), .int .i64 (lv : Int), .int .u64 (pl : Int)] 41) (by kernel_rfl) ⟨K5_0.out, K5_2.out⟩ (fun hHeld => ?_)
    clear hHeld
    obtain ⟨D10, hD⟩ : ∃ x, x = W5.drew := ⟨_, rfl⟩
    rw [← hD]
    have K10_0 := Lib.hid (show Blk D10 up [.pointer (some ⟨mp, 0, none⟩), .pointer (some ⟨bp, 0, none⟩), .bool on, .int .i64 asid, .int .u64 (root : Int), .bool us, .bool sm, .bool mx] 145 from hD ▸ Blk.drewN K5_0.out 1)
    have K10_1 := Lib.hid (show Blk D10 B1 [.bool false, .bool false, .bool false, .bool false, .bool false, .bool false, .bool false, .bool false, .int .i64 0, .int .u64 0, .int .i64 0, .int .u64 0] 41 from hD ▸ Blk.drewN K5_1.out 1)
    have K10_2 := Lib.hid (show Blk D10 B5 [.bool v, .bool r, .bool x1, .bool x, .bool u, .bool g9, .bool a, .bool d, .int .i64 rsw, .int .u64 (pn : Int), .int .i64 (lv : Int), .int .u64 (pl : Int)] 41 from hD ▸ Blk.drewN K5_2.out 1)
    have L10 := Lib.hid (show Below w2.heap.size w2 D10 from hD ▸ L5.out.drew)
    clear hD K5_0 K5_1 K5_2
    have hSD10 : Blk D10 up [.pointer (some ⟨mp, 0, none⟩), .pointer (some ⟨bp, 0, none⟩), .bool on, .int .i64 asid, .int .u64 (root : Int), .bool us, .bool sm, .bool mx] 145 ∧ Blk D10 B5 [.bool v, .bool r, .bool x1, .bool x, .bool u, .bool g9, .bool a, .bool d, .int .i64 rsw, .int .u64 (pn : Int), .int .i64 (lv : Int), .int .u64 (pl : Int)] 41 := ⟨K10_0.out, K10_2.out⟩
    simp only [List.size_toArray, List.length_cons, List.length_nil, Nat.reduceAdd]
    rw [show Array.replicate 13 false = [false, false, false, false, false, false, false, false, false, false, false, false, false].toArray from rfl]
    refine wpAnyH_take (i := 0) (v := ?_) rfl (by kernel_rfl) (by kernel_rfl) (by kernel_rfl) (fun _ _ _ h => h) (Or.inl ⟨by rfl, ?yldq⟩) (by assumption) ?_
    case yldq => (intro w hSw; (try dsimp only at hSw); go_simp; try with_reducible rfl)
    try simp only [Act.put, List.setIfInBounds_toArray, List.set_cons_zero, List.set_cons_succ, List.getElem_toArray, List.getElem_cons_succ, List.getElem_cons_zero]
    refine wpAnyH_take (i := 1) (v := ?_) rfl (by kernel_rfl) (by kernel_rfl) (by kernel_rfl) (fun _ _ _ h => h) (Or.inl ⟨by rfl, ?yldq⟩) (by assumption) ?_
    case yldq => (intro w hSw; (try dsimp only at hSw); go_simp; try with_reducible rfl)
    try simp only [Act.put, List.setIfInBounds_toArray, List.set_cons_zero, List.set_cons_succ, List.getElem_toArray, List.getElem_cons_succ, List.getElem_cons_zero]
    refine wpAnyH_take (i := 2) (v := ?_) rfl (by kernel_rfl) (by kernel_rfl) (by kernel_rfl) (fun _ _ _ h => h) (Or.inl ⟨by rfl, ?yldq⟩) (by assumption) ?_
    case yldq => (intro w hSw; (try dsimp only at hSw); go_simp; try with_reducible rfl)
    try simp only [Act.put, List.setIfInBounds_toArray, List.set_cons_zero, List.set_cons_succ, List.getElem_toArray, List.getElem_cons_succ, List.getElem_cons_zero]
    refine wpAnyH_take (i := 3) (v := undef) rfl (by kernel_rfl) (by kernel_rfl) (by kernel_rfl) (fun _ _ _ h => h) (Or.inr ⟨by rfl, rfl⟩) (by assumption) ?_
    try simp only [Act.put, List.setIfInBounds_toArray, List.set_cons_zero, List.set_cons_succ, List.getElem_toArray, List.getElem_cons_succ, List.getElem_cons_zero]
    refine wpAnyH_take (i := 4) (v := undef) rfl (by kernel_rfl) (by kernel_rfl) (by kernel_rfl) (fun _ _ _ h => h) (Or.inr ⟨by rfl, rfl⟩) (by assumption) ?_
    try simp only [Act.put, List.setIfInBounds_toArray, List.set_cons_zero, List.set_cons_succ, List.getElem_toArray, List.getElem_cons_succ, List.getElem_cons_zero]
    refine wpAnyH_take (i := 5) (v := undef) rfl (by kernel_rfl) (by kernel_rfl) (by kernel_rfl) (fun _ _ _ h => h) (Or.inr ⟨by rfl, rfl⟩) (by assumption) ?_
    try simp only [Act.put, List.setIfInBounds_toArray, List.set_cons_zero, List.set_cons_succ, List.getElem_toArray, List.getElem_cons_succ, List.getElem_cons_zero]
    refine wpAnyH_take (i := 6) (v := undef) rfl (by kernel_rfl) (by kernel_rfl) (by kernel_rfl) (fun _ _ _ h => h) (Or.inr ⟨by rfl, rfl⟩) (by assumption) ?_
    try simp only [Act.put, List.setIfInBounds_toArray, List.set_cons_zero, List.set_cons_succ, List.getElem_toArray, List.getElem_cons_succ, List.getElem_cons_zero]
    refine wpAnyH_take (i := 7) (v := undef) rfl (by kernel_rfl) (by kernel_rfl) (by kernel_rfl) (fun _ _ _ h => h) (Or.inr ⟨by rfl, rfl⟩) (by assumption) ?_
    try simp only [Act.put, List.setIfInBounds_toArray, List.set_cons_zero, List.set_cons_succ, List.getElem_toArray, List.getElem_cons_succ, List.getElem_cons_zero]
    refine wpAnyH_take (i := 8) (v := undef) rfl (by kernel_rfl) (by kernel_rfl) (by kernel_rfl) (fun _ _ _ h => h) (Or.inr ⟨by rfl, rfl⟩) (by assumption) ?_
    try simp only [Act.put, List.setIfInBounds_toArray, List.set_cons_zero, List.set_cons_succ, List.getElem_toArray, List.getElem_cons_succ, List.getElem_cons_zero]
    refine wpAnyH_take (i := 9) (v := undef) rfl (by kernel_rfl) (by kernel_rfl) (by kernel_rfl) (fun _ _ _ h => h) (Or.inr ⟨by rfl, rfl⟩) (by assumption) ?_
    try simp only [Act.put, List.setIfInBounds_toArray, List.set_cons_zero, List.set_cons_succ, List.getElem_toArray, List.getElem_cons_succ, List.getElem_cons_zero]
    refine wpAnyH_take (i := 10) (v := undef) rfl (by kernel_rfl) (by kernel_rfl) (by kernel_rfl) (fun _ _ _ h => h) (Or.inr ⟨by rfl, rfl⟩) (by assumption) ?_
    try simp only [Act.put, List.setIfInBounds_toArray, List.set_cons_zero, List.set_cons_succ, List.getElem_toArray, List.getElem_cons_succ, List.getElem_cons_zero]
    refine wpAnyH_take (i := 11) (v := undef) rfl (by kernel_rfl) (by kernel_rfl) (by kernel_rfl) (fun _ _ _ h => h) (Or.inr ⟨by rfl, rfl⟩) (by assumption) ?_
    try simp only [Act.put, List.setIfInBounds_toArray, List.set_cons_zero, List.set_cons_succ, List.getElem_toArray, List.getElem_cons_succ, List.getElem_cons_zero]
    refine wpAnyH_take (i := 12) (v := ?_) rfl (by kernel_rfl) (by kernel_rfl) (by kernel_rfl) (fun _ _ _ h => h) (Or.inl ⟨by rfl, ?yldq⟩) (by assumption) ?_
    case yldq => (intro w hSw; (try dsimp only at hSw); go_simp; try with_reducible rfl)
    try simp only [Act.put, List.setIfInBounds_toArray, List.set_cons_zero, List.set_cons_succ, List.getElem_toArray, List.getElem_cons_succ, List.getElem_cons_zero]
    refine wpAnyH_done (by kernel_rfl) ?_ _
    go_wp2_with fail
    refine (H3.out _).mono ?_
    rintro e w11 ⟨rfl, hb⟩
    have L11 := Lib.hid (L10.out.trans (hb.mono L10.out.size))
    have K11_0 := Lib.hid (K10_0.out.below hb K10_0.out.lt)
    have K11_1 := Lib.hid (K10_1.out.below hb K10_1.out.lt)
    have K11_2 := Lib.hid (K10_2.out.below hb K10_2.out.lt)
    clear hb K10_0 K10_1 K10_2
    have HBF := Lib.hid (HB2.out.below L11.out); have HCH := Lib.hid (HC2.out.trans (Chg.of_below (F := FpT bp q g N) L11.out))
    have m1_0 := K11_1.out.c0
    have m1_1 := K11_1.out.c1
    have m1_2 := K11_1.out.c2
    have m1_3 := K11_1.out.c3
    have m1_4 := K11_1.out.c4
    have m1_5 := K11_1.out.c5
    have m1_6 := K11_1.out.c6
    have m1_7 := K11_1.out.c7
    have m1_8 := K11_1.out.c8
    have m1_9 := K11_1.out.c9
    have m1_10 := K11_1.out.c10
    have m1_11 := K11_1.out.c11
    have mlt1 : B1 < w11.heap.size := K11_1.out.lt
    have mf1 : ∀ o, w11.frozen? ⟨B1, o, none⟩ = false := fun o => K11_1.out.free o
    go_wp2
    clear m1_0 m1_1 m1_2 m1_3 m1_4 m1_5 m1_6 m1_7 m1_8 m1_9 m1_10 m1_11 mlt1 mf1
    obtain ⟨W11, hW11⟩ : ∃ WX, WX = ((((((((((((w11.setCell ⟨B1, 0, none⟩ (.bool false)).setCell ⟨B1, 1, none⟩ (.bool false)).setCell ⟨B1, 2, none⟩ (.bool false)).setCell ⟨B1, 3, none⟩ (.bool false)).setCell ⟨B1, 4, none⟩ (.bool false)).setCell ⟨B1, 5, none⟩ (.bool false)).setCell ⟨B1, 6, none⟩ (.bool false)).setCell ⟨B1, 7, none⟩ (.bool false)).setCell ⟨B1, 8, none⟩ (.int .i64 0)).setCell ⟨B1, 9, none⟩ (.int .u64 0)).setCell ⟨B1, 10, none⟩ (.int .i64 0)).setCell ⟨B1, 11, none⟩ (.int .u64 0)) := ⟨_, rfl⟩
    rw [← hW11]
    have ka : Blk W11 B1 [.bool false, .bool false, .bool false, .bool false, .bool false, .bool false, .bool false, .bool false, .int .i64 0, .int .u64 0, .int .i64 0, .int .u64 0] 41 := hW11 ▸ ((((((((((((K11_1.out.set 0 (.bool false)).set 1 (.bool false)).set 2 (.bool false)).set 3 (.bool false)).set 4 (.bool false)).set 5 (.bool false)).set 6 (.bool false)).set 7 (.bool false)).set 8 (.int .i64 0)).set 9 (.int .u64 0)).set 10 (.int .i64 0)).set 11 (.int .u64 0))
    have kc : Chg (fun k => k = B1) w11 W11 := hW11 ▸ (((((((((((((Chg.refl (fun k => k = B1) w11).setc ⟨B1, 0, none⟩ (.bool false) (.inl rfl)).setc ⟨B1, 1, none⟩ (.bool false) (.inl rfl)).setc ⟨B1, 2, none⟩ (.bool false) (.inl rfl)).setc ⟨B1, 3, none⟩ (.bool false) (.inl rfl)).setc ⟨B1, 4, none⟩ (.bool false) (.inl rfl)).setc ⟨B1, 5, none⟩ (.bool false) (.inl rfl)).setc ⟨B1, 6, none⟩ (.bool false) (.inl rfl)).setc ⟨B1, 7, none⟩ (.bool false) (.inl rfl)).setc ⟨B1, 8, none⟩ (.int .i64 0) (.inl rfl)).setc ⟨B1, 9, none⟩ (.int .u64 0) (.inl rfl)).setc ⟨B1, 10, none⟩ (.int .i64 0) (.inl rfl)).setc ⟨B1, 11, none⟩ (.int .u64 0) (.inl rfl))
    clear hW11
    have HB11 := Lib.hid (HBF.out.chg kc (fun k hk e => HNF.out _ G1.out (by have e : k = B1 := e; rw [← e]; exact hk)))
    have HC11 := Lib.hid (HCH.out.thenExt kc (fun j hj => .inr (by have hj : j = B1 := hj; have := G1.out; omega)))
    have KA := Lib.hid ka
    clear ka kc
    have rr0 := KA.out.c0
    have rr1 := KA.out.c1
    have rr2 := KA.out.c2
    have rr3 := KA.out.c3
    have rr4 := KA.out.c4
    have rr5 := KA.out.c5
    have rr6 := KA.out.c6
    have rr7 := KA.out.c7
    have rr8 := KA.out.c8
    have rr9 := KA.out.c9
    have rr10 := KA.out.c10
    have rr11 := KA.out.c11
    refine bodyPost_ret (v := .tuple #[.agg #[.bool false, .bool false, .bool false, .bool false, .bool false, .bool false, .bool false, .bool false, .int .i64 0, .int .u64 0, .int .i64 0, .int .u64 0], .int .i64 c2]) (by simp [results, Tryz.results89, go_sem, rr0, rr1, rr2, rr3, rr4, rr5, rr6, rr7, rr8, rr9, rr10, rr11]) rfl ⟨rfl, HB11.out, HC11.out⟩
end Go.Proofs.YtgnjbjbgfhjakaaGreat

namespace Go.Proofs.YtgnjbjbgfhjakaaGreat
open Go.RowKit
set_option linter.unusedVariables false
set_option linter.unusedSimpArgs false
attribute [local go_sem] setCell_drewN alloc_drewN

theorem aligned14_no (v s : Int) (w : World) (h : ¬ SzI s) : Calls Tryz.prog 87 #[.int .u64 v, .int .i64 s] w fun e w' => e = .returned (.bool false) ∧ w = w' := by
  go_enter Tryz.func87, Tryz.ntmps87
  go_wp2_with (go_at_call 113; refine (size_no _ _ h).mono ?_; rintro e w' ⟨rfl, rfl⟩)
  go_ret
  exact ⟨rfl, rfl⟩
/-- is an access at a multiple of its size? -/
def alU (va : Nat) (sz : Int) : Bool := decide (SzI sz) && decide (va % sz.toNat = 0)
theorem aligned14_any (va : Nat) (sz : Int) (w : World) (hv : va < 18446744073709551616) : Calls Tryz.prog 87 #[.int .u64 (va : Int), .int .i64 sz] w fun e w' => e = .returned (.bool (alU va sz)) ∧ w = w' := by
  unfold alU
  by_cases h : SzI sz
  · obtain ⟨k, rfl⟩ : ∃ k : Nat, sz = k := ⟨sz.toNat, by unfold SzI at h; omega⟩
    have h1 := aligned_yes (va : Int) k w h (by omega) (by omega)
    rw [decide_eq_true h, Bool.true_and, Int.toNat_natCast]
    have e : (((va : Int) % (k : Int)) == 0) = decide (va % k = 0) := by
      rw [Bool.eq_iff_iff]; simp only [beq_iff_eq, decide_eq_true_eq]; omega
    rw [e] at h1
    exact h1
  · rw [decide_eq_false h]
    exact aligned14_no va sz w h
theorem reach_align (up va : Nat) (sz k pk : Int) (w : World) (hv : va < 18446744073709551616) (ha : alU va sz = false) : Calls Tryz.prog 64 #[.pointer (some ⟨up, 0, none⟩), .int .u64 (va : Int), .int .i64 sz, .int .i64 k, .int .i64 pk] w fun r w' => r = .returned (.tuple #[.int .u64 0, .int .u64 0, .int .i64 (cau k 0 4 6)]) ∧ w = w' := by
  have h1 := fun w => aligned14_any va sz w hv
  rw [ha] at h1
  have h2 := fun w => align_any k w
  generalize cau k 0 4 6 = c1 at *
  have H1 := Lib.hid h1; have H2 := Lib.hid h2; clear h1 h2 ha hv
  go_enter Tryz.func64, Tryz.ntmps64
  go_wp2_with fail
  refine (H1.out _).mono ?_
  rintro e wx ⟨rfl, rfl⟩
  go_wp2_with fail
  refine (H2.out _).mono ?_
  rintro e wx ⟨rfl, rfl⟩
  go_wp2
  refine bodyPost_ret (v := .tuple #[.int .u64 (0), .int .u64 (0), .int .i64 (c1)]) (by simp [results, Tryz.results64, go_sem]) rfl ⟨rfl, rfl⟩
theorem reach_can (up va : Nat) (sz k pk : Int) (w : World) (hv : va < 18446744073709551616) (ha : alU va sz = true) (hc : canN va = false) : Calls Tryz.prog 64 #[.pointer (some ⟨up, 0, none⟩), .int .u64 (va : Int), .int .i64 sz, .int .i64 k, .int .i64 pk] w fun r w' => r = .returned (.tuple #[.int .u64 0, .int .u64 0, .int .i64 (cau k 12 13 15)]) ∧ w = w' := by
  have h1 := fun w => aligned14_any va sz w hv
  rw [ha] at h1
  have h2 := fun w => can_any va w hv
  rw [hc] at h2
  have h3 := fun w => page_any k w
  generalize cau k 12 13 15 = c1 at *
  have H1 := Lib.hid h1; have H2 := Lib.hid h2; have H3 := Lib.hid h3; clear h1 h2 h3 ha hc hv
  go_enter Tryz.func64, Tryz.ntmps64
  go_wp2_with fail
  refine (H1.out _).mono ?_
  rintro e wx ⟨rfl, rfl⟩
  go_wp2_with fail
  refine (H2.out _).mono ?_
  rintro e wx ⟨rfl, rfl⟩
  go_wp2_with fail
  refine (H3.out _).mono ?_
  rintro e wx ⟨rfl, rfl⟩
  go_wp2
  refine bodyPost_ret (v := .tuple #[.int .u64 (0), .int .u64 (0), .int .i64 (c1)]) (by simp [results, Tryz.results64, go_sem]) rfl ⟨rfl, rfl⟩
/-- what an access that is at a multiple of its size, at a canonical address comes to, by what its translation is -/
def rcU (n : Nat) (C : Nat → List Int) (va : Nat) (sz k : Int) (T : Lf × Int) : Nat × Int × Int :=
  if T.2 ≠ -1 then (0, 0, T.2) else if errL n (joinN T.1.e.ppn va (2 ^ (12 + 9 * T.1.lv))) sz ≠ 0 then (0, 0, cau k 1 5 7)
  else (joinN T.1.e.ppn va (2 ^ (12 + 9 * T.1.lv)), ldV n C (joinN T.1.e.ppn va (2 ^ (12 + 9 * T.1.lv))) sz, -1)
set_option maxHeartbeats 8000000 in
theorem ureach_any (up mp bp q : Nat) (g : Nat → Nat) (N m n c : Nat) (C : Nat → List Int) (Fm : Nat → Prop) (R : Nat → Nat → Wy) (S : Stp) (M : Md) (va : Nat) (sz k pk : Int) (w : World) (F : Lf × Nat × (Nat → Nat → Wy)) (T : Lf × Int) (hF : F = fnU R N m n (Mw C) S va pk) (hT : T = trU F.1 F.2.1 k M) (h : UW w up mp bp q g N m n c C Fm R S M) (hv : va < 18446744073709551616) (hs : S.ppn < 18446744073709551616) (hp : -9223372036854775808 ≤ pk ∧ pk < 9223372036854775808) (ha : alU va sz = true) (hc : canN va = true) (hl : T.1.lv < 3) (hpp : T.1.e.ppn < 18446744073709551616) :
    Calls Tryz.prog 64 #[.pointer (some ⟨up, 0, none⟩), .int .u64 (va : Int), .int .i64 sz, .int .i64 k, .int .i64 pk] w fun r w' => r = .returned (.tuple #[.int .u64 ((rcU n C va sz k T).1 : Nat), .int .u64 (rcU n C va sz k T).2.1, .int .i64 (rcU n C va sz k T).2.2]) ∧ Buf w' bp q g N m F.2.2 ∧ Chg (FpT bp q g N) w w' := by
  have h1 := fun w => aligned14_any va sz w hv
  rw [ha] at h1
  have h2 := fun w => can_any va w hv
  rw [hc] at h2
  have h3 := fun w' (hb : Below w.heap.size w w') => translate_any up mp bp q g N m n c C Fm R S M va k pk w' (h.below hb) hv hs hp
  rw [← hF] at h3
  rw [← hT] at h3
  clear hT hF
  obtain ⟨f, er, R2⟩ := F
  obtain ⟨l, cs⟩ := T
  dsimp only at *
  have hj : joinN l.e.ppn va (2 ^ (12 + 9 * l.lv)) < 18446744073709551616 := joinN_lt _ _ _ (by omega)
  have h4 := fun w => place_any l va w hpp hv hl
  have h5 := fun (w' : World) (hm : MemX w' mp n c C Fm) => Calls.belowE (load_any mp n c (joinN l.e.ppn va (2 ^ (12 + 9 * l.lv))) sz C Fm w' hm (by omega))
  have h6 := fun w => Calls.belowE (bound_any k w)
  unfold rcU
  dsimp only
  generalize joinN l.e.ppn va (2 ^ (12 + 9 * l.lv)) = A at *
  generalize cau k 1 5 7 = c1 at *
  generalize ldV n C A sz = V at *
  generalize errL n A sz = E at *
  obtain ⟨Z, hZ⟩ : ∃ Z : Nat × Int × Int, Z = if cs ≠ -1 then (0, 0, cs) else if E ≠ 0 then (0, 0, c1) else (A, V, -1) := ⟨_, rfl⟩
  rw [← hZ]
  have z1 : cs ≠ -1 → Z = (0, 0, cs) := fun h => by rw [hZ, if_pos h]
  have z2 : cs = -1 → E ≠ 0 → Z = (0, 0, c1) := fun h h' => by rw [hZ, if_neg (by simp [h]), if_pos h']
  have z3 : cs = -1 → E = 0 → Z = (A, V, -1) := fun h h' => by rw [hZ, if_neg (by simp [h]), if_neg (by simp [h'])]
  have Z1 := Lib.hid z1; have Z2 := Lib.hid z2; have Z3 := Lib.hid z3
  clear hZ z1 z2 z3
  have hB := h.blk
  have hub := h.ub
  have hM := h.mem
  have hmn : ∀ j, FpT bp q g N j → ¬ Fm j := h.mb
  have hmo := h.mo
  have hlt : ∀ j, FpT bp q g N j → j < w.heap.size := h.buf.lt
  obtain ⟨on, asid, root⟩ := S
  obtain ⟨us, sm, mx⟩ := M
  obtain ⟨⟨v, r, x1, x, u, g9, a, d, rsw, pn⟩, lv, pl⟩ := l
  unfold lfv at *
  dsimp only at *
  have H1 := Lib.hid h1; have H2 := Lib.hid h2; have H3 := Lib.hid h3; have H4 := Lib.hid h4; have H5 := Lib.hid h5; have H6 := Lib.hid h6; have HB := Lib.hid hB; have HLT := Lib.hid hlt; have HUB := Lib.hid hub; have HM := Lib.hid hM; have HMN := Lib.hid hmn; have HMO := Lib.hid hmo
  clear h1 h2 h3 h4 h5 h6 hB hlt hub hM hmn hmo h hv hs hp ha hc hl hpp hj
  go_enter Tryz.func64, Tryz.ntmps64
  go_wp2_with fail
  refine (H1.out _).mono ?_
  rintro e wx ⟨rfl, rfl⟩
  go_wp2_with fail
  refine (H2.out _).mono ?_
  rintro e wx ⟨rfl, rfl⟩
  go_wp2_with fail
  refine (H3.out _ (Below.refl _ _)).mono ?_
  rintro e w2 ⟨rfl, hb, hc⟩
  have KU := Lib.hid (HB.out.chg hc HUB.out)
  have HB2 := Lib.hid hb; have HC2 := Lib.hid hc; have HM2 := Lib.hid (HM.out.chg hc HMO.out (fun k hk h2 => HMN.out k h2 hk))
  clear hb hc
  go_upto_region 8 with (fail)
  have nb0 := Blk.new w2 [.bool v, .bool r, .bool x1, .bool x, .bool u, .bool g9, .bool a, .bool d, .int .i64 rsw, .int .u64 (pn : Int), .int .i64 (lv : Int), .int .u64 (pl : Int)] 41
  have nls : Below w2.heap.size w2 w2 := (Below.refl w2.heap.size w2)
  have nl0 := nls.alloc nls.size (.cells #[.bool v, .bool r, .bool x1, .bool x, .bool u, .bool g9, .bool a, .bool d, .int .i64 rsw, .int .u64 (pn : Int), .int .i64 (lv : Int), .int .u64 (pl : Int)] 41)
  have nl : Below w2.heap.size w2 (w2.alloc (.cells #[.bool v, .bool r, .bool x1, .bool x, .bool u, .bool g9, .bool a, .bool d, .int .i64 rsw, .int .u64 (pn : Int), .int .i64 (lv : Int), .int .u64 (pl : Int)] 41)) := nl0; clear nls nl0
  have o0 := (KU.out.alloc (.cells #[.bool v, .bool r, .bool x1, .bool x, .bool u, .bool g9, .bool a, .bool d, .int .i64 rsw, .int .u64 (pn : Int), .int .i64 (lv : Int), .int .u64 (pl : Int)] 41))
  have d4_0 : up < w2.heap.size := KU.out.lt
  obtain ⟨B4, hB0⟩ : ∃ B, B = w2.heap.size := ⟨_, rfl⟩
  obtain ⟨W4, hW⟩ : ∃ W, W = (w2.alloc (.cells #[.bool v, .bool r, .bool x1, .bool x, .bool u, .bool g9, .bool a, .bool d, .int .i64 rsw, .int .u64 (pn : Int), .int .i64 (lv : Int), .int .u64 (pl : Int)] 41)) := ⟨_, rfl⟩
  rw [← hW] at nl nb0 o0
  rw [← hB0] at nb0
  rw [← hW]
  try rw [← hB0]
  have K4_0 := Lib.hid o0
  have K4_1 := Lib.hid nb0
  have G4 : Hid (w2.heap.size ≤ B4) := Lib.hid (by have := (Nat.le_refl w2.heap.size); omega)
  have x4_0_0 : up ≠ B4 := by omega
  have X4_0_0 := Lib.hid x4_0_0; clear x4_0_0
  have L4 := Lib.hid nl
  clear nl hW nb0 hB0 o0 d4_0 KU
  by_cases h61 : cs = -1
  · subst h61
    have m1_0 := K4_1.out.c0
    have m1_1 := K4_1.out.c1
    have m1_2 := K4_1.out.c2
    have m1_3 := K4_1.out.c3
    have m1_4 := K4_1.out.c4
    have m1_5 := K4_1.out.c5
    have m1_6 := K4_1.out.c6
    have m1_7 := K4_1.out.c7
    have m1_8 := K4_1.out.c8
    have m1_9 := K4_1.out.c9
    have m1_10 := K4_1.out.c10
    have m1_11 := K4_1.out.c11
    have mlt1 : B4 < W4.heap.size := K4_1.out.lt
    go_wp2_with fail
    clear m1_0 m1_1 m1_2 m1_3 m1_4 m1_5 m1_6 m1_7 m1_8 m1_9 m1_10 m1_11 mlt1
    refine (H4.out _).mono ?_
    rintro e w5 ⟨rfl, hb⟩
    have L5 := Lib.hid (L4.out.trans (hb.mono L4.out.size))
    have K5_0 := Lib.hid (K4_0.out.below hb K4_0.out.lt)
    have K5_1 := Lib.hid (K4_1.out.below hb K4_1.out.lt)
    clear hb K4_0 K4_1
    have m0_0 := K5_0.out.c0
    have m0_1 := K5_0.out.c1
    have m0_2 := K5_0.out.c2
    have m0_3 := K5_0.out.c3
    have m0_4 := K5_0.out.c4
    have m0_5 := K5_0.out.c5
    have m0_6 := K5_0.out.c6
    have m0_7 := K5_0.out.c7
    have mlt0 : up < w5.heap.size := K5_0.out.lt
    go_wp2_with fail
    clear m0_0 m0_1 m0_2 m0_3 m0_4 m0_5 m0_6 m0_7 mlt0
    refine (H5.out _ (HM2.out.below L5.out)).mono ?_
    rintro e w6 ⟨rfl, hb⟩
    have L6 := Lib.hid (L5.out.trans (hb.mono L5.out.size))
    have K6_0 := Lib.hid (K5_0.out.below hb K5_0.out.lt)
    have K6_1 := Lib.hid (K5_1.out.below hb K5_1.out.lt)
    clear hb K5_0 K5_1
    by_cases h0 : E = 0
    · subst h0
      obtain rfl := Z3.out (by trivial) (by trivial)
      go_wp2
      have HBF := Lib.hid (HB2.out.below L6.out); have HCH := Lib.hid (HC2.out.trans (Chg.of_below (F := FpT bp q g N) L6.out))
      refine bodyPost_ret (v := .tuple #[.int .u64 (A), .int .u64 (V), .int .i64 (-1)]) (by simp [results, Tryz.results64, go_sem]) rfl ⟨rfl, HBF.out, HCH.out⟩
    · have f0 : ((E : Int) != 0) = true := by simp; omega
      obtain rfl := Z2.out (by trivial) h0
      go_wp2_with fail
      refine (H6.out _).mono ?_
      rintro e w7 ⟨rfl, hb⟩
      have L7 := Lib.hid (L6.out.trans (hb.mono L6.out.size))
      have K7_0 := Lib.hid (K6_0.out.below hb K6_0.out.lt)
      have K7_1 := Lib.hid (K6_1.out.below hb K6_1.out.lt)
      clear hb K6_0 K6_1
      go_wp2
      have HBF := Lib.hid (HB2.out.below L7.out); have HCH := Lib.hid (HC2.out.trans (Chg.of_below (F := FpT bp q g N) L7.out))
      refine bodyPost_ret (v := .tuple #[.int .u64 (0), .int .u64 (0), .int .i64 (c1)]) (by simp [results, Tryz.results64, go_sem]) rfl ⟨rfl, HBF.out, HCH.out⟩
  · have f0 : (cs != -1) = true := by simp [h61]
    obtain rfl := Z1.out h61
    go_wp2
    have HBF := Lib.hid (HB2.out.below L4.out); have HCH := Lib.hid (HC2.out.trans (Chg.of_below (F := FpT bp q g N) L4.out))
    refine bodyPost_ret (v := .tuple #[.int .u64 (0), .int .u64 (0), .int .i64 (cs)]) (by simp [results, Tryz.results64, go_sem]) rfl ⟨rfl, HBF.out, HCH.out⟩
theorem uload_of (p : Value) (va : Nat) (sz pk old cs : Int) (at_ : Int) (w : World) (Q : World → Prop) (hR : Calls Tryz.prog 64 #[p, .int .u64 (va : Int), .int .i64 sz, .int .i64 1, .int .i64 pk] w fun r w' => r = .returned (.tuple #[.int .u64 at_, .int .u64 old, .int .i64 cs]) ∧ Q w') :
    Calls Tryz.prog 29 #[p, .int .u64 (va : Int), .int .i64 sz, .int .i64 pk] w fun r w' => r = .returned (.tuple #[.int .u64 old, .int .i64 cs]) ∧ Q w' := by
  have HR := Lib.hid hR; clear hR
  go_enter Tryz.func29, Tryz.ntmps29
  go_wp2_with fail
  refine HR.out.mono ?_
  rintro e w2 ⟨rfl, hq⟩
  have HQ := Lib.hid hq; clear hq
  go_wp2
  go_ret2
  exact ⟨rfl, HQ.out⟩
end Go.Proofs.YtgnjbjbgfhjakaaGreat

namespace Go.Proofs.YtgnjbjbgfhjakaaGreat
open Go.RowKit
set_option linter.unusedVariables false
set_option linter.unusedSimpArgs false

theorem store1_any (bx : Nat) (x v : Int) (w : World) (h : w.cell? ⟨bx, 0, none⟩ = some (.int .u64 v)) : Calls Tryz.prog 63 #[.int .u64 x, .pointer (some ⟨bx, 0, none⟩)] w fun e w' => e = .returned (.int .u64 v) ∧ w = w' := by
  go_enter Tryz.func63, Tryz.ntmps63
  go_wp2
  go_ret
  exact ⟨rfl, rfl⟩
theorem catch_idle (w : World) : CallsD Tryz.prog 112 #[] .returning w fun e u' w' => e = .returned (.tuple #[]) ∧ u' = .returning ∧ w' = w := by
  refine callsD_of_wpS Tryz.func112 rfl fun c₀ cs hu => ?_
  apply wpS_region
  simp [wpOpsS, go_sem, recoverD, hu, Tryz.ntmps112, Exit.thenS]
  cases c₀
  simp_all [bodyPostS, results, Tryz.results112]
theorem eqlIn_func {P : Program} (w : World) (d : Nat) (t : TypeId) {p q : Array TypeId} {r : Bool} (fn : Fn) (first cap : Array Value) (h : P.underlying t = some (.func p q r)) :
    (Op.equalIn (d + 1) t (.func fn first cap) .nilFunc).run P w = .ok false w := by
  simp [Op.equalIn, run_underlying h]
theorem eql_func {P : Program} (w : World) (t : TypeId) {p q : Array TypeId} {r : Bool} (fn : Fn) (first cap : Array Value) (h : P.underlying t = some (.func p q r)) :
    (binOp .eql t (.func fn first cap) .nilFunc).run P w = .ok (.bool false) w := by
  simp only [binOp]
  simp [Op.equal, Op.maxDepth, eqlIn_func w 9999 t fn first cap h]
theorem turned_any (bx : Nat) (x v : Int) (w : World) (h : w.cell? ⟨bx, 0, none⟩ = some (.int .u64 v)) : Calls Tryz.prog 86 #[.int .u64 x, .func (.func 63) #[] #[.pointer (some ⟨bx, 0, none⟩)]] w fun e w' => e = .returned (.int .u64 v) ∧ w = w' := by
  have h1 := store1_any bx x v w h
  have H1 := Lib.hid h1; clear h1 h
  go_enter_defers Tryz.func86, Tryz.ntmps86
  have hq := fun w => eql_func (P := Tryz.prog) w 124 (.func 63) #[] #[.pointer (some ⟨bx, 0, none⟩)] Tryz.underlying124
  go_upto_region 1 with (fail)
  go_wp2_with fail
  refine H1.out.mono ?_
  rintro e wx ⟨rfl, rfl⟩
  go_wp2
  refine leaves_cons (f := 112) (args := #[]) (by simp) (by simp [go_sem]) ?_
  refine (catch_idle _).mono ?_
  rintro e u' w'' ⟨rfl, rfl, rfl⟩
  simp [Leaves, settle, results, Tryz.results86, go_sem]
end Go.Proofs.YtgnjbjbgfhjakaaGreat

namespace Go.Proofs.YtgnjbjbgfhjakaaGreat
open Go.RowKit
set_option linter.unusedVariables false
set_option linter.unusedSimpArgs false
attribute [local go_sem] setCell_drewN alloc_drewN

/-- what a store leaves behind: the memory, the buffer; what else there is stays -/
def StU (w w' : World) (mp bp q : Nat) (g : Nat → Nat) (N m n c : Nat) (C' : Nat → List Int) (Fm : Nat → Prop) (R' : Nat → Nat → Wy) : Prop :=
  ∃ Fm', MemX w' mp n (c + 1) C' Fm' ∧ Ext w Fm Fm' ∧ Buf w' bp q g N m R' ∧ Chg (fun j => Fm j ∨ FpT bp q g N j) w w'
set_option maxHeartbeats 8000000 in
theorem uswap_any (up mp bp q : Nat) (g : Nat → Nat) (N m n c : Nat) (C : Nat → List Int) (Fm : Nat → Prop) (R : Nat → Nat → Wy) (S : Stp) (M : Md) (va bx : Nat) (sz pk v : Int) (w : World) (F : Nat × Int × Int) (R2 : Nat → Nat → Wy) (h : UW w up mp bp q g N m n c C Fm R S M) (hx : Blk w bx [.int .u64 v] 37) (hbu : ¬ Fm bx) (hbt : ¬ FpT bp q g N bx) (h0 : 0 ≤ v) (hv : v ≤ 18446744073709551615) (hn : c < 1000) (hat : F.1 ≤ 18446744073709551615)
    (hR : ∀ w', Below w.heap.size w w' → Calls Tryz.prog 64 #[.pointer (some ⟨up, 0, none⟩), .int .u64 (va : Int), .int .i64 sz, .int .i64 2, .int .i64 pk] w' fun r w'' => r = .returned (.tuple #[.int .u64 (F.1 : Nat), .int .u64 F.2.1, .int .i64 F.2.2]) ∧ Buf w'' bp q g N m R2 ∧ Chg (FpT bp q g N) w' w'')
    (hE : F.2.2 = -1 → errL n F.1 sz = 0) :
    Calls Tryz.prog 62 #[.pointer (some ⟨up, 0, none⟩), .int .u64 (va : Int), .int .i64 sz, .func (.func 63) #[] #[.pointer (some ⟨bx, 0, none⟩)], .int .i64 pk] w fun r w' => (∃ o, r = .returned (.tuple #[.int .u64 o, .int .i64 F.2.2])) ∧ StU w w' mp bp q g N m n c (if F.2.2 = -1 then stC n C F.1 sz v else C) Fm R2 := by
  obtain ⟨A, V, cs⟩ := F
  dsimp only at *
  have h1 := hR
  have hB := h.blk
  have hub := h.ub
  have huf := h.uf
  have hM := h.mem
  have hmb : ∀ j, FpT bp q g N j → ¬ Fm j := h.mb
  have hmo := h.mo
  have h3 := fun (w' : World) (hm : MemX w' mp n c C Fm) => store_any mp n c A sz v C Fm w' hm hat hn h0 hv
  obtain ⟨Z, hZ⟩ : ∃ Z, Z = if cs = -1 then stC n C A sz v else C := ⟨_, rfl⟩
  rw [← hZ]
  have z1 : cs = -1 → Z = stC n C A sz v := fun h => by rw [hZ, if_pos h]
  have z2 : cs ≠ -1 → Z = C := fun h => by rw [hZ, if_neg h]
  clear hZ
  obtain ⟨on, asid, root⟩ := S
  obtain ⟨us, sm, mx⟩ := M
  dsimp only at *
  have H1 := Lib.hid h1; have H3 := Lib.hid h3; have HB := Lib.hid hB; have HUB := Lib.hid hub; have HUF := Lib.hid huf; have HM := Lib.hid hM; have HMB := Lib.hid hmb; have HMO := Lib.hid hmo; have HX := Lib.hid hx; have HE := Lib.hid hE; have Z1 := Lib.hid z1; have Z2 := Lib.hid z2
  clear h1 h3 hB hub huf hM hmb hmo h hx hR hE hn h0 hv hat z1 z2
  go_enter Tryz.func62, Tryz.ntmps62
  go_wp2_with fail
  refine (H1.out _ (Below.refl _ _)).mono ?_
  rintro e w2 ⟨rfl, hb, hc⟩
  have KU := Lib.hid (HB.out.chg hc HUB.out); have KX := Lib.hid (HX.out.chg hc hbt)
  have HB2 := Lib.hid hb; have HC2 := Lib.hid hc; have HM2 := Lib.hid (HM.out.chg hc HMO.out (fun k hk h2 => HMB.out k h2 hk))
  clear hb hc H1 HB HX HM
  by_cases hcs : cs = -1
  · subst hcs
    have hT := fun (w' : World) (hw : w'.cell? ⟨bx, 0, none⟩ = some (.int .u64 v)) => turned_any bx V v w' hw
    have HT := Lib.hid hT; clear hT
    have hz := Z1.out rfl
    have HZ := Lib.hid hz; clear hz
    go_upto_region 4 with (fail)
    refine wp_region_held_drew (S := fun w' => Blk w' up [.pointer (some ⟨mp, 0, none⟩), .pointer (some ⟨bp, 0, none⟩), .bool on, .int .i64 asid, .int .u64 (root : Int), .bool us, .bool sm, .bool mx] 145 ∧ Blk w' bx [.int .u64 v] 37) (by kernel_rfl) ⟨KU.out, KX.out⟩ (fun hHeld => ?_)
    clear hHeld
    obtain ⟨D4, hD⟩ : ∃ x, x = w2.drew := ⟨_, rfl⟩
    rw [← hD]
    have K4_0 := Lib.hid (show Blk D4 up [.pointer (some ⟨mp, 0, none⟩), .pointer (some ⟨bp, 0, none⟩), .bool on, .int .i64 asid, .int .u64 (root : Int), .bool us, .bool sm, .bool mx] 145 from hD ▸ Blk.drewN KU.out 1)
    have K4_1 := Lib.hid (show Blk D4 bx [.int .u64 v] 37 from hD ▸ Blk.drewN KX.out 1)
    have L4 := Lib.hid (show Below w2.heap.size w2 D4 from hD ▸ (Below.refl w2.heap.size w2).drew)
    clear hD KU KX
    have hSD4 : Blk D4 up [.pointer (some ⟨mp, 0, none⟩), .pointer (some ⟨bp, 0, none⟩), .bool on, .int .i64 asid, .int .u64 (root : Int), .bool us, .bool sm, .bool mx] 145 ∧ Blk D4 bx [.int .u64 v] 37 := ⟨K4_0.out, K4_1.out⟩
    simp only [List.size_toArray, List.length_cons, List.length_nil, Nat.reduceAdd]
    rw [show Array.replicate 10 false = [false, false, false, false, false, false, false, false, false, false].toArray from rfl]
    refine wpAnyH_take (i := 0) (v := ?_) rfl (by kernel_rfl) (by kernel_rfl) (by kernel_rfl) (fun _ _ _ h => h) (Or.inl ⟨by rfl, ?yldq⟩) (by assumption) ?_
    case yldq => (intro w hSw; (try dsimp only at hSw); go_simp; try with_reducible rfl)
    try simp only [Act.put, List.setIfInBounds_toArray, List.set_cons_zero, List.set_cons_succ, List.getElem_toArray, List.getElem_cons_succ, List.getElem_cons_zero]
    refine wpAnyH_take (i := 1) (v := ?_) rfl (by kernel_rfl) (by kernel_rfl) (by kernel_rfl) (fun _ _ _ h => h) (Or.inl ⟨by rfl, ?yldq⟩) (by assumption) ?_
    case yldq => (intro w hSw; (try dsimp only at hSw); go_simp; try with_reducible rfl)
    try simp only [Act.put, List.setIfInBounds_toArray, List.set_cons_zero, List.set_cons_succ, List.getElem_toArray, List.getElem_cons_succ, List.getElem_cons_zero]
    refine wpAnyH_take (i := 2) (v := ?_) rfl (by kernel_rfl) (by kernel_rfl) (by kernel_rfl) (fun _ _ _ h => h) (Or.inl ⟨by rfl, ?yldq⟩) (by assumption) ?_
    case yldq => (intro w hSw; (try dsimp only at hSw); go_simp; try with_reducible rfl)
    try simp only [Act.put, List.setIfInBounds_toArray, List.set_cons_zero, List.set_cons_succ, List.getElem_toArray, List.getElem_cons_succ, List.getElem_cons_zero]
    refine wpAnyH_take (i := 3) (v := _) rfl (by kernel_rfl) (by kernel_rfl) (by kernel_rfl) (fun _ _ _ h => h) (Or.inl ⟨by rfl, fun w hSw => yield_un0 _ _ _ rfl rfl hSw.1⟩) (by assumption) ?_
    try simp only [Act.put, List.setIfInBounds_toArray, List.set_cons_zero, List.set_cons_succ, List.getElem_toArray, List.getElem_cons_succ, List.getElem_cons_zero]
    refine wpAnyH_take (i := 4) (v := ?_) rfl (by kernel_rfl) (by kernel_rfl) (by kernel_rfl) (fun _ _ _ h => h) (Or.inl ⟨by rfl, ?yldq⟩) (by assumption) ?_
    case yldq => (intro w hSw; (try dsimp only at hSw); go_simp; try with_reducible rfl)
    try simp only [Act.put, List.setIfInBounds_toArray, List.set_cons_zero, List.set_cons_succ, List.getElem_toArray, List.getElem_cons_succ, List.getElem_cons_zero]
    refine wpAnyH_take (i := 5) (v := ?_) rfl (by kernel_rfl) (by kernel_rfl) (by kernel_rfl) (fun _ _ _ h => h) (Or.inl ⟨by rfl, ?yldq⟩) (by assumption) ?_
    case yldq => (intro w hSw; (try dsimp only at hSw); go_simp; try with_reducible rfl)
    try simp only [Act.put, List.setIfInBounds_toArray, List.set_cons_zero, List.set_cons_succ, List.getElem_toArray, List.getElem_cons_succ, List.getElem_cons_zero]
    refine wpAnyH_take (i := 6) (v := ?_) rfl (by kernel_rfl) (by kernel_rfl) (by kernel_rfl) (fun _ _ _ h => h) (Or.inl ⟨by rfl, ?yldq⟩) (by assumption) ?_
    case yldq => (intro w hSw; (try dsimp only at hSw); go_simp; try with_reducible rfl)
    try simp only [Act.put, List.setIfInBounds_toArray, List.set_cons_zero, List.set_cons_succ, List.getElem_toArray, List.getElem_cons_succ, List.getElem_cons_zero]
    refine wpAnyH_take (i := 7) (v := ?_) rfl (by kernel_rfl) (by kernel_rfl) (by kernel_rfl) (fun _ _ _ h => h) (Or.inl ⟨by rfl, ?yldq⟩) (by assumption) ?_
    case yldq => (intro w hSw; (try dsimp only at hSw); go_simp; try with_reducible rfl)
    try simp only [Act.put, List.setIfInBounds_toArray, List.set_cons_zero, List.set_cons_succ, List.getElem_toArray, List.getElem_cons_succ, List.getElem_cons_zero]
    refine wpAnyH_ready (rs := [8]) (by kernel_rfl) (by simp) ?_
    refine AllReadyH.cons rfl (fun K hK => ?_) AllReadyH.nil
    go_simp
    refine (HT.out _ (K4_1.out.cell 0)).mono ?_
    rintro e wx ⟨rfl, rfl⟩
    refine hK.out _ _ ⟨K4_0.out, K4_1.out⟩ (fun hS8 => ?_)
    clear hK K
    refine wpAnyH_ready (rs := [9]) (by kernel_rfl) (by simp) ?_
    refine AllReadyH.cons rfl (fun K hK => ?_) AllReadyH.nil
    go_simp
    refine (H3.out _ (HM2.out.below L4.out)).mono ?_
    rintro e w9 ⟨rfl, Fm', hM9, hx9, hc9⟩
    have hU9 := K4_0.out.chg hc9 HUF.out
    have hX9 := K4_1.out.chg hc9 hbu
    refine hK.out _ _ ⟨hU9, hX9⟩ (fun hS9 => ?_)
    clear hK K hS8
    have HB9 := Lib.hid ((HB2.out.below L4.out).chg hc9 (fun k hk => HMB.out k hk))
    have hc29 := HC2.out.trans (Chg.of_below (F := FpT bp q g N) L4.out)
    have hz2 := hc29.size
    have HC9 := Lib.hid (show Chg (fun j => Fm j ∨ FpT bp q g N j) w w9 from (hc29.mono (fun k _ h => .inr h)).trans (hc9.mono (fun k _ h => .inl h)))
    have HX9 := Lib.hid (show Ext w Fm Fm' from fun j hj => (hx9 j hj).elim .inl (fun h => .inr (Nat.le_trans hz2 h)))
    have HM9 := Lib.hid hM9
    clear hM9 hx9 hc9 hU9 hX9 hS9 hz2 hc29
    refine wpAnyH_done (by kernel_rfl) ?_ _
    go_wp2
    go_ret2
    exact ⟨⟨_, rfl⟩, Fm', by rw [HZ.out]; exact HM9.out, HX9.out, HB9.out, HC9.out⟩
  · have f0 : (cs != -1) = true := by simp [hcs]
    have hz := Z2.out hcs
    have HZ := Lib.hid hz; clear hz
    go_wp2
    go_ret2
    exact ⟨⟨_, rfl⟩, Fm, by rw [HZ.out]; exact HM2.out.mono (Nat.le_succ _), fun k hk => .inl hk, HB2.out, HC2.out.mono (fun k _ h => .inr h)⟩
theorem StU.ahead {w w1 w' : World} {mp bp q : Nat} {g : Nat → Nat} {N m n c : Nat} {C' : Nat → List Int} {Fm : Nat → Prop} {R' : Nat → Nat → Wy} (hb : Below w.heap.size w w1) (h : StU w1 w' mp bp q g N m n c C' Fm R') : StU w w' mp bp q g N m n c C' Fm R' := by
  obtain ⟨Fm', h1, h2, h3, h4⟩ := h
  exact ⟨Fm', h1, fun j hj => (h2 j hj).elim .inl (fun h => .inr (Nat.le_trans hb.size h)), h3, (Chg.of_below hb).trans h4⟩
set_option maxHeartbeats 4000000 in
theorem ustore_any (up mp bp q : Nat) (g : Nat → Nat) (N m n c : Nat) (C : Nat → List Int) (Fm : Nat → Prop) (R : Nat → Nat → Wy) (S : Stp) (M : Md) (va : Nat) (sz pk v : Int) (w : World) (F : Nat × Int × Int) (R2 : Nat → Nat → Wy) (h : UW w up mp bp q g N m n c C Fm R S M) (h0 : 0 ≤ v) (hv : v ≤ 18446744073709551615) (hn : c < 1000) (hat : F.1 ≤ 18446744073709551615)
    (hR : ∀ w', Below w.heap.size w w' → Calls Tryz.prog 64 #[.pointer (some ⟨up, 0, none⟩), .int .u64 (va : Int), .int .i64 sz, .int .i64 2, .int .i64 pk] w' fun r w'' => r = .returned (.tuple #[.int .u64 (F.1 : Nat), .int .u64 F.2.1, .int .i64 F.2.2]) ∧ Buf w'' bp q g N m R2 ∧ Chg (FpT bp q g N) w' w'')
    (hE : F.2.2 = -1 → errL n F.1 sz = 0) :
    Calls Tryz.prog 28 #[.pointer (some ⟨up, 0, none⟩), .int .u64 (va : Int), .int .i64 sz, .int .u64 v, .int .i64 pk] w fun r w' => r = .returned (.int .i64 F.2.2) ∧ StU w w' mp bp q g N m n c (if F.2.2 = -1 then stC n C F.1 sz v else C) Fm R2 := by
  have hlm := h.mem.lt
  have hlt : ∀ j, FpT bp q g N j → j < w.heap.size := h.buf.lt
  have h1 := fun (w' : World) (bx : Nat) (hb : Below w.heap.size w w') (hx : Blk w' bx [.int .u64 v] 37) (hbx : w.heap.size ≤ bx) => uswap_any up mp bp q g N m n c C Fm R S M va bx sz pk v w' F R2 (h.below hb) hx (fun h2 => by have := hlm _ h2; omega) (fun h2 => by have := hlt _ h2; omega) h0 hv hn hat (fun w'' hb2 => hR w'' (hb.trans (hb2.mono hb.size))) hE
  have hmf : ∀ (fn : Fn) (first cap : Array Value) (w : World), (Instr.makeFunc fn first cap).run Tryz.prog w = .ok (.func fn first cap) w := fun _ _ _ _ => rfl
  generalize (if F.2.2 = -1 then stC n C F.1 sz v else C) = Z at *
  obtain ⟨A, V, cs⟩ := F
  dsimp only at *
  have H1 := Lib.hid h1
  clear h1 hR hE h hlm hlt h0 hv hn hat
  go_enter Tryz.func28, Tryz.ntmps28
  go_wp2_with fail
  have nb0 := Blk.new w [.int .u64 v] 37
  have nls : Below w.heap.size w w := (Below.refl w.heap.size w)
  have nl0 := nls.alloc nls.size (.cells #[.int .u64 v] 37)
  have nl : Below w.heap.size w (w.alloc (.cells #[.int .u64 v] 37)) := nl0; clear nls nl0
  obtain ⟨B1, hB0⟩ : ∃ B, B = w.heap.size := ⟨_, rfl⟩
  obtain ⟨W1, hW⟩ : ∃ W, W = (w.alloc (.cells #[.int .u64 v] 37)) := ⟨_, rfl⟩
  rw [← hW] at nl nb0
  rw [← hB0] at nb0
  rw [← hW]
  try rw [← hB0]
  have K1_0 := Lib.hid nb0
  have G1 : Hid (w.heap.size ≤ B1) := Lib.hid (by have := (Nat.le_refl w.heap.size); omega)
  have L1 := Lib.hid nl
  clear nl hW nb0 hB0
  refine (H1.out _ B1 L1.out K1_0.out G1.out).mono ?_
  rintro e w9 ⟨⟨o, rfl⟩, hst⟩
  have HST := Lib.hid (StU.ahead L1.out hst)
  clear hst
  go_wp2
  go_ret
  exact ⟨rfl, HST.out⟩
theorem ufence_any (up mp bp q : Nat) (g : Nat → Nat) (N m n c : Nat) (C : Nat → List Int) (Fm : Nat → Prop) (R : Nat → Nat → Wy) (S : Stp) (M : Md) (va : Option Nat) (a : Option Int) (v1 v2 : Value) (w : World) (h : UW w up mp bp q g N m n c C Fm R S M) (hv : ∀ k, va = some k → k < 18446744073709551616)
    (hl1 : LsX w .u64 (FpT bp q g N) v1 (va.map (fun k => (k : Int)))) (hl2 : LsX w .i64 (FpT bp q g N) v2 a) :
    Calls Tryz.prog 45 #[.pointer (some ⟨up, 0, none⟩), v1, v2] w fun r w' => (∃ k, r = .returned (.int .i64 k)) ∧ Buf w' bp q g N m (fenT R va a) ∧ Chg (FpT bp q g N) w w' := by
  have h1 := fence_any bp q g N m R va a v1 v2 w h.buf hv hl1 hl2
  have c1 : w.cell? ⟨up, 1, none⟩ = some (.pointer (some ⟨bp, 0, none⟩)) := h.blk.cell 1
  generalize cnt2 (fun i j => goes (R i j) va a) m N = K at *
  generalize fenT R va a = R2 at *
  have H1 := Lib.hid h1; clear h1 h hl1 hl2 hv
  go_enter Tryz.func45, Tryz.ntmps45
  go_wp2_with fail
  refine H1.out.mono ?_
  rintro e w2 ⟨rfl, hb, hc⟩
  have HB := Lib.hid hb; have HC := Lib.hid hc; clear hb hc
  go_wp2
  go_ret
  exact ⟨⟨_, rfl⟩, HB.out, HC.out⟩
theorem unew_any (mp bp : Nat) (w : World) : Calls Tryz.prog 36 #[.pointer (some ⟨mp, 0, none⟩), .pointer (some ⟨bp, 0, none⟩)] w fun r w' => ∃ up, r = .returned (.pointer (some ⟨up, 0, none⟩)) ∧ w.heap.size ≤ up ∧ Blk w' up [.pointer (some ⟨mp, 0, none⟩), .pointer (some ⟨bp, 0, none⟩), .bool false, .int .i64 0, .int .u64 0, .bool false, .bool false, .bool false] 145 ∧ Below w.heap.size w w' := by
  have hb := Blk.new w [.pointer (some ⟨mp, 0, none⟩), .pointer (some ⟨bp, 0, none⟩), .bool false, .int .i64 0, .int .u64 0, .bool false, .bool false, .bool false] 145
  have hl := (Below.refl w.heap.size w).alloc (Nat.le_refl _) (.cells #[.pointer (some ⟨mp, 0, none⟩), .pointer (some ⟨bp, 0, none⟩), .bool false, .int .i64 0, .int .u64 0, .bool false, .bool false, .bool false] 145)
  have HB := Lib.hid hb; have HL := Lib.hid hl; clear hb hl
  go_enter Tryz.func36, Tryz.ntmps36
  go_wp2
  go_ret
  exact ⟨_, rfl, Nat.le_refl _, HB.out, HL.out⟩
theorem usetsatp_any (up mp bp x : Nat) (on us sm mx : Bool) (asid : Int) (root : Nat) (w : World) (hB : Blk w up [.pointer (some ⟨mp, 0, none⟩), .pointer (some ⟨bp, 0, none⟩), .bool on, .int .i64 asid, .int .u64 (root : Int), .bool us, .bool sm, .bool mx] 145) (hx : x < 18446744073709551616) (hm : modeW x = 0 ∨ modeW x = 8) :
    Calls Tryz.prog 67 #[.pointer (some ⟨up, 0, none⟩), .int .u64 (x : Int)] w fun r w' => r = .returned (.bool true) ∧ Blk w' up [.pointer (some ⟨mp, 0, none⟩), .pointer (some ⟨bp, 0, none⟩), .bool (stpW x).on, .int .i64 (stpW x).asid, .int .u64 ((stpW x).ppn : Int), .bool us, .bool sm, .bool mx] 145 ∧ Chg (fun k => k = up) w w' := by
  have h1 := fun w => getS_any x w hx
  rw [if_pos hm] at h1
  generalize stpW x = Y at *
  obtain ⟨on2, as2, rt2⟩ := Y
  unfold sv at *
  dsimp only at *
  have H1 := Lib.hid h1; have HB := Lib.hid hB; clear h1 hB hx hm
  go_enter Tryz.func67, Tryz.ntmps67
  go_wp2_with fail
  refine (H1.out _).mono ?_
  rintro e w1 ⟨rfl, hb⟩
  have L1 := Lib.hid ((Below.refl w.heap.size w).trans (hb.mono (Nat.le_refl w.heap.size)))
  have K1_0 := Lib.hid (HB.out.below hb HB.out.lt)
  clear hb HB
  go_upto_region 4 with (fail)
  have nb0 := Blk.new w1 [.bool on2, .int .i64 as2, .int .u64 (rt2 : Int)] 141
  have nls : Below w.heap.size w w1 := L1.out
  have nl0 := nls.alloc nls.size (.cells #[.bool on2, .int .i64 as2, .int .u64 (rt2 : Int)] 141)
  have nl : Below w.heap.size w (w1.alloc (.cells #[.bool on2, .int .i64 as2, .int .u64 (rt2 : Int)] 141)) := nl0; clear nls nl0
  have o0 := (K1_0.out.alloc (.cells #[.bool on2, .int .i64 as2, .int .u64 (rt2 : Int)] 141))
  have d2_0 : up < w1.heap.size := K1_0.out.lt
  obtain ⟨B2, hB0⟩ : ∃ B, B = w1.heap.size := ⟨_, rfl⟩
  obtain ⟨W2, hW⟩ : ∃ W, W = (w1.alloc (.cells #[.bool on2, .int .i64 as2, .int .u64 (rt2 : Int)] 141)) := ⟨_, rfl⟩
  rw [← hW] at nl nb0 o0
  rw [← hB0] at nb0
  rw [← hW]
  try rw [← hB0]
  have K2_0 := Lib.hid o0
  have K2_1 := Lib.hid nb0
  have G2 : Hid (w.heap.size ≤ B2) := Lib.hid (by have := L1.out.size; omega)
  have x2_0_0 : up ≠ B2 := by omega
  have X2_0_0 := Lib.hid x2_0_0; clear x2_0_0
  have L2 := Lib.hid nl
  clear nl hW nb0 hB0 o0 d2_0 K1_0
  have m0_0 := K2_0.out.c0
  have m0_1 := K2_0.out.c1
  have m0_2 := K2_0.out.c2
  have m0_3 := K2_0.out.c3
  have m0_4 := K2_0.out.c4
  have m0_5 := K2_0.out.c5
  have m0_6 := K2_0.out.c6
  have m0_7 := K2_0.out.c7
  have mlt0 : up < W2.heap.size := K2_0.out.lt
  have m1_0 := K2_1.out.c0
  have m1_1 := K2_1.out.c1
  have m1_2 := K2_1.out.c2
  have mlt1 : B2 < W2.heap.size := K2_1.out.lt
  have mf0 : ∀ o, W2.frozen? ⟨up, o, none⟩ = false := fun o => K2_0.out.free o
  go_upto_region 6 with (fail)
  clear m0_0 m0_1 m0_2 m0_3 m0_4 m0_5 m0_6 m0_7 mlt0 m1_0 m1_1 m1_2 mlt1 mf0
  obtain ⟨WW, hWW⟩ : ∃ WX, WX = (((W2.setCell ⟨up, 2, none⟩ (.bool on2)).setCell ⟨up, 3, none⟩ (.int .i64 as2)).setCell ⟨up, 4, none⟩ (.int .u64 (rt2 : Int))) := ⟨_, rfl⟩
  rw [← hWW]
  have KW := Lib.hid (show Blk WW up [.pointer (some ⟨mp, 0, none⟩), .pointer (some ⟨bp, 0, none⟩), .bool on2, .int .i64 as2, .int .u64 (rt2 : Int), .bool us, .bool sm, .bool mx] 145 from hWW ▸ (((K2_0.out.set 2 (.bool on2)).set 3 (.int .i64 as2)).set 4 (.int .u64 (rt2 : Int))))
  have CW := Lib.hid (show Chg (fun k => k = up) w WW from (Chg.of_below (F := fun k => k = up) L2.out).trans (hWW ▸ ((((Chg.refl (fun k => k = up) W2).setc ⟨up, 2, none⟩ (.bool on2) (.inl rfl)).setc ⟨up, 3, none⟩ (.int .i64 as2) (.inl rfl)).setc ⟨up, 4, none⟩ (.int .u64 (rt2 : Int)) (.inl rfl))))
  clear hWW
  go_wp2
  go_ret
  exact ⟨rfl, KW.out, CW.out⟩
theorem usetmode_any (up mp bp : Nat) (on us sm mx : Bool) (asid : Int) (root : Nat) (M : Md) (w : World) (hB : Blk w up [.pointer (some ⟨mp, 0, none⟩), .pointer (some ⟨bp, 0, none⟩), .bool on, .int .i64 asid, .int .u64 (root : Int), .bool us, .bool sm, .bool mx] 145) :
    Calls Tryz.prog 70 #[.pointer (some ⟨up, 0, none⟩), mv M] w fun r w' => r = .returned (.tuple #[]) ∧ Blk w' up [.pointer (some ⟨mp, 0, none⟩), .pointer (some ⟨bp, 0, none⟩), .bool on, .int .i64 asid, .int .u64 (root : Int), .bool M.user, .bool M.sum, .bool M.mxr] 145 ∧ Chg (fun k => k = up) w w' := by
  obtain ⟨m1, m2, m3⟩ := M
  unfold mv
  dsimp only
  have HB := Lib.hid hB; clear hB
  go_enter Tryz.func70, Tryz.ntmps70
  go_upto_region 1 with (fail)
  have nb0 := Blk.new w [.bool m1, .bool m2, .bool m3] 143
  have nls : Below w.heap.size w w := (Below.refl w.heap.size w)
  have nl0 := nls.alloc nls.size (.cells #[.bool m1, .bool m2, .bool m3] 143)
  have nl : Below w.heap.size w (w.alloc (.cells #[.bool m1, .bool m2, .bool m3] 143)) := nl0; clear nls nl0
  have o0 : Blk (w.alloc (.cells #[.bool m1, .bool m2, .bool m3] 143)) up [.pointer (some ⟨mp, 0, none⟩), .pointer (some ⟨bp, 0, none⟩), .bool on, .int .i64 asid, .int .u64 (root : Int), .bool us, .bool sm, .bool mx] 145 := (HB.out.alloc (.cells #[.bool m1, .bool m2, .bool m3] 143))
  have d1_0 : up < w.heap.size := HB.out.lt
  obtain ⟨B1, hB0⟩ : ∃ B, B = w.heap.size := ⟨_, rfl⟩
  obtain ⟨W1, hW⟩ : ∃ W, W = (w.alloc (.cells #[.bool m1, .bool m2, .bool m3] 143)) := ⟨_, rfl⟩
  rw [← hW] at nl nb0 o0
  rw [← hB0] at nb0
  rw [← hW]
  try rw [← hB0]
  have K1_0 := Lib.hid o0
  have K1_1 := Lib.hid nb0
  have G1 : Hid (w.heap.size ≤ B1) := Lib.hid (by have := (Nat.le_refl w.heap.size); omega)
  have x1_0_0 : up ≠ B1 := by omega
  have X1_0_0 := Lib.hid x1_0_0; clear x1_0_0
  have L1 := Lib.hid nl
  clear nl hW nb0 hB0 o0 d1_0 HB
  have m0_0 := K1_0.out.c0
  have m0_1 := K1_0.out.c1
  have m0_2 := K1_0.out.c2
  have m0_3 := K1_0.out.c3
  have m0_4 := K1_0.out.c4
  have m0_5 := K1_0.out.c5
  have m0_6 := K1_0.out.c6
  have m0_7 := K1_0.out.c7
  have mlt0 : up < W1.heap.size := K1_0.out.lt
  have m1_0 := K1_1.out.c0
  have m1_1 := K1_1.out.c1
  have m1_2 := K1_1.out.c2
  have mlt1 : B1 < W1.heap.size := K1_1.out.lt
  have mf0 : ∀ o, W1.frozen? ⟨up, o, none⟩ = false := fun o => K1_0.out.free o
  go_wp2
  clear m0_0 m0_1 m0_2 m0_3 m0_4 m0_5 m0_6 m0_7 mlt0 m1_0 m1_1 m1_2 mlt1 mf0
  obtain ⟨WW, hWW⟩ : ∃ WX, WX = (((W1.setCell ⟨up, 5, none⟩ (.bool m1)).setCell ⟨up, 6, none⟩ (.bool m2)).setCell ⟨up, 7, none⟩ (.bool m3)) := ⟨_, rfl⟩
  rw [← hWW]
  have KW := Lib.hid (show Blk WW up [.pointer (some ⟨mp, 0, none⟩), .pointer (some ⟨bp, 0, none⟩), .bool on, .int .i64 asid, .int .u64 (root : Int), .bool m1, .bool m2, .bool m3] 145 from hWW ▸ (((K1_0.out.set 5 (.bool m1)).set 6 (.bool m2)).set 7 (.bool m3)))
  have CW := Lib.hid (show Chg (fun k => k = up) w WW from (Chg.of_below (F := fun k => k = up) L1.out).trans (hWW ▸ ((((Chg.refl (fun k => k = up) W1).setc ⟨up, 5, none⟩ (.bool m1) (.inl rfl)).setc ⟨up, 6, none⟩ (.bool m2) (.inl rfl)).setc ⟨up, 7, none⟩ (.bool m3) (.inl rfl))))
  clear hWW
  go_end0
  exact ⟨rfl, KW.out, CW.out⟩
end Go.Proofs.YtgnjbjbgfhjakaaGreat

namespace Go.Proofs.YtgnjbjbgfhjakaaGreat
open Go.RowKit
set_option linter.unusedVariables false
set_option linter.unusedSimpArgs false

/-- all pages are of the lowest level -/
def Lv0 (L : List Pg) : Prop := ∀ m ∈ L, m.lv = 0
/-- every entry of the buffer is a page that is mapped, of the space 1 -/
def Coh (R : Nat → Nat → Wy) (N m : Nat) (L : List Pg) : Prop :=
  ∀ i j, i < N → j < m → (R i j).full = true → ∃ p ∈ L, (R i j).l.e = p.e ∧ (R i j).l.lv = 0 ∧ (R i j).asid = 1 ∧ (R i j).page = numN p.va 0
theorem coh_zero (N m : Nat) (L : List Pg) : Coh (fun _ _ => zw) N m L := fun i j _ _ h => by cases h
theorem numN_zero (va : Nat) : numN va 0 = va / 4096 % 134217728 := by
  unfold numN fld
  rw [Nat.mul_zero, Nat.pow_zero, Nat.div_one]
theorem bas_zero (va : Nat) : bas va 0 = va / 4096 * 4096 := rfl
theorem num_bas {a b : Nat} (ha : canN a = true) (hb : canN b = true) (h : numN a 0 = numN b 0) : bas a 0 = bas b 0 := by
  rw [numN_zero, numN_zero] at h
  rw [bas_zero, bas_zero]
  have h1 := can_of ha
  have h2 := can_of hb
  omega
theorem num_of_bas {a b : Nat} (h : bas a 0 = bas b 0) : numN a 0 = numN b 0 := by
  rw [bas_zero, bas_zero] at h
  rw [numN_zero, numN_zero]
  omega
section
variable {root n : Nat} {M : Nat → Nat} {S : Tt}
theorem pg_lv0 (h0 : Lv0 S.L) {va l : Nat} (hl : l ≠ 0) : pg S.L va l = none := by
  cases hp : pg S.L va l with
  | none => rfl
  | some m =>
    obtain ⟨hm, h1, _⟩ := pg_mem hp
    exact absurd (h1.symm.trans (h0 m hm)) hl
theorem hold_lv0 (h0 : Lv0 S.L) {va : Nat} (hc : canN va = true) : holdP S.L va = pg S.L va 0 := by
  unfold holdP
  rw [if_pos hc, pg_lv0 h0 (l := 1) (by omega), pg_lv0 h0 (l := 2) (by omega)]
  cases pg S.L va 0 <;> rfl
theorem page_of (h : RT root n M S) (h0 : Lv0 S.L) {va : Nat} {p : Pg} (hc : canN va = true) (hp : p ∈ S.L) (hn : numN va 0 = numN p.va 0) : pg S.L va 0 = some p := by
  obtain ⟨v1, c1, b1, _, _⟩ := h.pagesOk p hp
  rw [h0 p hp] at b1
  refine pg_self h hp (h0 p hp) ?_
  rw [← b1]
  exact num_bas c1 hc hn.symm
theorem fndT_coh (h : RT root n M S) (h0 : Lv0 S.L) {R : Nat → Nat → Wy} {N m : Nat} (hn : 0 < N) (hC : Coh R N m S.L) {va : Nat} (hc : canN va = true) : ∀ k l, (fndT R N m va 1 k l).2 = true → ∃ p, pg S.L va 0 = some p ∧ (fndT R N m va 1 k l).1.e = p.e ∧ (fndT R N m va 1 k l).1.lv = 0
  | 0, l => fun h => by cases h
  | k + 1, l => by
    unfold fndT
    split
    · rename_i hf
      intro _
      dsimp only
      have hs : numN va l % N < N := Nat.mod_lt _ hn
      have hm : matW (R (numN va l % N) (fst1 (fun j => matW (R (numN va l % N) j) va 1) m)) va 1 = true := by
        cases hq : matW (R (numN va l % N) (fst1 (fun j => matW (R (numN va l % N) j) va 1) m)) va 1 with
        | true => rfl
        | false =>
          exfalso
          generalize hF : fst1 (fun j => matW (R (numN va l % N) j) va 1) m = i at *
          unfold fst1 at hF
          split at hF
          · rename_i j hj
            subst hF
            have := List.find?_some hj
            rw [hq] at this
            cases this
          · omega
      generalize fst1 (fun j => matW (R (numN va l % N) j) va 1) m = i at hf hm ⊢
      unfold matW at hm
      simp only [Bool.and_eq_true] at hm
      obtain ⟨hfull, hcov, _⟩ := hm
      obtain ⟨p, hp, e1, e2, e3, e4⟩ := hC _ _ hs hf hfull
      unfold covW at hcov
      rw [e2, e4] at hcov
      have hnum : numN va 0 = numN p.va 0 := (beq_iff_eq.1 hcov).symm
      exact ⟨p, page_of h h0 hc hp hnum, e1, e2⟩
    · exact fndT_coh h h0 hn hC hc k (l + 1)
theorem coh_upd {R : Nat → Nat → Wy} {N m : Nat} {L : List Pg} (hC : Coh R N m L) {s k : Nat} {y : Wy} (hy : ∃ p ∈ L, y.l.e = p.e ∧ y.l.lv = 0 ∧ y.asid = 1 ∧ y.page = numN p.va 0) : Coh (updB R s k y) N m L := fun i j hi hj hf => by
  unfold updB updW at hf ⊢
  by_cases e : i = s
  · subst e
    rw [if_pos rfl] at hf ⊢
    by_cases e2 : j = k
    · rw [if_pos e2] at hf ⊢; exact hy
    · rw [if_neg e2] at hf ⊢; exact hC i j hi hj hf
  · rw [if_neg e] at hf ⊢; exact hC i j hi hj hf
/-- what a unit finds is what the tables have -/
theorem fnU_coh (h : RT root n M S) (h0 : Lv0 S.L) {R : Nat → Nat → Wy} {N m : Nat} (hn : 0 < N) (hC : Coh R N m S.L) {va : Nat} (hc : canN va = true) (pk : Int) :
    (∃ p, pg S.L va 0 = some p ∧ (fnU R N m n M ⟨true, 1, root⟩ va pk).1.e = p.e ∧ (fnU R N m n M ⟨true, 1, root⟩ va pk).1.lv = 0 ∧ (fnU R N m n M ⟨true, 1, root⟩ va pk).2.1 = 0 ∧ Coh (fnU R N m n M ⟨true, 1, root⟩ va pk).2.2 N m S.L) ∨
    (pg S.L va 0 = none ∧ (fnU R N m n M ⟨true, 1, root⟩ va pk).1 = zl ∧ (fnU R N m n M ⟨true, 1, root⟩ va pk).2.1 = 51 ∧ (fnU R N m n M ⟨true, 1, root⟩ va pk).2.2 = R) := by
  unfold fnU
  dsimp only
  cases hf : (fndT R N m va 1 3 0).2 with
  | true =>
    rw [if_pos rfl]
    obtain ⟨p, hp, e1, e2⟩ := fndT_coh h h0 hn hC hc 3 0 hf
    exact .inl ⟨p, hp, e1, e2, rfl, hC⟩
  | false =>
    rw [if_neg (by decide)]
    have hw : findW n M ⟨true, 1, root⟩ va = fnd n M va 3 root := by unfold findW; dsimp only; rw [hc]; rfl
    rw [hw]
    rcases fnd_hold h hc with ⟨p, l, f, hh, hlv, hl, hp, hfr, he⟩ | ⟨hh, he⟩
    · have hl0 : l = 0 := by
        rcases Nat.eq_zero_or_pos l with e | e
        · exact e
        · rw [pg_lv0 h0 (by omega)] at hp; cases hp
      subst hl0
      rw [he, if_pos rfl]
      refine .inl ⟨p, hp, rfl, rfl, rfl, ?_⟩
      obtain ⟨hpm, _, hva⟩ := pg_mem hp
      refine coh_upd hC ⟨p, hpm, rfl, rfl, rfl, ?_⟩
      show numN va 0 = numN p.va 0
      rw [hva]
      exact num_of_bas (bas_bas (Nat.le_refl 0)).symm
    · rw [he, if_neg (by decide)]
      exact .inr ⟨by rw [← hold_lv0 h0 hc]; exact hh, rfl, rfl, rfl⟩
/-- a fence of a page's address: what is changed of that page alone leaves the rest right -/
theorem fen_coh {R : Nat → Nat → Wy} {N m : Nat} {L L' : List Pg} (hC : Coh R N m L) (A : Nat) (hL : ∀ p ∈ L, numN p.va 0 ≠ numN A 0 → p ∈ L') : Coh (fenT R (some A) none) N m L' := fun i j hi hj hf => by
  unfold fenT at hf ⊢
  split at hf
  · cases hf
  · rename_i hg
    rw [if_neg hg]
    obtain ⟨p, hp, e1, e2, e3, e4⟩ := hC i j hi hj hf
    refine ⟨p, hL p hp (fun e => hg ?_), e1, e2, e3, e4⟩
    unfold goes fenW covW
    rw [hf, e2, e4, e]
    simp
end
/-- the user's mode -/
def usr : Md := ⟨true, false, false⟩
/-- what a translation comes to, by the page that is mapped -/
theorem trU_yes {f : Lf} {p : Pg} {k : Int} (h1 : f.e = p.e) (hk : chk p.e k usr = true) : trU f 0 k usr = (f, -1) := by
  unfold trU
  rw [h1, hk]
  rfl
theorem trU_no {f : Lf} {p : Pg} {k : Int} (h1 : f.e = p.e) (hk : chk p.e k usr = false) : trU f 0 k usr = (zl, cau k 12 13 15) := by
  unfold trU
  rw [h1, hk]
  rfl
theorem trU_none {k : Int} : trU zl 51 k usr = (zl, cau k 12 13 15) := by unfold trU; rfl
theorem join_at (p va : Nat) (hp : p < 1048576) : joinN p va (2 ^ (12 + 9 * 0)) = p * 4096 + va % 4096 := by
  unfold joinN
  rw [show 2 ^ (12 + 9 * 0) = 4096 from rfl]
  omega
end Go.Proofs.YtgnjbjbgfhjakaaGreat
