/-
  A unit over a memory and a buffer, and what its finding answers: contracts over the translation. Each says its own conditions.
-/
import Derived.Test.YtgnjbjbgfhjakaaGreatTlbL11
import Derived.Test.YtgnjbjbgfhjakaaGreatTlbF11
import Derived.Test.YtgnjbjbgfhjakaaGreatFindP10
import Derived.Test.YtgnjbjbgfhjakaaGreatCheck09
import Derived.Test.YtgnjbjbgfhjakaaGreatTabM13
import Derived.Deep.Cut
namespace Go.Proofs.YtgnjbjbgfhjakaaGreat
open Go.RowKit
set_option linter.unusedVariables false
set_option linter.unusedSimpArgs false
attribute [local go_sem] setCell_drewN alloc_drewN

/-- a unit at up over a memory at mp and a buffer at bp -/
structure UW (w : World) (up mp bp q : Nat) (g : Nat → Nat) (N m n c : Nat) (C : Nat → List Int) (Fm : Nat → Prop) (R : Nat → Nat → Wy) (S : Stp) (M : Md) : Prop where
  blk : Blk w up [.pointer (some ⟨mp, 0, none⟩), .pointer (some ⟨bp, 0, none⟩), .bool S.on, .int .i64 S.asid, .int .u64 (S.ppn : Int), .bool M.user, .bool M.sum, .bool M.mxr] 145
  mem : MemX w mp n c C Fm
  buf : Buf w bp q g N m R
  uf : ¬ Fm up
  ub : ¬ FpT bp q g N up
  mb : ∀ j, FpT bp q g N j → ¬ Fm j
  mo : ¬ FpT bp q g N mp
  um : up ≠ mp
section
variable {w w' : World} {up mp bp q : Nat} {g : Nat → Nat} {N m n c : Nat} {C : Nat → List Int} {Fm : Nat → Prop} {R : Nat → Nat → Wy} {S : Stp} {M : Md}
/-- its blocks -/
def FpU (up mp bp q : Nat) (g : Nat → Nat) (N : Nat) (Fm : Nat → Prop) : Nat → Prop := fun j => j = up ∨ j = mp ∨ Fm j ∨ FpT bp q g N j
theorem UW.chg {G : Nat → Prop} (h : UW w up mp bp q g N m n c C Fm R S M) (hc : Chg G w w') (hf : ∀ j, FpU up mp bp q g N Fm j → ¬ G j) : UW w' up mp bp q g N m n c C Fm R S M :=
  ⟨h.blk.chg hc (hf _ (.inl rfl)), h.mem.chg hc (hf _ (.inr (.inl rfl))) (fun k hk => hf k (.inr (.inr (.inl hk)))), h.buf.chg hc (fun k hk => hf k (.inr (.inr (.inr hk)))), h.uf, h.ub, h.mb, h.mo, h.um⟩
theorem UW.below (h : UW w up mp bp q g N m n c C Fm R S M) (hb : Below w.heap.size w w') : UW w' up mp bp q g N m n c C Fm R S M := h.chg (Chg.of_below (F := no) hb) (fun _ _ h => h)
/-- the buffer has changed -/
theorem UW.filled {R' : Nat → Nat → Wy} (h : UW w up mp bp q g N m n c C Fm R S M) (hb : Buf w' bp q g N m R') (hc : Chg (FpT bp q g N) w w') : UW w' up mp bp q g N m n c C Fm R' S M :=
  ⟨h.blk.chg hc h.ub, h.mem.chg hc h.mo (fun k hk h2 => h.mb k h2 hk), hb, h.uf, h.ub, h.mb, h.mo, h.um⟩
end
theorem fnd_lv {fr : Nat} {M : Nat → Nat} {va : Nat} : ∀ l t, l ≤ 3 → (fnd fr M va l t).1.lv < 3
  | 0, t, _ => by unfold fnd; exact Nat.zero_lt_succ _
  | l + 1, t, h => by
    rw [fnd_eq]
    split
    · exact Nat.zero_lt_succ _
    split
    · exact fnd_lv l _ (by omega)
    split
    · have := ent_lv (fr := fr) (M := M) (va := va) (l := l) (t := t); dsimp only; omega
    · exact Nat.zero_lt_succ _
theorem findW_lv (fr : Nat) (M : Nat → Nat) (S : Stp) (va : Nat) : (findW fr M S va).1.lv < 3 := by
  unfold findW
  split
  · split
    · exact fnd_lv 3 _ (Nat.le_refl _)
    · exact Nat.zero_lt_succ _
  · exact Nat.zero_lt_succ _
/-- what a unit finds: the leaf, the error, the buffer behind it -/
def fnU (R : Nat → Nat → Wy) (N m n : Nat) (M : Nat → Nat) (S : Stp) (va : Nat) (pk : Int) : Lf × Nat × (Nat → Nat → Wy) :=
  if (fndT R N m va S.asid 3 0).2 then ((fndT R N m va S.asid 3 0).1, 0, R) else if (findW n M S va).2 = 0 then ((findW n M S va).1, 0, filT R N m va S.asid (findW n M S va).1 pk) else (zl, (findW n M S va).2, R)
theorem load_un0 {w : World} {b : Nat} {c0 c1 c2 c3 c4 c5 c6 c7 : Value} (h : Blk w b [c0, c1, c2, c3, c4, c5, c6, c7] 145) : (Instr.loadAt 82 (.pointer (some ⟨b, 0, none⟩))).run Tryz.prog w = .ok (c0) w := by
  have h0 : w.cell? ⟨b, 0, none⟩ = some c0 := h.cell 0
  have h1 : w.cell? ⟨b, 1, none⟩ = some c1 := h.cell 1
  have h2 : w.cell? ⟨b, 2, none⟩ = some c2 := h.cell 2
  have h3 : w.cell? ⟨b, 3, none⟩ = some c3 := h.cell 3
  have h4 : w.cell? ⟨b, 4, none⟩ = some c4 := h.cell 4
  have h5 : w.cell? ⟨b, 5, none⟩ = some c5 := h.cell 5
  have h6 : w.cell? ⟨b, 6, none⟩ = some c6 := h.cell 6
  have h7 : w.cell? ⟨b, 7, none⟩ = some c7 := h.cell 7
  clear h
  go_simp
theorem yield_un0 {w : World} {b : Nat} {c0 c1 c2 c3 c4 c5 c6 c7 : Value} (a : Act) (o : Oper) (x : Operand) (ho : o.op = .load 82 x) (hx : a.eval x = .pointer (some ⟨b, 0, none⟩)) (h : Blk w b [c0, c1, c2, c3, c4, c5, c6, c7] 145) :
    (execOp a.eval o).run Tryz.prog w = .ok (.value (c0)) w := by
  have e := load_un0 h
  obtain ⟨op, _, _, _, _, _⟩ := o
  dsimp only at ho
  subst ho
  unfold execOp
  simp only [hx]
  simp [e]
theorem load_un1 {w : World} {b : Nat} {c0 c1 c2 c3 c4 c5 c6 c7 : Value} (h : Blk w b [c0, c1, c2, c3, c4, c5, c6, c7] 145) : (Instr.loadAt 85 (.pointer (some ⟨b, 1, none⟩))).run Tryz.prog w = .ok (c1) w := by
  have h0 : w.cell? ⟨b, 0, none⟩ = some c0 := h.cell 0
  have h1 : w.cell? ⟨b, 1, none⟩ = some c1 := h.cell 1
  have h2 : w.cell? ⟨b, 2, none⟩ = some c2 := h.cell 2
  have h3 : w.cell? ⟨b, 3, none⟩ = some c3 := h.cell 3
  have h4 : w.cell? ⟨b, 4, none⟩ = some c4 := h.cell 4
  have h5 : w.cell? ⟨b, 5, none⟩ = some c5 := h.cell 5
  have h6 : w.cell? ⟨b, 6, none⟩ = some c6 := h.cell 6
  have h7 : w.cell? ⟨b, 7, none⟩ = some c7 := h.cell 7
  clear h
  go_simp
theorem yield_un1 {w : World} {b : Nat} {c0 c1 c2 c3 c4 c5 c6 c7 : Value} (a : Act) (o : Oper) (x : Operand) (ho : o.op = .load 85 x) (hx : a.eval x = .pointer (some ⟨b, 1, none⟩)) (h : Blk w b [c0, c1, c2, c3, c4, c5, c6, c7] 145) :
    (execOp a.eval o).run Tryz.prog w = .ok (.value (c1)) w := by
  have e := load_un1 h
  obtain ⟨op, _, _, _, _, _⟩ := o
  dsimp only at ho
  subst ho
  unfold execOp
  simp only [hx]
  simp [e]
theorem load_unasid {w : World} {b : Nat} {c0 c1 c2 c3 c4 c5 c6 c7 : Value} (h : Blk w b [c0, c1, c2, c3, c4, c5, c6, c7] 145) : (Instr.loadAt 3 (.pointer (some ⟨b, 3, none⟩))).run Tryz.prog w = .ok (c3) w := by
  have h0 : w.cell? ⟨b, 0, none⟩ = some c0 := h.cell 0
  have h1 : w.cell? ⟨b, 1, none⟩ = some c1 := h.cell 1
  have h2 : w.cell? ⟨b, 2, none⟩ = some c2 := h.cell 2
  have h3 : w.cell? ⟨b, 3, none⟩ = some c3 := h.cell 3
  have h4 : w.cell? ⟨b, 4, none⟩ = some c4 := h.cell 4
  have h5 : w.cell? ⟨b, 5, none⟩ = some c5 := h.cell 5
  have h6 : w.cell? ⟨b, 6, none⟩ = some c6 := h.cell 6
  have h7 : w.cell? ⟨b, 7, none⟩ = some c7 := h.cell 7
  clear h
  go_simp
theorem yield_unasid {w : World} {b : Nat} {c0 c1 c2 c3 c4 c5 c6 c7 : Value} (a : Act) (o : Oper) (x : Operand) (ho : o.op = .load 3 x) (hx : a.eval x = .pointer (some ⟨b, 3, none⟩)) (h : Blk w b [c0, c1, c2, c3, c4, c5, c6, c7] 145) :
    (execOp a.eval o).run Tryz.prog w = .ok (.value (c3)) w := by
  have e := load_unasid h
  obtain ⟨op, _, _, _, _, _⟩ := o
  dsimp only at ho
  subst ho
  unfold execOp
  simp only [hx]
  simp [e]
theorem load_unsatp {w : World} {b : Nat} {c0 c1 c2 c3 c4 c5 c6 c7 : Value} (h : Blk w b [c0, c1, c2, c3, c4, c5, c6, c7] 145) : (Instr.loadAt 141 (.pointer (some ⟨b, 2, none⟩))).run Tryz.prog w = .ok (.agg #[c2, c3, c4]) w := by
  have h0 : w.cell? ⟨b, 0, none⟩ = some c0 := h.cell 0
  have h1 : w.cell? ⟨b, 1, none⟩ = some c1 := h.cell 1
  have h2 : w.cell? ⟨b, 2, none⟩ = some c2 := h.cell 2
  have h3 : w.cell? ⟨b, 3, none⟩ = some c3 := h.cell 3
  have h4 : w.cell? ⟨b, 4, none⟩ = some c4 := h.cell 4
  have h5 : w.cell? ⟨b, 5, none⟩ = some c5 := h.cell 5
  have h6 : w.cell? ⟨b, 6, none⟩ = some c6 := h.cell 6
  have h7 : w.cell? ⟨b, 7, none⟩ = some c7 := h.cell 7
  clear h
  go_simp
theorem yield_unsatp {w : World} {b : Nat} {c0 c1 c2 c3 c4 c5 c6 c7 : Value} (a : Act) (o : Oper) (x : Operand) (ho : o.op = .load 141 x) (hx : a.eval x = .pointer (some ⟨b, 2, none⟩)) (h : Blk w b [c0, c1, c2, c3, c4, c5, c6, c7] 145) :
    (execOp a.eval o).run Tryz.prog w = .ok (.value (.agg #[c2, c3, c4])) w := by
  have e := load_unsatp h
  obtain ⟨op, _, _, _, _, _⟩ := o
  dsimp only at ho
  subst ho
  unfold execOp
  simp only [hx]
  simp [e]
theorem load_unmode {w : World} {b : Nat} {c0 c1 c2 c3 c4 c5 c6 c7 : Value} (h : Blk w b [c0, c1, c2, c3, c4, c5, c6, c7] 145) : (Instr.loadAt 143 (.pointer (some ⟨b, 5, none⟩))).run Tryz.prog w = .ok (.agg #[c5, c6, c7]) w := by
  have h0 : w.cell? ⟨b, 0, none⟩ = some c0 := h.cell 0
  have h1 : w.cell? ⟨b, 1, none⟩ = some c1 := h.cell 1
  have h2 : w.cell? ⟨b, 2, none⟩ = some c2 := h.cell 2
  have h3 : w.cell? ⟨b, 3, none⟩ = some c3 := h.cell 3
  have h4 : w.cell? ⟨b, 4, none⟩ = some c4 := h.cell 4
  have h5 : w.cell? ⟨b, 5, none⟩ = some c5 := h.cell 5
  have h6 : w.cell? ⟨b, 6, none⟩ = some c6 := h.cell 6
  have h7 : w.cell? ⟨b, 7, none⟩ = some c7 := h.cell 7
  clear h
  go_simp
theorem yield_unmode {w : World} {b : Nat} {c0 c1 c2 c3 c4 c5 c6 c7 : Value} (a : Act) (o : Oper) (x : Operand) (ho : o.op = .load 143 x) (hx : a.eval x = .pointer (some ⟨b, 5, none⟩)) (h : Blk w b [c0, c1, c2, c3, c4, c5, c6, c7] 145) :
    (execOp a.eval o).run Tryz.prog w = .ok (.value (.agg #[c5, c6, c7])) w := by
  have e := load_unmode h
  obtain ⟨op, _, _, _, _, _⟩ := o
  dsimp only at ho
  subst ho
  unfold execOp
  simp only [hx]
  simp [e]
set_option maxHeartbeats 8000000 in
theorem ufind_any (up mp bp q : Nat) (g : Nat → Nat) (N m n c : Nat) (C : Nat → List Int) (Fm : Nat → Prop) (R : Nat → Nat → Wy) (S : Stp) (M : Md) (va : Nat) (pk : Int) (w : World) (h : UW w up mp bp q g N m n c C Fm R S M) (hv : va < 18446744073709551616) (hs : S.ppn < 18446744073709551616) (hp : -9223372036854775808 ≤ pk ∧ pk < 9223372036854775808) :
    Calls Tryz.prog 114 #[.pointer (some ⟨up, 0, none⟩), .int .u64 (va : Int), .int .i64 pk] w fun r w' => r = .returned (.tuple #[lfv (fnU R N m n (Mw C) S va pk).1, .int .i64 ((fnU R N m n (Mw C) S va pk).2.1 : Nat)]) ∧ Buf w' bp q g N m (fnU R N m n (Mw C) S va pk).2.2 ∧ Chg (FpT bp q g N) w w' := by
  have h1 := fun w' (hb : Below w.heap.size w w') => find_any bp q g N m R va S.asid w' (h.below hb).buf hv
  have h2 := fun w' (hb : Below w.heap.size w w') => wfind_any mp n c va S C Fm w' (h.below hb).mem hv hs
  have h3 := fun w' (hb : Below w.heap.size w w') => fill_yes bp q g N m R va S.asid pk (findW n (Mw C) S va).1.e (findW n (Mw C) S va).1.lv (findW n (Mw C) S va).1.pl w' (h.below hb).buf (findW_lv _ _ _ _) hv hp
  have h0 := h.buf
  have hB := h.blk
  have hlt : ∀ j, FpT bp q g N j → j < w.heap.size := h.buf.lt
  unfold fnU
  generalize fndT R N m va S.asid 3 0 = Z at *
  obtain ⟨z, fo⟩ := Z
  generalize findW n (Mw C) S va = Y at *
  obtain ⟨y, er⟩ := Y
  obtain ⟨on, asid, root⟩ := S
  obtain ⟨us, sm, mx⟩ := M
  dsimp only at *
  have H3 : Hid (∀ w' : World, Below w.heap.size w w' → Calls Tryz.prog 131 #[.pointer (some ⟨bp, 0, none⟩), .int .u64 (va : Int), .int .i64 asid, lfv y, .int .i64 pk] w' fun r w'' => r = .returned (.bool true) ∧ Buf w'' bp q g N m (filT R N m va asid y pk) ∧ Chg (FpT bp q g N) w' w'') := Lib.hid h3
  clear h3
  generalize filT R N m va asid y pk = R2 at *
  obtain ⟨⟨v, r, x1, x, u, g9, a, d, rsw, pn⟩, lv, pl⟩ := z
  obtain ⟨⟨v2, r2, y2, x2, u2, g2, a2, d2, rsw2, pn2⟩, lv2, pl2⟩ := y
  unfold lfv sv zl at *
  dsimp only at *
  have H1 := Lib.hid h1; have H2 := Lib.hid h2; have H0 := Lib.hid h0; have HB := Lib.hid hB; have HLT := Lib.hid hlt; have HM := Lib.hid h
  clear h1 h2 h0 hB hlt h hv hs hp
  go_enter Tryz.func114, Tryz.ntmps114
  go_upto_region 1 with (fail)
  have nb0 := Blk.new w [.bool false, .bool false, .bool false, .bool false, .bool false, .bool false, .bool false, .bool false, .int .i64 0, .int .u64 0, .int .i64 0, .int .u64 0] 41
  have nls : Below w.heap.size w w := (Below.refl w.heap.size w)
  have nl0 := nls.alloc nls.size (.cells #[.bool false, .bool false, .bool false, .bool false, .bool false, .bool false, .bool false, .bool false, .int .i64 0, .int .u64 0, .int .i64 0, .int .u64 0] 41)
  have nl : Below w.heap.size w (w.alloc (.cells #[.bool false, .bool false, .bool false, .bool false, .bool false, .bool false, .bool false, .bool false, .int .i64 0, .int .u64 0, .int .i64 0, .int .u64 0] 41)) := nl0; clear nls nl0
  have o0 : Blk (w.alloc (.cells #[.bool false, .bool false, .bool false, .bool false, .bool false, .bool false, .bool false, .bool false, .int .i64 0, .int .u64 0, .int .i64 0, .int .u64 0] 41)) up [.pointer (some ⟨mp, 0, none⟩), .pointer (some ⟨bp, 0, none⟩), .bool on, .int .i64 asid, .int .u64 (root : Int), .bool us, .bool sm, .bool mx] 145 := (HB.out.alloc (.cells #[.bool false, .bool false, .bool false, .bool false, .bool false, .bool false, .bool false, .bool false, .int .i64 0, .int .u64 0, .int .i64 0, .int .u64 0] 41))
  have d1_0 : up < w.heap.size := HB.out.lt
  obtain ⟨B1, hB0⟩ : ∃ B, B = w.heap.size := ⟨_, rfl⟩
  obtain ⟨W1, hW⟩ : ∃ W, W = (w.alloc (.cells #[.bool false, .bool false, .bool false, .bool false, .bool false, .bool false, .bool false, .bool false, .int .i64 0, .int .u64 0, .int .i64 0, .int .u64 0] 41)) := ⟨_, rfl⟩
  rw [← hW] at nl nb0 o0
  rw [← hB0] at nb0
  rw [← hW]
  try rw [← hB0]
  have K1_0 := Lib.hid o0
  have K1_1 := Lib.hid nb0
  have G1 : Hid (w.heap.size ≤ B1) := Lib.hid (by have := (Nat.le_refl w.heap.size); omega)
  have x1_0_0 : up ≠ B1 := by omega
  have X1_0_0 := Lib.hid x1_0_0; clear x1_0_0
  have L1 := Lib.hid nl
  clear nl hW nb0 hB0 o0 d1_0 HB
  refine wp_region_held_drew (S := fun w' => Blk w' up [.pointer (some ⟨mp, 0, none⟩), .pointer (some ⟨bp, 0, none⟩), .bool on, .int .i64 asid, .int .u64 (root : Int), .bool us, .bool sm, .bool mx] 145) (by kernel_rfl) K1_0.out (fun hHeld => ?_)
  clear hHeld
  obtain ⟨D2, hD⟩ : ∃ x, x = W1.drew := ⟨_, rfl⟩
  rw [← hD]
  have K2_0 := Lib.hid (show Blk D2 up [.pointer (some ⟨mp, 0, none⟩), .pointer (some ⟨bp, 0, none⟩), .bool on, .int .i64 asid, .int .u64 (root : Int), .bool us, .bool sm, .bool mx] 145 from hD ▸ Blk.drewN K1_0.out 1)
  have K2_1 := Lib.hid (show Blk D2 B1 [.bool false, .bool false, .bool false, .bool false, .bool false, .bool false, .bool false, .bool false, .int .i64 0, .int .u64 0, .int .i64 0, .int .u64 0] 41 from hD ▸ Blk.drewN K1_1.out 1)
  have L2 := Lib.hid (show Below w.heap.size w D2 from hD ▸ L1.out.drew)
  clear hD K1_0 K1_1
  have hSD2 : Blk D2 up [.pointer (some ⟨mp, 0, none⟩), .pointer (some ⟨bp, 0, none⟩), .bool on, .int .i64 asid, .int .u64 (root : Int), .bool us, .bool sm, .bool mx] 145 := K2_0.out
  simp only [List.size_toArray, List.length_cons, List.length_nil, Nat.reduceAdd]
  rw [show Array.replicate 17 false = [false, false, false, false, false, false, false, false, false, false, false, false, false, false, false, false, false].toArray from rfl]
  refine wpAnyH_take (i := 0) (v := ?_) rfl (by kernel_rfl) (by kernel_rfl) (by kernel_rfl) (fun _ _ _ h => h) (Or.inl ⟨by rfl, ?yldq⟩) (by assumption) ?_
  case yldq => (intro w hSw; (try dsimp only at hSw); go_simp; try with_reducible rfl)
  try simp only [Act.put, List.setIfInBounds_toArray, List.set_cons_zero, List.set_cons_succ, List.getElem_toArray, List.getElem_cons_succ, List.getElem_cons_zero]
  refine wpAnyH_take (i := 1) (v := ?_) rfl (by kernel_rfl) (by kernel_rfl) (by kernel_rfl) (fun _ _ _ h => h) (Or.inl ⟨by rfl, ?yldq⟩) (by assumption) ?_
  case yldq => (intro w hSw; (try dsimp only at hSw); go_simp; try with_reducible rfl)
  try simp only [Act.put, List.setIfInBounds_toArray, List.set_cons_zero, List.set_cons_succ, List.getElem_toArray, List.getElem_cons_succ, List.getElem_cons_zero]
  refine wpAnyH_take (i := 2) (v := ?_) rfl (by kernel_rfl) (by kernel_rfl) (by kernel_rfl) (fun _ _ _ h => h) (Or.inl ⟨by rfl, ?yldq⟩) (by assumption) ?_
  case yldq => (intro w hSw; (try dsimp only at hSw); go_simp; try with_reducible rfl)
  try simp only [Act.put, List.setIfInBounds_toArray, List.set_cons_zero, List.set_cons_succ, List.getElem_toArray, List.getElem_cons_succ, List.getElem_cons_zero]
  refine wpAnyH_take (i := 3) (v := _) rfl (by kernel_rfl) (by kernel_rfl) (by kernel_rfl) (fun _ _ _ h => h) (Or.inl ⟨by rfl, fun w hSw => yield_un1 _ _ _ rfl rfl hSw⟩) (by assumption) ?_
  try simp only [Act.put, List.setIfInBounds_toArray, List.set_cons_zero, List.set_cons_succ, List.getElem_toArray, List.getElem_cons_succ, List.getElem_cons_zero]
  refine wpAnyH_take (i := 4) (v := ?_) rfl (by kernel_rfl) (by kernel_rfl) (by kernel_rfl) (fun _ _ _ h => h) (Or.inl ⟨by rfl, ?yldq⟩) (by assumption) ?_
  case yldq => (intro w hSw; (try dsimp only at hSw); go_simp; try with_reducible rfl)
  try simp only [Act.put, List.setIfInBounds_toArray, List.set_cons_zero, List.set_cons_succ, List.getElem_toArray, List.getElem_cons_succ, List.getElem_cons_zero]
  refine wpAnyH_take (i := 5) (v := ?_) rfl (by kernel_rfl) (by kernel_rfl) (by kernel_rfl) (fun _ _ _ h => h) (Or.inl ⟨by rfl, ?yldq⟩) (by assumption) ?_
  case yldq => (intro w hSw; (try dsimp only at hSw); go_simp; try with_reducible rfl)
  try simp only [Act.put, List.setIfInBounds_toArray, List.set_cons_zero, List.set_cons_succ, List.getElem_toArray, List.getElem_cons_succ, List.getElem_cons_zero]
  refine wpAnyH_take (i := 6) (v := ?_) rfl (by kernel_rfl) (by kernel_rfl) (by kernel_rfl) (fun _ _ _ h => h) (Or.inl ⟨by rfl, ?yldq⟩) (by assumption) ?_
  case yldq => (intro w hSw; (try dsimp only at hSw); go_simp; try with_reducible rfl)
  try simp only [Act.put, List.setIfInBounds_toArray, List.set_cons_zero, List.set_cons_succ, List.getElem_toArray, List.getElem_cons_succ, List.getElem_cons_zero]
  refine wpAnyH_take (i := 7) (v := ?_) rfl (by kernel_rfl) (by kernel_rfl) (by kernel_rfl) (fun _ _ _ h => h) (Or.inl ⟨by rfl, ?yldq⟩) (by assumption) ?_
  case yldq => (intro w hSw; (try dsimp only at hSw); go_simp; try with_reducible rfl)
  try simp only [Act.put, List.setIfInBounds_toArray, List.set_cons_zero, List.set_cons_succ, List.getElem_toArray, List.getElem_cons_succ, List.getElem_cons_zero]
  refine wpAnyH_take (i := 8) (v := ?_) rfl (by kernel_rfl) (by kernel_rfl) (by kernel_rfl) (fun _ _ _ h => h) (Or.inl ⟨by rfl, ?yldq⟩) (by assumption) ?_
  case yldq => (intro w hSw; (try dsimp only at hSw); go_simp; try with_reducible rfl)
  try simp only [Act.put, List.setIfInBounds_toArray, List.set_cons_zero, List.set_cons_succ, List.getElem_toArray, List.getElem_cons_succ, List.getElem_cons_zero]
  refine wpAnyH_take (i := 9) (v := _) rfl (by kernel_rfl) (by kernel_rfl) (by kernel_rfl) (fun _ _ _ h => h) (Or.inl ⟨by rfl, fun w hSw => yield_unasid _ _ _ rfl rfl hSw⟩) (by assumption) ?_
  try simp only [Act.put, List.setIfInBounds_toArray, List.set_cons_zero, List.set_cons_succ, List.getElem_toArray, List.getElem_cons_succ, List.getElem_cons_zero]
  refine wpAnyH_ready (rs := [10, 14]) (by kernel_rfl) (by simp) ?_
  refine AllReadyH.cons rfl (fun K hK => ?_) (AllReadyH.cons rfl (fun K hK => ?_) AllReadyH.nil)
  · go_simp
    refine (H1.out _ L2.out).mono ?_
    rintro e w3 ⟨rfl, hb⟩
    have L3 := Lib.hid (L2.out.trans (hb.mono L2.out.size))
    have K3_0 := Lib.hid (K2_0.out.below hb K2_0.out.lt)
    have K3_1 := Lib.hid (K2_1.out.below hb K2_1.out.lt)
    clear hb K2_0 K2_1
    refine hK.out _ _ K3_0.out (fun hS10 => ?_)
    clear hK K
    refine wpAnyH_take (i := 11) (v := ?_) rfl (by kernel_rfl) (by kernel_rfl) (by kernel_rfl) (fun _ _ _ h => h) (Or.inl ⟨by rfl, ?yldq⟩) (by assumption) ?_
    case yldq => (intro w hSw; (try dsimp only at hSw); go_simp; try with_reducible rfl)
    try simp only [Act.put, List.setIfInBounds_toArray, List.set_cons_zero, List.set_cons_succ, List.getElem_toArray, List.getElem_cons_succ, List.getElem_cons_zero]
    refine wpAnyH_take (i := 12) (v := ?_) rfl (by kernel_rfl) (by kernel_rfl) (by kernel_rfl) (fun _ _ _ h => h) (Or.inl ⟨by rfl, ?yldq⟩) (by assumption) ?_
    case yldq => (intro w hSw; (try dsimp only at hSw); go_simp; try with_reducible rfl)
    try simp only [Act.put, List.setIfInBounds_toArray, List.set_cons_zero, List.set_cons_succ, List.getElem_toArray, List.getElem_cons_succ, List.getElem_cons_zero]
    refine wpAnyH_take (i := 13) (v := ?_) rfl (by kernel_rfl) (by kernel_rfl) (by kernel_rfl) (fun _ _ _ h => h) (Or.inl ⟨by rfl, ?yldq⟩) (by assumption) ?_
    case yldq => (intro w hSw; (try dsimp only at hSw); go_simp; try with_reducible rfl)
    try simp only [Act.put, List.setIfInBounds_toArray, List.set_cons_zero, List.set_cons_succ, List.getElem_toArray, List.getElem_cons_succ, List.getElem_cons_zero]
    refine wpAnyH_ready (rs := [14]) (by kernel_rfl) (by simp) ?_
    refine AllReadyH.cons rfl (fun K hK => ?_) AllReadyH.nil
    go_simp
    have nb0 := Blk.new w3 [.bool false, .bool false, .bool false, .bool false, .bool false, .bool false, .bool false, .bool false, .int .i64 0, .int .u64 0, .int .i64 0, .int .u64 0] 41
    have nls : Below w.heap.size w w3 := L3.out
    have nl0 := nls.alloc nls.size (.cells #[.bool false, .bool false, .bool false, .bool false, .bool false, .bool false, .bool false, .bool false, .int .i64 0, .int .u64 0, .int .i64 0, .int .u64 0] 41)
    have nl : Below w.heap.size w (w3.alloc (.cells #[.bool false, .bool false, .bool false, .bool false, .bool false, .bool false, .bool false, .bool false, .int .i64 0, .int .u64 0, .int .i64 0, .int .u64 0] 41)) := nl0; clear nls nl0
    have o0 := (K3_0.out.alloc (.cells #[.bool false, .bool false, .bool false, .bool false, .bool false, .bool false, .bool false, .bool false, .int .i64 0, .int .u64 0, .int .i64 0, .int .u64 0] 41))
    have d4_0 : up < w3.heap.size := K3_0.out.lt
    have o1 := (K3_1.out.alloc (.cells #[.bool false, .bool false, .bool false, .bool false, .bool false, .bool false, .bool false, .bool false, .int .i64 0, .int .u64 0, .int .i64 0, .int .u64 0] 41))
    have d4_1 : B1 < w3.heap.size := K3_1.out.lt
    obtain ⟨B4, hB0⟩ : ∃ B, B = w3.heap.size := ⟨_, rfl⟩
    obtain ⟨W4, hW⟩ : ∃ W, W = (w3.alloc (.cells #[.bool false, .bool false, .bool false, .bool false, .bool false, .bool false, .bool false, .bool false, .int .i64 0, .int .u64 0, .int .i64 0, .int .u64 0] 41)) := ⟨_, rfl⟩
    rw [← hW] at nl nb0 o0 o1
    rw [← hB0] at nb0
    rw [← hW]
    try rw [← hB0]
    have K4_0 := Lib.hid o0
    have K4_1 := Lib.hid o1
    have K4_2 := Lib.hid nb0
    have G4 : Hid (w.heap.size ≤ B4) := Lib.hid (by have := L3.out.size; omega)
    have x4_0_0 : up ≠ B4 := by omega
    have x4_1_0 : B1 ≠ B4 := by omega
    have X4_0_0 := Lib.hid x4_0_0; clear x4_0_0
    have X4_1_0 := Lib.hid x4_1_0; clear x4_1_0
    have L4 := Lib.hid nl
    clear nl hW nb0 hB0 o0 d4_0 o1 d4_1 K3_0 K3_1
    refine hK.out _ _ K4_0.out (fun hS14 => ?_)
    clear hK K
    refine wpAnyH_ready (rs := [15]) (by kernel_rfl) (by simp) ?_
    refine AllReadyH.cons rfl (fun K hK => ?_) AllReadyH.nil
    have m2_0 := K4_2.out.c0
    have m2_1 := K4_2.out.c1
    have m2_2 := K4_2.out.c2
    have m2_3 := K4_2.out.c3
    have m2_4 := K4_2.out.c4
    have m2_5 := K4_2.out.c5
    have m2_6 := K4_2.out.c6
    have m2_7 := K4_2.out.c7
    have m2_8 := K4_2.out.c8
    have m2_9 := K4_2.out.c9
    have m2_10 := K4_2.out.c10
    have m2_11 := K4_2.out.c11
    have mlt2 : B4 < W4.heap.size := K4_2.out.lt
    have mf2 : ∀ o, W4.frozen? ⟨B4, o, none⟩ = false := fun o => K4_2.out.free o
    go_simp
    clear m2_0 m2_1 m2_2 m2_3 m2_4 m2_5 m2_6 m2_7 m2_8 m2_9 m2_10 m2_11 mlt2 mf2
    obtain ⟨W5, hW⟩ : ∃ WX, WX = ((((((((((((W4.setCell ⟨B4, 0, none⟩ (.bool v)).setCell ⟨B4, 1, none⟩ (.bool r)).setCell ⟨B4, 2, none⟩ (.bool x1)).setCell ⟨B4, 3, none⟩ (.bool x)).setCell ⟨B4, 4, none⟩ (.bool u)).setCell ⟨B4, 5, none⟩ (.bool g9)).setCell ⟨B4, 6, none⟩ (.bool a)).setCell ⟨B4, 7, none⟩ (.bool d)).setCell ⟨B4, 8, none⟩ (.int .i64 rsw)).setCell ⟨B4, 9, none⟩ (.int .u64 (pn : Int))).setCell ⟨B4, 10, none⟩ (.int .i64 (lv : Int))).setCell ⟨B4, 11, none⟩ (.int .u64 (pl : Int))) := ⟨_, rfl⟩
    rw [← hW]
    have K5_0 := Lib.hid (show Blk W5 up [.pointer (some ⟨mp, 0, none⟩), .pointer (some ⟨bp, 0, none⟩), .bool on, .int .i64 asid, .int .u64 (root : Int), .bool us, .bool sm, .bool mx] 145 from hW ▸ ((((((((((((K4_0.out.other ⟨B4, 0, none⟩ (.bool v) X4_0_0.out).other ⟨B4, 1, none⟩ (.bool r) X4_0_0.out).other ⟨B4, 2, none⟩ (.bool x1) X4_0_0.out).other ⟨B4, 3, none⟩ (.bool x) X4_0_0.out).other ⟨B4, 4, none⟩ (.bool u) X4_0_0.out).other ⟨B4, 5, none⟩ (.bool g9) X4_0_0.out).other ⟨B4, 6, none⟩ (.bool a) X4_0_0.out).other ⟨B4, 7, none⟩ (.bool d) X4_0_0.out).other ⟨B4, 8, none⟩ (.int .i64 rsw) X4_0_0.out).other ⟨B4, 9, none⟩ (.int .u64 (pn : Int)) X4_0_0.out).other ⟨B4, 10, none⟩ (.int .i64 (lv : Int)) X4_0_0.out).other ⟨B4, 11, none⟩ (.int .u64 (pl : Int)) X4_0_0.out))
    have K5_1 := Lib.hid (show Blk W5 B1 [.bool false, .bool false, .bool false, .bool false, .bool false, .bool false, .bool false, .bool false, .int .i64 0, .int .u64 0, .int .i64 0, .int .u64 0] 41 from hW ▸ ((((((((((((K4_1.out.other ⟨B4, 0, none⟩ (.bool v) X4_1_0.out).other ⟨B4, 1, none⟩ (.bool r) X4_1_0.out).other ⟨B4, 2, none⟩ (.bool x1) X4_1_0.out).other ⟨B4, 3, none⟩ (.bool x) X4_1_0.out).other ⟨B4, 4, none⟩ (.bool u) X4_1_0.out).other ⟨B4, 5, none⟩ (.bool g9) X4_1_0.out).other ⟨B4, 6, none⟩ (.bool a) X4_1_0.out).other ⟨B4, 7, none⟩ (.bool d) X4_1_0.out).other ⟨B4, 8, none⟩ (.int .i64 rsw) X4_1_0.out).other ⟨B4, 9, none⟩ (.int .u64 (pn : Int)) X4_1_0.out).other ⟨B4, 10, none⟩ (.int .i64 (lv : Int)) X4_1_0.out).other ⟨B4, 11, none⟩ (.int .u64 (pl : Int)) X4_1_0.out))
    have K5_2 := Lib.hid (show Blk W5 B4 [.bool v, .bool r, .bool x1, .bool x, .bool u, .bool g9, .bool a, .bool d, .int .i64 rsw, .int .u64 (pn : Int), .int .i64 (lv : Int), .int .u64 (pl : Int)] 41 from hW ▸ ((((((((((((K4_2.out.set 0 (.bool v)).set 1 (.bool r)).set 2 (.bool x1)).set 3 (.bool x)).set 4 (.bool u)).set 5 (.bool g9)).set 6 (.bool a)).set 7 (.bool d)).set 8 (.int .i64 rsw)).set 9 (.int .u64 (pn : Int))).set 10 (.int .i64 (lv : Int))).set 11 (.int .u64 (pl : Int))))
    have L5 := Lib.hid (show Below w.heap.size w W5 from hW ▸ (Below.setCell (Below.setCell (Below.setCell (Below.setCell (Below.setCell (Below.setCell (Below.setCell (Below.setCell (Below.setCell (Below.setCell (Below.setCell (Below.setCell L4.out G4.out _) G4.out _) G4.out _) G4.out _) G4.out _) G4.out _) G4.out _) G4.out _) G4.out _) G4.out _) G4.out _) G4.out _))
    clear hW K4_0 K4_1 K4_2
    refine hK.out _ _ K5_0.out (fun hS15 => ?_)
    clear hK K
    refine wpAnyH_take (i := 16) (v := ?_) rfl (by kernel_rfl) (by kernel_rfl) (by kernel_rfl) (fun _ _ _ h => h) (Or.inl ⟨by rfl, ?yldq⟩) (by assumption) ?_
    case yldq => (intro w hSw; (try dsimp only at hSw); go_simp; try with_reducible rfl)
    try simp only [Act.put, List.setIfInBounds_toArray, List.set_cons_zero, List.set_cons_succ, List.getElem_toArray, List.getElem_cons_succ, List.getElem_cons_zero]
    refine wpAnyH_done (by kernel_rfl) ?_ _
    go_upto_region 2 with (fail)
    cases fo
    · go_upto_region 4 with (fail)
      refine wp_region_held_drew (S := fun w' => Blk w' up [.pointer (some ⟨mp, 0, none⟩), .pointer (some ⟨bp, 0, none⟩), .bool on, .int .i64 asid, .int .u64 (root : Int), .bool us, .bool sm, .bool mx] 145) (by kernel_rfl) K5_0.out (fun hHeld => ?_)
      clear hHeld
      obtain ⟨D6, hD⟩ : ∃ x, x = W5.drew := ⟨_, rfl⟩
      rw [← hD]
      have K6_0 := Lib.hid (show Blk D6 up [.pointer (some ⟨mp, 0, none⟩), .pointer (some ⟨bp, 0, none⟩), .bool on, .int .i64 asid, .int .u64 (root : Int), .bool us, .bool sm, .bool mx] 145 from hD ▸ Blk.drewN K5_0.out 1)
      have K6_1 := Lib.hid (show Blk D6 B1 [.bool false, .bool false, .bool false, .bool false, .bool false, .bool false, .bool false, .bool false, .int .i64 0, .int .u64 0, .int .i64 0, .int .u64 0] 41 from hD ▸ Blk.drewN K5_1.out 1)
      have K6_2 := Lib.hid (show Blk D6 B4 [.bool v, .bool r, .bool x1, .bool x, .bool u, .bool g9, .bool a, .bool d, .int .i64 rsw, .int .u64 (pn : Int), .int .i64 (lv : Int), .int .u64 (pl : Int)] 41 from hD ▸ Blk.drewN K5_2.out 1)
      have L6 := Lib.hid (show Below w.heap.size w D6 from hD ▸ L5.out.drew)
      clear hD K5_0 K5_1 K5_2
      have hSD6 : Blk D6 up [.pointer (some ⟨mp, 0, none⟩), .pointer (some ⟨bp, 0, none⟩), .bool on, .int .i64 asid, .int .u64 (root : Int), .bool us, .bool sm, .bool mx] 145 := K6_0.out
      simp only [List.size_toArray, List.length_cons, List.length_nil, Nat.reduceAdd]
      rw [show Array.replicate 16 false = [false, false, false, false, false, false, false, false, false, false, false, false, false, false, false, false].toArray from rfl]
      refine wpAnyH_take (i := 0) (v := ?_) rfl (by kernel_rfl) (by kernel_rfl) (by kernel_rfl) (fun _ _ _ h => h) (Or.inl ⟨by rfl, ?yldq⟩) (by assumption) ?_
      case yldq => (intro w hSw; (try dsimp only at hSw); go_simp; try with_reducible rfl)
      try simp only [Act.put, List.setIfInBounds_toArray, List.set_cons_zero, List.set_cons_succ, List.getElem_toArray, List.getElem_cons_succ, List.getElem_cons_zero]
      refine wpAnyH_take (i := 1) (v := ?_) rfl (by kernel_rfl) (by kernel_rfl) (by kernel_rfl) (fun _ _ _ h => h) (Or.inl ⟨by rfl, ?yldq⟩) (by assumption) ?_
      case yldq => (intro w hSw; (try dsimp only at hSw); go_simp; try with_reducible rfl)
      try simp only [Act.put, List.setIfInBounds_toArray, List.set_cons_zero, List.set_cons_succ, List.getElem_toArray, List.getElem_cons_succ, List.getElem_cons_zero]
      refine wpAnyH_take (i := 2) (v := ?_) rfl (by kernel_rfl) (by kernel_rfl) (by kernel_rfl) (fun _ _ _ h => h) (Or.inl ⟨by rfl, ?yldq⟩) (by assumption) ?_
      case yldq => (intro w hSw; (try dsimp only at hSw); go_simp; try with_reducible rfl)
      try simp only [Act.put, List.setIfInBounds_toArray, List.set_cons_zero, List.set_cons_succ, List.getElem_toArray, List.getElem_cons_succ, List.getElem_cons_zero]
      refine wpAnyH_take (i := 3) (v := _) rfl (by kernel_rfl) (by kernel_rfl) (by kernel_rfl) (fun _ _ _ h => h) (Or.inl ⟨by rfl, fun w hSw => yield_un0 _ _ _ rfl rfl hSw⟩) (by assumption) ?_
      try simp only [Act.put, List.setIfInBounds_toArray, List.set_cons_zero, List.set_cons_succ, List.getElem_toArray, List.getElem_cons_succ, List.getElem_cons_zero]
      refine wpAnyH_take (i := 4) (v := ?_) rfl (by kernel_rfl) (by kernel_rfl) (by kernel_rfl) (fun _ _ _ h => h) (Or.inl ⟨by rfl, ?yldq⟩) (by assumption) ?_
      case yldq => (intro w hSw; (try dsimp only at hSw); go_simp; try with_reducible rfl)
      try simp only [Act.put, List.setIfInBounds_toArray, List.set_cons_zero, List.set_cons_succ, List.getElem_toArray, List.getElem_cons_succ, List.getElem_cons_zero]
      refine wpAnyH_take (i := 5) (v := ?_) rfl (by kernel_rfl) (by kernel_rfl) (by kernel_rfl) (fun _ _ _ h => h) (Or.inl ⟨by rfl, ?yldq⟩) (by assumption) ?_
      case yldq => (intro w hSw; (try dsimp only at hSw); go_simp; try with_reducible rfl)
      try simp only [Act.put, List.setIfInBounds_toArray, List.set_cons_zero, List.set_cons_succ, List.getElem_toArray, List.getElem_cons_succ, List.getElem_cons_zero]
      refine wpAnyH_take (i := 6) (v := ?_) rfl (by kernel_rfl) (by kernel_rfl) (by kernel_rfl) (fun _ _ _ h => h) (Or.inl ⟨by rfl, ?yldq⟩) (by assumption) ?_
      case yldq => (intro w hSw; (try dsimp only at hSw); go_simp; try with_reducible rfl)
      try simp only [Act.put, List.setIfInBounds_toArray, List.set_cons_zero, List.set_cons_succ, List.getElem_toArray, List.getElem_cons_succ, List.getElem_cons_zero]
      refine wpAnyH_take (i := 7) (v := _) rfl (by kernel_rfl) (by kernel_rfl) (by kernel_rfl) (fun _ _ _ h => h) (Or.inl ⟨by rfl, fun w hSw => yield_unsatp _ _ _ rfl rfl hSw⟩) (by assumption) ?_
      try simp only [Act.put, List.setIfInBounds_toArray, List.set_cons_zero, List.set_cons_succ, List.getElem_toArray, List.getElem_cons_succ, List.getElem_cons_zero]
      refine wpAnyH_take (i := 8) (v := ?_) rfl (by kernel_rfl) (by kernel_rfl) (by kernel_rfl) (fun _ _ _ h => h) (Or.inl ⟨by rfl, ?yldq⟩) (by assumption) ?_
      case yldq => (intro w hSw; (try dsimp only at hSw); go_simp; try with_reducible rfl)
      try simp only [Act.put, List.setIfInBounds_toArray, List.set_cons_zero, List.set_cons_succ, List.getElem_toArray, List.getElem_cons_succ, List.getElem_cons_zero]
      refine wpAnyH_ready (rs := [9, 13]) (by kernel_rfl) (by simp) ?_
      refine AllReadyH.cons rfl (fun K hK => ?_) (AllReadyH.cons rfl (fun K hK => ?_) AllReadyH.nil)
      · go_simp
        refine (H2.out _ L6.out).mono ?_
        rintro e w7 ⟨rfl, hb⟩
        have L7 := Lib.hid (L6.out.trans (hb.mono L6.out.size))
        have K7_0 := Lib.hid (K6_0.out.below hb K6_0.out.lt)
        have K7_1 := Lib.hid (K6_1.out.below hb K6_1.out.lt)
        have K7_2 := Lib.hid (K6_2.out.below hb K6_2.out.lt)
        clear hb K6_0 K6_1 K6_2
        refine hK.out _ _ K7_0.out (fun hS9 => ?_)
        clear hK K
        refine wpAnyH_take (i := 10) (v := ?_) rfl (by kernel_rfl) (by kernel_rfl) (by kernel_rfl) (fun _ _ _ h => h) (Or.inl ⟨by rfl, ?yldq⟩) (by assumption) ?_
        case yldq => (intro w hSw; (try dsimp only at hSw); go_simp; try with_reducible rfl)
        try simp only [Act.put, List.setIfInBounds_toArray, List.set_cons_zero, List.set_cons_succ, List.getElem_toArray, List.getElem_cons_succ, List.getElem_cons_zero]
        refine wpAnyH_take (i := 11) (v := ?_) rfl (by kernel_rfl) (by kernel_rfl) (by kernel_rfl) (fun _ _ _ h => h) (Or.inl ⟨by rfl, ?yldq⟩) (by assumption) ?_
        case yldq => (intro w hSw; (try dsimp only at hSw); go_simp; try with_reducible rfl)
        try simp only [Act.put, List.setIfInBounds_toArray, List.set_cons_zero, List.set_cons_succ, List.getElem_toArray, List.getElem_cons_succ, List.getElem_cons_zero]
        refine wpAnyH_take (i := 12) (v := ?_) rfl (by kernel_rfl) (by kernel_rfl) (by kernel_rfl) (fun _ _ _ h => h) (Or.inl ⟨by rfl, ?yldq⟩) (by assumption) ?_
        case yldq => (intro w hSw; (try dsimp only at hSw); go_simp; try with_reducible rfl)
        try simp only [Act.put, List.setIfInBounds_toArray, List.set_cons_zero, List.set_cons_succ, List.getElem_toArray, List.getElem_cons_succ, List.getElem_cons_zero]
        refine wpAnyH_ready (rs := [13]) (by kernel_rfl) (by simp) ?_
        refine AllReadyH.cons rfl (fun K hK => ?_) AllReadyH.nil
        go_simp
        have nb0 := Blk.new w7 [.bool false, .bool false, .bool false, .bool false, .bool false, .bool false, .bool false, .bool false, .int .i64 0, .int .u64 0, .int .i64 0, .int .u64 0] 41
        have nls : Below w.heap.size w w7 := L7.out
        have nl0 := nls.alloc nls.size (.cells #[.bool false, .bool false, .bool false, .bool false, .bool false, .bool false, .bool false, .bool false, .int .i64 0, .int .u64 0, .int .i64 0, .int .u64 0] 41)
        have nl : Below w.heap.size w (w7.alloc (.cells #[.bool false, .bool false, .bool false, .bool false, .bool false, .bool false, .bool false, .bool false, .int .i64 0, .int .u64 0, .int .i64 0, .int .u64 0] 41)) := nl0; clear nls nl0
        have o0 := (K7_0.out.alloc (.cells #[.bool false, .bool false, .bool false, .bool false, .bool false, .bool false, .bool false, .bool false, .int .i64 0, .int .u64 0, .int .i64 0, .int .u64 0] 41))
        have d8_0 : up < w7.heap.size := K7_0.out.lt
        have o1 := (K7_1.out.alloc (.cells #[.bool false, .bool false, .bool false, .bool false, .bool false, .bool false, .bool false, .bool false, .int .i64 0, .int .u64 0, .int .i64 0, .int .u64 0] 41))
        have d8_1 : B1 < w7.heap.size := K7_1.out.lt
        have o2 := (K7_2.out.alloc (.cells #[.bool false, .bool false, .bool false, .bool false, .bool false, .bool false, .bool false, .bool false, .int .i64 0, .int .u64 0, .int .i64 0, .int .u64 0] 41))
        have d8_2 : B4 < w7.heap.size := K7_2.out.lt
        obtain ⟨B8, hB0⟩ : ∃ B, B = w7.heap.size := ⟨_, rfl⟩
        obtain ⟨W8, hW⟩ : ∃ W, W = (w7.alloc (.cells #[.bool false, .bool false, .bool false, .bool false, .bool false, .bool false, .bool false, .bool false, .int .i64 0, .int .u64 0, .int .i64 0, .int .u64 0] 41)) := ⟨_, rfl⟩
        rw [← hW] at nl nb0 o0 o1 o2
        rw [← hB0] at nb0
        rw [← hW]
        try rw [← hB0]
        have K8_0 := Lib.hid o0
        have K8_1 := Lib.hid o1
        have K8_2 := Lib.hid o2
        have K8_3 := Lib.hid nb0
        have G8 : Hid (w.heap.size ≤ B8) := Lib.hid (by have := L7.out.size; omega)
        have x8_0_0 : up ≠ B8 := by omega
        have x8_1_0 : B1 ≠ B8 := by omega
        have x8_2_0 : B4 ≠ B8 := by omega
        have X8_0_0 := Lib.hid x8_0_0; clear x8_0_0
        have X8_1_0 := Lib.hid x8_1_0; clear x8_1_0
        have X8_2_0 := Lib.hid x8_2_0; clear x8_2_0
        have L8 := Lib.hid nl
        clear nl hW nb0 hB0 o0 d8_0 o1 d8_1 o2 d8_2 K7_0 K7_1 K7_2
        refine hK.out _ _ K8_0.out (fun hS13 => ?_)
        clear hK K
        refine wpAnyH_ready (rs := [14]) (by kernel_rfl) (by simp) ?_
        refine AllReadyH.cons rfl (fun K hK => ?_) AllReadyH.nil
        have m3_0 := K8_3.out.c0
        have m3_1 := K8_3.out.c1
        have m3_2 := K8_3.out.c2
        have m3_3 := K8_3.out.c3
        have m3_4 := K8_3.out.c4
        have m3_5 := K8_3.out.c5
        have m3_6 := K8_3.out.c6
        have m3_7 := K8_3.out.c7
        have m3_8 := K8_3.out.c8
        have m3_9 := K8_3.out.c9
        have m3_10 := K8_3.out.c10
        have m3_11 := K8_3.out.c11
        have mlt3 : B8 < W8.heap.size := K8_3.out.lt
        have mf3 : ∀ o, W8.frozen? ⟨B8, o, none⟩ = false := fun o => K8_3.out.free o
        go_simp
        clear m3_0 m3_1 m3_2 m3_3 m3_4 m3_5 m3_6 m3_7 m3_8 m3_9 m3_10 m3_11 mlt3 mf3
        obtain ⟨W9, hW⟩ : ∃ WX, WX = ((((((((((((W8.setCell ⟨B8, 0, none⟩ (.bool v2)).setCell ⟨B8, 1, none⟩ (.bool r2)).setCell ⟨B8, 2, none⟩ (.bool y2)).setCell ⟨B8, 3, none⟩ (.bool x2)).setCell ⟨B8, 4, none⟩ (.bool u2)).setCell ⟨B8, 5, none⟩ (.bool g2)).setCell ⟨B8, 6, none⟩ (.bool a2)).setCell ⟨B8, 7, none⟩ (.bool d2)).setCell ⟨B8, 8, none⟩ (.int .i64 rsw2)).setCell ⟨B8, 9, none⟩ (.int .u64 (pn2 : Int))).setCell ⟨B8, 10, none⟩ (.int .i64 (lv2 : Int))).setCell ⟨B8, 11, none⟩ (.int .u64 (pl2 : Int))) := ⟨_, rfl⟩
        rw [← hW]
        have K9_0 := Lib.hid (show Blk W9 up [.pointer (some ⟨mp, 0, none⟩), .pointer (some ⟨bp, 0, none⟩), .bool on, .int .i64 asid, .int .u64 (root : Int), .bool us, .bool sm, .bool mx] 145 from hW ▸ ((((((((((((K8_0.out.other ⟨B8, 0, none⟩ (.bool v2) X8_0_0.out).other ⟨B8, 1, none⟩ (.bool r2) X8_0_0.out).other ⟨B8, 2, none⟩ (.bool y2) X8_0_0.out).other ⟨B8, 3, none⟩ (.bool x2) X8_0_0.out).other ⟨B8, 4, none⟩ (.bool u2) X8_0_0.out).other ⟨B8, 5, none⟩ (.bool g2) X8_0_0.out).other ⟨B8, 6, none⟩ (.bool a2) X8_0_0.out).other ⟨B8, 7, none⟩ (.bool d2) X8_0_0.out).other ⟨B8, 8, none⟩ (.int .i64 rsw2) X8_0_0.out).other ⟨B8, 9, none⟩ (.int .u64 (pn2 : Int)) X8_0_0.out).other ⟨B8, 10, none⟩ (.int .i64 (lv2 : Int)) X8_0_0.out).other ⟨B8, 11, none⟩ (.int .u64 (pl2 : Int)) X8_0_0.out))
        have K9_1 := Lib.hid (show Blk W9 B1 [.bool false, .bool false, .bool false, .bool false, .bool false, .bool false, .bool false, .bool false, .int .i64 0, .int .u64 0, .int .i64 0, .int .u64 0] 41 from hW ▸ ((((((((((((K8_1.out.other ⟨B8, 0, none⟩ (.bool v2) X8_1_0.out).other ⟨B8, 1, none⟩ (.bool r2) X8_1_0.out).other ⟨B8, 2, none⟩ (.bool y2) X8_1_0.out).other ⟨B8, 3, none⟩ (.bool x2) X8_1_0.out).other ⟨B8, 4, none⟩ (.bool u2) X8_1_0.out).other ⟨B8, 5, none⟩ (.bool g2) X8_1_0.out).other ⟨B8, 6, none⟩ (.bool a2) X8_1_0.out).other ⟨B8, 7, none⟩ (.bool d2) X8_1_0.out).other ⟨B8, 8, none⟩ (.int .i64 rsw2) X8_1_0.out).other ⟨B8, 9, none⟩ (.int .u64 (pn2 : Int)) X8_1_0.out).other ⟨B8, 10, none⟩ (.int .i64 (lv2 : Int)) X8_1_0.out).other ⟨B8, 11, none⟩ (.int .u64 (pl2 : Int)) X8_1_0.out))
        have K9_2 := Lib.hid (show Blk W9 B4 [.bool v, .bool r, .bool x1, .bool x, .bool u, .bool g9, .bool a, .bool d, .int .i64 rsw, .int .u64 (pn : Int), .int .i64 (lv : Int), .int .u64 (pl : Int)] 41 from hW ▸ ((((((((((((K8_2.out.other ⟨B8, 0, none⟩ (.bool v2) X8_2_0.out).other ⟨B8, 1, none⟩ (.bool r2) X8_2_0.out).other ⟨B8, 2, none⟩ (.bool y2) X8_2_0.out).other ⟨B8, 3, none⟩ (.bool x2) X8_2_0.out).other ⟨B8, 4, none⟩ (.bool u2) X8_2_0.out).other ⟨B8, 5, none⟩ (.bool g2) X8_2_0.out).other ⟨B8, 6, none⟩ (.bool a2) X8_2_0.out).other ⟨B8, 7, none⟩ (.bool d2) X8_2_0.out).other ⟨B8, 8, none⟩ (.int .i64 rsw2) X8_2_0.out).other ⟨B8, 9, none⟩ (.int .u64 (pn2 : Int)) X8_2_0.out).other ⟨B8, 10, none⟩ (.int .i64 (lv2 : Int)) X8_2_0.out).other ⟨B8, 11, none⟩ (.int .u64 (pl2 : Int)) X8_2_0.out))
        have K9_3 := Lib.hid (show Blk W9 B8 [.bool v2, .bool r2, .bool y2, .bool x2, .bool u2, .bool g2, .bool a2, .bool d2, .int .i64 rsw2, .int .u64 (pn2 : Int), .int .i64 (lv2 : Int), .int .u64 (pl2 : Int)] 41 from hW ▸ ((((((((((((K8_3.out.set 0 (.bool v2)).set 1 (.bool r2)).set 2 (.bool y2)).set 3 (.bool x2)).set 4 (.bool u2)).set 5 (.bool g2)).set 6 (.bool a2)).set 7 (.bool d2)).set 8 (.int .i64 rsw2)).set 9 (.int .u64 (pn2 : Int))).set 10 (.int .i64 (lv2 : Int))).set 11 (.int .u64 (pl2 : Int))))
        have L9 := Lib.hid (show Below w.heap.size w W9 from hW ▸ (Below.setCell (Below.setCell (Below.setCell (Below.setCell (Below.setCell (Below.setCell (Below.setCell (Below.setCell (Below.setCell (Below.setCell (Below.setCell (Below.setCell L8.out G8.out _) G8.out _) G8.out _) G8.out _) G8.out _) G8.out _) G8.out _) G8.out _) G8.out _) G8.out _) G8.out _) G8.out _))
        clear hW K8_0 K8_1 K8_2 K8_3
        refine hK.out _ _ K9_0.out (fun hS14 => ?_)
        clear hK K
        refine wpAnyH_take (i := 15) (v := ?_) rfl (by kernel_rfl) (by kernel_rfl) (by kernel_rfl) (fun _ _ _ h => h) (Or.inl ⟨by rfl, ?yldq⟩) (by assumption) ?_
        case yldq => (intro w hSw; (try dsimp only at hSw); go_simp; try with_reducible rfl)
        try simp only [Act.put, List.setIfInBounds_toArray, List.set_cons_zero, List.set_cons_succ, List.getElem_toArray, List.getElem_cons_succ, List.getElem_cons_zero]
        refine wpAnyH_done (by kernel_rfl) ?_ _
        by_cases her : er = 0
        · subst her
          go_upto_region 7 with (fail)
          refine wp_region_held_drew (S := fun w' => Blk w' up [.pointer (some ⟨mp, 0, none⟩), .pointer (some ⟨bp, 0, none⟩), .bool on, .int .i64 asid, .int .u64 (root : Int), .bool us, .bool sm, .bool mx] 145 ∧ Blk w' B8 [.bool v2, .bool r2, .bool y2, .bool x2, .bool u2, .bool g2, .bool a2, .bool d2, .int .i64 rsw2, .int .u64 (pn2 : Int), .int .i64 (lv2 : Int), .int .u64 (pl2 : Int)] 41) (by kernel_rfl) ⟨K9_0.out, K9_3.out⟩ (fun hHeld => ?_)
          simp only [List.size_toArray, List.length_cons, List.length_nil, Nat.reduceAdd]
          rw [show Array.replicate 13 false = [false, false, false, false, false, false, false, false, false, false, false, false, false].toArray from rfl]
          refine wpAnyH_take (i := 0) (v := ?_) rfl (by kernel_rfl) (by kernel_rfl) (by kernel_rfl) (fun _ _ _ h => h) (Or.inl ⟨by rfl, ?yldq⟩) (by assumption) ?_
          case yldq => (intro w hSw; (try dsimp only at hSw); go_simp; try with_reducible rfl)
          try simp only [Act.put, List.setIfInBounds_toArray, List.set_cons_zero, List.set_cons_succ, List.getElem_toArray, List.getElem_cons_succ, List.getElem_cons_zero]
          refine wpAnyH_take (i := 1) (v := ?_) rfl (by kernel_rfl) (by kernel_rfl) (by kernel_rfl) (fun _ _ _ h => h) (Or.inl ⟨by rfl, ?yldq⟩) (by assumption) ?_
          case yldq => (intro w hSw; (try dsimp only at hSw); go_simp; try with_reducible rfl)
          try simp only [Act.put, List.setIfInBounds_toArray, List.set_cons_zero, List.set_cons_succ, List.getElem_toArray, List.getElem_cons_succ, List.getElem_cons_zero]
          refine wpAnyH_take (i := 2) (v := ?_) rfl (by kernel_rfl) (by kernel_rfl) (by kernel_rfl) (fun _ _ _ h => h) (Or.inl ⟨by rfl, ?yldq⟩) (by assumption) ?_
          case yldq => (intro w hSw; (try dsimp only at hSw); go_simp; try with_reducible rfl)
          try simp only [Act.put, List.setIfInBounds_toArray, List.set_cons_zero, List.set_cons_succ, List.getElem_toArray, List.getElem_cons_succ, List.getElem_cons_zero]
          refine wpAnyH_take (i := 3) (v := _) rfl (by kernel_rfl) (by kernel_rfl) (by kernel_rfl) (fun _ _ _ h => h) (Or.inl ⟨by rfl, fun w hSw => yield_un1 _ _ _ rfl rfl hSw.1⟩) (by assumption) ?_
          try simp only [Act.put, List.setIfInBounds_toArray, List.set_cons_zero, List.set_cons_succ, List.getElem_toArray, List.getElem_cons_succ, List.getElem_cons_zero]
          refine wpAnyH_take (i := 4) (v := ?_) rfl (by kernel_rfl) (by kernel_rfl) (by kernel_rfl) (fun _ _ _ h => h) (Or.inl ⟨by rfl, ?yldq⟩) (by assumption) ?_
          case yldq => (intro w hSw; (try dsimp only at hSw); go_simp; try with_reducible rfl)
          try simp only [Act.put, List.setIfInBounds_toArray, List.set_cons_zero, List.set_cons_succ, List.getElem_toArray, List.getElem_cons_succ, List.getElem_cons_zero]
          refine wpAnyH_take (i := 5) (v := ?_) rfl (by kernel_rfl) (by kernel_rfl) (by kernel_rfl) (fun _ _ _ h => h) (Or.inl ⟨by rfl, ?yldq⟩) (by assumption) ?_
          case yldq => (intro w hSw; (try dsimp only at hSw); go_simp; try with_reducible rfl)
          try simp only [Act.put, List.setIfInBounds_toArray, List.set_cons_zero, List.set_cons_succ, List.getElem_toArray, List.getElem_cons_succ, List.getElem_cons_zero]
          refine wpAnyH_take (i := 6) (v := ?_) rfl (by kernel_rfl) (by kernel_rfl) (by kernel_rfl) (fun _ _ _ h => h) (Or.inl ⟨by rfl, ?yldq⟩) (by assumption) ?_
          case yldq => (intro w hSw; (try dsimp only at hSw); go_simp; try with_reducible rfl)
          try simp only [Act.put, List.setIfInBounds_toArray, List.set_cons_zero, List.set_cons_succ, List.getElem_toArray, List.getElem_cons_succ, List.getElem_cons_zero]
          refine wpAnyH_take (i := 7) (v := ?_) rfl (by kernel_rfl) (by kernel_rfl) (by kernel_rfl) (fun _ _ _ h => h) (Or.inl ⟨by rfl, ?yldq⟩) (by assumption) ?_
          case yldq => (intro w hSw; (try dsimp only at hSw); go_simp; try with_reducible rfl)
          try simp only [Act.put, List.setIfInBounds_toArray, List.set_cons_zero, List.set_cons_succ, List.getElem_toArray, List.getElem_cons_succ, List.getElem_cons_zero]
          refine wpAnyH_take (i := 8) (v := ?_) rfl (by kernel_rfl) (by kernel_rfl) (by kernel_rfl) (fun _ _ _ h => h) (Or.inl ⟨by rfl, ?yldq⟩) (by assumption) ?_
          case yldq => (intro w hSw; (try dsimp only at hSw); go_simp; try with_reducible rfl)
          try simp only [Act.put, List.setIfInBounds_toArray, List.set_cons_zero, List.set_cons_succ, List.getElem_toArray, List.getElem_cons_succ, List.getElem_cons_zero]
          refine wpAnyH_take (i := 9) (v := _) rfl (by kernel_rfl) (by kernel_rfl) (by kernel_rfl) (fun _ _ _ h => h) (Or.inl ⟨by rfl, fun w hSw => yield_unasid _ _ _ rfl rfl hSw.1⟩) (by assumption) ?_
          try simp only [Act.put, List.setIfInBounds_toArray, List.set_cons_zero, List.set_cons_succ, List.getElem_toArray, List.getElem_cons_succ, List.getElem_cons_zero]
          refine wpAnyH_take (i := 10) (v := _) rfl (by kernel_rfl) (by kernel_rfl) (by kernel_rfl) (fun _ _ _ h => h) (Or.inl ⟨by rfl, fun w hSw => yield_leaf _ _ _ rfl rfl hSw.2⟩) (by assumption) ?_
          try simp only [Act.put, List.setIfInBounds_toArray, List.set_cons_zero, List.set_cons_succ, List.getElem_toArray, List.getElem_cons_succ, List.getElem_cons_zero]
          refine wpAnyH_take (i := 11) (v := ?_) rfl (by kernel_rfl) (by kernel_rfl) (by kernel_rfl) (fun _ _ _ h => h) (Or.inl ⟨by rfl, ?yldq⟩) (by assumption) ?_
          case yldq => (intro w hSw; (try dsimp only at hSw); go_simp; try with_reducible rfl)
          try simp only [Act.put, List.setIfInBounds_toArray, List.set_cons_zero, List.set_cons_succ, List.getElem_toArray, List.getElem_cons_succ, List.getElem_cons_zero]
          refine wpAnyH_ready (rs := [12]) (by kernel_rfl) (by simp) ?_
          refine AllReadyH.cons rfl (fun K hK => ?_) AllReadyH.nil
          go_simp
          refine (H3.out _ (L9.out.drew)).mono ?_
          rintro e w10 ⟨rfl, hb, hc⟩
          have hnf : ∀ j, w.heap.size ≤ j → ¬ FpT bp q g N j := fun j hj h => by have := HLT.out j h; omega
          have K0 := Lib.hid ((Blk.drewN K9_0.out 1).chg hc HM.out.ub); have K1 := Lib.hid ((Blk.drewN K9_1.out 1).chg hc (hnf _ G1.out)); have K4 := Lib.hid ((Blk.drewN K9_3.out 1).chg hc (hnf _ G8.out))
          have HBF := Lib.hid hb; have HCH := Lib.hid ((Chg.of_below (F := FpT bp q g N) (L9.out.drew)).trans hc); have HNF := Lib.hid hnf
          clear hb hc hnf hHeld
          refine hK.out _ _ ⟨K0.out, K4.out⟩ (fun hS12 => ?_)
          clear hK K hS12
          refine wpAnyH_done (by kernel_rfl) ?_ _
          have m0_0 := K1.out.c0
          have m0_1 := K1.out.c1
          have m0_2 := K1.out.c2
          have m0_3 := K1.out.c3
          have m0_4 := K1.out.c4
          have m0_5 := K1.out.c5
          have m0_6 := K1.out.c6
          have m0_7 := K1.out.c7
          have m0_8 := K1.out.c8
          have m0_9 := K1.out.c9
          have m0_10 := K1.out.c10
          have m0_11 := K1.out.c11
          have mlt0 : B1 < w10.heap.size := K1.out.lt
          have m1_0 := K4.out.c0
          have m1_1 := K4.out.c1
          have m1_2 := K4.out.c2
          have m1_3 := K4.out.c3
          have m1_4 := K4.out.c4
          have m1_5 := K4.out.c5
          have m1_6 := K4.out.c6
          have m1_7 := K4.out.c7
          have m1_8 := K4.out.c8
          have m1_9 := K4.out.c9
          have m1_10 := K4.out.c10
          have m1_11 := K4.out.c11
          have mlt1 : B8 < w10.heap.size := K4.out.lt
          have mf0 : ∀ o, w10.frozen? ⟨B1, o, none⟩ = false := fun o => K1.out.free o
          go_wp2
          clear m0_0 m0_1 m0_2 m0_3 m0_4 m0_5 m0_6 m0_7 m0_8 m0_9 m0_10 m0_11 mlt0 m1_0 m1_1 m1_2 m1_3 m1_4 m1_5 m1_6 m1_7 m1_8 m1_9 m1_10 m1_11 mlt1 mf0
          obtain ⟨W11, hW11⟩ : ∃ WX, WX = ((((((((((((w10.setCell ⟨B1, 0, none⟩ (.bool v2)).setCell ⟨B1, 1, none⟩ (.bool r2)).setCell ⟨B1, 2, none⟩ (.bool y2)).setCell ⟨B1, 3, none⟩ (.bool x2)).setCell ⟨B1, 4, none⟩ (.bool u2)).setCell ⟨B1, 5, none⟩ (.bool g2)).setCell ⟨B1, 6, none⟩ (.bool a2)).setCell ⟨B1, 7, none⟩ (.bool d2)).setCell ⟨B1, 8, none⟩ (.int .i64 rsw2)).setCell ⟨B1, 9, none⟩ (.int .u64 (pn2 : Int))).setCell ⟨B1, 10, none⟩ (.int .i64 (lv2 : Int))).setCell ⟨B1, 11, none⟩ (.int .u64 (pl2 : Int))) := ⟨_, rfl⟩
          rw [← hW11]
          have ka : Blk W11 B1 [.bool v2, .bool r2, .bool y2, .bool x2, .bool u2, .bool g2, .bool a2, .bool d2, .int .i64 rsw2, .int .u64 (pn2 : Int), .int .i64 (lv2 : Int), .int .u64 (pl2 : Int)] 41 := hW11 ▸ ((((((((((((K1.out.set 0 (.bool v2)).set 1 (.bool r2)).set 2 (.bool y2)).set 3 (.bool x2)).set 4 (.bool u2)).set 5 (.bool g2)).set 6 (.bool a2)).set 7 (.bool d2)).set 8 (.int .i64 rsw2)).set 9 (.int .u64 (pn2 : Int))).set 10 (.int .i64 (lv2 : Int))).set 11 (.int .u64 (pl2 : Int)))
          have kc : Chg (fun k => k = B1) w10 W11 := hW11 ▸ (((((((((((((Chg.refl (fun k => k = B1) w10).setc ⟨B1, 0, none⟩ (.bool v2) (.inl rfl)).setc ⟨B1, 1, none⟩ (.bool r2) (.inl rfl)).setc ⟨B1, 2, none⟩ (.bool y2) (.inl rfl)).setc ⟨B1, 3, none⟩ (.bool x2) (.inl rfl)).setc ⟨B1, 4, none⟩ (.bool u2) (.inl rfl)).setc ⟨B1, 5, none⟩ (.bool g2) (.inl rfl)).setc ⟨B1, 6, none⟩ (.bool a2) (.inl rfl)).setc ⟨B1, 7, none⟩ (.bool d2) (.inl rfl)).setc ⟨B1, 8, none⟩ (.int .i64 rsw2) (.inl rfl)).setc ⟨B1, 9, none⟩ (.int .u64 (pn2 : Int)) (.inl rfl)).setc ⟨B1, 10, none⟩ (.int .i64 (lv2 : Int)) (.inl rfl)).setc ⟨B1, 11, none⟩ (.int .u64 (pl2 : Int)) (.inl rfl))
          clear hW11
          have HB11 := Lib.hid (HBF.out.chg kc (fun k hk e => HNF.out _ G1.out (by have e : k = B1 := e; rw [← e]; exact hk)))
          have HC11 := Lib.hid (HCH.out.thenExt kc (fun j hj => .inr (by have hj : j = B1 := hj; have := G1.out; omega)))
          have KA := Lib.hid ka
          clear ka kc
          have rr0 := KA.out.c0
          have rr1 := KA.out.c1
          have rr2 := KA.out.c2
          have rr3 := KA.out.c3
          have rr4 := KA.out.c4
          have rr5 := KA.out.c5
          have rr6 := KA.out.c6
          have rr7 := KA.out.c7
          have rr8 := KA.out.c8
          have rr9 := KA.out.c9
          have rr10 := KA.out.c10
          have rr11 := KA.out.c11
          refine bodyPost_ret (v := .tuple #[.agg #[.bool v2, .bool r2, .bool y2, .bool x2, .bool u2, .bool g2, .bool a2, .bool d2, .int .i64 rsw2, .int .u64 (pn2 : Int), .int .i64 (lv2 : Int), .int .u64 (pl2 : Int)], .int .i64 0]) (by simp [results, Tryz.results114, go_sem, rr0, rr1, rr2, rr3, rr4, rr5, rr6, rr7, rr8, rr9, rr10, rr11]) rfl ⟨rfl, HB11.out, HC11.out⟩
        · have her2 : ((er : Int) != 0) = true := by simp; omega
          have m1_0 := K9_1.out.c0
          have m1_1 := K9_1.out.c1
          have m1_2 := K9_1.out.c2
          have m1_3 := K9_1.out.c3
          have m1_4 := K9_1.out.c4
          have m1_5 := K9_1.out.c5
          have m1_6 := K9_1.out.c6
          have m1_7 := K9_1.out.c7
          have m1_8 := K9_1.out.c8
          have m1_9 := K9_1.out.c9
          have m1_10 := K9_1.out.c10
          have m1_11 := K9_1.out.c11
          have mlt1 : B1 < W9.heap.size := K9_1.out.lt
          have mf1 : ∀ o, W9.frozen? ⟨B1, o, none⟩ = false := fun o => K9_1.out.free o
          go_wp2
          clear m1_0 m1_1 m1_2 m1_3 m1_4 m1_5 m1_6 m1_7 m1_8 m1_9 m1_10 m1_11 mlt1 mf1
          obtain ⟨W10, hW⟩ : ∃ WX, WX = ((((((((((((W9.setCell ⟨B1, 0, none⟩ (.bool false)).setCell ⟨B1, 1, none⟩ (.bool false)).setCell ⟨B1, 2, none⟩ (.bool false)).setCell ⟨B1, 3, none⟩ (.bool false)).setCell ⟨B1, 4, none⟩ (.bool false)).setCell ⟨B1, 5, none⟩ (.bool false)).setCell ⟨B1, 6, none⟩ (.bool false)).setCell ⟨B1, 7, none⟩ (.bool false)).setCell ⟨B1, 8, none⟩ (.int .i64 0)).setCell ⟨B1, 9, none⟩ (.int .u64 0)).setCell ⟨B1, 10, none⟩ (.int .i64 0)).setCell ⟨B1, 11, none⟩ (.int .u64 0)) := ⟨_, rfl⟩
          rw [← hW]
          have K10_0 := Lib.hid (show Blk W10 up [.pointer (some ⟨mp, 0, none⟩), .pointer (some ⟨bp, 0, none⟩), .bool on, .int .i64 asid, .int .u64 (root : Int), .bool us, .bool sm, .bool mx] 145 from hW ▸ ((((((((((((K9_0.out.other ⟨B1, 0, none⟩ (.bool false) X1_0_0.out).other ⟨B1, 1, none⟩ (.bool false) X1_0_0.out).other ⟨B1, 2, none⟩ (.bool false) X1_0_0.out).other ⟨B1, 3, none⟩ (.bool false) X1_0_0.out).other ⟨B1, 4, none⟩ (.bool false) X1_0_0.out).other ⟨B1, 5, none⟩ (.bool false) X1_0_0.out).other ⟨B1, 6, none⟩ (.bool false) X1_0_0.out).other ⟨B1, 7, none⟩ (.bool false) X1_0_0.out).other ⟨B1, 8, none⟩ (.int .i64 0) X1_0_0.out).other ⟨B1, 9, none⟩ (.int .u64 0) X1_0_0.out).other ⟨B1, 10, none⟩ (.int .i64 0) X1_0_0.out).other ⟨B1, 11, none⟩ (.int .u64 0) X1_0_0.out))
          have K10_1 := Lib.hid (show Blk W10 B1 [.bool false, .bool false, .bool false, .bool false, .bool false, .bool false, .bool false, .bool false, .int .i64 0, .int .u64 0, .int .i64 0, .int .u64 0] 41 from hW ▸ ((((((((((((K9_1.out.set 0 (.bool false)).set 1 (.bool false)).set 2 (.bool false)).set 3 (.bool false)).set 4 (.bool false)).set 5 (.bool false)).set 6 (.bool false)).set 7 (.bool false)).set 8 (.int .i64 0)).set 9 (.int .u64 0)).set 10 (.int .i64 0)).set 11 (.int .u64 0)))
          have K10_2 := Lib.hid (show Blk W10 B4 [.bool v, .bool r, .bool x1, .bool x, .bool u, .bool g9, .bool a, .bool d, .int .i64 rsw, .int .u64 (pn : Int), .int .i64 (lv : Int), .int .u64 (pl : Int)] 41 from hW ▸ ((((((((((((K9_2.out.other ⟨B1, 0, none⟩ (.bool false) (Ne.symm X4_1_0.out)).other ⟨B1, 1, none⟩ (.bool false) (Ne.symm X4_1_0.out)).other ⟨B1, 2, none⟩ (.bool false) (Ne.symm X4_1_0.out)).other ⟨B1, 3, none⟩ (.bool false) (Ne.symm X4_1_0.out)).other ⟨B1, 4, none⟩ (.bool false) (Ne.symm X4_1_0.out)).other ⟨B1, 5, none⟩ (.bool false) (Ne.symm X4_1_0.out)).other ⟨B1, 6, none⟩ (.bool false) (Ne.symm X4_1_0.out)).other ⟨B1, 7, none⟩ (.bool false) (Ne.symm X4_1_0.out)).other ⟨B1, 8, none⟩ (.int .i64 0) (Ne.symm X4_1_0.out)).other ⟨B1, 9, none⟩ (.int .u64 0) (Ne.symm X4_1_0.out)).other ⟨B1, 10, none⟩ (.int .i64 0) (Ne.symm X4_1_0.out)).other ⟨B1, 11, none⟩ (.int .u64 0) (Ne.symm X4_1_0.out)))
          have K10_3 := Lib.hid (show Blk W10 B8 [.bool v2, .bool r2, .bool y2, .bool x2, .bool u2, .bool g2, .bool a2, .bool d2, .int .i64 rsw2, .int .u64 (pn2 : Int), .int .i64 (lv2 : Int), .int .u64 (pl2 : Int)] 41 from hW ▸ ((((((((((((K9_3.out.other ⟨B1, 0, none⟩ (.bool false) (Ne.symm X8_1_0.out)).other ⟨B1, 1, none⟩ (.bool false) (Ne.symm X8_1_0.out)).other ⟨B1, 2, none⟩ (.bool false) (Ne.symm X8_1_0.out)).other ⟨B1, 3, none⟩ (.bool false) (Ne.symm X8_1_0.out)).other ⟨B1, 4, none⟩ (.bool false) (Ne.symm X8_1_0.out)).other ⟨B1, 5, none⟩ (.bool false) (Ne.symm X8_1_0.out)).other ⟨B1, 6, none⟩ (.bool false) (Ne.symm X8_1_0.out)).other ⟨B1, 7, none⟩ (.bool false) (Ne.symm X8_1_0.out)).other ⟨B1, 8, none⟩ (.int .i64 0) (Ne.symm X8_1_0.out)).other ⟨B1, 9, none⟩ (.int .u64 0) (Ne.symm X8_1_0.out)).other ⟨B1, 10, none⟩ (.int .i64 0) (Ne.symm X8_1_0.out)).other ⟨B1, 11, none⟩ (.int .u64 0) (Ne.symm X8_1_0.out)))
          have L10 := Lib.hid (show Below w.heap.size w W10 from hW ▸ (Below.setCell (Below.setCell (Below.setCell (Below.setCell (Below.setCell (Below.setCell (Below.setCell (Below.setCell (Below.setCell (Below.setCell (Below.setCell (Below.setCell L9.out G1.out _) G1.out _) G1.out _) G1.out _) G1.out _) G1.out _) G1.out _) G1.out _) G1.out _) G1.out _) G1.out _) G1.out _))
          clear hW K9_0 K9_1 K9_2 K9_3
          have rr0 := K10_1.out.c0
          have rr1 := K10_1.out.c1
          have rr2 := K10_1.out.c2
          have rr3 := K10_1.out.c3
          have rr4 := K10_1.out.c4
          have rr5 := K10_1.out.c5
          have rr6 := K10_1.out.c6
          have rr7 := K10_1.out.c7
          have rr8 := K10_1.out.c8
          have rr9 := K10_1.out.c9
          have rr10 := K10_1.out.c10
          have rr11 := K10_1.out.c11
          refine bodyPost_ret (v := .tuple #[.agg #[.bool false, .bool false, .bool false, .bool false, .bool false, .bool false, .bool false, .bool false, .int .i64 0, .int .u64 0, .int .i64 0, .int .u64 0], .int .i64 (er : Nat)]) (by simp [results, Tryz.results114, go_sem, rr0, rr1, rr2, rr3, rr4, rr5, rr6, rr7, rr8, rr9, rr10, rr11]) rfl (by first | exact ⟨rfl, H0.out.below L10.out, Chg.of_below L10.out⟩ | (rw [if_neg her]; exact ⟨rfl, H0.out.below L10.out, Chg.of_below L10.out⟩))
      · go_simp
        have nb0 := Blk.new D6 [.bool false, .bool false, .bool false, .bool false, .bool false, .bool false, .bool false, .bool false, .int .i64 0, .int .u64 0, .int .i64 0, .int .u64 0] 41
        have nls : Below w.heap.size w D6 := L6.out
        have nl0 := nls.alloc nls.size (.cells #[.bool false, .bool false, .bool false, .bool false, .bool false, .bool false, .bool false, .bool false, .int .i64 0, .int .u64 0, .int .i64 0, .int .u64 0] 41)
        have nl : Below w.heap.size w (D6.alloc (.cells #[.bool false, .bool false, .bool false, .bool false, .bool false, .bool false, .bool false, .bool false, .int .i64 0, .int .u64 0, .int .i64 0, .int .u64 0] 41)) := nl0; clear nls nl0
        have o0 := (K6_0.out.alloc (.cells #[.bool false, .bool false, .bool false, .bool false, .bool false, .bool false, .bool false, .bool false, .int .i64 0, .int .u64 0, .int .i64 0, .int .u64 0] 41))
        have d11_0 : up < D6.heap.size := K6_0.out.lt
        have o1 := (K6_1.out.alloc (.cells #[.bool false, .bool false, .bool false, .bool false, .bool false, .bool false, .bool false, .bool false, .int .i64 0, .int .u64 0, .int .i64 0, .int .u64 0] 41))
        have d11_1 : B1 < D6.heap.size := K6_1.out.lt
        have o2 := (K6_2.out.alloc (.cells #[.bool false, .bool false, .bool false, .bool false, .bool false, .bool false, .bool false, .bool false, .int .i64 0, .int .u64 0, .int .i64 0, .int .u64 0] 41))
        have d11_2 : B4 < D6.heap.size := K6_2.out.lt
        obtain ⟨B11, hB0⟩ : ∃ B, B = D6.heap.size := ⟨_, rfl⟩
        obtain ⟨W11, hW⟩ : ∃ W, W = (D6.alloc (.cells #[.bool false, .bool false, .bool false, .bool false, .bool false, .bool false, .bool false, .bool false, .int .i64 0, .int .u64 0, .int .i64 0, .int .u64 0] 41)) := ⟨_, rfl⟩
        rw [← hW] at nl nb0 o0 o1 o2
        rw [← hB0] at nb0
        rw [← hW]
        try rw [← hB0]
        have K11_0 := Lib.hid o0
        have K11_1 := Lib.hid o1
        have K11_2 := Lib.hid o2
        have K11_3 := Lib.hid nb0
        have G11 : Hid (w.heap.size ≤ B11) := Lib.hid (by have := L6.out.size; omega)
        have x11_0_0 : up ≠ B11 := by omega
        have x11_1_0 : B1 ≠ B11 := by omega
        have x11_2_0 : B4 ≠ B11 := by omega
        have X11_0_0 := Lib.hid x11_0_0; clear x11_0_0
        have X11_1_0 := Lib.hid x11_1_0; clear x11_1_0
        have X11_2_0 := Lib.hid x11_2_0; clear x11_2_0
        have L11 := Lib.hid nl
        clear nl hW nb0 hB0 o0 d11_0 o1 d11_1 o2 d11_2 K6_0 K6_1 K6_2
        refine hK.out _ _ K11_0.out (fun hS13 => ?_)
        clear hK K
        refine wpAnyH_ready (rs := [9]) (by kernel_rfl) (by simp) ?_
        refine AllReadyH.cons rfl (fun K hK => ?_) AllReadyH.nil
        go_simp
        refine (H2.out _ L11.out).mono ?_
        rintro e w12 ⟨rfl, hb⟩
        have L12 := Lib.hid (L11.out.trans (hb.mono L11.out.size))
        have K12_0 := Lib.hid (K11_0.out.below hb K11_0.out.lt)
        have K12_1 := Lib.hid (K11_1.out.below hb K11_1.out.lt)
        have K12_2 := Lib.hid (K11_2.out.below hb K11_2.out.lt)
        have K12_3 := Lib.hid (K11_3.out.below hb K11_3.out.lt)
        clear hb K11_0 K11_1 K11_2 K11_3
        refine hK.out _ _ K12_0.out (fun hS9 => ?_)
        clear hK K
        refine wpAnyH_take (i := 10) (v := ?_) rfl (by kernel_rfl) (by kernel_rfl) (by kernel_rfl) (fun _ _ _ h => h) (Or.inl ⟨by rfl, ?yldq⟩) (by assumption) ?_
        case yldq => (intro w hSw; (try dsimp only at hSw); go_simp; try with_reducible rfl)
        try simp only [Act.put, List.setIfInBounds_toArray, List.set_cons_zero, List.set_cons_succ, List.getElem_toArray, List.getElem_cons_succ, List.getElem_cons_zero]
        refine wpAnyH_take (i := 11) (v := ?_) rfl (by kernel_rfl) (by kernel_rfl) (by kernel_rfl) (fun _ _ _ h => h) (Or.inl ⟨by rfl, ?yldq⟩) (by assumption) ?_
        case yldq => (intro w hSw; (try dsimp only at hSw); go_simp; try with_reducible rfl)
        try simp only [Act.put, List.setIfInBounds_toArray, List.set_cons_zero, List.set_cons_succ, List.getElem_toArray, List.getElem_cons_succ, List.getElem_cons_zero]
        refine wpAnyH_take (i := 12) (v := ?_) rfl (by kernel_rfl) (by kernel_rfl) (by kernel_rfl) (fun _ _ _ h => h) (Or.inl ⟨by rfl, ?yldq⟩) (by assumption) ?_
        case yldq => (intro w hSw; (try dsimp only at hSw); go_simp; try with_reducible rfl)
        try simp only [Act.put, List.setIfInBounds_toArray, List.set_cons_zero, List.set_cons_succ, List.getElem_toArray, List.getElem_cons_succ, List.getElem_cons_zero]
        refine wpAnyH_ready (rs := [14]) (by kernel_rfl) (by simp) ?_
        refine AllReadyH.cons rfl (fun K hK => ?_) AllReadyH.nil
        have m3_0 := K12_3.out.c0
        have m3_1 := K12_3.out.c1
        have m3_2 := K12_3.out.c2
        have m3_3 := K12_3.out.c3
        have m3_4 := K12_3.out.c4
        have m3_5 := K12_3.out.c5
        have m3_6 := K12_3.out.c6
        have m3_7 := K12_3.out.c7
        have m3_8 := K12_3.out.c8
        have m3_9 := K12_3.out.c9
        have m3_10 := K12_3.out.c10
        have m3_11 := K12_3.out.c11
        have mlt3 : B11 < w12.heap.size := K12_3.out.lt
        have mf3 : ∀ o, w12.frozen? ⟨B11, o, none⟩ = false := fun o => K12_3.out.free o
        go_simp
        clear m3_0 m3_1 m3_2 m3_3 m3_4 m3_5 m3_6 m3_7 m3_8 m3_9 m3_10 m3_11 mlt3 mf3
        obtain ⟨W13, hW⟩ : ∃ WX, WX = ((((((((((((w12.setCell ⟨B11, 0, none⟩ (.bool v2)).setCell ⟨B11, 1, none⟩ (.bool r2)).setCell ⟨B11, 2, none⟩ (.bool y2)).setCell ⟨B11, 3, none⟩ (.bool x2)).setCell ⟨B11, 4, none⟩ (.bool u2)).setCell ⟨B11, 5, none⟩ (.bool g2)).setCell ⟨B11, 6, none⟩ (.bool a2)).setCell ⟨B11, 7, none⟩ (.bool d2)).setCell ⟨B11, 8, none⟩ (.int .i64 rsw2)).setCell ⟨B11, 9, none⟩ (.int .u64 (pn2 : Int))).setCell ⟨B11, 10, none⟩ (.int .i64 (lv2 : Int))).setCell ⟨B11, 11, none⟩ (.int .u64 (pl2 : Int))) := ⟨_, rfl⟩
        rw [← hW]
        have K13_0 := Lib.hid (show Blk W13 up [.pointer (some ⟨mp, 0, none⟩), .pointer (some ⟨bp, 0, none⟩), .bool on, .int .i64 asid, .int .u64 (root : Int), .bool us, .bool sm, .bool mx] 145 from hW ▸ ((((((((((((K12_0.out.other ⟨B11, 0, none⟩ (.bool v2) X11_0_0.out).other ⟨B11, 1, none⟩ (.bool r2) X11_0_0.out).other ⟨B11, 2, none⟩ (.bool y2) X11_0_0.out).other ⟨B11, 3, none⟩ (.bool x2) X11_0_0.out).other ⟨B11, 4, none⟩ (.bool u2) X11_0_0.out).other ⟨B11, 5, none⟩ (.bool g2) X11_0_0.out).other ⟨B11, 6, none⟩ (.bool a2) X11_0_0.out).other ⟨B11, 7, none⟩ (.bool d2) X11_0_0.out).other ⟨B11, 8, none⟩ (.int .i64 rsw2) X11_0_0.out).other ⟨B11, 9, none⟩ (.int .u64 (pn2 : Int)) X11_0_0.out).other ⟨B11, 10, none⟩ (.int .i64 (lv2 : Int)) X11_0_0.out).other ⟨B11, 11, none⟩ (.int .u64 (pl2 : Int)) X11_0_0.out))
        have K13_1 := Lib.hid (show Blk W13 B1 [.bool false, .bool false, .bool false, .bool false, .bool false, .bool false, .bool false, .bool false, .int .i64 0, .int .u64 0, .int .i64 0, .int .u64 0] 41 from hW ▸ ((((((((((((K12_1.out.other ⟨B11, 0, none⟩ (.bool v2) X11_1_0.out).other ⟨B11, 1, none⟩ (.bool r2) X11_1_0.out).other ⟨B11, 2, none⟩ (.bool y2) X11_1_0.out).other ⟨B11, 3, none⟩ (.bool x2) X11_1_0.out).other ⟨B11, 4, none⟩ (.bool u2) X11_1_0.out).other ⟨B11, 5, none⟩ (.bool g2) X11_1_0.out).other ⟨B11, 6, none⟩ (.bool a2) X11_1_0.out).other ⟨B11, 7, none⟩ (.bool d2) X11_1_0.out).other ⟨B11, 8, none⟩ (.int .i64 rsw2) X11_1_0.out).other ⟨B11, 9, none⟩ (.int .u64 (pn2 : Int)) X11_1_0.out).other ⟨B11, 10, none⟩ (.int .i64 (lv2 : Int)) X11_1_0.out).other ⟨B11, 11, none⟩ (.int .u64 (pl2 : Int)) X11_1_0.out))
        have K13_2 := Lib.hid (show Blk W13 B4 [.bool v, .bool r, .bool x1, .bool x, .bool u, .bool g9, .bool a, .bool d, .int .i64 rsw, .int .u64 (pn : Int), .int .i64 (lv : Int), .int .u64 (pl : Int)] 41 from hW ▸ ((((((((((((K12_2.out.other ⟨B11, 0, none⟩ (.bool v2) X11_2_0.out).other ⟨B11, 1, none⟩ (.bool r2) X11_2_0.out).other ⟨B11, 2, none⟩ (.bool y2) X11_2_0.out).other ⟨B11, 3, none⟩ (.bool x2) X11_2_0.out).other ⟨B11, 4, none⟩ (.bool u2) X11_2_0.out).other ⟨B11, 5, none⟩ (.bool g2) X11_2_0.out).other ⟨B11, 6, none⟩ (.bool a2) X11_2_0.out).other ⟨B11, 7, none⟩ (.bool d2) X11_2_0.out).other ⟨B11, 8, none⟩ (.int .i64 rsw2) X11_2_0.out).other ⟨B11, 9, none⟩ (.int .u64 (pn2 : Int)) X11_2_0.out).other ⟨B11, 10, none⟩ (.int .i64 (lv2 : Int)) X11_2_0.out).other ⟨B11, 11, none⟩ (.int .u64 (pl2 : Int)) X11_2_0.out))
        have K13_3 := Lib.hid (show Blk W13 B11 [.bool v2, .bool r2, .bool y2, .bool x2, .bool u2, .bool g2, .bool a2, .bool d2, .int .i64 rsw2, .int .u64 (pn2 : Int), .int .i64 (lv2 : Int), .int .u64 (pl2 : Int)] 41 from hW ▸ ((((((((((((K12_3.out.set 0 (.bool v2)).set 1 (.bool r2)).set 2 (.bool y2)).set 3 (.bool x2)).set 4 (.bool u2)).set 5 (.bool g2)).set 6 (.bool a2)).set 7 (.bool d2)).set 8 (.int .i64 rsw2)).set 9 (.int .u64 (pn2 : Int))).set 10 (.int .i64 (lv2 : Int))).set 11 (.int .u64 (pl2 : Int))))
        have L13 := Lib.hid (show Below w.heap.size w W13 from hW ▸ (Below.setCell (Below.setCell (Below.setCell (Below.setCell (Below.setCell (Below.setCell (Below.setCell (Below.setCell (Below.setCell (Below.setCell (Below.setCell (Below.setCell L12.out G11.out _) G11.out _) G11.out _) G11.out _) G11.out _) G11.out _) G11.out _) G11.out _) G11.out _) G11.out _) G11.out _) G11.out _))
        clear hW K12_0 K12_1 K12_2 K12_3
        refine hK.out _ _ K13_0.out (fun hS14 => ?_)
        clear hK K
        refine wpAnyH_take (i := 15) (v := ?_) rfl (by kernel_rfl) (by kernel_rfl) (by kernel_rfl) (fun _ _ _ h => h) (Or.inl ⟨by rfl, ?yldq⟩) (by assumption) ?_
        case yldq => (intro w hSw; (try dsimp only at hSw); go_simp; try with_reducible rfl)
        try simp only [Act.put, List.setIfInBounds_toArray, List.set_cons_zero, List.set_cons_succ, List.getElem_toArray, List.getElem_cons_succ, List.getElem_cons_zero]
        refine wpAnyH_done (by kernel_rfl) ?_ _
        by_cases her : er = 0
        · subst her
          go_upto_region 7 with (fail)
          refine wp_region_held_drew (S := fun w' => Blk w' up [.pointer (some ⟨mp, 0, none⟩), .pointer (some ⟨bp, 0, none⟩), .bool on, .int .i64 asid, .int .u64 (root : Int), .bool us, .bool sm, .bool mx] 145 ∧ Blk w' B11 [.bool v2, .bool r2, .bool y2, .bool x2, .bool u2, .bool g2, .bool a2, .bool d2, .int .i64 rsw2, .int .u64 (pn2 : Int), .int .i64 (lv2 : Int), .int .u64 (pl2 : Int)] 41) (by kernel_rfl) ⟨K13_0.out, K13_3.out⟩ (fun hHeld => ?_)
          simp only [List.size_toArray, List.length_cons, List.length_nil, Nat.reduceAdd]
          rw [show Array.replicate 13 false = [false, false, false, false, false, false, false, false, false, false, false, false, false].toArray from rfl]
          refine wpAnyH_take (i := 0) (v := ?_) rfl (by kernel_rfl) (by kernel_rfl) (by kernel_rfl) (fun _ _ _ h => h) (Or.inl ⟨by rfl, ?yldq⟩) (by assumption) ?_
          case yldq => (intro w hSw; (try dsimp only at hSw); go_simp; try with_reducible rfl)
          try simp only [Act.put, List.setIfInBounds_toArray, List.set_cons_zero, List.set_cons_succ, List.getElem_toArray, List.getElem_cons_succ, List.getElem_cons_zero]
          refine wpAnyH_take (i := 1) (v := ?_) rfl (by kernel_rfl) (by kernel_rfl) (by kernel_rfl) (fun _ _ _ h => h) (Or.inl ⟨by rfl, ?yldq⟩) (by assumption) ?_
          case yldq => (intro w hSw; (try dsimp only at hSw); go_simp; try with_reducible rfl)
          try simp only [Act.put, List.setIfInBounds_toArray, List.set_cons_zero, List.set_cons_succ, List.getElem_toArray, List.getElem_cons_succ, List.getElem_cons_zero]
          refine wpAnyH_take (i := 2) (v := ?_) rfl (by kernel_rfl) (by kernel_rfl) (by kernel_rfl) (fun _ _ _ h => h) (Or.inl ⟨by rfl, ?yldq⟩) (by assumption) ?_
          case yldq => (intro w hSw; (try dsimp only at hSw); go_simp; try with_reducible rfl)
          try simp only [Act.put, List.setIfInBounds_toArray, List.set_cons_zero, List.set_cons_succ, List.getElem_toArray, List.getElem_cons_succ, List.getElem_cons_zero]
          refine wpAnyH_take (i := 3) (v := _) rfl (by kernel_rfl) (by kernel_rfl) (by kernel_rfl) (fun _ _ _ h => h) (Or.inl ⟨by rfl, fun w hSw => yield_un1 _ _ _ rfl rfl hSw.1⟩) (by assumption) ?_
          try simp only [Act.put, List.setIfInBounds_toArray, List.set_cons_zero, List.set_cons_succ, List.getElem_toArray, List.getElem_cons_succ, List.getElem_cons_zero]
          refine wpAnyH_take (i := 4) (v := ?_) rfl (by kernel_rfl) (by kernel_rfl) (by kernel_rfl) (fun _ _ _ h => h) (Or.inl ⟨by rfl, ?yldq⟩) (by assumption) ?_
          case yldq => (intro w hSw; (try dsimp only at hSw); go_simp; try with_reducible rfl)
          try simp only [Act.put, List.setIfInBounds_toArray, List.set_cons_zero, List.set_cons_succ, List.getElem_toArray, List.getElem_cons_succ, List.getElem_cons_zero]
          refine wpAnyH_take (i := 5) (v := ?_) rfl (by kernel_rfl) (by kernel_rfl) (by kernel_rfl) (fun _ _ _ h => h) (Or.inl ⟨by rfl, ?yldq⟩) (by assumption) ?_
          case yldq => (intro w hSw; (try dsimp only at hSw); go_simp; try with_reducible rfl)
          try simp only [Act.put, List.setIfInBounds_toArray, List.set_cons_zero, List.set_cons_succ, List.getElem_toArray, List.getElem_cons_succ, List.getElem_cons_zero]
          refine wpAnyH_take (i := 6) (v := ?_) rfl (by kernel_rfl) (by kernel_rfl) (by kernel_rfl) (fun _ _ _ h => h) (Or.inl ⟨by rfl, ?yldq⟩) (by assumption) ?_
          case yldq => (intro w hSw; (try dsimp only at hSw); go_simp; try with_reducible rfl)
          try simp only [Act.put, List.setIfInBounds_toArray, List.set_cons_zero, List.set_cons_succ, List.getElem_toArray, List.getElem_cons_succ, List.getElem_cons_zero]
          refine wpAnyH_take (i := 7) (v := ?_) rfl (by kernel_rfl) (by kernel_rfl) (by kernel_rfl) (fun _ _ _ h => h) (Or.inl ⟨by rfl, ?yldq⟩) (by assumption) ?_
          case yldq => (intro w hSw; (try dsimp only at hSw); go_simp; try with_reducible rfl)
          try simp only [Act.put, List.setIfInBounds_toArray, List.set_cons_zero, List.set_cons_succ, List.getElem_toArray, List.getElem_cons_succ, List.getElem_cons_zero]
          refine wpAnyH_take (i := 8) (v := ?_) rfl (by kernel_rfl) (by kernel_rfl) (by kernel_rfl) (fun _ _ _ h => h) (Or.inl ⟨by rfl, ?yldq⟩) (by assumption) ?_
          case yldq => (intro w hSw; (try dsimp only at hSw); go_simp; try with_reducible rfl)
          try simp only [Act.put, List.setIfInBounds_toArray, List.set_cons_zero, List.set_cons_succ, List.getElem_toArray, List.getElem_cons_succ, List.getElem_cons_zero]
          refine wpAnyH_take (i := 9) (v := _) rfl (by kernel_rfl) (by kernel_rfl) (by kernel_rfl) (fun _ _ _ h => h) (Or.inl ⟨by rfl, fun w hSw => yield_unasid _ _ _ rfl rfl hSw.1⟩) (by assumption) ?_
          try simp only [Act.put, List.setIfInBounds_toArray, List.set_cons_zero, List.set_cons_succ, List.getElem_toArray, List.getElem_cons_succ, List.getElem_cons_zero]
          refine wpAnyH_take (i := 10) (v := _) rfl (by kernel_rfl) (by kernel_rfl) (by kernel_rfl) (fun _ _ _ h => h) (Or.inl ⟨by rfl, fun w hSw => yield_leaf _ _ _ rfl rfl hSw.2⟩) (by assumption) ?_
          try simp only [Act.put, List.setIfInBounds_toArray, List.set_cons_zero, List.set_cons_succ, List.getElem_toArray, List.getElem_cons_succ, List.getElem_cons_zero]
          refine wpAnyH_take (i := 11) (v := ?_) rfl (by kernel_rfl) (by kernel_rfl) (by kernel_rfl) (fun _ _ _ h => h) (Or.inl ⟨by rfl, ?yldq⟩) (by assumption) ?_
          case yldq => (intro w hSw; (try dsimp only at hSw); go_simp; try with_reducible rfl)
          try simp only [Act.put, List.setIfInBounds_toArray, List.set_cons_zero, List.set_cons_succ, List.getElem_toArray, List.getElem_cons_succ, List.getElem_cons_zero]
          refine wpAnyH_ready (rs := [12]) (by kernel_rfl) (by simp) ?_
          refine AllReadyH.cons rfl (fun K hK => ?_) AllReadyH.nil
          go_simp
          refine (H3.out _ (L13.out.drew)).mono ?_
          rintro e w10 ⟨rfl, hb, hc⟩
          have hnf : ∀ j, w.heap.size ≤ j → ¬ FpT bp q g N j := fun j hj h => by have := HLT.out j h; omega
          have K0 := Lib.hid ((Blk.drewN K13_0.out 1).chg hc HM.out.ub); have K1 := Lib.hid ((Blk.drewN K13_1.out 1).chg hc (hnf _ G1.out)); have K4 := Lib.hid ((Blk.drewN K13_3.out 1).chg hc (hnf _ G11.out))
          have HBF := Lib.hid hb; have HCH := Lib.hid ((Chg.of_below (F := FpT bp q g N) (L13.out.drew)).trans hc); have HNF := Lib.hid hnf
          clear hb hc hnf hHeld
          refine hK.out _ _ ⟨K0.out, K4.out⟩ (fun hS12 => ?_)
          clear hK K hS12
          refine wpAnyH_done (by kernel_rfl) ?_ _
          have m0_0 := K1.out.c0
          have m0_1 := K1.out.c1
          have m0_2 := K1.out.c2
          have m0_3 := K1.out.c3
          have m0_4 := K1.out.c4
          have m0_5 := K1.out.c5
          have m0_6 := K1.out.c6
          have m0_7 := K1.out.c7
          have m0_8 := K1.out.c8
          have m0_9 := K1.out.c9
          have m0_10 := K1.out.c10
          have m0_11 := K1.out.c11
          have mlt0 : B1 < w10.heap.size := K1.out.lt
          have m1_0 := K4.out.c0
          have m1_1 := K4.out.c1
          have m1_2 := K4.out.c2
          have m1_3 := K4.out.c3
          have m1_4 := K4.out.c4
          have m1_5 := K4.out.c5
          have m1_6 := K4.out.c6
          have m1_7 := K4.out.c7
          have m1_8 := K4.out.c8
          have m1_9 := K4.out.c9
          have m1_10 := K4.out.c10
          have m1_11 := K4.out.c11
          have mlt1 : B11 < w10.heap.size := K4.out.lt
          have mf0 : ∀ o, w10.frozen? ⟨B1, o, none⟩ = false := fun o => K1.out.free o
          go_wp2
          clear m0_0 m0_1 m0_2 m0_3 m0_4 m0_5 m0_6 m0_7 m0_8 m0_9 m0_10 m0_11 mlt0 m1_0 m1_1 m1_2 m1_3 m1_4 m1_5 m1_6 m1_7 m1_8 m1_9 m1_10 m1_11 mlt1 mf0
          obtain ⟨W11, hW11⟩ : ∃ WX, WX = ((((((((((((w10.setCell ⟨B1, 0, none⟩ (.bool v2)).setCell ⟨B1, 1, none⟩ (.bool r2)).setCell ⟨B1, 2, none⟩ (.bool y2)).setCell ⟨B1, 3, none⟩ (.bool x2)).setCell ⟨B1, 4, none⟩ (.bool u2)).setCell ⟨B1, 5, none⟩ (.bool g2)).setCell ⟨B1, 6, none⟩ (.bool a2)).setCell ⟨B1, 7, none⟩ (.bool d2)).setCell ⟨B1, 8, none⟩ (.int .i64 rsw2)).setCell ⟨B1, 9, none⟩ (.int .u64 (pn2 : Int))).setCell ⟨B1, 10, none⟩ (.int .i64 (lv2 : Int))).setCell ⟨B1, 11, none⟩ (.int .u64 (pl2 : Int))) := ⟨_, rfl⟩
          rw [← hW11]
          have ka : Blk W11 B1 [.bool v2, .bool r2, .bool y2, .bool x2, .bool u2, .bool g2, .bool a2, .bool d2, .int .i64 rsw2, .int .u64 (pn2 : Int), .int .i64 (lv2 : Int), .int .u64 (pl2 : Int)] 41 := hW11 ▸ ((((((((((((K1.out.set 0 (.bool v2)).set 1 (.bool r2)).set 2 (.bool y2)).set 3 (.bool x2)).set 4 (.bool u2)).set 5 (.bool g2)).set 6 (.bool a2)).set 7 (.bool d2)).set 8 (.int .i64 rsw2)).set 9 (.int .u64 (pn2 : Int))).set 10 (.int .i64 (lv2 : Int))).set 11 (.int .u64 (pl2 : Int)))
          have kc : Chg (fun k => k = B1) w10 W11 := hW11 ▸ (((((((((((((Chg.refl (fun k => k = B1) w10).setc ⟨B1, 0, none⟩ (.bool v2) (.inl rfl)).setc ⟨B1, 1, none⟩ (.bool r2) (.inl rfl)).setc ⟨B1, 2, none⟩ (.bool y2) (.inl rfl)).setc ⟨B1, 3, none⟩ (.bool x2) (.inl rfl)).setc ⟨B1, 4, none⟩ (.bool u2) (.inl rfl)).setc ⟨B1, 5, none⟩ (.bool g2) (.inl rfl)).setc ⟨B1, 6, none⟩ (.bool a2) (.inl rfl)).setc ⟨B1, 7, none⟩ (.bool d2) (.inl rfl)).setc ⟨B1, 8, none⟩ (.int .i64 rsw2) (.inl rfl)).setc ⟨B1, 9, none⟩ (.int .u64 (pn2 : Int)) (.inl rfl)).setc ⟨B1, 10, none⟩ (.int .i64 (lv2 : Int)) (.inl rfl)).setc ⟨B1, 11, none⟩ (.int .u64 (pl2 : Int)) (.inl rfl))
          clear hW11
          have HB11 := Lib.hid (HBF.out.chg kc (fun k hk e => HNF.out _ G1.out (by have e : k = B1 := e; rw [← e]; exact hk)))
          have HC11 := Lib.hid (HCH.out.thenExt kc (fun j hj => .inr (by have hj : j = B1 := hj; have := G1.out; omega)))
          have KA := Lib.hid ka
          clear ka kc
          have rr0 := KA.out.c0
          have rr1 := KA.out.c1
          have rr2 := KA.out.c2
          have rr3 := KA.out.c3
          have rr4 := KA.out.c4
          have rr5 := KA.out.c5
          have rr6 := KA.out.c6
          have rr7 := KA.out.c7
          have rr8 := KA.out.c8
          have rr9 := KA.out.c9
          have rr10 := KA.out.c10
          have rr11 := KA.out.c11
          refine bodyPost_ret (v := .tuple #[.agg #[.bool v2, .bool r2, .bool y2, .bool x2, .bool u2, .bool g2, .bool a2, .bool d2, .int .i64 rsw2, .int .u64 (pn2 : Int), .int .i64 (lv2 : Int), .int .u64 (pl2 : Int)], .int .i64 0]) (by simp [results, Tryz.results114, go_sem, rr0, rr1, rr2, rr3, rr4, rr5, rr6, rr7, rr8, rr9, rr10, rr11]) rfl ⟨rfl, HB11.out, HC11.out⟩
        · have her2 : ((er : Int) != 0) = true := by simp; omega
          have m1_0 := K13_1.out.c0
          have m1_1 := K13_1.out.c1
          have m1_2 := K13_1.out.c2
          have m1_3 := K13_1.out.c3
          have m1_4 := K13_1.out.c4
          have m1_5 := K13_1.out.c5
          have m1_6 := K13_1.out.c6
          have m1_7 := K13_1.out.c7
          have m1_8 := K13_1.out.c8
          have m1_9 := K13_1.out.c9
          have m1_10 := K13_1.out.c10
          have m1_11 := K13_1.out.c11
          have mlt1 : B1 < W13.heap.size := K13_1.out.lt
          have mf1 : ∀ o, W13.frozen? ⟨B1, o, none⟩ = false := fun o => K13_1.out.free o
          go_wp2
          clear m1_0 m1_1 m1_2 m1_3 m1_4 m1_5 m1_6 m1_7 m1_8 m1_9 m1_10 m1_11 mlt1 mf1
          obtain ⟨W14, hW⟩ : ∃ WX, WX = ((((((((((((W13.setCell ⟨B1, 0, none⟩ (.bool false)).setCell ⟨B1, 1, none⟩ (.bool false)).setCell ⟨B1, 2, none⟩ (.bool false)).setCell ⟨B1, 3, none⟩ (.bool false)).setCell ⟨B1, 4, none⟩ (.bool false)).setCell ⟨B1, 5, none⟩ (.bool false)).setCell ⟨B1, 6, none⟩ (.bool false)).setCell ⟨B1, 7, none⟩ (.bool false)).setCell ⟨B1, 8, none⟩ (.int .i64 0)).setCell ⟨B1, 9, none⟩ (.int .u64 0)).setCell ⟨B1, 10, none⟩ (.int .i64 0)).setCell ⟨B1, 11, none⟩ (.int .u64 0)) := ⟨_, rfl⟩
          rw [← hW]
          have K14_0 := Lib.hid (show Blk W14 up [.pointer (some ⟨mp, 0, none⟩), .pointer (some ⟨bp, 0, none⟩), .bool on, .int .i64 asid, .int .u64 (root : Int), .bool us, .bool sm, .bool mx] 145 from hW ▸ ((((((((((((K13_0.out.other ⟨B1, 0, none⟩ (.bool false) X1_0_0.out).other ⟨B1, 1, none⟩ (.bool false) X1_0_0.out).other ⟨B1, 2, none⟩ (.bool false) X1_0_0.out).other ⟨B1, 3, none⟩ (.bool false) X1_0_0.out).other ⟨B1, 4, none⟩ (.bool false) X1_0_0.out).other ⟨B1, 5, none⟩ (.bool false) X1_0_0.out).other ⟨B1, 6, none⟩ (.bool false) X1_0_0.out).other ⟨B1, 7, none⟩ (.bool false) X1_0_0.out).other ⟨B1, 8, none⟩ (.int .i64 0) X1_0_0.out).other ⟨B1, 9, none⟩ (.int .u64 0) X1_0_0.out).other ⟨B1, 10, none⟩ (.int .i64 0) X1_0_0.out).other ⟨B1, 11, none⟩ (.int .u64 0) X1_0_0.out))
          have K14_1 := Lib.hid (show Blk W14 B1 [.bool false, .bool false, .bool false, .bool false, .bool false, .bool false, .bool false, .bool false, .int .i64 0, .int .u64 0, .int .i64 0, .int .u64 0] 41 from hW ▸ ((((((((((((K13_1.out.set 0 (.bool false)).set 1 (.bool false)).set 2 (.bool false)).set 3 (.bool false)).set 4 (.bool false)).set 5 (.bool false)).set 6 (.bool false)).set 7 (.bool false)).set 8 (.int .i64 0)).set 9 (.int .u64 0)).set 10 (.int .i64 0)).set 11 (.int .u64 0)))
          have K14_2 := Lib.hid (show Blk W14 B4 [.bool v, .bool r, .bool x1, .bool x, .bool u, .bool g9, .bool a, .bool d, .int .i64 rsw, .int .u64 (pn : Int), .int .i64 (lv : Int), .int .u64 (pl : Int)] 41 from hW ▸ ((((((((((((K13_2.out.other ⟨B1, 0, none⟩ (.bool false) (Ne.symm X4_1_0.out)).other ⟨B1, 1, none⟩ (.bool false) (Ne.symm X4_1_0.out)).other ⟨B1, 2, none⟩ (.bool false) (Ne.symm X4_1_0.out)).other ⟨B1, 3, none⟩ (.bool false) (Ne.symm X4_1_0.out)).other ⟨B1, 4, none⟩ (.bool false) (Ne.symm X4_1_0.out)).other ⟨B1, 5, none⟩ (.bool false) (Ne.symm X4_1_0.out)).other ⟨B1, 6, none⟩ (.bool false) (Ne.symm X4_1_0.out)).other ⟨B1, 7, none⟩ (.bool false) (Ne.symm X4_1_0.out)).other ⟨B1, 8, none⟩ (.int .i64 0) (Ne.symm X4_1_0.out)).other ⟨B1, 9, none⟩ (.int .u64 0) (Ne.symm X4_1_0.out)).other ⟨B1, 10, none⟩ (.int .i64 0) (Ne.symm X4_1_0.out)).other ⟨B1, 11, none⟩ (.int .u64 0) (Ne.symm X4_1_0.out)))
          have K14_3 := Lib.hid (show Blk W14 B11 [.bool v2, .bool r2, .bool y2, .bool x2, .bool u2, .bool g2, .bool a2, .bool d2, .int .i64 rsw2, .int .u64 (pn2 : Int), .int .i64 (lv2 : Int), .int .u64 (pl2 : Int)] 41 from hW ▸ ((((((((((((K13_3.out.other ⟨B1, 0, none⟩ (.bool false) (Ne.symm X11_1_0.out)).other ⟨B1, 1, none⟩ (.bool false) (Ne.symm X11_1_0.out)).other ⟨B1, 2, none⟩ (.bool false) (Ne.symm X11_1_0.out)).other ⟨B1, 3, none⟩ (.bool false) (Ne.symm X11_1_0.out)).other ⟨B1, 4, none⟩ (.bool false) (Ne.symm X11_1_0.out)).other ⟨B1, 5, none⟩ (.bool false) (Ne.symm X11_1_0.out)).other ⟨B1, 6, none⟩ (.bool false) (Ne.symm X11_1_0.out)).other ⟨B1, 7, none⟩ (.bool false) (Ne.symm X11_1_0.out)).other ⟨B1, 8, none⟩ (.int .i64 0) (Ne.symm X11_1_0.out)).other ⟨B1, 9, none⟩ (.int .u64 0) (Ne.symm X11_1_0.out)).other ⟨B1, 10, none⟩ (.int .i64 0) (Ne.symm X11_1_0.out)).other ⟨B1, 11, none⟩ (.int .u64 0) (Ne.symm X11_1_0.out)))
          have L14 := Lib.hid (show Below w.heap.size w W14 from hW ▸ (Below.setCell (Below.setCell (Below.setCell (Below.setCell (Below.setCell (Below.setCell (Below.setCell (Below.setCell (Below.setCell (Below.setCell (Below.setCell (Below.setCell L13.out G1.out _) G1.out _) G1.out _) G1.out _) G1.out _) G1.out _) G1.out _) G1.out _) G1.out _) G1.out _) G1.out _) G1.out _))
          clear hW K13_0 K13_1 K13_2 K13_3
          have rr0 := K14_1.out.c0
          have rr1 := K14_1.out.c1
          have rr2 := K14_1.out.c2
          have rr3 := K14_1.out.c3
          have rr4 := K14_1.out.c4
          have rr5 := K14_1.out.c5
          have rr6 := K14_1.out.c6
          have rr7 := K14_1.out.c7
          have rr8 := K14_1.out.c8
          have rr9 := K14_1.out.c9
          have rr10 := K14_1.out.c10
          have rr11 := K14_1.out.c11
          refine bodyPost_ret (v := .tuple #[.agg #[.bool false, .bool false, .bool false, .bool false, .bool false, .bool false, .bool false, .bool false, .int .i64 0, .int .u64 0, .int .i64 0, .int .u64 0], .int .i64 (er : Nat)]) (by simp [results, Tryz.results114, go_sem, rr0, rr1, rr2, rr3, rr4, rr5, rr6, rr7, rr8, rr9, rr10, rr11]) rfl (by first | exact ⟨rfl, H0.out.below L14.out, Chg.of_below L14.out⟩ | (rw [if_neg her]; exact ⟨rfl, H0.out.below L14.out, Chg.of_below L14.out⟩))
    · have m2_0 := K5_2.out.c0
      have m2_1 := K5_2.out.c1
      have m2_2 := K5_2.out.c2
      have m2_3 := K5_2.out.c3
      have m2_4 := K5_2.out.c4
      have m2_5 := K5_2.out.c5
      have m2_6 := K5_2.out.c6
      have m2_7 := K5_2.out.c7
      have m2_8 := K5_2.out.c8
      have m2_9 := K5_2.out.c9
      have m2_10 := K5_2.out.c10
      have m2_11 := K5_2.out.c11
      have mlt2 : B4 < W5.heap.size := K5_2.out.lt
      have m1_0 := K5_1.out.c0
      have m1_1 := K5_1.out.c1
      have m1_2 := K5_1.out.c2
      have m1_3 := K5_1.out.c3
      have m1_4 := K5_1.out.c4
      have m1_5 := K5_1.out.c5
      have m1_6 := K5_1.out.c6
      have m1_7 := K5_1.out.c7
      have m1_8 := K5_1.out.c8
      have m1_9 := K5_1.out.c9
      have m1_10 := K5_1.out.c10
      have m1_11 := K5_1.out.c11
      have mlt1 : B1 < W5.heap.size := K5_1.out.lt
      have mf1 : ∀ o, W5.frozen? ⟨B1, o, none⟩ = false := fun o => K5_1.out.free o
      go_wp2
      clear m2_0 m2_1 m2_2 m2_3 m2_4 m2_5 m2_6 m2_7 m2_8 m2_9 m2_10 m2_11 mlt2 m1_0 m1_1 m1_2 m1_3 m1_4 m1_5 m1_6 m1_7 m1_8 m1_9 m1_10 m1_11 mlt1 mf1
      obtain ⟨W15, hW⟩ : ∃ WX, WX = ((((((((((((W5.setCell ⟨B1, 0, none⟩ (.bool v)).setCell ⟨B1, 1, none⟩ (.bool r)).setCell ⟨B1, 2, none⟩ (.bool x1)).setCell ⟨B1, 3, none⟩ (.bool x)).setCell ⟨B1, 4, none⟩ (.bool u)).setCell ⟨B1, 5, none⟩ (.bool g9)).setCell ⟨B1, 6, none⟩ (.bool a)).setCell ⟨B1, 7, none⟩ (.bool d)).setCell ⟨B1, 8, none⟩ (.int .i64 rsw)).setCell ⟨B1, 9, none⟩ (.int .u64 (pn : Int))).setCell ⟨B1, 10, none⟩ (.int .i64 (lv : Int))).setCell ⟨B1, 11, none⟩ (.int .u64 (pl : Int))) := ⟨_, rfl⟩
      rw [← hW]
      have K15_0 := Lib.hid (show Blk W15 up [.pointer (some ⟨mp, 0, none⟩), .pointer (some ⟨bp, 0, none⟩), .bool on, .int .i64 asid, .int .u64 (root : Int), .bool us, .bool sm, .bool mx] 145 from hW ▸ ((((((((((((K5_0.out.other ⟨B1, 0, none⟩ (.bool v) X1_0_0.out).other ⟨B1, 1, none⟩ (.bool r) X1_0_0.out).other ⟨B1, 2, none⟩ (.bool x1) X1_0_0.out).other ⟨B1, 3, none⟩ (.bool x) X1_0_0.out).other ⟨B1, 4, none⟩ (.bool u) X1_0_0.out).other ⟨B1, 5, none⟩ (.bool g9) X1_0_0.out).other ⟨B1, 6, none⟩ (.bool a) X1_0_0.out).other ⟨B1, 7, none⟩ (.bool d) X1_0_0.out).other ⟨B1, 8, none⟩ (.int .i64 rsw) X1_0_0.out).other ⟨B1, 9, none⟩ (.int .u64 (pn : Int)) X1_0_0.out).other ⟨B1, 10, none⟩ (.int .i64 (lv : Int)) X1_0_0.out).other ⟨B1, 11, none⟩ (.int .u64 (pl : Int)) X1_0_0.out))
      have K15_1 := Lib.hid (show Blk W15 B1 [.bool v, .bool r, .bool x1, .bool x, .bool u, .bool g9, .bool a, .bool d, .int .i64 rsw, .int .u64 (pn : Int), .int .i64 (lv : Int), .int .u64 (pl : Int)] 41 from hW ▸ ((((((((((((K5_1.out.set 0 (.bool v)).set 1 (.bool r)).set 2 (.bool x1)).set 3 (.bool x)).set 4 (.bool u)).set 5 (.bool g9)).set 6 (.bool a)).set 7 (.bool d)).set 8 (.int .i64 rsw)).set 9 (.int .u64 (pn : Int))).set 10 (.int .i64 (lv : Int))).set 11 (.int .u64 (pl : Int))))
      have K15_2 := Lib.hid (show Blk W15 B4 [.bool v, .bool r, .bool x1, .bool x, .bool u, .bool g9, .bool a, .bool d, .int .i64 rsw, .int .u64 (pn : Int), .int .i64 (lv : Int), .int .u64 (pl : Int)] 41 from hW ▸ ((((((((((((K5_2.out.other ⟨B1, 0, none⟩ (.bool v) (Ne.symm X4_1_0.out)).other ⟨B1, 1, none⟩ (.bool r) (Ne.symm X4_1_0.out)).other ⟨B1, 2, none⟩ (.bool x1) (Ne.symm X4_1_0.out)).other ⟨B1, 3, none⟩ (.bool x) (Ne.symm X4_1_0.out)).other ⟨B1, 4, none⟩ (.bool u) (Ne.symm X4_1_0.out)).other ⟨B1, 5, none⟩ (.bool g9) (Ne.symm X4_1_0.out)).other ⟨B1, 6, none⟩ (.bool a) (Ne.symm X4_1_0.out)).other ⟨B1, 7, none⟩ (.bool d) (Ne.symm X4_1_0.out)).other ⟨B1, 8, none⟩ (.int .i64 rsw) (Ne.symm X4_1_0.out)).other ⟨B1, 9, none⟩ (.int .u64 (pn : Int)) (Ne.symm X4_1_0.out)).other ⟨B1, 10, none⟩ (.int .i64 (lv : Int)) (Ne.symm X4_1_0.out)).other ⟨B1, 11, none⟩ (.int .u64 (pl : Int)) (Ne.symm X4_1_0.out)))
      have L15 := Lib.hid (show Below w.heap.size w W15 from hW ▸ (Below.setCell (Below.setCell (Below.setCell (Below.setCell (Below.setCell (Below.setCell (Below.setCell (Below.setCell (Below.setCell (Below.setCell (Below.setCell (Below.setCell L5.out G1.out _) G1.out _) G1.out _) G1.out _) G1.out _) G1.out _) G1.out _) G1.out _) G1.out _) G1.out _) G1.out _) G1.out _))
      clear hW K5_0 K5_1 K5_2
      have rr0 := K15_1.out.c0
      have rr1 := K15_1.out.c1
      have rr2 := K15_1.out.c2
      have rr3 := K15_1.out.c3
      have rr4 := K15_1.out.c4
      have rr5 := K15_1.out.c5
      have rr6 := K15_1.out.c6
      have rr7 := K15_1.out.c7
      have rr8 := K15_1.out.c8
      have rr9 := K15_1.out.c9
      have rr10 := K15_1.out.c10
      have rr11 := K15_1.out.c11
      refine bodyPost_ret (v := .tuple #[.agg #[.bool v, .bool r, .bool x1, .bool x, .bool u, .bool g9, .bool a, .bool d, .int .i64 rsw, .int .u64 (pn : Int), .int .i64 (lv : Int), .int .u64 (pl : Int)], .int .i64 0]) (by simp [results, Tryz.results114, go_sem, rr0, rr1, rr2, rr3, rr4, rr5, rr6, rr7, rr8, rr9, rr10, rr11]) rfl ⟨rfl, H0.out.below L15.out, Chg.of_below L15.out⟩
  · go_simp
    have nb0 := Blk.new D2 [.bool false, .bool false, .bool false, .bool false, .bool false, .bool false, .bool false, .bool false, .int .i64 0, .int .u64 0, .int .i64 0, .int .u64 0] 41
    have nls : Below w.heap.size w D2 := L2.out
    have nl0 := nls.alloc nls.size (.cells #[.bool false, .bool false, .bool false, .bool false, .bool false, .bool false, .bool false, .bool false, .int .i64 0, .int .u64 0, .int .i64 0, .int .u64 0] 41)
    have nl : Below w.heap.size w (D2.alloc (.cells #[.bool false, .bool false, .bool false, .bool false, .bool false, .bool false, .bool false, .bool false, .int .i64 0, .int .u64 0, .int .i64 0, .int .u64 0] 41)) := nl0; clear nls nl0
    have o0 := (K2_0.out.alloc (.cells #[.bool false, .bool false, .bool false, .bool false, .bool false, .bool false, .bool false, .bool false, .int .i64 0, .int .u64 0, .int .i64 0, .int .u64 0] 41))
    have d16_0 : up < D2.heap.size := K2_0.out.lt
    have o1 := (K2_1.out.alloc (.cells #[.bool false, .bool false, .bool false, .bool false, .bool false, .bool false, .bool false, .bool false, .int .i64 0, .int .u64 0, .int .i64 0, .int .u64 0] 41))
    have d16_1 : B1 < D2.heap.size := K2_1.out.lt
    obtain ⟨B16, hB0⟩ : ∃ B, B = D2.heap.size := ⟨_, rfl⟩
    obtain ⟨W16, hW⟩ : ∃ W, W = (D2.alloc (.cells #[.bool false, .bool false, .bool false, .bool false, .bool false, .bool false, .bool false, .bool false, .int .i64 0, .int .u64 0, .int .i64 0, .int .u64 0] 41)) := ⟨_, rfl⟩
    rw [← hW] at nl nb0 o0 o1
    rw [← hB0] at nb0
    rw [← hW]
    try rw [← hB0]
    have K16_0 := Lib.hid o0
    have K16_1 := Lib.hid o1
    have K16_2 := Lib.hid nb0
    have G16 : Hid (w.heap.size ≤ B16) := Lib.hid (by have := L2.out.size; omega)
    have x16_0_0 : up ≠ B16 := by omega
    have x16_1_0 : B1 ≠ B16 := by omega
    have X16_0_0 := Lib.hid x16_0_0; clear x16_0_0
    have X16_1_0 := Lib.hid x16_1_0; clear x16_1_0
    have L16 := Lib.hid nl
    clear nl hW nb0 hB0 o0 d16_0 o1 d16_1 K2_0 K2_1
    refine hK.out _ _ K16_0.out (fun hS14 => ?_)
    clear hK K
    refine wpAnyH_ready (rs := [10]) (by kernel_rfl) (by simp) ?_
    refine AllReadyH.cons rfl (fun K hK => ?_) AllReadyH.nil
    go_simp
    refine (H1.out _ L16.out).mono ?_
    rintro e w17 ⟨rfl, hb⟩
    have L17 := Lib.hid (L16.out.trans (hb.mono L16.out.size))
    have K17_0 := Lib.hid (K16_0.out.below hb K16_0.out.lt)
    have K17_1 := Lib.hid (K16_1.out.below hb K16_1.out.lt)
    have K17_2 := Lib.hid (K16_2.out.below hb K16_2.out.lt)
    clear hb K16_0 K16_1 K16_2
    refine hK.out _ _ K17_0.out (fun hS10 => ?_)
    clear hK K
    refine wpAnyH_take (i := 11) (v := ?_) rfl (by kernel_rfl) (by kernel_rfl) (by kernel_rfl) (fun _ _ _ h => h) (Or.inl ⟨by rfl, ?yldq⟩) (by assumption) ?_
    case yldq => (intro w hSw; (try dsimp only at hSw); go_simp; try with_reducible rfl)
    try simp only [Act.put, List.setIfInBounds_toArray, List.set_cons_zero, List.set_cons_succ, List.getElem_toArray, List.getElem_cons_succ, List.getElem_cons_zero]
    refine wpAnyH_take (i := 12) (v := ?_) rfl (by kernel_rfl) (by kernel_rfl) (by kernel_rfl) (fun _ _ _ h => h) (Or.inl ⟨by rfl, ?yldq⟩) (by assumption) ?_
    case yldq => (intro w hSw; (try dsimp only at hSw); go_simp; try with_reducible rfl)
    try simp only [Act.put, List.setIfInBounds_toArray, List.set_cons_zero, List.set_cons_succ, List.getElem_toArray, List.getElem_cons_succ, List.getElem_cons_zero]
    refine wpAnyH_take (i := 13) (v := ?_) rfl (by kernel_rfl) (by kernel_rfl) (by kernel_rfl) (fun _ _ _ h => h) (Or.inl ⟨by rfl, ?yldq⟩) (by assumption) ?_
    case yldq => (intro w hSw; (try dsimp only at hSw); go_simp; try with_reducible rfl)
    try simp only [Act.put, List.setIfInBounds_toArray, List.set_cons_zero, List.set_cons_succ, List.getElem_toArray, List.getElem_cons_succ, List.getElem_cons_zero]
    refine wpAnyH_ready (rs := [15]) (by kernel_rfl) (by simp) ?_
    refine AllReadyH.cons rfl (fun K hK => ?_) AllReadyH.nil
    have m2_0 := K17_2.out.c0
    have m2_1 := K17_2.out.c1
    have m2_2 := K17_2.out.c2
    have m2_3 := K17_2.out.c3
    have m2_4 := K17_2.out.c4
    have m2_5 := K17_2.out.c5
    have m2_6 := K17_2.out.c6
    have m2_7 := K17_2.out.c7
    have m2_8 := K17_2.out.c8
    have m2_9 := K17_2.out.c9
    have m2_10 := K17_2.out.c10
    have m2_11 := K17_2.out.c11
    have mlt2 : B16 < w17.heap.size := K17_2.out.lt
    have mf2 : ∀ o, w17.frozen? ⟨B16, o, none⟩ = false := fun o => K17_2.out.free o
    go_simp
    clear m2_0 m2_1 m2_2 m2_3 m2_4 m2_5 m2_6 m2_7 m2_8 m2_9 m2_10 m2_11 mlt2 mf2
    obtain ⟨W18, hW⟩ : ∃ WX, WX = ((((((((((((w17.setCell ⟨B16, 0, none⟩ (.bool v)).setCell ⟨B16, 1, none⟩ (.bool r)).setCell ⟨B16, 2, none⟩ (.bool x1)).setCell ⟨B16, 3, none⟩ (.bool x)).setCell ⟨B16, 4, none⟩ (.bool u)).setCell ⟨B16, 5, none⟩ (.bool g9)).setCell ⟨B16, 6, none⟩ (.bool a)).setCell ⟨B16, 7, none⟩ (.bool d)).setCell ⟨B16, 8, none⟩ (.int .i64 rsw)).setCell ⟨B16, 9, none⟩ (.int .u64 (pn : Int))).setCell ⟨B16, 10, none⟩ (.int .i64 (lv : Int))).setCell ⟨B16, 11, none⟩ (.int .u64 (pl : Int))) := ⟨_, rfl⟩
    rw [← hW]
    have K18_0 := Lib.hid (show Blk W18 up [.pointer (some ⟨mp, 0, none⟩), .pointer (some ⟨bp, 0, none⟩), .bool on, .int .i64 asid, .int .u64 (root : Int), .bool us, .bool sm, .bool mx] 145 from hW ▸ ((((((((((((K17_0.out.other ⟨B16, 0, none⟩ (.bool v) X16_0_0.out).other ⟨B16, 1, none⟩ (.bool r) X16_0_0.out).other ⟨B16, 2, none⟩ (.bool x1) X16_0_0.out).other ⟨B16, 3, none⟩ (.bool x) X16_0_0.out).other ⟨B16, 4, none⟩ (.bool u) X16_0_0.out).other ⟨B16, 5, none⟩ (.bool g9) X16_0_0.out).other ⟨B16, 6, none⟩ (.bool a) X16_0_0.out).other ⟨B16, 7, none⟩ (.bool d) X16_0_0.out).other ⟨B16, 8, none⟩ (.int .i64 rsw) X16_0_0.out).other ⟨B16, 9, none⟩ (.int .u64 (pn : Int)) X16_0_0.out).other ⟨B16, 10, none⟩ (.int .i64 (lv : Int)) X16_0_0.out).other ⟨B16, 11, none⟩ (.int .u64 (pl : Int)) X16_0_0.out))
    have K18_1 := Lib.hid (show Blk W18 B1 [.bool false, .bool false, .bool false, .bool false, .bool false, .bool false, .bool false, .bool false, .int .i64 0, .int .u64 0, .int .i64 0, .int .u64 0] 41 from hW ▸ ((((((((((((K17_1.out.other ⟨B16, 0, none⟩ (.bool v) X16_1_0.out).other ⟨B16, 1, none⟩ (.bool r) X16_1_0.out).other ⟨B16, 2, none⟩ (.bool x1) X16_1_0.out).other ⟨B16, 3, none⟩ (.bool x) X16_1_0.out).other ⟨B16, 4, none⟩ (.bool u) X16_1_0.out).other ⟨B16, 5, none⟩ (.bool g9) X16_1_0.out).other ⟨B16, 6, none⟩ (.bool a) X16_1_0.out).other ⟨B16, 7, none⟩ (.bool d) X16_1_0.out).other ⟨B16, 8, none⟩ (.int .i64 rsw) X16_1_0.out).other ⟨B16, 9, none⟩ (.int .u64 (pn : Int)) X16_1_0.out).other ⟨B16, 10, none⟩ (.int .i64 (lv : Int)) X16_1_0.out).other ⟨B16, 11, none⟩ (.int .u64 (pl : Int)) X16_1_0.out))
    have K18_2 := Lib.hid (show Blk W18 B16 [.bool v, .bool r, .bool x1, .bool x, .bool u, .bool g9, .bool a, .bool d, .int .i64 rsw, .int .u64 (pn : Int), .int .i64 (lv : Int), .int .u64 (pl : Int)] 41 from hW ▸ ((((((((((((K17_2.out.set 0 (.bool v)).set 1 (.bool r)).set 2 (.bool x1)).set 3 (.bool x)).set 4 (.bool u)).set 5 (.bool g9)).set 6 (.bool a)).set 7 (.bool d)).set 8 (.int .i64 rsw)).set 9 (.int .u64 (pn : Int))).set 10 (.int .i64 (lv : Int))).set 11 (.int .u64 (pl : Int))))
    have L18 := Lib.hid (show Below w.heap.size w W18 from hW ▸ (Below.setCell (Below.setCell (Below.setCell (Below.setCell (Below.setCell (Below.setCell (Below.setCell (Below.setCell (Below.setCell (Below.setCell (Below.setCell (Below.setCell L17.out G16.out _) G16.out _) G16.out _) G16.out _) G16.out _) G16.out _) G16.out _) G16.out _) G16.out _) G16.out _) G16.out _) G16.out _))
    clear hW K17_0 K17_1 K17_2
    refine hK.out _ _ K18_0.out (fun hS15 => ?_)
    clear hK K
    refine wpAnyH_take (i := 16) (v := ?_) rfl (by kernel_rfl) (by kernel_rfl) (by kernel_rfl) (fun _ _ _ h => h) (Or.inl ⟨by rfl, ?yldq⟩) (by assumption) ?_
    case yldq => (intro w hSw; (try dsimp only at hSw); go_simp; try with_reducible rfl)
    try simp only [Act.put, List.setIfInBounds_toArray, List.set_cons_zero, List.set_cons_succ, List.getElem_toArray, List.getElem_cons_succ, List.getElem_cons_zero]
    refine wpAnyH_done (by kernel_rfl) ?_ _
    go_upto_region 2 with (fail)
    cases fo
    · go_upto_region 4 with (fail)
      refine wp_region_held_drew (S := fun w' => Blk w' up [.pointer (some ⟨mp, 0, none⟩), .pointer (some ⟨bp, 0, none⟩), .bool on, .int .i64 asid, .int .u64 (root : Int), .bool us, .bool sm, .bool mx] 145) (by kernel_rfl) K18_0.out (fun hHeld => ?_)
      clear hHeld
      obtain ⟨D19, hD⟩ : ∃ x, x = W18.drew := ⟨_, rfl⟩
      rw [← hD]
      have K19_0 := Lib.hid (show Blk D19 up [.pointer (some ⟨mp, 0, none⟩), .pointer (some ⟨bp, 0, none⟩), .bool on, .int .i64 asid, .int .u64 (root : Int), .bool us, .bool sm, .bool mx] 145 from hD ▸ Blk.drewN K18_0.out 1)
      have K19_1 := Lib.hid (show Blk D19 B1 [.bool false, .bool false, .bool false, .bool false, .bool false, .bool false, .bool false, .bool false, .int .i64 0, .int .u64 0, .int .i64 0, .int .u64 0] 41 from hD ▸ Blk.drewN K18_1.out 1)
      have K19_2 := Lib.hid (show Blk D19 B16 [.bool v, .bool r, .bool x1, .bool x, .bool u, .bool g9, .bool a, .bool d, .int .i64 rsw, .int .u64 (pn : Int), .int .i64 (lv : Int), .int .u64 (pl : Int)] 41 from hD ▸ Blk.drewN K18_2.out 1)
      have L19 := Lib.hid (show Below w.heap.size w D19 from hD ▸ L18.out.drew)
      clear hD K18_0 K18_1 K18_2
      have hSD19 : Blk D19 up [.pointer (some ⟨mp, 0, none⟩), .pointer (some ⟨bp, 0, none⟩), .bool on, .int .i64 asid, .int .u64 (root : Int), .bool us, .bool sm, .bool mx] 145 := K19_0.out
      simp only [List.size_toArray, List.length_cons, List.length_nil, Nat.reduceAdd]
      rw [show Array.replicate 16 false = [false, false, false, false, false, false, false, false, false, false, false, false, false, false, false, false].toArray from rfl]
      refine wpAnyH_take (i := 0) (v := ?_) rfl (by kernel_rfl) (by kernel_rfl) (by kernel_rfl) (fun _ _ _ h => h) (Or.inl ⟨by rfl, ?yldq⟩) (by assumption) ?_
      case yldq => (intro w hSw; (try dsimp only at hSw); go_simp; try with_reducible rfl)
      try simp only [Act.put, List.setIfInBounds_toArray, List.set_cons_zero, List.set_cons_succ, List.getElem_toArray, List.getElem_cons_succ, List.getElem_cons_zero]
      refine wpAnyH_take (i := 1) (v := ?_) rfl (by kernel_rfl) (by kernel_rfl) (by kernel_rfl) (fun _ _ _ h => h) (Or.inl ⟨by rfl, ?yldq⟩) (by assumption) ?_
      case yldq => (intro w hSw; (try dsimp only at hSw); go_simp; try with_reducible rfl)
      try simp only [Act.put, List.setIfInBounds_toArray, List.set_cons_zero, List.set_cons_succ, List.getElem_toArray, List.getElem_cons_succ, List.getElem_cons_zero]
      refine wpAnyH_take (i := 2) (v := ?_) rfl (by kernel_rfl) (by kernel_rfl) (by kernel_rfl) (fun _ _ _ h => h) (Or.inl ⟨by rfl, ?yldq⟩) (by assumption) ?_
      case yldq => (intro w hSw; (try dsimp only at hSw); go_simp; try with_reducible rfl)
      try simp only [Act.put, List.setIfInBounds_toArray, List.set_cons_zero, List.set_cons_succ, List.getElem_toArray, List.getElem_cons_succ, List.getElem_cons_zero]
      refine wpAnyH_take (i := 3) (v := _) rfl (by kernel_rfl) (by kernel_rfl) (by kernel_rfl) (fun _ _ _ h => h) (Or.inl ⟨by rfl, fun w hSw => yield_un0 _ _ _ rfl rfl hSw⟩) (by assumption) ?_
      try simp only [Act.put, List.setIfInBounds_toArray, List.set_cons_zero, List.set_cons_succ, List.getElem_toArray, List.getElem_cons_succ, List.getElem_cons_zero]
      refine wpAnyH_take (i := 4) (v := ?_) rfl (by kernel_rfl) (by kernel_rfl) (by kernel_rfl) (fun _ _ _ h => h) (Or.inl ⟨by rfl, ?yldq⟩) (by assumption) ?_
      case yldq => (intro w hSw; (try dsimp only at hSw); go_simp; try with_reducible rfl)
      try simp only [Act.put, List.setIfInBounds_toArray, List.set_cons_zero, List.set_cons_succ, List.getElem_toArray, List.getElem_cons_succ, List.getElem_cons_zero]
      refine wpAnyH_take (i := 5) (v := ?_) rfl (by kernel_rfl) (by kernel_rfl) (by kernel_rfl) (fun _ _ _ h => h) (Or.inl ⟨by rfl, ?yldq⟩) (by assumption) ?_
      case yldq => (intro w hSw; (try dsimp only at hSw); go_simp; try with_reducible rfl)
      try simp only [Act.put, List.setIfInBounds_toArray, List.set_cons_zero, List.set_cons_succ, List.getElem_toArray, List.getElem_cons_succ, List.getElem_cons_zero]
      refine wpAnyH_take (i := 6) (v := ?_) rfl (by kernel_rfl) (by kernel_rfl) (by kernel_rfl) (fun _ _ _ h => h) (Or.inl ⟨by rfl, ?yldq⟩) (by assumption) ?_
      case yldq => (intro w hSw; (try dsimp only at hSw); go_simp; try with_reducible rfl)
      try simp only [Act.put, List.setIfInBounds_toArray, List.set_cons_zero, List.set_cons_succ, List.getElem_toArray, List.getElem_cons_succ, List.getElem_cons_zero]
      refine wpAnyH_take (i := 7) (v := _) rfl (by kernel_rfl) (by kernel_rfl) (by kernel_rfl) (fun _ _ _ h => h) (Or.inl ⟨by rfl, fun w hSw => yield_unsatp _ _ _ rfl rfl hSw⟩) (by assumption) ?_
      try simp only [Act.put, List.setIfInBounds_toArray, List.set_cons_zero, List.set_cons_succ, List.getElem_toArray, List.getElem_cons_succ, List.getElem_cons_zero]
      refine wpAnyH_take (i := 8) (v := ?_) rfl (by kernel_rfl) (by kernel_rfl) (by kernel_rfl) (fun _ _ _ h => h) (Or.inl ⟨by rfl, ?yldq⟩) (by assumption) ?_
      case yldq => (intro w hSw; (try dsimp only at hSw); go_simp; try with_reducible rfl)
      try simp only [Act.put, List.setIfInBounds_toArray, List.set_cons_zero, List.set_cons_succ, List.getElem_toArray, List.getElem_cons_succ, List.getElem_cons_zero]
      refine wpAnyH_ready (rs := [9, 13]) (by kernel_rfl) (by simp) ?_
      refine AllReadyH.cons rfl (fun K hK => ?_) (AllReadyH.cons rfl (fun K hK => ?_) AllReadyH.nil)
      · go_simp
        refine (H2.out _ L19.out).mono ?_
        rintro e w20 ⟨rfl, hb⟩
        have L20 := Lib.hid (L19.out.trans (hb.mono L19.out.size))
        have K20_0 := Lib.hid (K19_0.out.below hb K19_0.out.lt)
        have K20_1 := Lib.hid (K19_1.out.below hb K19_1.out.lt)
        have K20_2 := Lib.hid (K19_2.out.below hb K19_2.out.lt)
        clear hb K19_0 K19_1 K19_2
        refine hK.out _ _ K20_0.out (fun hS9 => ?_)
        clear hK K
        refine wpAnyH_take (i := 10) (v := ?_) rfl (by kernel_rfl) (by kernel_rfl) (by kernel_rfl) (fun _ _ _ h => h) (Or.inl ⟨by rfl, ?yldq⟩) (by assumption) ?_
        case yldq => (intro w hSw; (try dsimp only at hSw); go_simp; try with_reducible rfl)
        try simp only [Act.put, List.setIfInBounds_toArray, List.set_cons_zero, List.set_cons_succ, List.getElem_toArray, List.getElem_cons_succ, List.getElem_cons_zero]
        refine wpAnyH_take (i := 11) (v := ?_) rfl (by kernel_rfl) (by kernel_rfl) (by kernel_rfl) (fun _ _ _ h => h) (Or.inl ⟨by rfl, ?yldq⟩) (by assumption) ?_
        case yldq => (intro w hSw; (try dsimp only at hSw); go_simp; try with_reducible rfl)
        try simp only [Act.put, List.setIfInBounds_toArray, List.set_cons_zero, List.set_cons_succ, List.getElem_toArray, List.getElem_cons_succ, List.getElem_cons_zero]
        refine wpAnyH_take (i := 12) (v := ?_) rfl (by kernel_rfl) (by kernel_rfl) (by kernel_rfl) (fun _ _ _ h => h) (Or.inl ⟨by rfl, ?yldq⟩) (by assumption) ?_
        case yldq => (intro w hSw; (try dsimp only at hSw); go_simp; try with_reducible rfl)
        try simp only [Act.put, List.setIfInBounds_toArray, List.set_cons_zero, List.set_cons_succ, List.getElem_toArray, List.getElem_cons_succ, List.getElem_cons_zero]
        refine wpAnyH_ready (rs := [13]) (by kernel_rfl) (by simp) ?_
        refine AllReadyH.cons rfl (fun K hK => ?_) AllReadyH.nil
        go_simp
        have nb0 := Blk.new w20 [.bool false, .bool false, .bool false, .bool false, .bool false, .bool false, .bool false, .bool false, .int .i64 0, .int .u64 0, .int .i64 0, .int .u64 0] 41
        have nls : Below w.heap.size w w20 := L20.out
        have nl0 := nls.alloc nls.size (.cells #[.bool false, .bool false, .bool false, .bool false, .bool false, .bool false, .bool false, .bool false, .int .i64 0, .int .u64 0, .int .i64 0, .int .u64 0] 41)
        have nl : Below w.heap.size w (w20.alloc (.cells #[.bool false, .bool false, .bool false, .bool false, .bool false, .bool false, .bool false, .bool false, .int .i64 0, .int .u64 0, .int .i64 0, .int .u64 0] 41)) := nl0; clear nls nl0
        have o0 := (K20_0.out.alloc (.cells #[.bool false, .bool false, .bool false, .bool false, .bool false, .bool false, .bool false, .bool false, .int .i64 0, .int .u64 0, .int .i64 0, .int .u64 0] 41))
        have d21_0 : up < w20.heap.size := K20_0.out.lt
        have o1 := (K20_1.out.alloc (.cells #[.bool false, .bool false, .bool false, .bool false, .bool false, .bool false, .bool false, .bool false, .int .i64 0, .int .u64 0, .int .i64 0, .int .u64 0] 41))
        have d21_1 : B1 < w20.heap.size := K20_1.out.lt
        have o2 := (K20_2.out.alloc (.cells #[.bool false, .bool false, .bool false, .bool false, .bool false, .bool false, .bool false, .bool false, .int .i64 0, .int .u64 0, .int .i64 0, .int .u64 0] 41))
        have d21_2 : B16 < w20.heap.size := K20_2.out.lt
        obtain ⟨B21, hB0⟩ : ∃ B, B = w20.heap.size := ⟨_, rfl⟩
        obtain ⟨W21, hW⟩ : ∃ W, W = (w20.alloc (.cells #[.bool false, .bool false, .bool false, .bool false, .bool false, .bool false, .bool false, .bool false, .int .i64 0, .int .u64 0, .int .i64 0, .int .u64 0] 41)) := ⟨_, rfl⟩
        rw [← hW] at nl nb0 o0 o1 o2
        rw [← hB0] at nb0
        rw [← hW]
        try rw [← hB0]
        have K21_0 := Lib.hid o0
        have K21_1 := Lib.hid o1
        have K21_2 := Lib.hid o2
        have K21_3 := Lib.hid nb0
        have G21 : Hid (w.heap.size ≤ B21) := Lib.hid (by have := L20.out.size; omega)
        have x21_0_0 : up ≠ B21 := by omega
        have x21_1_0 : B1 ≠ B21 := by omega
        have x21_2_0 : B16 ≠ B21 := by omega
        have X21_0_0 := Lib.hid x21_0_0; clear x21_0_0
        have X21_1_0 := Lib.hid x21_1_0; clear x21_1_0
        have X21_2_0 := Lib.hid x21_2_0; clear x21_2_0
        have L21 := Lib.hid nl
        clear nl hW nb0 hB0 o0 d21_0 o1 d21_1 o2 d21_2 K20_0 K20_1 K20_2
        refine hK.out _ _ K21_0.out (fun hS13 => ?_)
        clear hK K
        refine wpAnyH_ready (rs := [14]) (by kernel_rfl) (by simp) ?_
        refine AllReadyH.cons rfl (fun K hK => ?_) AllReadyH.nil
        have m3_0 := K21_3.out.c0
        have m3_1 := K21_3.out.c1
        have m3_2 := K21_3.out.c2
        have m3_3 := K21_3.out.c3
        have m3_4 := K21_3.out.c4
        have m3_5 := K21_3.out.c5
        have m3_6 := K21_3.out.c6
        have m3_7 := K21_3.out.c7
        have m3_8 := K21_3.out.c8
        have m3_9 := K21_3.out.c9
        have m3_10 := K21_3.out.c10
        have m3_11 := K21_3.out.c11
        have mlt3 : B21 < W21.heap.size := K21_3.out.lt
        have mf3 : ∀ o, W21.frozen? ⟨B21, o, none⟩ = false := fun o => K21_3.out.free o
        go_simp
        clear m3_0 m3_1 m3_2 m3_3 m3_4 m3_5 m3_6 m3_7 m3_8 m3_9 m3_10 m3_11 mlt3 mf3
        obtain ⟨W22, hW⟩ : ∃ WX, WX = ((((((((((((W21.setCell ⟨B21, 0, none⟩ (.bool v2)).setCell ⟨B21, 1, none⟩ (.bool r2)).setCell ⟨B21, 2, none⟩ (.bool y2)).setCell ⟨B21, 3, none⟩ (.bool x2)).setCell ⟨B21, 4, none⟩ (.bool u2)).setCell ⟨B21, 5, none⟩ (.bool g2)).setCell ⟨B21, 6, none⟩ (.bool a2)).setCell ⟨B21, 7, none⟩ (.bool d2)).setCell ⟨B21, 8, none⟩ (.int .i64 rsw2)).setCell ⟨B21, 9, none⟩ (.int .u64 (pn2 : Int))).setCell ⟨B21, 10, none⟩ (.int .i64 (lv2 : Int))).setCell ⟨B21, 11, none⟩ (.int .u64 (pl2 : Int))) := ⟨_, rfl⟩
        rw [← hW]
        have K22_0 := Lib.hid (show Blk W22 up [.pointer (some ⟨mp, 0, none⟩), .pointer (some ⟨bp, 0, none⟩), .bool on, .int .i64 asid, .int .u64 (root : Int), .bool us, .bool sm, .bool mx] 145 from hW ▸ ((((((((((((K21_0.out.other ⟨B21, 0, none⟩ (.bool v2) X21_0_0.out).other ⟨B21, 1, none⟩ (.bool r2) X21_0_0.out).other ⟨B21, 2, none⟩ (.bool y2) X21_0_0.out).other ⟨B21, 3, none⟩ (.bool x2) X21_0_0.out).other ⟨B21, 4, none⟩ (.bool u2) X21_0_0.out).other ⟨B21, 5, none⟩ (.bool g2) X21_0_0.out).other ⟨B21, 6, none⟩ (.bool a2) X21_0_0.out).other ⟨B21, 7, none⟩ (.bool d2) X21_0_0.out).other ⟨B21, 8, none⟩ (.int .i64 rsw2) X21_0_0.out).other ⟨B21, 9, none⟩ (.int .u64 (pn2 : Int)) X21_0_0.out).other ⟨B21, 10, none⟩ (.int .i64 (lv2 : Int)) X21_0_0.out).other ⟨B21, 11, none⟩ (.int .u64 (pl2 : Int)) X21_0_0.out))
        have K22_1 := Lib.hid (show Blk W22 B1 [.bool false, .bool false, .bool false, .bool false, .bool false, .bool false, .bool false, .bool false, .int .i64 0, .int .u64 0, .int .i64 0, .int .u64 0] 41 from hW ▸ ((((((((((((K21_1.out.other ⟨B21, 0, none⟩ (.bool v2) X21_1_0.out).other ⟨B21, 1, none⟩ (.bool r2) X21_1_0.out).other ⟨B21, 2, none⟩ (.bool y2) X21_1_0.out).other ⟨B21, 3, none⟩ (.bool x2) X21_1_0.out).other ⟨B21, 4, none⟩ (.bool u2) X21_1_0.out).other ⟨B21, 5, none⟩ (.bool g2) X21_1_0.out).other ⟨B21, 6, none⟩ (.bool a2) X21_1_0.out).other ⟨B21, 7, none⟩ (.bool d2) X21_1_0.out).other ⟨B21, 8, none⟩ (.int .i64 rsw2) X21_1_0.out).other ⟨B21, 9, none⟩ (.int .u64 (pn2 : Int)) X21_1_0.out).other ⟨B21, 10, none⟩ (.int .i64 (lv2 : Int)) X21_1_0.out).other ⟨B21, 11, none⟩ (.int .u64 (pl2 : Int)) X21_1_0.out))
        have K22_2 := Lib.hid (show Blk W22 B16 [.bool v, .bool r, .bool x1, .bool x, .bool u, .bool g9, .bool a, .bool d, .int .i64 rsw, .int .u64 (pn : Int), .int .i64 (lv : Int), .int .u64 (pl : Int)] 41 from hW ▸ ((((((((((((K21_2.out.other ⟨B21, 0, none⟩ (.bool v2) X21_2_0.out).other ⟨B21, 1, none⟩ (.bool r2) X21_2_0.out).other ⟨B21, 2, none⟩ (.bool y2) X21_2_0.out).other ⟨B21, 3, none⟩ (.bool x2) X21_2_0.out).other ⟨B21, 4, none⟩ (.bool u2) X21_2_0.out).other ⟨B21, 5, none⟩ (.bool g2) X21_2_0.out).other ⟨B21, 6, none⟩ (.bool a2) X21_2_0.out).other ⟨B21, 7, none⟩ (.bool d2) X21_2_0.out).other ⟨B21, 8, none⟩ (.int .i64 rsw2) X21_2_0.out).other ⟨B21, 9, none⟩ (.int .u64 (pn2 : Int)) X21_2_0.out).other ⟨B21, 10, none⟩ (.int .i64 (lv2 : Int)) X21_2_0.out).other ⟨B21, 11, none⟩ (.int .u64 (pl2 : Int)) X21_2_0.out))
        have K22_3 := Lib.hid (show Blk W22 B21 [.bool v2, .bool r2, .bool y2, .bool x2, .bool u2, .bool g2, .bool a2, .bool d2, .int .i64 rsw2, .int .u64 (pn2 : Int), .int .i64 (lv2 : Int), .int .u64 (pl2 : Int)] 41 from hW ▸ ((((((((((((K21_3.out.set 0 (.bool v2)).set 1 (.bool r2)).set 2 (.bool y2)).set 3 (.bool x2)).set 4 (.bool u2)).set 5 (.bool g2)).set 6 (.bool a2)).set 7 (.bool d2)).set 8 (.int .i64 rsw2)).set 9 (.int .u64 (pn2 : Int))).set 10 (.int .i64 (lv2 : Int))).set 11 (.int .u64 (pl2 : Int))))
        have L22 := Lib.hid (show Below w.heap.size w W22 from hW ▸ (Below.setCell (Below.setCell (Below.setCell (Below.setCell (Below.setCell (Below.setCell (Below.setCell (Below.setCell (Below.setCell (Below.setCell (Below.setCell (Below.setCell L21.out G21.out _) G21.out _) G21.out _) G21.out _) G21.out _) G21.out _) G21.out _) G21.out _) G21.out _) G21.out _) G21.out _) G21.out _))
        clear hW K21_0 K21_1 K21_2 K21_3
        refine hK.out _ _ K22_0.out (fun hS14 => ?_)
        clear hK K
        refine wpAnyH_take (i := 15) (v := ?_) rfl (by kernel_rfl) (by kernel_rfl) (by kernel_rfl) (fun _ _ _ h => h) (Or.inl ⟨by rfl, ?yldq⟩) (by assumption) ?_
        case yldq => (intro w hSw; (try dsimp only at hSw); go_simp; try with_reducible rfl)
        try simp only [Act.put, List.setIfInBounds_toArray, List.set_cons_zero, List.set_cons_succ, List.getElem_toArray, List.getElem_cons_succ, List.getElem_cons_zero]
        refine wpAnyH_done (by kernel_rfl) ?_ _
        by_cases her : er = 0
        · subst her
          go_upto_region 7 with (fail)
          refine wp_region_held_drew (S := fun w' => Blk w' up [.pointer (some ⟨mp, 0, none⟩), .pointer (some ⟨bp, 0, none⟩), .bool on, .int .i64 asid, .int .u64 (root : Int), .bool us, .bool sm, .bool mx] 145 ∧ Blk w' B21 [.bool v2, .bool r2, .bool y2, .bool x2, .bool u2, .bool g2, .bool a2, .bool d2, .int .i64 rsw2, .int .u64 (pn2 : Int), .int .i64 (lv2 : Int), .int .u64 (pl2 : Int)] 41) (by kernel_rfl) ⟨K22_0.out, K22_3.out⟩ (fun hHeld => ?_)
          simp only [List.size_toArray, List.length_cons, List.length_nil, Nat.reduceAdd]
          rw [show Array.replicate 13 false = [false, false, false, false, false, false, false, false, false, false, false, false, false].toArray from rfl]
          refine wpAnyH_take (i := 0) (v := ?_) rfl (by kernel_rfl) (by kernel_rfl) (by kernel_rfl) (fun _ _ _ h => h) (Or.inl ⟨by rfl, ?yldq⟩) (by assumption) ?_
          case yldq => (intro w hSw; (try dsimp only at hSw); go_simp; try with_reducible rfl)
          try simp only [Act.put, List.setIfInBounds_toArray, List.set_cons_zero, List.set_cons_succ, List.getElem_toArray, List.getElem_cons_succ, List.getElem_cons_zero]
          refine wpAnyH_take (i := 1) (v := ?_) rfl (by kernel_rfl) (by kernel_rfl) (by kernel_rfl) (fun _ _ _ h => h) (Or.inl ⟨by rfl, ?yldq⟩) (by assumption) ?_
          case yldq => (intro w hSw; (try dsimp only at hSw); go_simp; try with_reducible rfl)
          try simp only [Act.put, List.setIfInBounds_toArray, List.set_cons_zero, List.set_cons_succ, List.getElem_toArray, List.getElem_cons_succ, List.getElem_cons_zero]
          refine wpAnyH_take (i := 2) (v := ?_) rfl (by kernel_rfl) (by kernel_rfl) (by kernel_rfl) (fun _ _ _ h => h) (Or.inl ⟨by rfl, ?yldq⟩) (by assumption) ?_
          case yldq => (intro w hSw; (try dsimp only at hSw); go_simp; try with_reducible rfl)
          try simp only [Act.put, List.setIfInBounds_toArray, List.set_cons_zero, List.set_cons_succ, List.getElem_toArray, List.getElem_cons_succ, List.getElem_cons_zero]
          refine wpAnyH_take (i := 3) (v := _) rfl (by kernel_rfl) (by kernel_rfl) (by kernel_rfl) (fun _ _ _ h => h) (Or.inl ⟨by rfl, fun w hSw => yield_un1 _ _ _ rfl rfl hSw.1⟩) (by assumption) ?_
          try simp only [Act.put, List.setIfInBounds_toArray, List.set_cons_zero, List.set_cons_succ, List.getElem_toArray, List.getElem_cons_succ, List.getElem_cons_zero]
          refine wpAnyH_take (i := 4) (v := ?_) rfl (by kernel_rfl) (by kernel_rfl) (by kernel_rfl) (fun _ _ _ h => h) (Or.inl ⟨by rfl, ?yldq⟩) (by assumption) ?_
          case yldq => (intro w hSw; (try dsimp only at hSw); go_simp; try with_reducible rfl)
          try simp only [Act.put, List.setIfInBounds_toArray, List.set_cons_zero, List.set_cons_succ, List.getElem_toArray, List.getElem_cons_succ, List.getElem_cons_zero]
          refine wpAnyH_take (i := 5) (v := ?_) rfl (by kernel_rfl) (by kernel_rfl) (by kernel_rfl) (fun _ _ _ h => h) (Or.inl ⟨by rfl, ?yldq⟩) (by assumption) ?_
          case yldq => (intro w hSw; (try dsimp only at hSw); go_simp; try with_reducible rfl)
          try simp only [Act.put, List.setIfInBounds_toArray, List.set_cons_zero, List.set_cons_succ, List.getElem_toArray, List.getElem_cons_succ, List.getElem_cons_zero]
          refine wpAnyH_take (i := 6) (v := ?_) rfl (by kernel_rfl) (by kernel_rfl) (by kernel_rfl) (fun _ _ _ h => h) (Or.inl ⟨by rfl, ?yldq⟩) (by assumption) ?_
          case yldq => (intro w hSw; (try dsimp only at hSw); go_simp; try with_reducible rfl)
          try simp only [Act.put, List.setIfInBounds_toArray, List.set_cons_zero, List.set_cons_succ, List.getElem_toArray, List.getElem_cons_succ, List.getElem_cons_zero]
          refine wpAnyH_take (i := 7) (v := ?_) rfl (by kernel_rfl) (by kernel_rfl) (by kernel_rfl) (fun _ _ _ h => h) (Or.inl ⟨by rfl, ?yldq⟩) (by assumption) ?_
          case yldq => (intro w hSw; (try dsimp only at hSw); go_simp; try with_reducible rfl)
          try simp only [Act.put, List.setIfInBounds_toArray, List.set_cons_zero, List.set_cons_succ, List.getElem_toArray, List.getElem_cons_succ, List.getElem_cons_zero]
          refine wpAnyH_take (i := 8) (v := ?_) rfl (by kernel_rfl) (by kernel_rfl) (by kernel_rfl) (fun _ _ _ h => h) (Or.inl ⟨by rfl, ?yldq⟩) (by assumption) ?_
          case yldq => (intro w hSw; (try dsimp only at hSw); go_simp; try with_reducible rfl)
          try simp only [Act.put, List.setIfInBounds_toArray, List.set_cons_zero, List.set_cons_succ, List.getElem_toArray, List.getElem_cons_succ, List.getElem_cons_zero]
          refine wpAnyH_take (i := 9) (v := _) rfl (by kernel_rfl) (by kernel_rfl) (by kernel_rfl) (fun _ _ _ h => h) (Or.inl ⟨by rfl, fun w hSw => yield_unasid _ _ _ rfl rfl hSw.1⟩) (by assumption) ?_
          try simp only [Act.put, List.setIfInBounds_toArray, List.set_cons_zero, List.set_cons_succ, List.getElem_toArray, List.getElem_cons_succ, List.getElem_cons_zero]
          refine wpAnyH_take (i := 10) (v := _) rfl (by kernel_rfl) (by kernel_rfl) (by kernel_rfl) (fun _ _ _ h => h) (Or.inl ⟨by rfl, fun w hSw => yield_leaf _ _ _ rfl rfl hSw.2⟩) (by assumption) ?_
          try simp only [Act.put, List.setIfInBounds_toArray, List.set_cons_zero, List.set_cons_succ, List.getElem_toArray, List.getElem_cons_succ, List.getElem_cons_zero]
          refine wpAnyH_take (i := 11) (v := ?_) rfl (by kernel_rfl) (by kernel_rfl) (by kernel_rfl) (fun _ _ _ h => h) (Or.inl ⟨by rfl, ?yldq⟩) (by assumption) ?_
          case yldq => (intro w hSw; (try dsimp only at hSw); go_simp; try with_reducible rfl)
          try simp only [Act.put, List.setIfInBounds_toArray, List.set_cons_zero, List.set_cons_succ, List.getElem_toArray, List.getElem_cons_succ, List.getElem_cons_zero]
          refine wpAnyH_ready (rs := [12]) (by kernel_rfl) (by simp) ?_
          refine AllReadyH.cons rfl (fun K hK => ?_) AllReadyH.nil
          go_simp
          refine (H3.out _ (L22.out.drew)).mono ?_
          rintro e w10 ⟨rfl, hb, hc⟩
          have hnf : ∀ j, w.heap.size ≤ j → ¬ FpT bp q g N j := fun j hj h => by have := HLT.out j h; omega
          have K0 := Lib.hid ((Blk.drewN K22_0.out 1).chg hc HM.out.ub); have K1 := Lib.hid ((Blk.drewN K22_1.out 1).chg hc (hnf _ G1.out)); have K4 := Lib.hid ((Blk.drewN K22_3.out 1).chg hc (hnf _ G21.out))
          have HBF := Lib.hid hb; have HCH := Lib.hid ((Chg.of_below (F := FpT bp q g N) (L22.out.drew)).trans hc); have HNF := Lib.hid hnf
          clear hb hc hnf hHeld
          refine hK.out _ _ ⟨K0.out, K4.out⟩ (fun hS12 => ?_)
          clear hK K hS12
          refine wpAnyH_done (by kernel_rfl) ?_ _
          have m0_0 := K1.out.c0
          have m0_1 := K1.out.c1
          have m0_2 := K1.out.c2
          have m0_3 := K1.out.c3
          have m0_4 := K1.out.c4
          have m0_5 := K1.out.c5
          have m0_6 := K1.out.c6
          have m0_7 := K1.out.c7
          have m0_8 := K1.out.c8
          have m0_9 := K1.out.c9
          have m0_10 := K1.out.c10
          have m0_11 := K1.out.c11
          have mlt0 : B1 < w10.heap.size := K1.out.lt
          have m1_0 := K4.out.c0
          have m1_1 := K4.out.c1
          have m1_2 := K4.out.c2
          have m1_3 := K4.out.c3
          have m1_4 := K4.out.c4
          have m1_5 := K4.out.c5
          have m1_6 := K4.out.c6
          have m1_7 := K4.out.c7
          have m1_8 := K4.out.c8
          have m1_9 := K4.out.c9
          have m1_10 := K4.out.c10
          have m1_11 := K4.out.c11
          have mlt1 : B21 < w10.heap.size := K4.out.lt
          have mf0 : ∀ o, w10.frozen? ⟨B1, o, none⟩ = false := fun o => K1.out.free o
          go_wp2
          clear m0_0 m0_1 m0_2 m0_3 m0_4 m0_5 m0_6 m0_7 m0_8 m0_9 m0_10 m0_11 mlt0 m1_0 m1_1 m1_2 m1_3 m1_4 m1_5 m1_6 m1_7 m1_8 m1_9 m1_10 m1_11 mlt1 mf0
          obtain ⟨W11, hW11⟩ : ∃ WX, WX = ((((((((((((w10.setCell ⟨B1, 0, none⟩ (.bool v2)).setCell ⟨B1, 1, none⟩ (.bool r2)).setCell ⟨B1, 2, none⟩ (.bool y2)).setCell ⟨B1, 3, none⟩ (.bool x2)).setCell ⟨B1, 4, none⟩ (.bool u2)).setCell ⟨B1, 5, none⟩ (.bool g2)).setCell ⟨B1, 6, none⟩ (.bool a2)).setCell ⟨B1, 7, none⟩ (.bool d2)).setCell ⟨B1, 8, none⟩ (.int .i64 rsw2)).setCell ⟨B1, 9, none⟩ (.int .u64 (pn2 : Int))).setCell ⟨B1, 10, none⟩ (.int .i64 (lv2 : Int))).setCell ⟨B1, 11, none⟩ (.int .u64 (pl2 : Int))) := ⟨_, rfl⟩
          rw [← hW11]
          have ka : Blk W11 B1 [.bool v2, .bool r2, .bool y2, .bool x2, .bool u2, .bool g2, .bool a2, .bool d2, .int .i64 rsw2, .int .u64 (pn2 : Int), .int .i64 (lv2 : Int), .int .u64 (pl2 : Int)] 41 := hW11 ▸ ((((((((((((K1.out.set 0 (.bool v2)).set 1 (.bool r2)).set 2 (.bool y2)).set 3 (.bool x2)).set 4 (.bool u2)).set 5 (.bool g2)).set 6 (.bool a2)).set 7 (.bool d2)).set 8 (.int .i64 rsw2)).set 9 (.int .u64 (pn2 : Int))).set 10 (.int .i64 (lv2 : Int))).set 11 (.int .u64 (pl2 : Int)))
          have kc : Chg (fun k => k = B1) w10 W11 := hW11 ▸ (((((((((((((Chg.refl (fun k => k = B1) w10).setc ⟨B1, 0, none⟩ (.bool v2) (.inl rfl)).setc ⟨B1, 1, none⟩ (.bool r2) (.inl rfl)).setc ⟨B1, 2, none⟩ (.bool y2) (.inl rfl)).setc ⟨B1, 3, none⟩ (.bool x2) (.inl rfl)).setc ⟨B1, 4, none⟩ (.bool u2) (.inl rfl)).setc ⟨B1, 5, none⟩ (.bool g2) (.inl rfl)).setc ⟨B1, 6, none⟩ (.bool a2) (.inl rfl)).setc ⟨B1, 7, none⟩ (.bool d2) (.inl rfl)).setc ⟨B1, 8, none⟩ (.int .i64 rsw2) (.inl rfl)).setc ⟨B1, 9, none⟩ (.int .u64 (pn2 : Int)) (.inl rfl)).setc ⟨B1, 10, none⟩ (.int .i64 (lv2 : Int)) (.inl rfl)).setc ⟨B1, 11, none⟩ (.int .u64 (pl2 : Int)) (.inl rfl))
          clear hW11
          have HB11 := Lib.hid (HBF.out.chg kc (fun k hk e => HNF.out _ G1.out (by have e : k = B1 := e; rw [← e]; exact hk)))
          have HC11 := Lib.hid (HCH.out.thenExt kc (fun j hj => .inr (by have hj : j = B1 := hj; have := G1.out; omega)))
          have KA := Lib.hid ka
          clear ka kc
          have rr0 := KA.out.c0
          have rr1 := KA.out.c1
          have rr2 := KA.out.c2
          have rr3 := KA.out.c3
          have rr4 := KA.out.c4
          have rr5 := KA.out.c5
          have rr6 := KA.out.c6
          have rr7 := KA.out.c7
          have rr8 := KA.out.c8
          have rr9 := KA.out.c9
          have rr10 := KA.out.c10
          have rr11 := KA.out.c11
          refine bodyPost_ret (v := .tuple #[.agg #[.bool v2, .bool r2, .bool y2, .bool x2, .bool u2, .bool g2, .bool a2, .bool d2, .int .i64 rsw2, .int .u64 (pn2 : Int), .int .i64 (lv2 : Int), .int .u64 (pl2 : Int)], .int .i64 0]) (by simp [results, Tryz.results114, go_sem, rr0, rr1, rr2, rr3, rr4, rr5, rr6, rr7, rr8, rr9, rr10, rr11]) rfl ⟨rfl, HB11.out, HC11.out⟩
        · have her2 : ((er : Int) != 0) = true := by simp; omega
          have m1_0 := K22_1.out.c0
          have m1_1 := K22_1.out.c1
          have m1_2 := K22_1.out.c2
          have m1_3 := K22_1.out.c3
          have m1_4 := K22_1.out.c4
          have m1_5 := K22_1.out.c5
          have m1_6 := K22_1.out.c6
          have m1_7 := K22_1.out.c7
          have m1_8 := K22_1.out.c8
          have m1_9 := K22_1.out.c9
          have m1_10 := K22_1.out.c10
          have m1_11 := K22_1.out.c11
          have mlt1 : B1 < W22.heap.size := K22_1.out.lt
          have mf1 : ∀ o, W22.frozen? ⟨B1, o, none⟩ = false := fun o => K22_1.out.free o
          go_wp2
          clear m1_0 m1_1 m1_2 m1_3 m1_4 m1_5 m1_6 m1_7 m1_8 m1_9 m1_10 m1_11 mlt1 mf1
          obtain ⟨W23, hW⟩ : ∃ WX, WX = ((((((((((((W22.setCell ⟨B1, 0, none⟩ (.bool false)).setCell ⟨B1, 1, none⟩ (.bool false)).setCell ⟨B1, 2, none⟩ (.bool false)).setCell ⟨B1, 3, none⟩ (.bool false)).setCell ⟨B1, 4, none⟩ (.bool false)).setCell ⟨B1, 5, none⟩ (.bool false)).setCell ⟨B1, 6, none⟩ (.bool false)).setCell ⟨B1, 7, none⟩ (.bool false)).setCell ⟨B1, 8, none⟩ (.int .i64 0)).setCell ⟨B1, 9, none⟩ (.int .u64 0)).setCell ⟨B1, 10, none⟩ (.int .i64 0)).setCell ⟨B1, 11, none⟩ (.int .u64 0)) := ⟨_, rfl⟩
          rw [← hW]
          have K23_0 := Lib.hid (show Blk W23 up [.pointer (some ⟨mp, 0, none⟩), .pointer (some ⟨bp, 0, none⟩), .bool on, .int .i64 asid, .int .u64 (root : Int), .bool us, .bool sm, .bool mx] 145 from hW ▸ ((((((((((((K22_0.out.other ⟨B1, 0, none⟩ (.bool false) X1_0_0.out).other ⟨B1, 1, none⟩ (.bool false) X1_0_0.out).other ⟨B1, 2, none⟩ (.bool false) X1_0_0.out).other ⟨B1, 3, none⟩ (.bool false) X1_0_0.out).other ⟨B1, 4, none⟩ (.bool false) X1_0_0.out).other ⟨B1, 5, none⟩ (.bool false) X1_0_0.out).other ⟨B1, 6, none⟩ (.bool false) X1_0_0.out).other ⟨B1, 7, none⟩ (.bool false) X1_0_0.out).other ⟨B1, 8, none⟩ (.int .i64 0) X1_0_0.out).other ⟨B1, 9, none⟩ (.int .u64 0) X1_0_0.out).other ⟨B1, 10, none⟩ (.int .i64 0) X1_0_0.out).other ⟨B1, 11, none⟩ (.int .u64 0) X1_0_0.out))
          have K23_1 := Lib.hid (show Blk W23 B1 [.bool false, .bool false, .bool false, .bool false, .bool false, .bool false, .bool false, .bool false, .int .i64 0, .int .u64 0, .int .i64 0, .int .u64 0] 41 from hW ▸ ((((((((((((K22_1.out.set 0 (.bool false)).set 1 (.bool false)).set 2 (.bool false)).set 3 (.bool false)).set 4 (.bool false)).set 5 (.bool false)).set 6 (.bool false)).set 7 (.bool false)).set 8 (.int .i64 0)).set 9 (.int .u64 0)).set 10 (.int .i64 0)).set 11 (.int .u64 0)))
          have K23_2 := Lib.hid (show Blk W23 B16 [.bool v, .bool r, .bool x1, .bool x, .bool u, .bool g9, .bool a, .bool d, .int .i64 rsw, .int .u64 (pn : Int), .int .i64 (lv : Int), .int .u64 (pl : Int)] 41 from hW ▸ ((((((((((((K22_2.out.other ⟨B1, 0, none⟩ (.bool false) (Ne.symm X16_1_0.out)).other ⟨B1, 1, none⟩ (.bool false) (Ne.symm X16_1_0.out)).other ⟨B1, 2, none⟩ (.bool false) (Ne.symm X16_1_0.out)).other ⟨B1, 3, none⟩ (.bool false) (Ne.symm X16_1_0.out)).other ⟨B1, 4, none⟩ (.bool false) (Ne.symm X16_1_0.out)).other ⟨B1, 5, none⟩ (.bool false) (Ne.symm X16_1_0.out)).other ⟨B1, 6, none⟩ (.bool false) (Ne.symm X16_1_0.out)).other ⟨B1, 7, none⟩ (.bool false) (Ne.symm X16_1_0.out)).other ⟨B1, 8, none⟩ (.int .i64 0) (Ne.symm X16_1_0.out)).other ⟨B1, 9, none⟩ (.int .u64 0) (Ne.symm X16_1_0.out)).other ⟨B1, 10, none⟩ (.int .i64 0) (Ne.symm X16_1_0.out)).other ⟨B1, 11, none⟩ (.int .u64 0) (Ne.symm X16_1_0.out)))
          have K23_3 := Lib.hid (show Blk W23 B21 [.bool v2, .bool r2, .bool y2, .bool x2, .bool u2, .bool g2, .bool a2, .bool d2, .int .i64 rsw2, .int .u64 (pn2 : Int), .int .i64 (lv2 : Int), .int .u64 (pl2 : Int)] 41 from hW ▸ ((((((((((((K22_3.out.other ⟨B1, 0, none⟩ (.bool false) (Ne.symm X21_1_0.out)).other ⟨B1, 1, none⟩ (.bool false) (Ne.symm X21_1_0.out)).other ⟨B1, 2, none⟩ (.bool false) (Ne.symm X21_1_0.out)).other ⟨B1, 3, none⟩ (.bool false) (Ne.symm X21_1_0.out)).other ⟨B1, 4, none⟩ (.bool false) (Ne.symm X21_1_0.out)).other ⟨B1, 5, none⟩ (.bool false) (Ne.symm X21_1_0.out)).other ⟨B1, 6, none⟩ (.bool false) (Ne.symm X21_1_0.out)).other ⟨B1, 7, none⟩ (.bool false) (Ne.symm X21_1_0.out)).other ⟨B1, 8, none⟩ (.int .i64 0) (Ne.symm X21_1_0.out)).other ⟨B1, 9, none⟩ (.int .u64 0) (Ne.symm X21_1_0.out)).other ⟨B1, 10, none⟩ (.int .i64 0) (Ne.symm X21_1_0.out)).other ⟨B1, 11, none⟩ (.int .u64 0) (Ne.symm X21_1_0.out)))
          have L23 := Lib.hid (show Below w.heap.size w W23 from hW ▸ (Below.setCell (Below.setCell (Below.setCell (Below.setCell (Below.setCell (Below.setCell (Below.setCell (Below.setCell (Below.setCell (Below.setCell (Below.setCell (Below.setCell L22.out G1.out _) G1.out _) G1.out _) G1.out _) G1.out _) G1.out _) G1.out _) G1.out _) G1.out _) G1.out _) G1.out _) G1.out _))
          clear hW K22_0 K22_1 K22_2 K22_3
          have rr0 := K23_1.out.c0
          have rr1 := K23_1.out.c1
          have rr2 := K23_1.out.c2
          have rr3 := K23_1.out.c3
          have rr4 := K23_1.out.c4
          have rr5 := K23_1.out.c5
          have rr6 := K23_1.out.c6
          have rr7 := K23_1.out.c7
          have rr8 := K23_1.out.c8
          have rr9 := K23_1.out.c9
          have rr10 := K23_1.out.c10
          have rr11 := K23_1.out.c11
          refine bodyPost_ret (v := .tuple #[.agg #[.bool false, .bool false, .bool false, .bool false, .bool false, .bool false, .bool false, .bool false, .int .i64 0, .int .u64 0, .int .i64 0, .int .u64 0], .int .i64 (er : Nat)]) (by simp [results, Tryz.results114, go_sem, rr0, rr1, rr2, rr3, rr4, rr5, rr6, rr7, rr8, rr9, rr10, rr11]) rfl (by first | exact ⟨rfl, H0.out.below L23.out, Chg.of_below L23.out⟩ | (rw [if_neg her]; exact ⟨rfl, H0.out.below L23.out, Chg.of_below L23.out⟩))
      · go_simp
        have nb0 := Blk.new D19 [.bool false, .bool false, .bool false, .bool false, .bool false, .bool false, .bool false, .bool false, .int .i64 0, .int .u64 0, .int .i64 0, .int .u64 0] 41
        have nls : Below w.heap.size w D19 := L19.out
        have nl0 := nls.alloc nls.size (.cells #[.bool false, .bool false, .bool false, .bool false, .bool false, .bool false, .bool false, .bool false, .int .i64 0, .int .u64 0, .int .i64 0, .int .u64 0] 41)
        have nl : Below w.heap.size w (D19.alloc (.cells #[.bool false, .bool false, .bool false, .bool false, .bool false, .bool false, .bool false, .bool false, .int .i64 0, .int .u64 0, .int .i64 0, .int .u64 0] 41)) := nl0; clear nls nl0
        have o0 := (K19_0.out.alloc (.cells #[.bool false, .bool false, .bool false, .bool false, .bool false, .bool false, .bool false, .bool false, .int .i64 0, .int .u64 0, .int .i64 0, .int .u64 0] 41))
        have d24_0 : up < D19.heap.size := K19_0.out.lt
        have o1 := (K19_1.out.alloc (.cells #[.bool false, .bool false, .bool false, .bool false, .bool false, .bool false, .bool false, .bool false, .int .i64 0, .int .u64 0, .int .i64 0, .int .u64 0] 41))
        have d24_1 : B1 < D19.heap.size := K19_1.out.lt
        have o2 := (K19_2.out.alloc (.cells #[.bool false, .bool false, .bool false, .bool false, .bool false, .bool false, .bool false, .bool false, .int .i64 0, .int .u64 0, .int .i64 0, .int .u64 0] 41))
        have d24_2 : B16 < D19.heap.size := K19_2.out.lt
        obtain ⟨B24, hB0⟩ : ∃ B, B = D19.heap.size := ⟨_, rfl⟩
        obtain ⟨W24, hW⟩ : ∃ W, W = (D19.alloc (.cells #[.bool false, .bool false, .bool false, .bool false, .bool false, .bool false, .bool false, .bool false, .int .i64 0, .int .u64 0, .int .i64 0, .int .u64 0] 41)) := ⟨_, rfl⟩
        rw [← hW] at nl nb0 o0 o1 o2
        rw [← hB0] at nb0
        rw [← hW]
        try rw [← hB0]
        have K24_0 := Lib.hid o0
        have K24_1 := Lib.hid o1
        have K24_2 := Lib.hid o2
        have K24_3 := Lib.hid nb0
        have G24 : Hid (w.heap.size ≤ B24) := Lib.hid (by have := L19.out.size; omega)
        have x24_0_0 : up ≠ B24 := by omega
        have x24_1_0 : B1 ≠ B24 := by omega
        have x24_2_0 : B16 ≠ B24 := by omega
        have X24_0_0 := Lib.hid x24_0_0; clear x24_0_0
        have X24_1_0 := Lib.hid x24_1_0; clear x24_1_0
        have X24_2_0 := Lib.hid x24_2_0; clear x24_2_0
        have L24 := Lib.hid nl
        clear nl hW nb0 hB0 o0 d24_0 o1 d24_1 o2 d24_2 K19_0 K19_1 K19_2
        refine hK.out _ _ K24_0.out (fun hS13 => ?_)
        clear hK K
        refine wpAnyH_ready (rs := [9]) (by kernel_rfl) (by simp) ?_
        refine AllReadyH.cons rfl (fun K hK => ?_) AllReadyH.nil
        go_simp
        refine (H2.out _ L24.out).mono ?_
        rintro e w25 ⟨rfl, hb⟩
        have L25 := Lib.hid (L24.out.trans (hb.mono L24.out.size))
        have K25_0 := Lib.hid (K24_0.out.below hb K24_0.out.lt)
        have K25_1 := Lib.hid (K24_1.out.below hb K24_1.out.lt)
        have K25_2 := Lib.hid (K24_2.out.below hb K24_2.out.lt)
        have K25_3 := Lib.hid (K24_3.out.below hb K24_3.out.lt)
        clear hb K24_0 K24_1 K24_2 K24_3
        refine hK.out _ _ K25_0.out (fun hS9 => ?_)
        clear hK K
        refine wpAnyH_take (i := 10) (v := ?_) rfl (by kernel_rfl) (by kernel_rfl) (by kernel_rfl) (fun _ _ _ h => h) (Or.inl ⟨by rfl, ?yldq⟩) (by assumption) ?_
        case yldq => (intro w hSw; (try dsimp only at hSw); go_simp; try with_reducible rfl)
        try simp only [Act.put, List.setIfInBounds_toArray, List.set_cons_zero, List.set_cons_succ, List.getElem_toArray, List.getElem_cons_succ, List.getElem_cons_zero]
        refine wpAnyH_take (i := 11) (v := ?_) rfl (by kernel_rfl) (by kernel_rfl) (by kernel_rfl) (fun _ _ _ h => h) (Or.inl ⟨by rfl, ?yldq⟩) (by assumption) ?_
        case yldq => (intro w hSw; (try dsimp only at hSw); go_simp; try with_reducible rfl)
        try simp only [Act.put, List.setIfInBounds_toArray, List.set_cons_zero, List.set_cons_succ, List.getElem_toArray, List.getElem_cons_succ, List.getElem_cons_zero]
        refine wpAnyH_take (i := 12) (v := ?_) rfl (by kernel_rfl) (by kernel_rfl) (by kernel_rfl) (fun _ _ _ h => h) (Or.inl ⟨by rfl, ?yldq⟩) (by assumption) ?_
        case yldq => (intro w hSw; (try dsimp only at hSw); go_simp; try with_reducible rfl)
        try simp only [Act.put, List.setIfInBounds_toArray, List.set_cons_zero, List.set_cons_succ, List.getElem_toArray, List.getElem_cons_succ, List.getElem_cons_zero]
        refine wpAnyH_ready (rs := [14]) (by kernel_rfl) (by simp) ?_
        refine AllReadyH.cons rfl (fun K hK => ?_) AllReadyH.nil
        have m3_0 := K25_3.out.c0
        have m3_1 := K25_3.out.c1
        have m3_2 := K25_3.out.c2
        have m3_3 := K25_3.out.c3
        have m3_4 := K25_3.out.c4
        have m3_5 := K25_3.out.c5
        have m3_6 := K25_3.out.c6
        have m3_7 := K25_3.out.c7
        have m3_8 := K25_3.out.c8
        have m3_9 := K25_3.out.c9
        have m3_10 := K25_3.out.c10
        have m3_11 := K25_3.out.c11
        have mlt3 : B24 < w25.heap.size := K25_3.out.lt
        have mf3 : ∀ o, w25.frozen? ⟨B24, o, none⟩ = false := fun o => K25_3.out.free o
        go_simp
        clear m3_0 m3_1 m3_2 m3_3 m3_4 m3_5 m3_6 m3_7 m3_8 m3_9 m3_10 m3_11 mlt3 mf3
        obtain ⟨W26, hW⟩ : ∃ WX, WX = ((((((((((((w25.setCell ⟨B24, 0, none⟩ (.bool v2)).setCell ⟨B24, 1, none⟩ (.bool r2)).setCell ⟨B24, 2, none⟩ (.bool y2)).setCell ⟨B24, 3, none⟩ (.bool x2)).setCell ⟨B24, 4, none⟩ (.bool u2)).setCell ⟨B24, 5, none⟩ (.bool g2)).setCell ⟨B24, 6, none⟩ (.bool a2)).setCell ⟨B24, 7, none⟩ (.bool d2)).setCell ⟨B24, 8, none⟩ (.int .i64 rsw2)).setCell ⟨B24, 9, none⟩ (.int .u64 (pn2 : Int))).setCell ⟨B24, 10, none⟩ (.int .i64 (lv2 : Int))).setCell ⟨B24, 11, none⟩ (.int .u64 (pl2 : Int))) := ⟨_, rfl⟩
        rw [← hW]
        have K26_0 := Lib.hid (show Blk W26 up [.pointer (some ⟨mp, 0, none⟩), .pointer (some ⟨bp, 0, none⟩), .bool on, .int .i64 asid, .int .u64 (root : Int), .bool us, .bool sm, .bool mx] 145 from hW ▸ ((((((((((((K25_0.out.other ⟨B24, 0, none⟩ (.bool v2) X24_0_0.out).other ⟨B24, 1, none⟩ (.bool r2) X24_0_0.out).other ⟨B24, 2, none⟩ (.bool y2) X24_0_0.out).other ⟨B24, 3, none⟩ (.bool x2) X24_0_0.out).other ⟨B24, 4, none⟩ (.bool u2) X24_0_0.out).other ⟨B24, 5, none⟩ (.bool g2) X24_0_0.out).other ⟨B24, 6, none⟩ (.bool a2) X24_0_0.out).other ⟨B24, 7, none⟩ (.bool d2) X24_0_0.out).other ⟨B24, 8, none⟩ (.int .i64 rsw2) X24_0_0.out).other ⟨B24, 9, none⟩ (.int .u64 (pn2 : Int)) X24_0_0.out).other ⟨B24, 10, none⟩ (.int .i64 (lv2 : Int)) X24_0_0.out).other ⟨B24, 11, none⟩ (.int .u64 (pl2 : Int)) X24_0_0.out))
        have K26_1 := Lib.hid (show Blk W26 B1 [.bool false, .bool false, .bool false, .bool false, .bool false, .bool false, .bool false, .bool false, .int .i64 0, .int .u64 0, .int .i64 0, .int .u64 0] 41 from hW ▸ ((((((((((((K25_1.out.other ⟨B24, 0, none⟩ (.bool v2) X24_1_0.out).other ⟨B24, 1, none⟩ (.bool r2) X24_1_0.out).other ⟨B24, 2, none⟩ (.bool y2) X24_1_0.out).other ⟨B24, 3, none⟩ (.bool x2) X24_1_0.out).other ⟨B24, 4, none⟩ (.bool u2) X24_1_0.out).other ⟨B24, 5, none⟩ (.bool g2) X24_1_0.out).other ⟨B24, 6, none⟩ (.bool a2) X24_1_0.out).other ⟨B24, 7, none⟩ (.bool d2) X24_1_0.out).other ⟨B24, 8, none⟩ (.int .i64 rsw2) X24_1_0.out).other ⟨B24, 9, none⟩ (.int .u64 (pn2 : Int)) X24_1_0.out).other ⟨B24, 10, none⟩ (.int .i64 (lv2 : Int)) X24_1_0.out).other ⟨B24, 11, none⟩ (.int .u64 (pl2 : Int)) X24_1_0.out))
        have K26_2 := Lib.hid (show Blk W26 B16 [.bool v, .bool r, .bool x1, .bool x, .bool u, .bool g9, .bool a, .bool d, .int .i64 rsw, .int .u64 (pn : Int), .int .i64 (lv : Int), .int .u64 (pl : Int)] 41 from hW ▸ ((((((((((((K25_2.out.other ⟨B24, 0, none⟩ (.bool v2) X24_2_0.out).other ⟨B24, 1, none⟩ (.bool r2) X24_2_0.out).other ⟨B24, 2, none⟩ (.bool y2) X24_2_0.out).other ⟨B24, 3, none⟩ (.bool x2) X24_2_0.out).other ⟨B24, 4, none⟩ (.bool u2) X24_2_0.out).other ⟨B24, 5, none⟩ (.bool g2) X24_2_0.out).other ⟨B24, 6, none⟩ (.bool a2) X24_2_0.out).other ⟨B24, 7, none⟩ (.bool d2) X24_2_0.out).other ⟨B24, 8, none⟩ (.int .i64 rsw2) X24_2_0.out).other ⟨B24, 9, none⟩ (.int .u64 (pn2 : Int)) X24_2_0.out).other ⟨B24, 10, none⟩ (.int .i64 (lv2 : Int)) X24_2_0.out).other ⟨B24, 11, none⟩ (.int .u64 (pl2 : Int)) X24_2_0.out))
        have K26_3 := Lib.hid (show Blk W26 B24 [.bool v2, .bool r2, .bool y2, .bool x2, .bool u2, .bool g2, .bool a2, .bool d2, .int .i64 rsw2, .int .u64 (pn2 : Int), .int .i64 (lv2 : Int), .int .u64 (pl2 : Int)] 41 from hW ▸ ((((((((((((K25_3.out.set 0 (.bool v2)).set 1 (.bool r2)).set 2 (.bool y2)).set 3 (.bool x2)).set 4 (.bool u2)).set 5 (.bool g2)).set 6 (.bool a2)).set 7 (.bool d2)).set 8 (.int .i64 rsw2)).set 9 (.int .u64 (pn2 : Int))).set 10 (.int .i64 (lv2 : Int))).set 11 (.int .u64 (pl2 : Int))))
        have L26 := Lib.hid (show Below w.heap.size w W26 from hW ▸ (Below.setCell (Below.setCell (Below.setCell (Below.setCell (Below.setCell (Below.setCell (Below.setCell (Below.setCell (Below.setCell (Below.setCell (Below.setCell (Below.setCell L25.out G24.out _) G24.out _) G24.out _) G24.out _) G24.out _) G24.out _) G24.out _) G24.out _) G24.out _) G24.out _) G24.out _) G24.out _))
        clear hW K25_0 K25_1 K25_2 K25_3
        refine hK.out _ _ K26_0.out (fun hS14 => ?_)
        clear hK K
        refine wpAnyH_take (i := 15) (v := ?_) rfl (by kernel_rfl) (by kernel_rfl) (by kernel_rfl) (fun _ _ _ h => h) (Or.inl ⟨by rfl, ?yldq⟩) (by assumption) ?_
        case yldq => (intro w hSw; (try dsimp only at hSw); go_simp; try with_reducible rfl)
        try simp only [Act.put, List.setIfInBounds_toArray, List.set_cons_zero, List.set_cons_succ, List.getElem_toArray, List.getElem_cons_succ, List.getElem_cons_zero]
        refine wpAnyH_done (by kernel_rfl) ?_ _
        by_cases her : er = 0
        · subst her
          go_upto_region 7 with (fail)
          refine wp_region_held_drew (S := fun w' => Blk w' up [.pointer (some ⟨mp, 0, none⟩), .pointer (some ⟨bp, 0, none⟩), .bool on, .int .i64 asid, .int .u64 (root : Int), .bool us, .bool sm, .bool mx] 145 ∧ Blk w' B24 [.bool v2, .bool r2, .bool y2, .bool x2, .bool u2, .bool g2, .bool a2, .bool d2, .int .i64 rsw2, .int .u64 (pn2 : Int), .int .i64 (lv2 : Int), .int .u64 (pl2 : Int)] 41) (by kernel_rfl) ⟨K26_0.out, K26_3.out⟩ (fun hHeld => ?_)
          simp only [List.size_toArray, List.length_cons, List.length_nil, Nat.reduceAdd]
          rw [show Array.replicate 13 false = [false, false, false, false, false, false, false, false, false, false, false, false, false].toArray from rfl]
          refine wpAnyH_take (i := 0) (v := ?_) rfl (by kernel_rfl) (by kernel_rfl) (by kernel_rfl) (fun _ _ _ h => h) (Or.inl ⟨by rfl, ?yldq⟩) (by assumption) ?_
          case yldq => (intro w hSw; (try dsimp only at hSw); go_simp; try with_reducible rfl)
          try simp only [Act.put, List.setIfInBounds_toArray, List.set_cons_zero, List.set_cons_succ, List.getElem_toArray, List.getElem_cons_succ, List.getElem_cons_zero]
          refine wpAnyH_take (i := 1) (v := ?_) rfl (by kernel_rfl) (by kernel_rfl) (by kernel_rfl) (fun _ _ _ h => h) (Or.inl ⟨by rfl, ?yldq⟩) (by assumption) ?_
          case yldq => (intro w hSw; (try dsimp only at hSw); go_simp; try with_reducible rfl)
          try simp only [Act.put, List.setIfInBounds_toArray, List.set_cons_zero, List.set_cons_succ, List.getElem_toArray, List.getElem_cons_succ, List.getElem_cons_zero]
          refine wpAnyH_take (i := 2) (v := ?_) rfl (by kernel_rfl) (by kernel_rfl) (by kernel_rfl) (fun _ _ _ h => h) (Or.inl ⟨by rfl, ?yldq⟩) (by assumption) ?_
          case yldq => (intro w hSw; (try dsimp only at hSw); go_simp; try with_reducible rfl)
          try simp only [Act.put, List.setIfInBounds_toArray, List.set_cons_zero, List.set_cons_succ, List.getElem_toArray, List.getElem_cons_succ, List.getElem_cons_zero]
          refine wpAnyH_take (i := 3) (v := _) rfl (by kernel_rfl) (by kernel_rfl) (by kernel_rfl) (fun _ _ _ h => h) (Or.inl ⟨by rfl, fun w hSw => yield_un1 _ _ _ rfl rfl hSw.1⟩) (by assumption) ?_
          try simp only [Act.put, List.setIfInBounds_toArray, List.set_cons_zero, List.set_cons_succ, List.getElem_toArray, List.getElem_cons_succ, List.getElem_cons_zero]
          refine wpAnyH_take (i := 4) (v := ?_) rfl (by kernel_rfl) (by kernel_rfl) (by kernel_rfl) (fun _ _ _ h => h) (Or.inl ⟨by rfl, ?yldq⟩) (by assumption) ?_
          case yldq => (intro w hSw; (try dsimp only at hSw); go_simp; try with_reducible rfl)
          try simp only [Act.put, List.setIfInBounds_toArray, List.set_cons_zero, List.set_cons_succ, List.getElem_toArray, List.getElem_cons_succ, List.getElem_cons_zero]
          refine wpAnyH_take (i := 5) (v := ?_) rfl (by kernel_rfl) (by kernel_rfl) (by kernel_rfl) (fun _ _ _ h => h) (Or.inl ⟨by rfl, ?yldq⟩) (by assumption) ?_
          case yldq => (intro w hSw; (try dsimp only at hSw); go_simp; try with_reducible rfl)
          try simp only [Act.put, List.setIfInBounds_toArray, List.set_cons_zero, List.set_cons_succ, List.getElem_toArray, List.getElem_cons_succ, List.getElem_cons_zero]
          refine wpAnyH_take (i := 6) (v := ?_) rfl (by kernel_rfl) (by kernel_rfl) (by kernel_rfl) (fun _ _ _ h => h) (Or.inl ⟨by rfl, ?yldq⟩) (by assumption) ?_
          case yldq => (intro w hSw; (try dsimp only at hSw); go_simp; try with_reducible rfl)
          try simp only [Act.put, List.setIfInBounds_toArray, List.set_cons_zero, List.set_cons_succ, List.getElem_toArray, List.getElem_cons_succ, List.getElem_cons_zero]
          refine wpAnyH_take (i := 7) (v := ?_) rfl (by kernel_rfl) (by kernel_rfl) (by kernel_rfl) (fun _ _ _ h => h) (Or.inl ⟨by rfl, ?yldq⟩) (by assumption) ?_
          case yldq => (intro w hSw; (try dsimp only at hSw); go_simp; try with_reducible rfl)
          try simp only [Act.put, List.setIfInBounds_toArray, List.set_cons_zero, List.set_cons_succ, List.getElem_toArray, List.getElem_cons_succ, List.getElem_cons_zero]
          refine wpAnyH_take (i := 8) (v := ?_) rfl (by kernel_rfl) (by kernel_rfl) (by kernel_rfl) (fun _ _ _ h => h) (Or.inl ⟨by rfl, ?yldq⟩) (by assumption) ?_
          case yldq => (intro w hSw; (try dsimp only at hSw); go_simp; try with_reducible rfl)
          try simp only [Act.put, List.setIfInBounds_toArray, List.set_cons_zero, List.set_cons_succ, List.getElem_toArray, List.getElem_cons_succ, List.getElem_cons_zero]
          refine wpAnyH_take (i := 9) (v := _) rfl (by kernel_rfl) (by kernel_rfl) (by kernel_rfl) (fun _ _ _ h => h) (Or.inl ⟨by rfl, fun w hSw => yield_unasid _ _ _ rfl rfl hSw.1⟩) (by assumption) ?_
          try simp only [Act.put, List.setIfInBounds_toArray, List.set_cons_zero, List.set_cons_succ, List.getElem_toArray, List.getElem_cons_succ, List.getElem_cons_zero]
          refine wpAnyH_take (i := 10) (v := _) rfl (by kernel_rfl) (by kernel_rfl) (by kernel_rfl) (fun _ _ _ h => h) (Or.inl ⟨by rfl, fun w hSw => yield_leaf _ _ _ rfl rfl hSw.2⟩) (by assumption) ?_
          try simp only [Act.put, List.setIfInBounds_toArray, List.set_cons_zero, List.set_cons_succ, List.getElem_toArray, List.getElem_cons_succ, List.getElem_cons_zero]
          refine wpAnyH_take (i := 11) (v := ?_) rfl (by kernel_rfl) (by kernel_rfl) (by kernel_rfl) (fun _ _ _ h => h) (Or.inl ⟨by rfl, ?yldq⟩) (by assumption) ?_
          case yldq => (intro w hSw; (try dsimp only at hSw); go_simp; try with_reducible rfl)
          try simp only [Act.put, List.setIfInBounds_toArray, List.set_cons_zero, List.set_cons_succ, List.getElem_toArray, List.getElem_cons_succ, List.getElem_cons_zero]
          refine wpAnyH_ready (rs := [12]) (by kernel_rfl) (by simp) ?_
          refine AllReadyH.cons rfl (fun K hK => ?_) AllReadyH.nil
          go_simp
          refine (H3.out _ (L26.out.drew)).mono ?_
          rintro e w10 ⟨rfl, hb, hc⟩
          have hnf : ∀ j, w.heap.size ≤ j → ¬ FpT bp q g N j := fun j hj h => by have := HLT.out j h; omega
          have K0 := Lib.hid ((Blk.drewN K26_0.out 1).chg hc HM.out.ub); have K1 := Lib.hid ((Blk.drewN K26_1.out 1).chg hc (hnf _ G1.out)); have K4 := Lib.hid ((Blk.drewN K26_3.out 1).chg hc (hnf _ G24.out))
          have HBF := Lib.hid hb; have HCH := Lib.hid ((Chg.of_below (F := FpT bp q g N) (L26.out.drew)).trans hc); have HNF := Lib.hid hnf
          clear hb hc hnf hHeld
          refine hK.out _ _ ⟨K0.out, K4.out⟩ (fun hS12 => ?_)
          clear hK K hS12
          refine wpAnyH_done (by kernel_rfl) ?_ _
          have m0_0 := K1.out.c0
          have m0_1 := K1.out.c1
          have m0_2 := K1.out.c2
          have m0_3 := K1.out.c3
          have m0_4 := K1.out.c4
          have m0_5 := K1.out.c5
          have m0_6 := K1.out.c6
          have m0_7 := K1.out.c7
          have m0_8 := K1.out.c8
          have m0_9 := K1.out.c9
          have m0_10 := K1.out.c10
          have m0_11 := K1.out.c11
          have mlt0 : B1 < w10.heap.size := K1.out.lt
          have m1_0 := K4.out.c0
          have m1_1 := K4.out.c1
          have m1_2 := K4.out.c2
          have m1_3 := K4.out.c3
          have m1_4 := K4.out.c4
          have m1_5 := K4.out.c5
          have m1_6 := K4.out.c6
          have m1_7 := K4.out.c7
          have m1_8 := K4.out.c8
          have m1_9 := K4.out.c9
          have m1_10 := K4.out.c10
          have m1_11 := K4.out.c11
          have mlt1 : B24 < w10.heap.size := K4.out.lt
          have mf0 : ∀ o, w10.frozen? ⟨B1, o, none⟩ = false := fun o => K1.out.free o
          go_wp2
          clear m0_0 m0_1 m0_2 m0_3 m0_4 m0_5 m0_6 m0_7 m0_8 m0_9 m0_10 m0_11 mlt0 m1_0 m1_1 m1_2 m1_3 m1_4 m1_5 m1_6 m1_7 m1_8 m1_9 m1_10 m1_11 mlt1 mf0
          obtain ⟨W11, hW11⟩ : ∃ WX, WX = ((((((((((((w10.setCell ⟨B1, 0, none⟩ (.bool v2)).setCell ⟨B1, 1, none⟩ (.bool r2)).setCell ⟨B1, 2, none⟩ (.bool y2)).setCell ⟨B1, 3, none⟩ (.bool x2)).setCell ⟨B1, 4, none⟩ (.bool u2)).setCell ⟨B1, 5, none⟩ (.bool g2)).setCell ⟨B1, 6, none⟩ (.bool a2)).setCell ⟨B1, 7, none⟩ (.bool d2)).setCell ⟨B1, 8, none⟩ (.int .i64 rsw2)).setCell ⟨B1, 9, none⟩ (.int .u64 (pn2 : Int))).setCell ⟨B1, 10, none⟩ (.int .i64 (lv2 : Int))).setCell ⟨B1, 11, none⟩ (.int .u64 (pl2 : Int))) := ⟨_, rfl⟩
          rw [← hW11]
          have ka : Blk W11 B1 [.bool v2, .bool r2, .bool y2, .bool x2, .bool u2, .bool g2, .bool a2, .bool d2, .int .i64 rsw2, .int .u64 (pn2 : Int), .int .i64 (lv2 : Int), .int .u64 (pl2 : Int)] 41 := hW11 ▸ ((((((((((((K1.out.set 0 (.bool v2)).set 1 (.bool r2)).set 2 (.bool y2)).set 3 (.bool x2)).set 4 (.bool u2)).set 5 (.bool g2)).set 6 (.bool a2)).set 7 (.bool d2)).set 8 (.int .i64 rsw2)).set 9 (.int .u64 (pn2 : Int))).set 10 (.int .i64 (lv2 : Int))).set 11 (.int .u64 (pl2 : Int)))
          have kc : Chg (fun k => k = B1) w10 W11 := hW11 ▸ (((((((((((((Chg.refl (fun k => k = B1) w10).setc ⟨B1, 0, none⟩ (.bool v2) (.inl rfl)).setc ⟨B1, 1, none⟩ (.bool r2) (.inl rfl)).setc ⟨B1, 2, none⟩ (.bool y2) (.inl rfl)).setc ⟨B1, 3, none⟩ (.bool x2) (.inl rfl)).setc ⟨B1, 4, none⟩ (.bool u2) (.inl rfl)).setc ⟨B1, 5, none⟩ (.bool g2) (.inl rfl)).setc ⟨B1, 6, none⟩ (.bool a2) (.inl rfl)).setc ⟨B1, 7, none⟩ (.bool d2) (.inl rfl)).setc ⟨B1, 8, none⟩ (.int .i64 rsw2) (.inl rfl)).setc ⟨B1, 9, none⟩ (.int .u64 (pn2 : Int)) (.inl rfl)).setc ⟨B1, 10, none⟩ (.int .i64 (lv2 : Int)) (.inl rfl)).setc ⟨B1, 11, none⟩ (.int .u64 (pl2 : Int)) (.inl rfl))
          clear hW11
          have HB11 := Lib.hid (HBF.out.chg kc (fun k hk e => HNF.out _ G1.out (by have e : k = B1 := e; rw [← e]; exact hk)))
          have HC11 := Lib.hid (HCH.out.thenExt kc (fun j hj => .inr (by have hj : j = B1 := hj; have := G1.out; omega)))
          have KA := Lib.hid ka
          clear ka kc
          have rr0 := KA.out.c0
          have rr1 := KA.out.c1
          have rr2 := KA.out.c2
          have rr3 := KA.out.c3
          have rr4 := KA.out.c4
          have rr5 := KA.out.c5
          have rr6 := KA.out.c6
          have rr7 := KA.out.c7
          have rr8 := KA.out.c8
          have rr9 := KA.out.c9
          have rr10 := KA.out.c10
          have rr11 := KA.out.c11
          refine bodyPost_ret (v := .tuple #[.agg #[.bool v2, .bool r2, .bool y2, .bool x2, .bool u2, .bool g2, .bool a2, .bool d2, .int .i64 rsw2, .int .u64 (pn2 : Int), .int .i64 (lv2 : Int), .int .u64 (pl2 : Int)], .int .i64 0]) (by simp [results, Tryz.results114, go_sem, rr0, rr1, rr2, rr3, rr4, rr5, rr6, rr7, rr8, rr9, rr10, rr11]) rfl ⟨rfl, HB11.out, HC11.out⟩
        · have her2 : ((er : Int) != 0) = true := by simp; omega
          have m1_0 := K26_1.out.c0
          have m1_1 := K26_1.out.c1
          have m1_2 := K26_1.out.c2
          have m1_3 := K26_1.out.c3
          have m1_4 := K26_1.out.c4
          have m1_5 := K26_1.out.c5
          have m1_6 := K26_1.out.c6
          have m1_7 := K26_1.out.c7
          have m1_8 := K26_1.out.c8
          have m1_9 := K26_1.out.c9
          have m1_10 := K26_1.out.c10
          have m1_11 := K26_1.out.c11
          have mlt1 : B1 < W26.heap.size := K26_1.out.lt
          have mf1 : ∀ o, W26.frozen? ⟨B1, o, none⟩ = false := fun o => K26_1.out.free o
          go_wp2
          clear m1_0 m1_1 m1_2 m1_3 m1_4 m1_5 m1_6 m1_7 m1_8 m1_9 m1_10 m1_11 mlt1 mf1
          obtain ⟨W27, hW⟩ : ∃ WX, WX = ((((((((((((W26.setCell ⟨B1, 0, none⟩ (.bool false)).setCell ⟨B1, 1, none⟩ (.bool false)).setCell ⟨B1, 2, none⟩ (.bool false)).setCell ⟨B1, 3, none⟩ (.bool false)).setCell ⟨B1, 4, none⟩ (.bool false)).setCell ⟨B1, 5, none⟩ (.bool false)).setCell ⟨B1, 6, none⟩ (.bool false)).setCell ⟨B1, 7, none⟩ (.bool false)).setCell ⟨B1, 8, none⟩ (.int .i64 0)).setCell ⟨B1, 9, none⟩ (.int .u64 0)).setCell ⟨B1, 10, none⟩ (.int .i64 0)).setCell ⟨B1, 11, none⟩ (.int .u64 0)) := ⟨_, rfl⟩
          rw [← hW]
          have K27_0 := Lib.hid (show Blk W27 up [.pointer (some ⟨mp, 0, none⟩), .pointer (some ⟨bp, 0, none⟩), .bool on, .int .i64 asid, .int .u64 (root : Int), .bool us, .bool sm, .bool mx] 145 from hW ▸ ((((((((((((K26_0.out.other ⟨B1, 0, none⟩ (.bool false) X1_0_0.out).other ⟨B1, 1, none⟩ (.bool false) X1_0_0.out).other ⟨B1, 2, none⟩ (.bool false) X1_0_0.out).other ⟨B1, 3, none⟩ (.bool false) X1_0_0.out).other ⟨B1, 4, none⟩ (.bool false) X1_0_0.out).other ⟨B1, 5, none⟩ (.bool false) X1_0_0.out).other ⟨B1, 6, none⟩ (.bool false) X1_0_0.out).other ⟨B1, 7, none⟩ (.bool false) X1_0_0.out).other ⟨B1, 8, none⟩ (.int .i64 0) X1_0_0.out).other ⟨B1, 9, none⟩ (.int .u64 0) X1_0_0.out).other ⟨B1, 10, none⟩ (.int .i64 0) X1_0_0.out).other ⟨B1, 11, none⟩ (.int .u64 0) X1_0_0.out))
          have K27_1 := Lib.hid (show Blk W27 B1 [.bool false, .bool false, .bool false, .bool false, .bool false, .bool false, .bool false, .bool false, .int .i64 0, .int .u64 0, .int .i64 0, .int .u64 0] 41 from hW ▸ ((((((((((((K26_1.out.set 0 (.bool false)).set 1 (.bool false)).set 2 (.bool false)).set 3 (.bool false)).set 4 (.bool false)).set 5 (.bool false)).set 6 (.bool false)).set 7 (.bool false)).set 8 (.int .i64 0)).set 9 (.int .u64 0)).set 10 (.int .i64 0)).set 11 (.int .u64 0)))
          have K27_2 := Lib.hid (show Blk W27 B16 [.bool v, .bool r, .bool x1, .bool x, .bool u, .bool g9, .bool a, .bool d, .int .i64 rsw, .int .u64 (pn : Int), .int .i64 (lv : Int), .int .u64 (pl : Int)] 41 from hW ▸ ((((((((((((K26_2.out.other ⟨B1, 0, none⟩ (.bool false) (Ne.symm X16_1_0.out)).other ⟨B1, 1, none⟩ (.bool false) (Ne.symm X16_1_0.out)).other ⟨B1, 2, none⟩ (.bool false) (Ne.symm X16_1_0.out)).other ⟨B1, 3, none⟩ (.bool false) (Ne.symm X16_1_0.out)).other ⟨B1, 4, none⟩ (.bool false) (Ne.symm X16_1_0.out)).other ⟨B1, 5, none⟩ (.bool false) (Ne.symm X16_1_0.out)).other ⟨B1, 6, none⟩ (.bool false) (Ne.symm X16_1_0.out)).other ⟨B1, 7, none⟩ (.bool false) (Ne.symm X16_1_0.out)).other ⟨B1, 8, none⟩ (.int .i64 0) (Ne.symm X16_1_0.out)).other ⟨B1, 9, none⟩ (.int .u64 0) (Ne.symm X16_1_0.out)).other ⟨B1, 10, none⟩ (.int .i64 0) (Ne.symm X16_1_0.out)).other ⟨B1, 11, none⟩ (.int .u64 0) (Ne.symm X16_1_0.out)))
          have K27_3 := Lib.hid (show Blk W27 B24 [.bool v2, .bool r2, .bool y2, .bool x2, .bool u2, .bool g2, .bool a2, .bool d2, .int .i64 rsw2, .int .u64 (pn2 : Int), .int .i64 (lv2 : Int), .int .u64 (pl2 : Int)] 41 from hW ▸ ((((((((((((K26_3.out.other ⟨B1, 0, none⟩ (.bool false) (Ne.symm X24_1_0.out)).other ⟨B1, 1, none⟩ (.bool false) (Ne.symm X24_1_0.out)).other ⟨B1, 2, none⟩ (.bool false) (Ne.symm X24_1_0.out)).other ⟨B1, 3, none⟩ (.bool false) (Ne.symm X24_1_0.out)).other ⟨B1, 4, none⟩ (.bool false) (Ne.symm X24_1_0.out)).other ⟨B1, 5, none⟩ (.bool false) (Ne.symm X24_1_0.out)).other ⟨B1, 6, none⟩ (.bool false) (Ne.symm X24_1_0.out)).other ⟨B1, 7, none⟩ (.bool false) (Ne.symm X24_1_0.out)).other ⟨B1, 8, none⟩ (.int .i64 0) (Ne.symm X24_1_0.out)).other ⟨B1, 9, none⟩ (.int .u64 0) (Ne.symm X24_1_0.out)).other ⟨B1, 10, none⟩ (.int .i64 0) (Ne.symm X24_1_0.out)).other ⟨B1, 11, none⟩ (.int .u64 0) (Ne.symm X24_1_0.out)))
          have L27 := Lib.hid (show Below w.heap.size w W27 from hW ▸ (Below.setCell (Below.setCell (Below.setCell (Below.setCell (Below.setCell (Below.setCell (Below.setCell (Below.setCell (Below.setCell (Below.setCell (Below.setCell (Below.setCell L26.out G1.out _) G1.out _) G1.out _) G1.out _) G1.out _) G1.out _) G1.out _) G1.out _) G1.out _) G1.out _) G1.out _) G1.out _))
          clear hW K26_0 K26_1 K26_2 K26_3
          have rr0 := K27_1.out.c0
          have rr1 := K27_1.out.c1
          have rr2 := K27_1.out.c2
          have rr3 := K27_1.out.c3
          have rr4 := K27_1.out.c4
          have rr5 := K27_1.out.c5
          have rr6 := K27_1.out.c6
          have rr7 := K27_1.out.c7
          have rr8 := K27_1.out.c8
          have rr9 := K27_1.out.c9
          have rr10 := K27_1.out.c10
          have rr11 := K27_1.out.c11
          refine bodyPost_ret (v := .tuple #[.agg #[.bool false, .bool false, .bool false, .bool false, .bool false, .bool false, .bool false, .bool false, .int .i64 0, .int .u64 0, .int .i64 0, .int .u64 0], .int .i64 (er : Nat)]) (by simp [results, Tryz.results114, go_sem, rr0, rr1, rr2, rr3, rr4, rr5, rr6, rr7, rr8, rr9, rr10, rr11]) rfl (by first | exact ⟨rfl, H0.out.below L27.out, Chg.of_below L27.out⟩ | (rw [if_neg her]; exact ⟨rfl, H0.out.below L27.out, Chg.of_below L27.out⟩))
    · have m2_0 := K18_2.out.c0
      have m2_1 := K18_2.out.c1
      have m2_2 := K18_2.out.c2
      have m2_3 := K18_2.out.c3
      have m2_4 := K18_2.out.c4
      have m2_5 := K18_2.out.c5
      have m2_6 := K18_2.out.c6
      have m2_7 := K18_2.out.c7
      have m2_8 := K18_2.out.c8
      have m2_9 := K18_2.out.c9
      have m2_10 := K18_2.out.c10
      have m2_11 := K18_2.out.c11
      have mlt2 : B16 < W18.heap.size := K18_2.out.lt
      have m1_0 := K18_1.out.c0
      have m1_1 := K18_1.out.c1
      have m1_2 := K18_1.out.c2
      have m1_3 := K18_1.out.c3
      have m1_4 := K18_1.out.c4
      have m1_5 := K18_1.out.c5
      have m1_6 := K18_1.out.c6
      have m1_7 := K18_1.out.c7
      have m1_8 := K18_1.out.c8
      have m1_9 := K18_1.out.c9
      have m1_10 := K18_1.out.c10
      have m1_11 := K18_1.out.c11
      have mlt1 : B1 < W18.heap.size := K18_1.out.lt
      have mf1 : ∀ o, W18.frozen? ⟨B1, o, none⟩ = false := fun o => K18_1.out.free o
      go_wp2
      clear m2_0 m2_1 m2_2 m2_3 m2_4 m2_5 m2_6 m2_7 m2_8 m2_9 m2_10 m2_11 mlt2 m1_0 m1_1 m1_2 m1_3 m1_4 m1_5 m1_6 m1_7 m1_8 m1_9 m1_10 m1_11 mlt1 mf1
      obtain ⟨W28, hW⟩ : ∃ WX, WX = ((((((((((((W18.setCell ⟨B1, 0, none⟩ (.bool v)).setCell ⟨B1, 1, none⟩ (.bool r)).setCell ⟨B1, 2, none⟩ (.bool x1)).setCell ⟨B1, 3, none⟩ (.bool x)).setCell ⟨B1, 4, none⟩ (.bool u)).setCell ⟨B1, 5, none⟩ (.bool g9)).setCell ⟨B1, 6, none⟩ (.bool a)).setCell ⟨B1, 7, none⟩ (.bool d)).setCell ⟨B1, 8, none⟩ (.int .i64 rsw)).setCell ⟨B1, 9, none⟩ (.int .u64 (pn : Int))).setCell ⟨B1, 10, none⟩ (.int .i64 (lv : Int))).setCell ⟨B1, 11, none⟩ (.int .u64 (pl : Int))) := ⟨_, rfl⟩
      rw [← hW]
      have K28_0 := Lib.hid (show Blk W28 up [.pointer (some ⟨mp, 0, none⟩), .pointer (some ⟨bp, 0, none⟩), .bool on, .int .i64 asid, .int .u64 (root : Int), .bool us, .bool sm, .bool mx] 145 from hW ▸ ((((((((((((K18_0.out.other ⟨B1, 0, none⟩ (.bool v) X1_0_0.out).other ⟨B1, 1, none⟩ (.bool r) X1_0_0.out).other ⟨B1, 2, none⟩ (.bool x1) X1_0_0.out).other ⟨B1, 3, none⟩ (.bool x) X1_0_0.out).other ⟨B1, 4, none⟩ (.bool u) X1_0_0.out).other ⟨B1, 5, none⟩ (.bool g9) X1_0_0.out).other ⟨B1, 6, none⟩ (.bool a) X1_0_0.out).other ⟨B1, 7, none⟩ (.bool d) X1_0_0.out).other ⟨B1, 8, none⟩ (.int .i64 rsw) X1_0_0.out).other ⟨B1, 9, none⟩ (.int .u64 (pn : Int)) X1_0_0.out).other ⟨B1, 10, none⟩ (.int .i64 (lv : Int)) X1_0_0.out).other ⟨B1, 11, none⟩ (.int .u64 (pl : Int)) X1_0_0.out))
      have K28_1 := Lib.hid (show Blk W28 B1 [.bool v, .bool r, .bool x1, .bool x, .bool u, .bool g9, .bool a, .bool d, .int .i64 rsw, .int .u64 (pn : Int), .int .i64 (lv : Int), .int .u64 (pl : Int)] 41 from hW ▸ ((((((((((((K18_1.out.set 0 (.bool v)).set 1 (.bool r)).set 2 (.bool x1)).set 3 (.bool x)).set 4 (.bool u)).set 5 (.bool g9)).set 6 (.bool a)).set 7 (.bool d)).set 8 (.int .i64 rsw)).set 9 (.int .u64 (pn : Int))).set 10 (.int .i64 (lv : Int))).set 11 (.int .u64 (pl : Int))))
      have K28_2 := Lib.hid (show Blk W28 B16 [.bool v, .bool r, .bool x1, .bool x, .bool u, .bool g9, .bool a, .bool d, .int .i64 rsw, .int .u64 (pn : Int), .int .i64 (lv : Int), .int .u64 (pl : Int)] 41 from hW ▸ ((((((((((((K18_2.out.other ⟨B1, 0, none⟩ (.bool v) (Ne.symm X16_1_0.out)).other ⟨B1, 1, none⟩ (.bool r) (Ne.symm X16_1_0.out)).other ⟨B1, 2, none⟩ (.bool x1) (Ne.symm X16_1_0.out)).other ⟨B1, 3, none⟩ (.bool x) (Ne.symm X16_1_0.out)).other ⟨B1, 4, none⟩ (.bool u) (Ne.symm X16_1_0.out)).other ⟨B1, 5, none⟩ (.bool g9) (Ne.symm X16_1_0.out)).other ⟨B1, 6, none⟩ (.bool a) (Ne.symm X16_1_0.out)).other ⟨B1, 7, none⟩ (.bool d) (Ne.symm X16_1_0.out)).other ⟨B1, 8, none⟩ (.int .i64 rsw) (Ne.symm X16_1_0.out)).other ⟨B1, 9, none⟩ (.int .u64 (pn : Int)) (Ne.symm X16_1_0.out)).other ⟨B1, 10, none⟩ (.int .i64 (lv : Int)) (Ne.symm X16_1_0.out)).other ⟨B1, 11, none⟩ (.int .u64 (pl : Int)) (Ne.symm X16_1_0.out)))
      have L28 := Lib.hid (show Below w.heap.size w W28 from hW ▸ (Below.setCell (Below.setCell (Below.setCell (Below.setCell (Below.setCell (Below.setCell (Below.setCell (Below.setCell (Below.setCell (Below.setCell (Below.setCell (Below.setCell L18.out G1.out _) G1.out _) G1.out _) G1.out _) G1.out _) G1.out _) G1.out _) G1.out _) G1.out _) G1.out _) G1.out _) G1.out _))
      clear hW K18_0 K18_1 K18_2
      have rr0 := K28_1.out.c0
      have rr1 := K28_1.out.c1
      have rr2 := K28_1.out.c2
      have rr3 := K28_1.out.c3
      have rr4 := K28_1.out.c4
      have rr5 := K28_1.out.c5
      have rr6 := K28_1.out.c6
      have rr7 := K28_1.out.c7
      have rr8 := K28_1.out.c8
      have rr9 := K28_1.out.c9
      have rr10 := K28_1.out.c10
      have rr11 := K28_1.out.c11
      refine bodyPost_ret (v := .tuple #[.agg #[.bool v, .bool r, .bool x1, .bool x, .bool u, .bool g9, .bool a, .bool d, .int .i64 rsw, .int .u64 (pn : Int), .int .i64 (lv : Int), .int .u64 (pl : Int)], .int .i64 0]) (by simp [results, Tryz.results114, go_sem, rr0, rr1, rr2, rr3, rr4, rr5, rr6, rr7, rr8, rr9, rr10, rr11]) rfl ⟨rfl, H0.out.below L28.out, Chg.of_below L28.out⟩
end Go.Proofs.YtgnjbjbgfhjakaaGreat
