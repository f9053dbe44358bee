/-
  A table's object over a memory and a stock, and what taking a frame answers: a contract over the translation, which says its own conditions.
-/
import Derived.Test.YtgnjbjbgfhjakaaGreatTblA14
import Derived.Test.YtgnjbjbgfhjakaaGreatStkB07
import Derived.Test.YtgnjbjbgfhjakaaGreatPhysC
namespace Go.Proofs.YtgnjbjbgfhjakaaGreat
open Go.RowKit
set_option linter.unusedVariables false
set_option linter.unusedSimpArgs false
attribute [local go_sem] setCell_drewN alloc_drewN

/-- taking's error -/
def takE (first n fs used : Nat) : Int := if used = n then 50 else if fs ≤ first + used then 61 else 0
/-- an object at tp over a memory at mp and a stock at sp, which has given the frames from the first on, in their order -/
structure TW (first n fs : Nat) (rt : Int) (w : World) (tp mp sp : Nat) (Fm Gs : Nat → Prop) (C : Nat → List Int) (c ut used : Nat) : Prop where
  blk : Blk w tp [.pointer (some ⟨mp, 0, none⟩), .pointer (some ⟨sp, 0, none⟩), .int .i64 rt, .int .i64 (ut : Int)] 138
  utle : ut ≤ used
  mem : MemX w mp fs c C Fm
  stk : StkL w sp Gs (upto ((first + used : Nat) : Int) (n - used)) (upto (first : Int) used) (first : Int) n
  le : used ≤ n
  sm : ∀ j, Fm j → ¬ Gs j
  mt : ¬ Fm tp
  st : ¬ Gs tp
  ms : ¬ Gs mp
  tm : tp ≠ mp
/-- its blocks -/
def FpW (tp mp : Nat) (Fm Gs : Nat → Prop) : Nat → Prop := fun j => j = tp ∨ j = mp ∨ Fm j ∨ Gs j
section
variable {first n fs : Nat} {rt : Int} {w w' : World} {tp mp sp : Nat} {Fm Gs : Nat → Prop} {C : Nat → List Int} {c ut used : Nat}
theorem TW.chg {G : Nat → Prop} (h : TW first n fs rt w tp mp sp Fm Gs C c ut used) (hc : Chg G w w') (hf : ∀ j, FpW tp mp Fm Gs j → ¬ G j) : TW first n fs rt w' tp mp sp Fm Gs C c ut used :=
  ⟨h.blk.chg hc (hf _ (.inl rfl)), h.utle, h.mem.chg hc (hf _ (.inr (.inl rfl))) (fun k hk => hf k (.inr (.inr (.inl hk)))), h.stk.chg hc (fun k hk => hf k (.inr (.inr (.inr hk)))), h.le, h.sm, h.mt, h.st, h.ms, h.tm⟩
theorem TW.below (h : TW first n fs rt w tp mp sp Fm Gs C c ut used) (hb : Below w.heap.size w w') : TW first n fs rt w' tp mp sp Fm Gs C c ut used := h.chg (Chg.of_below (F := no) hb) (fun _ _ h => h)
theorem TW.mono (h : TW first n fs rt w tp mp sp Fm Gs C c ut used) {c' : Nat} (hc : c ≤ c') : TW first n fs rt w tp mp sp Fm Gs C c' ut used :=
  ⟨h.blk, h.utle, h.mem.mono hc, h.stk, h.le, h.sm, h.mt, h.st, h.ms, h.tm⟩
theorem TW.lt (h : TW first n fs rt w tp mp sp Fm Gs C c ut used) : ∀ j, FpW tp mp Fm Gs j → j < w.heap.size := by
  rintro j (rfl | rfl | hj | hj)
  · exact h.blk.lt
  · exact h.mem.mplt
  · exact h.mem.lt j hj
  · exact h.stk.lt j hj
theorem TW.small (h : TW first n fs rt w tp mp sp Fm Gs C c ut used) : first + n ≤ 1048576 ∧ used ≤ 1048576 := by
  have := h.stk.all.2
  have := h.le
  omega
end
theorem upto_cons (a : Int) (m : Nat) (h : 0 < m) : upto a m = a :: upto (a + 1) (m - 1) := by
  obtain ⟨k, rfl⟩ : ∃ k, m = k + 1 := ⟨m - 1, by omega⟩
  rfl
/-- taking none: the stock has no frame left -/
theorem take13_full (first n fs : Nat) (rt : Int) (w : World) (tp mp sp : Nat) (Fm Gs : Nat → Prop) (C : Nat → List Int) (c ut used : Nat) (h : TW first n fs rt w tp mp sp Fm Gs C c ut used) (he : used = n) :
    Calls Tryz.prog 65 #[.pointer (some ⟨tp, 0, none⟩)] w fun e w' => e = .returned (.tuple #[.int .i64 0, .int .i64 50]) ∧ Below w.heap.size w w' := by
  subst he
  have hs := h.stk
  rw [Nat.sub_self] at hs
  have h1 := take_none sp used w hs
  have c1 : w.cell? ⟨tp, 1, none⟩ = some (.pointer (some ⟨sp, 0, none⟩)) := h.blk.cell 1
  clear h hs
  go_enter Tryz.func65, Tryz.ntmps65
  go_wp2_with fail
  refine h1.mono ?_
  rintro e w1 ⟨rfl, k, rfl⟩
  go_wp2
  go_ret2
  exact ⟨rfl, Dr.below ⟨k, rfl⟩⟩
/-- taking one that is not in the memory: it is given back -/
theorem take13_bound (first n fs : Nat) (rt : Int) (w : World) (tp mp sp : Nat) (Fm Gs : Nat → Prop) (C : Nat → List Int) (c ut used : Nat) (h : TW first n fs rt w tp mp sp Fm Gs C c ut used) (he : used ≠ n) (hb : fs ≤ first + used) :
    Calls Tryz.prog 65 #[.pointer (some ⟨tp, 0, none⟩)] w fun e w' => e = .returned (.tuple #[.int .i64 0, .int .i64 61]) ∧ ∃ Gs', TW first n fs rt w' tp mp sp Fm Gs' C c ut used ∧ (∀ j, Gs' j → Gs j ∨ w.heap.size ≤ j) ∧ Chg Gs w w' := by
  have hs := h.stk
  have hle := h.le
  rw [upto_cons _ _ (by omega)] at hs
  have h1 := take_some sp n _ w hs
  have hI : I64 (((first + used : Nat) : Int)) := by have := h.small; unfold I64; omega
  have h3 := fun (w' : World) (hh : w'.cell? ⟨mp, 0, none⟩ = some (.int .i64 fs)) => setpage_bad mp fs ((first + used : Nat) : Int) none 0 0 w' hh (by omega)
  have h4 := fun (w' : World) (hh : StkL w' sp Gs (upto (((first + used : Nat) : Int) + 1) (n - used - 1)) (upto (first : Int) used ++ [((first + used : Nat) : Int)]) (first : Int) n) => give_yes sp n ((first + used : Nat) : Int) w' hh hI (by simp)
  have hwo : without ((first + used : Nat) : Int) (upto (first : Int) used ++ [((first + used : Nat) : Int)]) = upto (first : Int) used := by
    unfold without
    rw [List.filter_append, List.filter_cons, decide_eq_false (by simp)]
    simp only [List.filter_nil, Bool.false_eq_true, if_false, List.append_nil]
    refine List.filter_eq_self.2 (fun x hx => decide_eq_true (fun e => ?_))
    subst e
    have := (upto_mem _ _ _).1 hx
    omega
  have hfu : upto ((first + used : Nat) : Int) (n - used) = ((first + used : Nat) : Int) :: upto (((first + used : Nat) : Int) + 1) (n - used - 1) := upto_cons _ _ (by omega)
  rw [hwo, ← hfu] at h4
  clear hwo hfu hs
  have c1 : w.cell? ⟨tp, 1, none⟩ = some (.pointer (some ⟨sp, 0, none⟩)) := h.blk.cell 1
  generalize upto (((first + used : Nat) : Int) + 1) (n - used - 1) = L1 at *
  generalize upto (first : Int) used ++ [((first + used : Nat) : Int)] = T1 at *
  have H := Lib.hid h; have H1 := Lib.hid h1; have H3 := Lib.hid h3; have H4 := Lib.hid h4
  clear h h1 h3 h4 hI hle hb he
  obtain ⟨X, hX⟩ : ∃ X : Int, X = ((first + used : Nat) : Int) := ⟨_, rfl⟩
  rw [← hX] at H1 H3 H4
  have HX0 := Lib.hid hX; clear hX
  go_enter Tryz.func65, Tryz.ntmps65
  go_wp2_with fail
  refine H1.out.mono ?_
  rintro e w1 ⟨rfl, hk1, hc1⟩
  clear c1
  have hb1 := H.out.blk.chg hc1 H.out.st
  have hm1 := H.out.mem.chg hc1 H.out.ms (fun k hk => H.out.sm k hk)
  have c0 : w1.cell? ⟨tp, 0, none⟩ = some (.pointer (some ⟨mp, 0, none⟩)) := hb1.cell 0
  have c1 : w1.cell? ⟨tp, 1, none⟩ = some (.pointer (some ⟨sp, 0, none⟩)) := hb1.cell 1
  have K1 := Lib.hid hk1; have C1 := Lib.hid hc1; have B1 := Lib.hid hb1; have M1 := Lib.hid hm1
  clear hk1 hc1 hb1 hm1
  go_wp2_with fail
  refine (H3.out _ M1.out.c0).mono ?_
  rintro e wx ⟨rfl, rfl⟩
  go_wp2_with fail
  refine (H4.out _ K1.out).mono ?_
  rintro e w2 ⟨rfl, Gs', hk2, hx2, hc2⟩
  have hC : Chg Gs w w2 := C1.out.trans hc2
  have hx : ∀ j, Gs' j → Gs j ∨ w.heap.size ≤ j := fun j hj => (hx2 j hj).elim .inl (fun h => .inr (Nat.le_trans C1.out.size h))
  have hnew : ∀ j, Gs' j → j < w.heap.size → Gs j := fun j hj hl => (hx j hj).resolve_right (by omega)
  have R : TW first n fs rt w2 tp mp sp Fm Gs' C c ut used := by
    have h := H.out
    refine ⟨h.blk.chg hC h.st, h.utle, h.mem.chg hC h.ms (fun k hk => h.sm k hk), (by have hk2 := hk2; rw [HX0.out] at hk2; exact hk2), h.le, fun j hj hg => h.sm j hj (hnew j hg (h.mem.lt j hj)), h.mt, fun hg => h.st (hnew _ hg h.blk.lt), fun hg => h.ms (hnew _ hg h.mem.mplt), h.tm⟩
  have RR := Lib.hid R; have HC := Lib.hid hC; have HX := Lib.hid hx
  clear R hC hx hnew hk2 hx2 hc2 K1 C1 B1 M1 c0 c1 H1 H3 H4 H
  go_wp2
  go_ret2
  exact ⟨rfl, Gs', RR.out, HX.out, HC.out⟩
set_option maxHeartbeats 1000000 in
/-- taking a frame -/
theorem take13_yes (first n fs : Nat) (rt : Int) (w : World) (tp mp sp : Nat) (Fm Gs : Nat → Prop) (C : Nat → List Int) (c ut used : Nat) (h : TW first n fs rt w tp mp sp Fm Gs C c ut used) (he : used ≠ n) (hb : first + used < fs) (hn : c < 1000) :
    Calls Tryz.prog 65 #[.pointer (some ⟨tp, 0, none⟩)] w fun e w' => e = .returned (.tuple #[.int .i64 ((first + used : Nat) : Int), .int .i64 0]) ∧ ∃ Fm', TW first n fs rt w' tp mp sp Fm' Gs (updC C (first + used) (List.replicate 4096 0)) (c + 1) (ut + 1) (used + 1) ∧ (∀ j, Fm' j → Fm j ∨ w.heap.size ≤ j) ∧ Chg (fun j => j = tp ∨ Fm j ∨ Gs j) w w' := by
  have hs := h.stk
  have hle := h.le
  have hsm := h.small
  rw [upto_cons _ _ (by omega)] at hs
  have h1 := take_some sp n _ w hs
  have h3 := fun (w' : World) (hh : MemX w' mp fs c C Fm) => setpage_ok mp fs c (first + used) 0 0 none [] C Fm w' hh hb hn ⟨(by intro x hx; cases hx), (by simp), (by intro h; simp at h)⟩ rfl (by omega) (fun _ _ h => by cases h)
  have hp : pageOf [] = List.replicate 4096 0 := rfl
  rw [hp] at h3
  have hsn : upto (first : Int) used ++ [((first + used : Nat) : Int)] = upto (first : Int) (used + 1) := by
    rw [upto_snoc]; congr 1
  have hun : upto (((first + used : Nat) : Int) + 1) (n - used - 1) = upto ((first + (used + 1) : Nat) : Int) (n - (used + 1)) := by
    congr 1
  rw [hsn, hun] at h1
  clear hsn hun hs hp
  have c1 : w.cell? ⟨tp, 1, none⟩ = some (.pointer (some ⟨sp, 0, none⟩)) := h.blk.cell 1
  have hwr : IntKind.i64.wrap ((ut : Int) + 1) = ((ut + 1 : Nat) : Int) := by
    have := hsm.2
    have := h.utle
    simp [IntKind.wrap, IntKind.bits, IntKind.signed]; omega
  obtain ⟨L1, hL1⟩ : ∃ L1, L1 = upto ((first + (used + 1) : Nat) : Int) (n - (used + 1)) := ⟨_, rfl⟩
  rw [← hL1] at h1
  obtain ⟨T1, hT1⟩ : ∃ T1, T1 = upto (first : Int) (used + 1) := ⟨_, rfl⟩
  rw [← hT1] at h1
  have hle1 : used + 1 ≤ n := by omega
  have HL1 : ∀ W : World, StkL W sp Gs L1 T1 (first : Int) n → StkL W sp Gs (upto ((first + (used + 1) : Nat) : Int) (n - (used + 1))) (upto (first : Int) (used + 1)) (first : Int) n := fun W h => by rw [← hL1, ← hT1]; exact h
  generalize updC C (first + used) (List.replicate 4096 0) = C2 at *
  have H := Lib.hid h; have H1 := Lib.hid h1; have H3 := Lib.hid h3; have HL := Lib.hid HL1; have HLE := Lib.hid hle1
  clear h h1 h3 hle hb he hsm hT1 hL1 HL1 hle1
  go_enter Tryz.func65, Tryz.ntmps65
  go_wp2_with fail
  refine H1.out.mono ?_
  rintro e w1 ⟨rfl, hk1, hc1⟩
  clear c1
  have hb1 := H.out.blk.chg hc1 H.out.st
  have hm1 := H.out.mem.chg hc1 H.out.ms (fun k hk => H.out.sm k hk)
  have c0 : w1.cell? ⟨tp, 0, none⟩ = some (.pointer (some ⟨mp, 0, none⟩)) := hb1.cell 0
  have K1 := Lib.hid hk1; have C1 := Lib.hid hc1; have B1 := Lib.hid hb1; have M1 := Lib.hid hm1
  clear hk1 hc1 hb1 hm1
  go_wp2_with fail
  refine (H3.out _ M1.out).mono ?_
  rintro e w2 ⟨rfl, Fm', hM2, hx2, hc2⟩
  clear c0
  have hK2 := K1.out.chg hc2 (fun k hk h => H.out.sm k h hk)
  have hb2 := B1.out.chg hc2 H.out.mt
  have c3 : w2.cell? ⟨tp, 3, none⟩ = some (.int .i64 (ut : Int)) := hb2.cell 3
  have mf : ∀ o, w2.frozen? ⟨tp, o, none⟩ = false := fun o => hb2.free o
  have mlt : tp < w2.heap.size := hb2.lt
  have K2 := Lib.hid hK2; have B2 := Lib.hid hb2; have M2 := Lib.hid hM2; have X2 := Lib.hid hx2; have C2' := Lib.hid hc2
  clear hK2 hb2 hM2 hx2 hc2
  go_upto_region 9 with (fail)
  obtain ⟨w3, hw3⟩ : ∃ w3, w3 = w2.setCell ⟨tp, 3, none⟩ (.int .i64 ((ut : Int) + 1)) := ⟨_, rfl⟩
  rw [← hw3]
  have hc3 : Chg (fun j => j = tp ∨ Fm j ∨ Gs j) w w3 := by
    rw [hw3]
    refine Chg.setc ?_ _ _ (.inl (.inl rfl))
    exact (C1.out.mono (fun k _ h => .inr (.inr h))).trans (C2'.out.mono (fun k _ h => .inr (.inl h)))
  have hs3 : Chg (fun j => j = tp) w2 w3 := by rw [hw3]; exact Chg.setCell _ _ _ rfl
  have hz := C1.out.size
  have hnew : ∀ j, Fm' j → Fm j ∨ w.heap.size ≤ j := fun j hj => (X2.out j hj).elim .inl (fun h => .inr (Nat.le_trans hz h))
  have R : TW first n fs rt w3 tp mp sp Fm' Gs C2 (c + 1) (ut + 1) (used + 1) := by
    have h := H.out
    have hFt : ¬ Fm' tp := fun hg => (hnew _ hg).elim h.mt (fun h2 => by have := h.blk.lt; omega)
    refine ⟨?_, Nat.succ_le_succ h.utle, M2.out.chg hs3 (fun e => h.tm e.symm) (fun k hk e => hFt (by have e : k = tp := e; rw [← e]; exact hk)), HL.out _ (K2.out.chg hs3 (fun k hk e => h.st (by have e : k = tp := e; rw [← e]; exact hk))), HLE.out, fun j hj hg => (hnew j hj).elim (fun h2 => h.sm j h2 hg) (fun h2 => by have := h.stk.lt j hg; omega), hFt, h.st, h.ms, h.tm⟩
    rw [hw3]
    exact B2.out.set 3 (.int .i64 ((ut : Int) + 1))
  have RR := Lib.hid R; have HC := Lib.hid hc3; have HX := Lib.hid hnew
  clear R hc3 hs3 hz hnew hw3 K1 K2 C1 B1 B2 M1 M2 X2 C2' c3 mf mlt H H1 H3 HL HLE
  go_wp2
  go_ret2
  exact ⟨rfl, Fm', RR.out, HX.out, HC.out⟩
/-- what taking answers, in one -/
theorem take13_any (first n fs : Nat) (rt : Int) (w : World) (tp mp sp : Nat) (Fm Gs : Nat → Prop) (C : Nat → List Int) (c ut used : Nat) (h : TW first n fs rt w tp mp sp Fm Gs C c ut used) (hn : c < 1000) :
    (takE first n fs used ≠ 0 → Calls Tryz.prog 65 #[.pointer (some ⟨tp, 0, none⟩)] w fun e w' => e = .returned (.tuple #[.int .i64 0, .int .i64 (takE first n fs used)]) ∧ ∃ Gs', TW first n fs rt w' tp mp sp Fm Gs' C c ut used ∧ (∀ j, Gs' j → Gs j ∨ w.heap.size ≤ j) ∧ Chg Gs w w') ∧
    (takE first n fs used = 0 → Calls Tryz.prog 65 #[.pointer (some ⟨tp, 0, none⟩)] w fun e w' => e = .returned (.tuple #[.int .i64 ((first + used : Nat) : Int), .int .i64 0]) ∧ ∃ Fm', TW first n fs rt w' tp mp sp Fm' Gs (updC C (first + used) (List.replicate 4096 0)) (c + 1) (ut + 1) (used + 1) ∧ (∀ j, Fm' j → Fm j ∨ w.heap.size ≤ j) ∧ Chg (fun j => j = tp ∨ Fm j ∨ Gs j) w w') := by
  unfold takE
  by_cases e1 : used = n
  · rw [if_pos e1]
    refine ⟨fun _ => (take13_full first n fs rt w tp mp sp Fm Gs C c ut used h e1).mono ?_, fun h => by simp at h⟩
    rintro e w' ⟨rfl, hb⟩
    exact ⟨rfl, Gs, h.below hb, fun j hj => .inl hj, Chg.of_below hb⟩
  · rw [if_neg e1]
    by_cases e2 : fs ≤ first + used
    · rw [if_pos e2]
      exact ⟨fun _ => take13_bound first n fs rt w tp mp sp Fm Gs C c ut used h e1 e2, fun h => by simp at h⟩
    · rw [if_neg e2]
      exact ⟨fun h => absurd rfl h, fun _ => take13_yes first n fs rt w tp mp sp Fm Gs C c ut used h e1 (by omega) hn⟩
end Go.Proofs.YtgnjbjbgfhjakaaGreat
