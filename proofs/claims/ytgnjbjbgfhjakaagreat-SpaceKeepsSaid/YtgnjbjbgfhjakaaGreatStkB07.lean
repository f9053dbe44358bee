/-
  What first, Take and Give of package frames answer and leave in memory: contracts over the translation. Each says its own conditions.
-/
import Derived.Test.YtgnjbjbgfhjakaaGreatStk07
namespace Go.Proofs.YtgnjbjbgfhjakaaGreat
open Go.RowKit
set_option linter.unusedVariables false
set_option linter.unusedSimpArgs false

theorem sole_fp {sp mb : Nat} {v : Value} {w w' : World} (h : Chg (fun k => k = sp) w w') : Chg (FpS sp mb v) w w' := h.mono (fun k _ e => .inl e)
theorem first_given (sp mb : Nat) (v : Value) (gv T : List Int) (f nx en : Int) (w : World) (h : Stk w sp mb v (gv ++ [f]) nx en T) :
    Calls Tryz.prog 105 #[.pointer (some ⟨sp, 0, none⟩)] w fun e w' => e = .returned (.int .i64 f) ∧ (∃ v', v'.ownBlock = v.ownBlock ∧ Stk w' sp mb v' gv nx en T) ∧ Chg (fun k => k = sp) w w' := by
  obtain ⟨l, hl⟩ : ∃ l, l = gv.length := ⟨_, rfl⟩
  have e1 : (gv ++ [f]).length = l + 1 := by rw [List.length_append, hl]; rfl
  have ho := h.own
  have hb := h.blk
  have hgl := h.gl
  rw [e1] at ho hgl
  obtain ⟨g, c, rfl, -, -⟩ := ho.form (by omega)
  have hg : w.cell? ⟨g, l, none⟩ = some (.int .i64 f) := by
    rw [ho.cellAt l (by omega), List.getElem?_map, List.getElem?_append_right (by omega), hl, Nat.sub_self]; rfl
  have hcap : l + 1 ≤ c ∧ c ≤ maxLen := by
    rcases ho.2 with ⟨h, _⟩ | ⟨g', cap, cur, h, _, _, h1, h2, _⟩
    · cases h
    · injection h with _ _ h3; omega
  obtain ⟨hc1, hc2⟩ := hcap
  unfold maxLen at hc2
  have hcut := own_cut ho (Nat.le_succ l)
  have e2 : ((gv ++ [f]).map (Value.int .i64)).take l = gv.map (Value.int .i64) := by
    rw [List.map_append, List.take_append_of_le_length (by rw [List.length_map]; omega), List.take_of_length_le (by rw [List.length_map]; omega)]
  rw [e2] at hcut
  have hns := h.ns
  have c1 : w.cell? ⟨sp, 1, none⟩ = some (.slice (some ⟨g, 0, none⟩) (l + 1) c) := hb.cell 1
  have f1 := hb.free 1
  have hgs : g ≠ sp := fun e => hns (by rw [e]; rfl)
  have H := Lib.hid h; have HB := Lib.hid hb; have HC := Lib.hid hcut; have HL := Lib.hid hl
  clear h hb ho hcut hl e1 e2 hns
  go_enter Tryz.func105, Tryz.ntmps105
  go_wp2
  go_ret
  have hc := Chg.setCell (F := fun k => k = sp) w ⟨sp, 1, none⟩ (.slice (some ⟨g, 0, none⟩) l c) rfl
  have hb2 := HB.out.set 1 (.slice (some ⟨g, 0, none⟩) l c)
  have h := H.out
  refine ⟨rfl, ⟨.slice (some ⟨g, 0, none⟩) l c, rfl, ⟨hb2, h.map.chg hc h.ne, ?_, h.ne, h.ns, h.nm, by have := HL.out; omega, h.n0, h.n1, h.n2⟩⟩, hc⟩
  rw [← HL.out]
  exact own_chgF HC.out hc (fun k hk => by injection hk with hk; have hk : g = k := hk; show ¬ k = sp; omega)
theorem first_new (sp mb : Nat) (v : Value) (T : List Int) (nx en : Int) (w : World) (h : Stk w sp mb v [] nx en T) (hne : nx < en) :
    Calls Tryz.prog 105 #[.pointer (some ⟨sp, 0, none⟩)] w fun e w' => e = .returned (.int .i64 nx) ∧ Stk w' sp mb v [] (nx + 1) en T ∧ Chg (fun k => k = sp) w w' := by
  obtain ⟨A, c, rfl⟩ := own_sliceF h.own
  rw [List.length_nil] at h
  have c1 : w.cell? ⟨sp, 1, none⟩ = some (.slice A 0 c) := h.blk.cell 1
  have c2 : w.cell? ⟨sp, 2, none⟩ = some (.int .i64 nx) := h.blk.cell 2
  have f2 := h.blk.free 2
  have n0 := h.n0; have n1 := h.n1; have n2 := h.n2
  have H := Lib.hid h
  clear h
  go_enter Tryz.func105, Tryz.ntmps105
  go_wp2
  go_ret
  have h := H.out
  have hc := Chg.setCell (F := fun k => k = sp) w ⟨sp, 2, none⟩ (.int .i64 (nx + 1)) rfl
  have hb2 := h.blk.set 2 (.int .i64 (nx + 1))
  refine ⟨rfl, ⟨hb2, h.map.chg hc h.ne, own_chgF h.own hc (fun k hk e => h.ns (by rw [hk, e])), h.ne, h.ns, h.nm, h.gl, by omega, by omega, h.n2⟩, hc⟩
/-- the first frame, whichever it is -/
theorem sfirst_any {F : Nat → Prop} {L T : List Int} {a : Int} (sp n : Nat) (f : Int) (w : World) (h : StkL w sp F (f :: L) T a n) :
    Calls Tryz.prog 105 #[.pointer (some ⟨sp, 0, none⟩)] w fun e w' => e = .returned (.int .i64 f) ∧ (∃ mb v gv nx, ∃ m : Nat, Stk w' sp mb v gv nx (nx + m) T ∧ L = gv.reverse ++ upto nx m ∧ F = FpS sp mb v) ∧ Chg F w w' := by
  obtain ⟨mb, v, gv, nx, m, hs, h2, rfl, h3, h4, h5⟩ := h
  rcases List.eq_nil_or_concat gv with rfl | ⟨g2, x, rfl⟩
  · cases m with
    | zero => simp [upto] at h2
    | succ m =>
      rw [List.reverse_nil, List.nil_append, upto] at h2
      injection h2 with e1 e2
      subst e1
      refine (first_new sp mb v T f _ w hs (by omega)).mono ?_
      rintro e w' ⟨rfl, h, hc⟩
      refine ⟨rfl, ⟨mb, v, [], f + 1, m, ?_, by rw [e2]; rfl, rfl⟩, sole_fp hc⟩
      rw [show f + ((m + 1 : Nat) : Int) = f + 1 + m from by omega] at h
      exact h
  · rw [List.concat_eq_append] at h2 hs
    rw [List.reverse_append, List.reverse_cons, List.reverse_nil, List.nil_append, List.cons_append, List.nil_append] at h2
    injection h2 with e1 e2
    subst e1
    refine (first_given sp mb v g2 T f nx _ w hs).mono ?_
    rintro e w' ⟨rfl, ⟨v', hv, h⟩, hc⟩
    exact ⟨rfl, ⟨mb, v', g2, nx, m, h, e2, by unfold FpS; rw [hv]⟩, sole_fp hc⟩
theorem take_none {F : Nat → Prop} {T : List Int} {a : Int} (sp n : Nat) (w : World) (h : StkL w sp F [] T a n) :
    Calls Tryz.prog 79 #[.pointer (some ⟨sp, 0, none⟩)] w fun e w' => e = .returned (.tuple #[.int .i64 (-1), .int .i64 50]) ∧ ∃ k, w' = w.drewN k := by
  have hf := free_at sp n 0 w h rfl
  clear h
  go_enter Tryz.func79, Tryz.ntmps79
  go_wp2_with fail
  refine hf.mono ?_
  rintro e w' ⟨rfl, k, rfl⟩
  go_wp2
  go_ret2
  exact ⟨rfl, _, rfl⟩
theorem take_some {F : Nat → Prop} {L T : List Int} {a : Int} (sp n : Nat) (f : Int) (w : World) (h : StkL w sp F (f :: L) T a n) :
    Calls Tryz.prog 79 #[.pointer (some ⟨sp, 0, none⟩)] w fun e w' => e = .returned (.tuple #[.int .i64 f, .int .i64 0]) ∧ StkL w' sp F L (T ++ [f]) a n ∧ Chg F w w' := by
  have hf := free_at sp n (L.length + 1) w h rfl
  have hal := h.all
  have hfr := hal.1.fresh
  have hlen := hal.1.len
  have hat := hal.1.at_ f (by simp)
  have hI : I64 f := by unfold I64; omega
  obtain ⟨l, hl⟩ : ∃ l, l = L.length := ⟨_, rfl⟩
  rw [← hl] at hf
  have H := Lib.hid h; have HAL := Lib.hid hal; have HFR := Lib.hid hfr; have HLEN := Lib.hid hlen
  clear h hal hfr hlen hl
  go_enter Tryz.func79, Tryz.ntmps79
  go_wp2_with fail
  refine hf.mono ?_
  rintro e w1 ⟨rfl, k, rfl⟩
  go_wp2_with fail
  refine (sfirst_any sp n f _ (H.out.drewN k)).mono ?_
  rintro e w2 ⟨rfl, ⟨mb, v, gv, nx, m, hs, h2, rfl⟩, hc⟩
  obtain ⟨w3, hrun, htk, hc3⟩ := hs.map.store f hI (by have := HLEN.out; have := HAL.out; unfold maxLen; omega) HFR.out
  have c0 : w2.cell? ⟨sp, 0, none⟩ = some (.map (some mb)) := hs.blk.cell 0
  have HS := Lib.hid hs; have H2 := Lib.hid h2; have HC := Lib.hid hc; have HT := Lib.hid htk; have HC3 := Lib.hid hc3
  clear hs h2 hc htk hc3
  go_wp2
  go_ret2
  have hs := HS.out
  refine ⟨rfl, ⟨mb, v, gv, nx, m, ⟨hs.blk.chg HC3.out (fun e => hs.ne e.symm), HT.out, own_chgF hs.own HC3.out (fun k hk e => hs.nm (by rw [hk, e])), hs.ne, hs.ns, hs.nm, hs.gl, hs.n0, hs.n1, hs.n2⟩, H2.out, rfl, HAL.out.1.take, HAL.out.2.1, HAL.out.2.2⟩, ((Chg.drewN _ w k).trans HC.out).trans (HC3.out.mono (fun j _ e => .inr (.inl e)))⟩
set_option maxHeartbeats 1000000 in
theorem give_yes {F : Nat → Prop} {L T : List Int} {a : Int} (sp n : Nat) (f : Int) (w : World) (h : StkL w sp F L T a n) (hI : I64 f) (hf : f ∈ T) :
    Calls Tryz.prog 93 #[.pointer (some ⟨sp, 0, none⟩), .int .i64 f] w fun e w' => e = .returned (.int .i64 0) ∧ ∃ F', StkL w' sp F' (f :: L) (without f T) a n ∧ ExtF w F F' ∧ Chg F w w' := by
  obtain ⟨i0, hi, hz0, hz1, hz2⟩ := info_parts infoI
  have ht := taken_at sp n f w h hI
  rw [show decide (f ∈ T) = true from decide_eq_true hf] at ht
  have hal := h.all
  have hlen := hal.1.len
  have hlen2 := without_len hal.1.nodT hf
  obtain ⟨mb, v, gv, nx, m, hs, h2, rfl, -, -, -⟩ := h
  have HS := Lib.hid hs; have H2 := Lib.hid h2; have HAL := Lib.hid hal; have HLEN := Lib.hid hlen; have HLEN2 := Lib.hid hlen2; have HF := Lib.hid hf
  clear hs h2 hal hlen hlen2 hf
  go_enter Tryz.func93, Tryz.ntmps93
  go_wp2_with fail
  refine ht.mono ?_
  rintro e w1 ⟨rfl, hc1⟩
  have hs1 := HS.out.chg hc1 (fun _ _ h => h)
  obtain ⟨w2, hrun, htk, hc2⟩ := hs1.map.drop f hI HAL.out.1.nodT HF.out 0
  have c0 : w1.cell? ⟨sp, 0, none⟩ = some (.map (some mb)) := hs1.blk.cell 0
  have hb2 := hs1.blk.chg hc2 (fun e => hs1.ne e.symm)
  have ho2 := own_chgF hs1.own hc2 (fun k hk e => hs1.nm (by rw [hk, e]))
  obtain ⟨A, c, rfl⟩ := own_sliceF ho2
  obtain ⟨l, hl⟩ : ∃ l, l = gv.length := ⟨_, rfl⟩
  have hgl := hs1.gl
  rw [← hl] at ho2 hb2 hgl
  have c1 : w2.cell? ⟨sp, 1, none⟩ = some (.slice A l c) := hb2.cell 1
  have hlt := hb2.lt
  have hob : (Value.slice A gv.length c).ownBlock = (Value.slice A l c).ownBlock := by rw [hl]
  have hns1 := hs1.ns
  have hnm1 := hs1.nm
  rw [hob] at hns1 hnm1
  have HNS := Lib.hid hns1; have HNM := Lib.hid hnm1; have HOB := Lib.hid hob
  clear hns1 hnm1 hob
  have HS1 := Lib.hid hs1; have HC1 := Lib.hid hc1; have HC2 := Lib.hid hc2; have HT := Lib.hid htk; have HB2 := Lib.hid hb2; have HO2 := Lib.hid ho2; have HL := Lib.hid hl
  clear hs1 hc1 hc2 htk hb2 ho2 hl
  have c1' : ∀ o, (w2.alloc o).cell? ⟨sp, 1, none⟩ = some (.slice A l c) := fun o => (HB2.out.alloc o).cell 1
  go_wp2_with (first | (at_builtin; refine wpList_append_lies _ rfl _ _ 96 rfl 0 3 i0 (.int .i64 0) 1 8 Tryz.underlying96 hi hz0 hz1 hz2 rfl (by decide) (.slice A l c) l (gv.map (Value.int .i64)) rfl (HO2.out.alloc _) ⟨w2.heap.size, 0, none⟩ 1 1 [.int .i64 f] rfl rfl ?c1 ?c2 ?c3 ?c4 ?c5 ?c6 (w2.heap.size + 1) ?c7 ?_))
  case c1 => exact cell_one_new _ _ _
  case c2 => exact ints_one (l := [f])
  case c3 => omega
  case c4 => unfold maxLen; omega
  case c5 => omega
  case c6 => exact Nat.zero_le _
  case c7 => simp
  intro g c3 w3 hown hgr hat hlt3
  have hbA := HB2.out.alloc (.cells #[.int .i64 f] 3)
  have hcA : Chg (fun k => (Value.slice A l c).ownBlock = some k) w2 w3 := ((Chg.alloc _ w2 _)).thenGrown hgr (fun k hk => .inl hk)
  have hb3 := HB2.out.chg hcA (fun e => HNS.out e)
  have ht3 := HT.out.chg hcA (fun e => HNM.out e)
  have f1 := hb3.free 1
  have d1 : w3.cell? ⟨sp, 1, none⟩ = some (.slice A l c) := hb3.cell 1
  have hl3 : w2.heap.size ≤ w3.heap.size := hcA.size
  have hmb := HT.out.lt
  have hgs : g ≠ sp ∧ g ≠ mb := by
    rcases hat with h | h
    · exact ⟨fun e => HNS.out (by rw [h, e]), fun e => HNM.out (by rw [h, e])⟩
    · omega
  have HOWN := Lib.hid hown; have HCA := Lib.hid hcA; have HB3 := Lib.hid hb3; have HT3 := Lib.hid ht3; have HAT := Lib.hid hat
  clear hown hgr hbA hcA hb3 ht3 hat
  go_wp2
  go_ret
  have hs1 := HS1.out
  have hb4 := HB3.out.set 1 (.slice (some ⟨g, 0, none⟩) (l + 1) c3)
  have hc4 := Chg.setCell (F := fun k => k = sp) w3 ⟨sp, 1, none⟩ (.slice (some ⟨g, 0, none⟩) (l + 1) c3) rfl
  have h1 := HC1.out.size
  have h2 := HC2.out.size
  refine ⟨rfl, FpS sp mb (.slice (some ⟨g, 0, none⟩) (l + 1) c3), ⟨mb, _, gv ++ [f], nx, m, ⟨hb4, HT3.out.chg hc4 (fun e => hs1.ne e), ?_, hs1.ne, (by intro e; injection e with e; exact hgs.1 e), (by intro e; injection e with e; exact hgs.2 e), ?_, hs1.n0, hs1.n1, hs1.n2⟩, ?_, rfl, HAL.out.1.give HF.out, HAL.out.2⟩, ?_, ?_⟩
  · have e1 : (gv ++ [f]).length = l + 1 := by rw [List.length_append, HL.out]; rfl
    rw [e1, List.map_append]
    exact own_chgF HOWN.out hc4 (fun k hk e => by injection hk with hk; exact hgs.1 (hk.trans e))
  · have h := H2.out
    have h3 := HLEN.out
    have h4 := HAL.out.2
    have h5 := HLEN2.out
    rw [h, List.length_append, List.length_reverse] at h3
    rw [List.length_append, List.length_singleton]
    omega
  · rw [List.reverse_append, H2.out]; rfl
  · rintro k (rfl | rfl | hk)
    · exact .inl (.inl rfl)
    · exact .inl (.inr (.inl rfl))
    · injection hk with hk
      have hk : g = k := hk
      rcases HAT.out with h | h
      · exact .inl (.inr (.inr (by rw [HOB.out, h, hk])))
      · exact .inr (by omega)
  · exact ((HC1.out.of_no.trans (HC2.out.mono (fun j _ e => .inr (.inl e)))).trans (HCA.out.mono (fun j _ e => .inr (.inr (HOB.out.trans e))))).trans (hc4.mono (fun j _ e => .inl e))
end Go.Proofs.YtgnjbjbgfhjakaaGreat
