/-
  What New, Root and Used of package table answer: contracts over the translation. Each says its own conditions.
-/
import Derived.Test.YtdakfgefnapglaaTblG13
namespace Go.Proofs.Ytdakfgefnapglaa
open Go.RowKit
set_option linter.unusedVariables false
set_option linter.unusedSimpArgs false
attribute [local go_sem] setCell_drewN alloc_drewN

theorem root13_nil (w : World) : Calls Try.prog 14 #[.pointer none] w fun r w' => r = .returned (.int .i64 (-1)) ∧ Chg no w w' := by
  go_enter Try.func14, Try.ntmps14
  go_wp2
  go_ret
  exact ⟨rfl, Chg.refl _ _⟩
theorem used13_nil (w : World) : Calls Try.prog 15 #[.pointer none] w fun r w' => r = .returned (.int .i64 0) ∧ Chg no w w' := by
  go_enter Try.func15, Try.ntmps15
  go_wp2
  go_ret
  exact ⟨rfl, Chg.refl _ _⟩
theorem root13_any {first n fs : Nat} {w : World} {tp mp sp : Nat} {Fm Gs : Nat → Prop} {S : Tt} {c : Nat} (h : TS first n fs w tp mp sp Fm Gs S c) : Calls Try.prog 14 #[.pointer (some ⟨tp, 0, none⟩)] w fun r w' => r = .returned (.int .i64 (first : Int)) ∧ Chg no w w' := by
  obtain ⟨C, hW, hR⟩ := h
  have c2 : w.cell? ⟨tp, 2, none⟩ = some (.int .i64 (first : Int)) := hW.blk.cell 2
  clear hW hR
  go_enter Try.func14, Try.ntmps14
  go_wp2
  go_ret
  exact ⟨rfl, Chg.refl _ _⟩
theorem used13_any {first n fs : Nat} {w : World} {tp mp sp : Nat} {Fm Gs : Nat → Prop} {S : Tt} {c : Nat} (h : TS first n fs w tp mp sp Fm Gs S c) : Calls Try.prog 15 #[.pointer (some ⟨tp, 0, none⟩)] w fun r w' => r = .returned (.int .i64 (S.used : Int)) ∧ w = w' := by
  obtain ⟨C, hW, hR⟩ := h
  have c3 : w.cell? ⟨tp, 3, none⟩ = some (.int .i64 (S.used : Int)) := hW.blk.cell 3
  clear hW hR
  generalize S.used = U at *
  go_enter Try.func15, Try.ntmps15
  go_wp2
  go_ret
  exact ⟨rfl, rfl⟩
theorem sused13_any {first n fs : Nat} {w : World} {tp mp sp : Nat} {Fm Gs : Nat → Prop} {S : Tt} {c : Nat} (h : TS first n fs w tp mp sp Fm Gs S c) : Calls Try.prog 21 #[.pointer (some ⟨sp, 0, none⟩)] w fun r w' => r = .returned (.int .i64 (S.used : Int)) ∧ w = w' := by
  obtain ⟨C, hW, hR⟩ := h
  exact used_at sp n S.used w hW.stk (upto_len _ _)
theorem new13_nil (sp : Nat) (w : World) : Calls Try.prog 8 #[.pointer none, .pointer (some ⟨sp, 0, none⟩)] w fun r w' => r = .returned (.tuple #[.pointer none, .int .i64 1]) ∧ Chg no w w' := by
  go_enter Try.func8, Try.ntmps8
  go_wp2
  go_ret2
  exact ⟨rfl, Chg.refl _ _⟩
/-- no page, one table: its memory is noughts -/
theorem rt_new {first fs : Nat} (h1 : first + 1 ≤ fs) (h2 : fs ≤ 1048576) : RT first fs (Mw (updC (fun _ => List.replicate 4096 0) first (List.replicate 4096 0))) ⟨[], [], 1⟩ := by
  have hz : ∀ a, Mw (updC (fun _ => List.replicate 4096 0) first (List.replicate 4096 0)) a = 0 := fun a => by
    rw [Mw_page, Mw_zero]; split <;> rfl
  refine ⟨fun va l f hc hl hf => ?_, rfl, h1, h2, fun m hm => by simp at hm, fun x hx => by simp at hx, fun m hm => by simp at hm, List.nodup_nil, List.nodup_nil⟩
  rw [hz]
  have hk : kid first ([] : List Tb) va l = none := by cases l <;> rfl
  unfold slotW
  dsimp only
  rw [hk]
  rfl
theorem new13_yes (first n fs : Nat) (w : World) (mp sp : Nat) (Fm Gs : Nat → Prop) (hM : MemX w mp fs 0 (fun _ => List.replicate 4096 0) Fm) (hS : StkL w sp Gs (upto first n) [] first n) (hd : ∀ j, (Fm j ∨ j = mp) → ¬ Gs j) (hT : takE first n fs 0 = 0) :
    Calls Try.prog 8 #[.pointer (some ⟨mp, 0, none⟩), .pointer (some ⟨sp, 0, none⟩)] w fun r w' => ∃ tp Fm', r = .returned (.tuple #[.pointer (some ⟨tp, 0, none⟩), .int .i64 0]) ∧ TS first n fs w' tp mp sp Fm' Gs ⟨[], [], 1⟩ 1 ∧ (∀ j, FpW tp mp Fm' Gs j → (Fm j ∨ j = mp) ∨ Gs j ∨ w.heap.size ≤ j) ∧ Chg (fun j => Fm j ∨ Gs j) w w' := by
  have hml := hM.mplt
  have hfl := hM.lt
  have hsl := hS.lt
  have hfr := hM.fr
  have hB : ∀ o, o = Obj.cells #[.pointer (some ⟨mp, 0, none⟩), .pointer (some ⟨sp, 0, none⟩), .int .i64 0, .int .i64 0] 75 → TW first n fs 0 (w.alloc o) w.heap.size mp sp Fm Gs (fun _ => List.replicate 4096 0) 0 0 ∧ Chg no w (w.alloc o) := fun o ho => by
    subst ho
    refine ⟨⟨Blk.new w _ _, hM.chg (Chg.alloc no _ _) (fun h => h) (fun _ _ h => h), ?_, Nat.zero_le _, fun j hj => hd j (.inl hj), fun h => by have := hfl _ h; omega, fun h => by have := hsl _ h; omega, hd mp (.inr rfl), by omega⟩, Chg.alloc no _ _⟩
    exact hS.chg (Chg.alloc no _ _) (fun _ _ h => h)
  have hbx := hB _ rfl
  generalize hw1 : w.alloc (.cells #[.pointer (some ⟨mp, 0, none⟩), .pointer (some ⟨sp, 0, none⟩), .int .i64 0, .int .i64 0] 75) = w1 at hbx
  obtain ⟨tp, htp⟩ : ∃ tp, tp = w.heap.size := ⟨_, rfl⟩
  rw [← htp] at hbx
  obtain ⟨hW, hc1⟩ := hbx
  obtain ⟨t1, t2⟩ := take13_any first n fs 0 w1 tp mp sp Fm Gs _ 0 0 hW (by omega)
  have hrt : takE first n fs 0 = 0 → RT first fs (Mw (updC (fun _ => List.replicate 4096 0) first (List.replicate 4096 0))) ⟨[], [], 1⟩ := fun h => rt_new (by unfold takE at h; split at h; cases h; split at h; cases h; omega) hfr.2
  rw [Nat.add_zero] at t2
  generalize takE first n fs 0 = TE at *
  generalize updC (fun _ => List.replicate 4096 0) first (List.replicate 4096 0) = C2 at *
  have HW := Lib.hid hW; have HC1 := Lib.hid hc1; have T1 := Lib.hid t1; have T2 := Lib.hid t2; have HRT := Lib.hid hrt; have HW1 := Lib.hid hw1; have HTP := Lib.hid htp; have HD := Lib.hid hd
  clear hM hS hml hfl hsl hfr hB hW hc1 t1 t2 hrt hw1 htp hd
  go_enter Try.func8, Try.ntmps8
  go_upto_region 4 with (fail)
  rw [HW1.out, ← HTP.out]
  subst hT
  go_wp2_with fail
  refine (T2.out (by trivial)).mono ?_
  rintro e w2 ⟨rfl, Fm', hW2, hx2, hc2⟩
  have mf : ∀ o, w2.frozen? ⟨tp, o, none⟩ = false := fun o => hW2.blk.free o
  have m2 : w2.cell? ⟨tp, 2, none⟩ = some (.int .i64 0) := hW2.blk.cell 2
  have mlt : tp < w2.heap.size := hW2.blk.lt
  have HW2 := Lib.hid hW2; have HX2 := Lib.hid hx2; have HC2 := Lib.hid hc2
  clear hW2 hx2 hc2
  go_upto_region 8 with (fail)
  obtain ⟨w3, hw3⟩ : ∃ w3, w3 = w2.setCell ⟨tp, 2, none⟩ (.int .i64 (first : Int)) := ⟨_, rfl⟩
  rw [← hw3]
  have hc3 : Chg (fun j => j = tp) w2 w3 := by rw [hw3]; exact Chg.setCell _ _ _ rfl
  have hb3 : Blk w3 tp [.pointer (some ⟨mp, 0, none⟩), .pointer (some ⟨sp, 0, none⟩), .int .i64 (first : Int), .int .i64 ((0 + 1 : Nat) : Int)] 75 := by
    rw [hw3]; exact HW2.out.blk.set 2 (.int .i64 (first : Int))
  have hW3 : TW first n fs (first : Int) w3 tp mp sp Fm' Gs C2 1 1 := by
    have h := HW2.out
    exact ⟨hb3, h.mem.chg hc3 (fun e => h.tm e.symm) (fun k hk e => h.mt (by have e : k = tp := e; rw [← e]; exact hk)), h.stk.chg hc3 (fun k hk e => h.st (by have e : k = tp := e; rw [← e]; exact hk)), h.le, h.sm, h.mt, h.st, h.ms, h.tm⟩
  have hz := HC1.out.size
  have hfp : ∀ j, FpW tp mp Fm' Gs j → (Fm j ∨ j = mp) ∨ Gs j ∨ w.heap.size ≤ j := by
    rintro j (h | h | h | h)
    · exact .inr (.inr (by have := HTP.out; omega))
    · exact .inl (.inr h)
    · exact (HX2.out j h).elim (fun h => .inl (.inl h)) (fun h => .inr (.inr (Nat.le_trans hz h)))
    · exact .inr (.inl h)
  have hch : Chg (fun j => Fm j ∨ Gs j) w w3 := by
    have h12 : Chg (fun j => j = tp ∨ Fm j ∨ Gs j) w1 w3 := HC2.out.trans (hc3.mono (fun k _ h => .inl h))
    refine (HC1.out.mono (fun k _ h => h.elim)).thenExt h12 (fun j hj => ?_)
    exact hj.elim (fun h => .inr (by have := HTP.out; omega)) .inl
  have R1 := Lib.hid hW3; have R2 := Lib.hid hfp; have R3 := Lib.hid hch
  clear hw3 hc3 hb3 hW3 hz hfp hch mf m2 mlt
  go_wp2
  go_ret2
  exact ⟨tp, Fm', rfl, ⟨C2, R1.out, HRT.out (by trivial)⟩, R2.out, R3.out⟩
theorem new13_no (first n fs : Nat) (w : World) (mp sp : Nat) (Fm Gs : Nat → Prop) (hM : MemX w mp fs 0 (fun _ => List.replicate 4096 0) Fm) (hS : StkL w sp Gs (upto first n) [] first n) (hd : ∀ j, (Fm j ∨ j = mp) → ¬ Gs j) (hT : takE first n fs 0 ≠ 0) :
    Calls Try.prog 8 #[.pointer (some ⟨mp, 0, none⟩), .pointer (some ⟨sp, 0, none⟩)] w fun r w' => r = .returned (.tuple #[.pointer none, .int .i64 (takE first n fs 0)]) ∧ Chg (fun j => Fm j ∨ Gs j) w w' := by
  have hml := hM.mplt
  have hfl := hM.lt
  have hsl := hS.lt
  have hfr := hM.fr
  have hB : ∀ o, o = Obj.cells #[.pointer (some ⟨mp, 0, none⟩), .pointer (some ⟨sp, 0, none⟩), .int .i64 0, .int .i64 0] 75 → TW first n fs 0 (w.alloc o) w.heap.size mp sp Fm Gs (fun _ => List.replicate 4096 0) 0 0 ∧ Chg no w (w.alloc o) := fun o ho => by
    subst ho
    refine ⟨⟨Blk.new w _ _, hM.chg (Chg.alloc no _ _) (fun h => h) (fun _ _ h => h), ?_, Nat.zero_le _, fun j hj => hd j (.inl hj), fun h => by have := hfl _ h; omega, fun h => by have := hsl _ h; omega, hd mp (.inr rfl), by omega⟩, Chg.alloc no _ _⟩
    exact hS.chg (Chg.alloc no _ _) (fun _ _ h => h)
  have hbx := hB _ rfl
  generalize hw1 : w.alloc (.cells #[.pointer (some ⟨mp, 0, none⟩), .pointer (some ⟨sp, 0, none⟩), .int .i64 0, .int .i64 0] 75) = w1 at hbx
  obtain ⟨tp, htp⟩ : ∃ tp, tp = w.heap.size := ⟨_, rfl⟩
  rw [← htp] at hbx
  obtain ⟨hW, hc1⟩ := hbx
  obtain ⟨t1, t2⟩ := take13_any first n fs 0 w1 tp mp sp Fm Gs _ 0 0 hW (by omega)
  have hrt : takE first n fs 0 = 0 → RT first fs (Mw (updC (fun _ => List.replicate 4096 0) first (List.replicate 4096 0))) ⟨[], [], 1⟩ := fun h => rt_new (by unfold takE at h; split at h; cases h; split at h; cases h; omega) hfr.2
  rw [Nat.add_zero] at t2
  generalize takE first n fs 0 = TE at *
  generalize updC (fun _ => List.replicate 4096 0) first (List.replicate 4096 0) = C2 at *
  have HW := Lib.hid hW; have HC1 := Lib.hid hc1; have T1 := Lib.hid t1; have T2 := Lib.hid t2; have HRT := Lib.hid hrt; have HW1 := Lib.hid hw1; have HTP := Lib.hid htp; have HD := Lib.hid hd
  clear hM hS hml hfl hsl hfr hB hW hc1 t1 t2 hrt hw1 htp hd
  go_enter Try.func8, Try.ntmps8
  go_upto_region 4 with (fail)
  rw [HW1.out, ← HTP.out]
  have hT2 : (TE != 0) = true := by simp [hT]
  go_wp2_with fail
  refine (T1.out hT).mono ?_
  rintro e w2 ⟨rfl, Gs', hW2, hx2, hc2⟩
  have HC2 := Lib.hid ((HC1.out.mono (fun k _ h => h.elim) : Chg (fun j => Fm j ∨ Gs j) w w1).thenExt hc2 (fun j hj => .inl (.inr hj)))
  clear hW2 hx2 hc2
  go_wp2
  go_ret2
  exact ⟨rfl, HC2.out⟩
end Go.Proofs.Ytdakfgefnapglaa
