/-
  What Swap, Page and SetPage of package phys answer and leave in memory: contracts over the translation. Each says its own conditions.
-/
import Derived.Test.YtgnjbjbgfhjakaaGreatPhysB
import Derived.Test.YtgnjbjbgfhjakaaGreatCopy06
namespace Go.Proofs.YtgnjbjbgfhjakaaGreat
open Go.RowKit
set_option linter.unusedVariables false
set_option linter.unusedSimpArgs false

theorem made_zero : (madeCells #[Value.int .u8 0] 4096).toList = List.replicate 4096 (.int .u8 0) := toList_madeCells_one _ _
theorem page_ok (mp fr n f : Nat) (C : Nat → List Int) (F : Nat → Prop) (w : World) (h : MemX w mp fr n C F) (hf : f < fr) :
    Calls Tryz.prog 46 #[.pointer (some ⟨mp, 0, none⟩), .int .i64 f] w fun e w' => e = .returned (.tuple #[.slice (some ⟨w.heap.size, 0, none⟩) 4096 4096, .int .i64 0]) ∧ Blk w' w.heap.size ((C f).map (Value.int .u8)) 5 ∧ Chg no w w' := by
  obtain ⟨i0, hi, hz0, hz1, hz2⟩ := info_parts info_u8
  have hh := has_yes mp fr f w h.c0 hf
  have hfr := h.fr
  obtain ⟨mb, pg, h, rfl⟩ := h
  have HH := Lib.hid hh; have H := Lib.hid h
  clear hh h
  go_enter Tryz.func46, Tryz.ntmps46
  go_wp2_with (first | (go_at_call 78; refine HH.out.mono ?_; rintro e w' ⟨rfl, rfl⟩) | (at_make; refine wpList_make_full _ rfl _ _ 52 rfl w.heap.size 5 i0 (.int .u8 0) 1 Tryz.underlying52 hi hz0 hz1 .i64 .i64 _ _ 4096 rfl rfl rfl rfl ?c1 ?c2 (Nat.le_refl _) ?_))
  case c1 => rw [hz2]; omega
  case c2 => unfold maxLen; omega
  intro w1 hown hgr
  rw [made_zero] at hown
  have hb := (own_blk hown).1
  have hc : Chg no w w1 := Chg.grown hgr (fun j hj => by cases hj)
  have h1 := H.out.chg hc (fun h => h) (fun _ _ h => h)
  have k1 : w1.cell? ⟨mp, 1, none⟩ = some (.map (some mb)) := h1.blk.cell 1
  have hlk := h1.map.look f (by omega)
  have HB := Lib.hid hb; have HC := Lib.hid hc
  cases hg : pg f with
  | none =>
    rw [hg] at hlk
    replace hlk : (Instr.lookup 127 (.map (some mb)) (.int .i64 f) false).run Tryz.prog w1 = .ok (.pointer none) w1 := hlk
    have hCf := Lib.hid (H.out.no f hg)
    clear h1 hown hgr hb hc hg
    go_wp2
    go_ret2
    refine ⟨rfl, ?_, HC.out⟩
    rw [hCf.out, List.map_replicate]
    exact HB.out
  | some g =>
    rw [hg] at hlk
    replace hlk : (Instr.lookup 127 (.map (some mb)) (.int .i64 f) false).run Tryz.prog w1 = .ok (.pointer (some ⟨g, 0, none⟩)) w1 := hlk
    have hpb := (h1.yes f g hg).1
    have hl := (H.out.byt f).2
    obtain ⟨cs, hcs⟩ : ∃ cs, cs = (C f).map (Value.int .u8) := ⟨_, rfl⟩
    have hcl : cs.length = 4096 := by rw [hcs, List.length_map]; exact hl
    have ho : ∀ v ∈ cs, v.oneCell' = true := by rw [hcs]; intro v hv; obtain ⟨x, _, rfl⟩ := List.mem_map.1 hv; rfl
    rw [← hcs] at hpb
    have hsrc : ∀ j v, cs[j]? = some v → w1.cell? ((⟨g, 0, none⟩ : Addr).add j) = some v := fun j v hj => by
      rw [Go.WideShapes.add_plain, Nat.zero_add, hpb.cell j]; exact hj
    have hsrc2 : ∀ j v, cs[j]? = some v → w1.cell? ⟨g, j, none⟩ = some v := fun j v hj => by rw [hpb.cell j]; exact hj
    have HCL := Lib.hid hcl; have HO := Lib.hid ho; have HSRC := Lib.hid hsrc; have HSRC2 := Lib.hid hsrc2
    clear hsrc2
    have HCS := Lib.hid hcs
    obtain ⟨Z, hZ⟩ : ∃ Z : List Value, Z = List.replicate 4096 (.int .u8 0) := ⟨_, rfl⟩
    rw [← hZ] at hb
    have hZl : Z.length = 4096 := by rw [hZ, List.length_replicate]
    have HB' := Lib.hid hb; have HZL := Lib.hid hZl
    clear HB hZ hZl
    clear h1 hown hgr hb hc hg hpb hl hcs hcl ho hsrc
    go_wp2_with (with_reducible refine wpList_copy_blk (o := ⟨some 28, _, _, _, _, _⟩) rfl (.tmp 24) (.tmp 27) 52 52 rfl 5 Tryz.underlying52 sizeU8 _ _ 4096 4096 4096 4096 rfl rfl w.heap.size 0 _ _ HB'.out cs ?c1 ?c2 ?c3 HO.out ?_)
    case c1 => rw [HCL.out]; rfl
    case c2 => first | exact fun _ => ⟨rfl, _, rfl, HSRC.out⟩ | exact fun _ => ⟨_, rfl, HSRC.out⟩ | exact fun _ => HSRC2.out
    case c3 => rw [HCL.out, HZL.out]; omega
    intro w2 hb2 hc2
    go_wp2
    go_ret2
    refine ⟨rfl, ?_, HC.out.thenExt hc2.out (fun j hj => .inr (by omega))⟩
    rw [← HCS.out]
    have := hb2.out
    unfold splice at this
    rwa [HCL.out, List.drop_of_length_le (by rw [HZL.out]; omega), List.append_nil, List.take_zero, List.nil_append] at this
theorem setpage_bad (mp fr : Nat) (f : Int) (A : Option Addr) (n c : Nat) (w : World) (h : w.cell? ⟨mp, 0, none⟩ = some (.int .i64 fr)) (hf : ¬ (0 ≤ f ∧ f < fr)) : Calls Tryz.prog 48 #[.pointer (some ⟨mp, 0, none⟩), .int .i64 f, .slice A n c] w fun e w' => e = .returned (.int .i64 61) ∧ w = w' := by
  have hh := has_no mp fr f w h hf
  have HH := Lib.hid hh; clear hh hf h
  go_enter Tryz.func48, Tryz.ntmps48
  go_wp2_with (go_at_call 78; refine HH.out.mono ?_; rintro e w' ⟨rfl, rfl⟩)
  go_ret
  exact ⟨rfl, rfl⟩
theorem Rd.chg {F : Nat → Prop} {w w' : World} {A : Option Addr} {l : List Int} (h : Rd w A l) (hc : Chg F w w') (hA : ∀ b off, A = some ⟨b, off, none⟩ → ¬ F b) : Rd w' A l := by
  refine ⟨h.1, h.2.1, fun hl => ?_⟩
  obtain ⟨b, off, rfl, h3⟩ := h.2.2 hl
  refine ⟨b, off, rfl, fun i hi => ?_⟩
  exact (World.cell?_of_block (w := w) (a := ⟨b, off + i, none⟩) (hc.block b (cell_lt (h3 i hi)) (hA b off rfl))).trans (h3 i hi)
/-- a page that holds these bytes, and noughts behind them -/
def pageOf (l : List Int) : List Int := l ++ List.replicate (4096 - l.length) 0
theorem page_splice (X cs : List Value) (z : Value) (k : Nat) (hX : X.length = 4096) (hk : cs.length = k) (h : k ≤ 4096) : splice (splice X 0 cs) k (List.replicate (4096 - k) z) = cs ++ List.replicate (4096 - k) z := by
  subst hk
  have e1 : splice X 0 cs = cs ++ X.drop cs.length := by simp [splice]
  rw [e1]
  unfold splice
  rw [List.take_append_of_le_length (Nat.le_refl _), List.take_length, List.drop_of_length_le (by simp; omega), List.append_nil]
theorem pageOf_map (l : List Int) (k : Nat) (hk : l.length = k) : (pageOf l).map (Value.int .u8) = l.map (Value.int .u8) ++ List.replicate (4096 - k) (.int .u8 0) := by
  unfold pageOf
  rw [List.map_append, List.map_replicate, hk]
theorem pageOf_ok {l : List Int} (hb : Byt l) (hl : l.length ≤ 4096) : Byt (pageOf l) ∧ (pageOf l).length = 4096 :=
  ⟨hb.app (rep_Byt _), by unfold pageOf; rw [List.length_append, List.length_replicate]; omega⟩
theorem setpage_ok (mp fr n f k c : Nat) (A : Option Addr) (l : List Int) (C : Nat → List Int) (F : Nat → Prop) (w : World) (h : MemX w mp fr n C F) (hf : f < fr) (hn : n < 1000) (hr : Rd w A l) (hk : l.length = k) (hk2 : k ≤ 4096) (hA : ∀ b off, A = some ⟨b, off, none⟩ → ¬ F b) :
    Calls Tryz.prog 48 #[.pointer (some ⟨mp, 0, none⟩), .int .i64 f, .slice A k c] w fun e w' => e = .returned (.int .i64 0) ∧ ∃ F', MemX w' mp fr (n + 1) (updC C f (pageOf l)) F' ∧ Ext w F F' ∧ Chg F w w' := by
  have hh := has_yes mp fr f w h.c0 hf
  have hfr := h.fr
  obtain ⟨mb, pg, h, rfl⟩ := h
  have hw := written_any mp mb fr n f pg C w h (by omega) hn
  have HH := Lib.hid hh; have HW := Lib.hid hw; have HR := Lib.hid hr; have HK := Lib.hid hk; have HA := Lib.hid hA
  clear hh h hw hr hk hA
  go_enter Tryz.func48, Tryz.ntmps48
  go_wp2_with (go_at_call 78; refine HH.out.mono ?_; rintro e w' ⟨rfl, rfl⟩)
  refine HW.out.mono ?_
  rintro e w1 ⟨g, pg', rfl, hM, hg, hx, hc⟩
  have hB := (hM.yes _ g hg).1
  have hl := (hM.byt f).2
  have hr1 := HR.out.chg hc HA.out
  obtain ⟨cs, hcs⟩ : ∃ cs, cs = l.map (Value.int .u8) := ⟨_, rfl⟩
  have hcl : cs.length = k := by rw [hcs, List.length_map]; exact HK.out
  have ho : ∀ v ∈ cs, v.oneCell' = true := by rw [hcs]; intro v hv; obtain ⟨x, _, rfl⟩ := List.mem_map.1 hv; rfl
  have hsrc : 0 < cs.length → ∃ ad, A = some ad ∧ ∀ j v, cs[j]? = some v → w1.cell? (ad.add j) = some v := fun h0 => by
    rw [hcs] at h0 ⊢
    exact hr1.src (by simpa using h0)
  have HM := Lib.hid hM; have HC := Lib.hid hc; have HX := Lib.hid hx; have HG := Lib.hid hg; have HL := Lib.hid hl; have HB := Lib.hid hB; have HCS := Lib.hid hcs
  have HCL := Lib.hid hcl; have HO := Lib.hid ho; have HSRC := Lib.hid hsrc
  clear hM hc hx hg hB hl hr1 hcs hcl ho hsrc
  go_wp2_with (with_reducible refine wpList_copy_blk (o := ⟨some 26, _, _, _, _, _⟩) rfl (.tmp 24) (.tmp 25) 52 52 rfl 5 Tryz.underlying52 sizeU8 _ _ 4096 4096 k c rfl rfl g 0 _ _ HB.out cs ?c1 ?c2 ?c3 HO.out ?_)
  case c1 => rw [HCL.out]; exact (Nat.min_eq_left hk2).symm
  case c2 => first | exact fun h0 => ⟨rfl, HSRC.out h0⟩ | exact fun h0 => HSRC.out h0
  case c3 => rw [HCL.out, List.length_map, HL.out]; omega
  rw [HCL.out]
  intro w2 hb2 hc2
  have hlen : k + (4096 - k) ≤ (splice ((C f).map (Value.int .u8)) 0 cs).length := by
    rw [length_splice _ _ _ (by rw [HCL.out, List.length_map, HL.out]; omega), List.length_map, HL.out]; omega
  have fin : ∀ w3, Blk w3 g (splice (splice ((C f).map (Value.int .u8)) 0 cs) k (List.replicate (4096 - k) (.int .u8 0))) 183 → Chg (fun j => j = g) w2 w3 →
      ∃ F', MemX w3 mp fr (n + 1) (updC C f (pageOf l)) F' ∧ Ext w (FpP mb pg) F' ∧ Chg (FpP mb pg) w w3 := fun w3 h3 hc3 => by
    rw [page_splice _ _ _ _ (by rw [List.length_map, HL.out]) HCL.out hk2, HCS.out, ← pageOf_map _ _ HK.out] at h3
    have hp := pageOf_ok HR.out.1 (by rw [HK.out]; exact hk2)
    have hc4 : Chg (fun j => j = g) w1 w3 := hc2.out.trans hc3
    exact ⟨FpP mb pg', ⟨mb, pg', HM.out.wrote HG.out h3 hc4 hp.1 hp.2, rfl⟩, HX.out, HC.out.thenExt hc4 (fun j hj => HX.out j (.inr ⟨_, hj ▸ HG.out⟩))⟩
  have fin0 : 4096 = k → ∀ w3, Blk w3 g (splice (splice ((C f).map (Value.int .u8)) 0 cs) k []) 183 → Chg (fun j => j = g) w2 w3 →
      ∃ F', MemX w3 mp fr (n + 1) (updC C f (pageOf l)) F' ∧ Ext w (FpP mb pg) F' ∧ Chg (FpP mb pg) w w3 := fun hk w3 h3 hc3 => by
    refine fin w3 ?_ hc3
    rw [show 4096 - k = 0 from by omega]
    exact h3
  have HLEN := Lib.hid hlen; have FIN := Lib.hid fin; have FIN0 := Lib.hid fin0; have HB2 := hb2; have HC2 := hc2
  clear hlen fin fin0 hb2 hc2
  go_wp2_with (with_reducible refine wpList_clear_blk (o := ⟨none, .call ⟨.builtin .clear, _, _⟩, _, _, _, _⟩) rfl (.tmp 30) 52 rfl 5 Tryz.underlying52 (.int .u8 0) zeroU8 rfl rfl _ (4096 - k) _ rfl g k _ _ HB2.out ?c4 ?c5 ?_)
  all_goals first
    | exact HLEN.out
    | (intro w3 hb3 hc3
       have HF : Hid (∃ F', MemX w3 mp fr (n + 1) (updC C f (pageOf l)) F' ∧ Ext w (FpP mb pg) F' ∧ Chg (FpP mb pg) w w3) := by
         first | exact FIN0.out (by assumption) w3 hb3.out hc3.out | exact FIN.out w3 hb3.out hc3.out
       clear FIN FIN0 hb3 hc3
       go_wp2
       go_ret
       exact ⟨rfl, HF.out⟩)
end Go.Proofs.YtgnjbjbgfhjakaaGreat
