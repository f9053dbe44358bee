/-
  What the calls of package phys answer and leave in memory: contracts over the translation. Each says its own conditions.
-/
import Derived.Test.YtgnjbjbgfhjakaaGreatPhysA
namespace Go.Proofs.YtgnjbjbgfhjakaaGreat
open Go.RowKit
set_option linter.unusedVariables false
set_option linter.unusedSimpArgs false

theorem Rd.blk {w : World} {g t : Nat} {l : List Int} (h : Blk w g (l.map (Value.int .u8)) t) (hb : Byt l) (hm : l.length ≤ 9223372036854775807) : Rd w (some ⟨g, 0, none⟩) l :=
  ⟨hb, hm, fun _ => ⟨g, 0, rfl, fun i hi => by rw [Nat.zero_add, h.cell i, List.getElem?_map, List.getD_eq_getElem?_getD, List.getElem?_eq_getElem hi]; rfl⟩⟩
theorem le_rep : ∀ n : Nat, le (List.replicate n 0) = 0
  | 0 => rfl
  | n + 1 => by rw [List.replicate_succ, le, le_rep n]; rfl
/-- a memory, its footprint -/
def MemX (w : World) (mp fr n : Nat) (C : Nat → List Int) (F : Nat → Prop) : Prop := ∃ mb pg, MemP w mp mb fr n pg C ∧ F = FpP mb pg
/-- what a footprint has grown by is new -/
def Ext (w : World) (F F' : Nat → Prop) : Prop := ∀ k, F' k → F k ∨ w.heap.size ≤ k
theorem Ext.refl (w : World) (F : Nat → Prop) : Ext w F F := fun _ h => .inl h
theorem Ext.trans {w w' : World} {F G H : Nat → Prop} (h : Ext w F G) (hs : w.heap.size ≤ w'.heap.size) (k : Ext w' G H) : Ext w F H := fun x hx => by
  rcases k x hx with hx | hx
  · exact h x hx
  · exact .inr (Nat.le_trans hs hx)
theorem MemX.lt {w : World} {mp fr n : Nat} {C : Nat → List Int} {F : Nat → Prop} (h : MemX w mp fr n C F) : ∀ k, F k → k < w.heap.size := by
  obtain ⟨mb, pg, h, rfl⟩ := h; exact h.lt
theorem MemX.mplt {w : World} {mp fr n : Nat} {C : Nat → List Int} {F : Nat → Prop} (h : MemX w mp fr n C F) : mp < w.heap.size := by
  obtain ⟨mb, pg, h, rfl⟩ := h; exact h.blk.lt
theorem MemX.out {w : World} {mp fr n : Nat} {C : Nat → List Int} {F : Nat → Prop} (h : MemX w mp fr n C F) : ¬ F mp := by
  obtain ⟨mb, pg, h, rfl⟩ := h; exact h.out
theorem MemX.c0 {w : World} {mp fr n : Nat} {C : Nat → List Int} {F : Nat → Prop} (h : MemX w mp fr n C F) : w.cell? ⟨mp, 0, none⟩ = some (.int .i64 fr) := by
  obtain ⟨mb, pg, h, rfl⟩ := h; exact h.blk.cell 0
theorem MemX.fr {w : World} {mp fr n : Nat} {C : Nat → List Int} {F : Nat → Prop} (h : MemX w mp fr n C F) : 1 ≤ fr ∧ fr ≤ 1048576 := by
  obtain ⟨mb, pg, h, rfl⟩ := h; exact ⟨h.fr0, h.fr1⟩
theorem MemX.byt {w : World} {mp fr n : Nat} {C : Nat → List Int} {F : Nat → Prop} (h : MemX w mp fr n C F) (f : Nat) : Byt (C f) ∧ (C f).length = 4096 := by
  obtain ⟨mb, pg, h, rfl⟩ := h; exact h.byt f
theorem MemX.mono {w : World} {mp fr n m : Nat} {C : Nat → List Int} {F : Nat → Prop} (h : MemX w mp fr n C F) (hn : n ≤ m) : MemX w mp fr m C F := by
  obtain ⟨mb, pg, h, rfl⟩ := h; exact ⟨mb, pg, h.mono hn, rfl⟩
theorem MemX.chg {G : Nat → Prop} {w w' : World} {mp fr n : Nat} {C : Nat → List Int} {F : Nat → Prop} (h : MemX w mp fr n C F) (hc : Chg G w w') (h1 : ¬ G mp) (h2 : ∀ k, F k → ¬ G k) : MemX w' mp fr n C F := by
  obtain ⟨mb, pg, h, rfl⟩ := h; exact ⟨mb, pg, h.chg hc h1 h2, rfl⟩
theorem Chg.thenExt {F G : Nat → Prop} {w w1 w2 : World} (h : Chg F w w1) (k : Chg G w1 w2) (hx : ∀ j, G j → F j ∨ w.heap.size ≤ j) : Chg F w w2 :=
  ⟨k.os.trans h.os, k.tape.trans h.tape, k.output.trans h.output, Nat.le_trans h.size k.size, fun j hj hf => (k.block j (Nat.lt_of_lt_of_le hj h.size) (fun hg => (hx j hg).elim hf (fun _ => by omega))).trans (h.block j hj hf)⟩
theorem written_any (mp mb fr n f : Nat) (pg : Nat → Option Nat) (C : Nat → List Int) (w : World) (h : MemP w mp mb fr n pg C) (hf : f ≤ 9223372036854775807) (hn : n < 1000) :
    Calls Tryz.prog 80 #[.pointer (some ⟨mp, 0, none⟩), .int .i64 f] w fun e w' => ∃ g pg', e = .returned (.pointer (some ⟨g, 0, none⟩)) ∧ MemP w' mp mb fr (n + 1) pg' C ∧ pg' f = some g ∧ Ext w (FpP mb pg) (FpP mb pg') ∧ Chg (FpP mb pg) w w' := by
  cases hg : pg f with
  | some g =>
    refine (written_old mp mb fr n f g pg C w h hf hg).mono ?_
    rintro e w' ⟨rfl, rfl⟩
    exact ⟨g, pg, rfl, h.mono (by omega), hg, Ext.refl _ _, Chg.refl _ _⟩
  | none =>
    refine (written_new mp mb fr n f pg C w h hf hn hg).mono ?_
    rintro e w' ⟨rfl, h1, h2⟩
    refine ⟨_, _, rfl, h1, by simp [updP], ?_, h2.mono (fun k _ hk => .inl hk)⟩
    rintro k (hk | ⟨f', hk⟩)
    · exact .inl (.inl hk)
    · unfold updP at hk
      split at hk
      · injection hk with hk
        exact .inr (by omega)
      · exact .inl (.inr ⟨f', hk⟩)
/-- a page written -/
theorem MemP.wrote {w w' : World} {mp mb fr n f g : Nat} {pg : Nat → Option Nat} {C : Nat → List Int} {c : List Int} (h : MemP w mp mb fr n pg C) (hg : pg f = some g) (hb : Blk w' g (c.map (Value.int .u8)) 183) (hc : Chg (fun k => k = g) w w')
    (hby : Byt c) (hl : c.length = 4096) : MemP w' mp mb fr n pg (updC C f c) := by
  obtain ⟨_, n1, n2⟩ := h.yes f g hg
  refine ⟨h.blk.chg hc (fun e => n1 e.symm), h.map.chg hc (fun e => n2 e.symm), h.ne, h.fr0, h.fr1, fun k hk => ?_, fun k g' hk => ?_, h.inj, fun k => ?_⟩
  · unfold updC
    split
    · rename_i e; subst e; rw [hg] at hk; cases hk
    · exact h.no k hk
  · unfold updC
    split
    · rename_i e; subst e; rw [hg] at hk; injection hk with hk; subst hk; exact ⟨hb, n1, n2⟩
    · rename_i e
      obtain ⟨h1, h2, h3⟩ := h.yes k g' hk
      refine ⟨h1.chg hc (fun e' => e ?_), h2, h3⟩
      subst e'
      exact h.inj k f g' hk hg
  · unfold updC
    split
    · exact ⟨hby, hl⟩
    · exact h.byt k
theorem load_bad (mp fr a : Nat) (s : Int) (w : World) (h : w.cell? ⟨mp, 0, none⟩ = some (.int .i64 fr)) (ha : a ≤ 18446744073709551615) (hfr : fr ≤ 1048576) (he : errL fr a s ≠ 0) :
    Calls Tryz.prog 91 #[.pointer (some ⟨mp, 0, none⟩), .int .u64 a, .int .i64 s] w fun e w' => e = .returned (.tuple #[.int .u64 0, .int .i64 (errL fr a s)]) ∧ w = w' := by
  have hf := find_bad mp fr a s w h ha hfr he
  have hne : ((errL fr a s : Nat) : Int) ≠ 0 := by omega
  obtain ⟨E, hE⟩ : ∃ E : Int, E = ((errL fr a s : Nat) : Int) := ⟨_, rfl⟩
  rw [← hE] at hf hne ⊢
  have hne' : (E == 0) = false := by simpa using hne
  have HF := Lib.hid hf
  clear hf hE he
  go_enter Tryz.func91, Tryz.ntmps91
  go_wp2_with (go_at_call 110; refine HF.out.mono ?_; rintro e w' ⟨rfl, rfl⟩)
  go_ret2
  exact ⟨rfl, rfl⟩
/-- the word at a -/
def wordC (C : Nat → List Int) (a s : Nat) : Int := le (((C (a / 4096)).drop (a % 4096)).take s)
theorem load_ok (mp fr n a : Nat) (s : Int) (C : Nat → List Int) (F : Nat → Prop) (w : World) (h : MemX w mp fr n C F) (ha : a ≤ 18446744073709551615) (he : errL fr a s = 0) :
    Calls Tryz.prog 91 #[.pointer (some ⟨mp, 0, none⟩), .int .u64 a, .int .i64 s] w fun e w' => e = .returned (.tuple #[.int .u64 (wordC C a s.toNat), .int .i64 0]) ∧ w = w' := by
  have hf := find_ok mp fr a s w h.c0 ha h.fr.2 he
  obtain ⟨hs, hm, hlt⟩ := errL_ok he
  obtain ⟨k, rfl, hk⟩ := hs.nat
  rw [Int.toNat_natCast] at hm ⊢
  have hfit := size_fits hs hm
  have hin : InB 4096 ((a % 4096 : Nat) : Int) k := ⟨hs, by omega, by omega⟩
  obtain ⟨mb, pg, h, rfl⟩ := h
  have h1 : w.cell? ⟨mp, 1, none⟩ = some (.map (some mb)) := h.blk.cell 1
  have hlk := h.map.look (a / 4096) (by omega)
  cases hg : pg (a / 4096) with
  | none =>
    rw [hg] at hlk
    have hv : wordC C a k = 0 := by
      unfold wordC
      rw [h.no _ hg, List.drop_replicate, List.take_replicate, le_rep]
    rw [hv]
    replace hlk : (Instr.lookup 127 (.map (some mb)) (.int .i64 (a / 4096 : Nat)) false).run Tryz.prog w = .ok (.pointer none) w := hlk
    generalize ((a / 4096 : Nat) : Int) = f at hf hlk
    generalize ((a % 4096 : Nat) : Int) = q at hf
    have HF := Lib.hid hf
    clear h hf he hs hm hlt hk hg hv hin
    go_enter Tryz.func91, Tryz.ntmps91
    go_wp2_with (go_at_call 110; refine HF.out.mono ?_; rintro e w' ⟨rfl, rfl⟩)
    go_ret2
    exact ⟨rfl, rfl⟩
  | some g =>
    rw [hg] at hlk
    replace hlk : (Instr.lookup 127 (.map (some mb)) (.int .i64 (a / 4096 : Nat)) false).run Tryz.prog w = .ok (.pointer (some ⟨g, 0, none⟩)) w := hlk
    obtain ⟨hb, hl⟩ := h.byt (a / 4096)
    have hrd := Rd.blk (h.yes _ g hg).1 hb (by omega)
    have hget := get_yes (some ⟨g, 0, none⟩) 4096 (C (a / 4096)) 4096 (a % 4096) k w hrd hl hin
    have e0 : le (((C (a / 4096)).drop (a % 4096)).take k) = wordC C a k := rfl
    rw [e0] at hget
    generalize ((a / 4096 : Nat) : Int) = f at hf hlk
    generalize ((a % 4096 : Nat) : Int) = q at hf hget
    have HF := Lib.hid hf
    have HG := Lib.hid hget
    clear h hf he hs hm hlt hk hg hget hrd hb hl e0 hin
    go_enter Tryz.func91, Tryz.ntmps91
    go_wp2_with (first | (go_at_call 110; refine HF.out.mono ?_; rintro e w' ⟨rfl, rfl⟩) | (go_at_call 117; refine HG.out.mono ?_; rintro e w' ⟨rfl, rfl⟩))
    go_ret2
    exact ⟨rfl, rfl⟩
theorem store_bad (mp fr a : Nat) (s v : Int) (w : World) (h : w.cell? ⟨mp, 0, none⟩ = some (.int .i64 fr)) (ha : a ≤ 18446744073709551615) (hfr : fr ≤ 1048576) (he : errL fr a s ≠ 0) :
    Calls Tryz.prog 85 #[.pointer (some ⟨mp, 0, none⟩), .int .u64 a, .int .i64 s, .int .u64 v] w fun e w' => e = .returned (.int .i64 (errL fr a s)) ∧ w = w' := by
  have hf := find_bad mp fr a s w h ha hfr he
  have hne : ((errL fr a s : Nat) : Int) ≠ 0 := by omega
  obtain ⟨E, hE⟩ : ∃ E : Int, E = ((errL fr a s : Nat) : Int) := ⟨_, rfl⟩
  rw [← hE] at hf hne ⊢
  have hne' : (E == 0) = false := by simpa using hne
  have HF := Lib.hid hf
  clear hf hE he
  go_enter Tryz.func85, Tryz.ntmps85
  go_wp2_with (go_at_call 110; refine HF.out.mono ?_; rintro e w' ⟨rfl, rfl⟩)
  go_ret
  exact ⟨rfl, rfl⟩
/-- a word laid -/
def layC (C : Nat → List Int) (a s : Nat) (v : Int) : Nat → List Int := updC C (a / 4096) (lay (C (a / 4096)) (a % 4096) (byt v s))
theorem store_ok (mp fr n a : Nat) (s v : Int) (C : Nat → List Int) (F : Nat → Prop) (w : World) (h : MemX w mp fr n C F) (ha : a ≤ 18446744073709551615) (he : errL fr a s = 0) (hn : n < 1000) (h0 : 0 ≤ v) (hv : v ≤ 18446744073709551615) :
    Calls Tryz.prog 85 #[.pointer (some ⟨mp, 0, none⟩), .int .u64 a, .int .i64 s, .int .u64 v] w fun e w' => e = .returned (.int .i64 0) ∧ ∃ F', MemX w' mp fr (n + 1) (layC C a s.toNat v) F' ∧ Ext w F F' ∧ Chg F w w' := by
  have hf := find_ok mp fr a s w h.c0 ha h.fr.2 he
  obtain ⟨hs, hm, hlt⟩ := errL_ok he
  obtain ⟨k, rfl, hk⟩ := hs.nat
  rw [Int.toNat_natCast] at hm ⊢
  have hfit := size_fits hs hm
  have hin : InB (4096 : Nat) ((a % 4096 : Nat) : Int) k := ⟨hs, by omega, by omega⟩
  obtain ⟨mb, pg, h, rfl⟩ := h
  have hw := written_any mp mb fr n (a / 4096) pg C w h (by omega) hn
  have HF := Lib.hid hf; have HW := Lib.hid hw; have HI := Lib.hid hin
  clear h hf he hs hm hlt hk hin hw
  go_enter Tryz.func85, Tryz.ntmps85
  go_wp2_with (go_at_call 110; refine HF.out.mono ?_; rintro e w' ⟨rfl, rfl⟩)
  refine HW.out.mono ?_
  rintro e w1 ⟨g, pg', rfl, hM, hg, hx, hc⟩
  obtain ⟨hb, hl⟩ := hM.byt (a / 4096)
  have hB := (hM.yes _ g hg).1
  have hp := put_blk g 4096 (a % 4096) k _ v _ w1 h0 hv (by omega) HI.out hl hB
  have HP := Lib.hid hp; have HM := Lib.hid hM; have HC := Lib.hid hc; have HX := Lib.hid hx; have HG := Lib.hid hg; have HL := Lib.hid hl; have HBy := Lib.hid hb
  clear hp hM hc hx hB hg hl hb
  go_wp2_with fail
  refine HP.out.mono ?_
  rintro e w2 ⟨rfl, hb2, hc2⟩
  go_wp2
  go_ret
  have hlt : ∀ j, j = g → FpP mb pg' j := fun j hj => .inr ⟨_, hj ▸ HG.out⟩
  exact ⟨rfl, FpP mb pg', ⟨mb, pg', HM.out.wrote HG.out hb2 hc2 (lay_Byt _ HBy.out (byt_Byt _ _)) (by rw [lay_len _ _ _ (by rw [byt_len, HL.out]; exact hfit)]; exact HL.out), rfl⟩, HX.out, HC.out.thenExt hc2 (fun j hj => HX.out j (.inr ⟨_, hj ▸ HG.out⟩))⟩
end Go.Proofs.YtgnjbjbgfhjakaaGreat
