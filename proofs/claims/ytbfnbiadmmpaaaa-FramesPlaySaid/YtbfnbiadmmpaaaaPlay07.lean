/-
  The program's stock and the document's, side by side; FramesPlay: the walk over the translation.
-/
import Derived.Test.YtbfnbiadmmpaaaaLaw07
import Derived.Test.YtbfnbiadmmpaaaaRefB07
import Derived.Deep.RegionHeld
import Derived.Deep.RegionWith
import Derived.Deep.RegionHeld3
namespace Go.Proofs.Ytbfnbiadmmpaaaa
open Go.RowKit
set_option linter.unusedVariables false
set_option linter.unusedSimpArgs false

/-- what a take answers, and what is taken behind it -/
def tkF : List Int → Int
  | [] => -1
  | f :: _ => f
def tkE : List Int → Int
  | [] => 50
  | _ :: _ => 0
def tkT : List Int → List Int → List Int
  | [], T => T
  | f :: _, T => T ++ [f]
/-- what a give answers, and what is free behind it -/
def gvE (f : Int) (T : List Int) : Int := if f ∈ T then 0 else 51
def gvL (f : Int) (L T : List Int) : List Int := if f ∈ T then f :: L else L
section
variable {F G : Nat → Prop} {L T : List Int} {a : Int}
theorem take_any (sp n : Nat) (w : World) (h : StkL w sp F L T a n) :
    Calls Try.prog 9 #[.pointer (some ⟨sp, 0, none⟩)] w fun e w' => e = .returned (.tuple #[.int .i64 (tkF L), .int .i64 (tkE L)]) ∧ StkL w' sp F L.tail (tkT L T) a n ∧ Chg F w w' := by
  cases L with
  | nil =>
    refine (take_none sp n w h).mono ?_
    rintro e w' ⟨rfl, k, rfl⟩
    exact ⟨rfl, h.drewN k, Chg.drewN _ _ _⟩
  | cons f L => exact take_some sp n f w h
theorem rtake_any (X : Nat) (w : World) (h : RefL w X G L T) (hL : L.length ≤ 1048576) (ht : T.length ≤ 1048576) :
    Calls Try.prog 10 #[.pointer (some ⟨X, 0, none⟩)] w fun e w' => e = .returned (.tuple #[.int .i64 (tkF L), .int .i64 (tkE L)]) ∧ (∃ G', RefL w' X G' L.tail (tkT L T) ∧ ExtR w G G') ∧ Chg (fun k => k = X) w w' := by
  cases L with
  | nil =>
    refine (rtake_none X w h).mono ?_
    rintro e w' ⟨rfl, rfl⟩
    exact ⟨rfl, ⟨G, h, fun k hk => .inl hk⟩, Chg.refl _ _⟩
  | cons f L => exact rtake_some (L := L) X f w h (by rw [List.length_cons] at hL; omega) ht
theorem give_any (sp n : Nat) (f : Int) (w : World) (h : StkL w sp F L T a n) (hI : I64 f) :
    Calls Try.prog 11 #[.pointer (some ⟨sp, 0, none⟩), .int .i64 f] w fun e w' => e = .returned (.int .i64 (gvE f T)) ∧ (∃ F', StkL w' sp F' (gvL f L T) (without f T) a n ∧ Ext w F F') ∧ Chg F w w' := by
  unfold gvE gvL
  by_cases hf : f ∈ T
  · rw [if_pos hf, if_pos hf]
    refine (give_yes sp n f w h hI hf).mono ?_
    rintro e w' ⟨rfl, F', h1, h2, h3⟩
    exact ⟨rfl, ⟨F', h1, h2⟩, h3⟩
  · rw [if_neg hf, if_neg hf, without_not f T hf]
    refine (give_none sp n f w h hI hf).mono ?_
    rintro e w' ⟨rfl, hc⟩
    exact ⟨rfl, ⟨F, h.chg hc (fun _ _ h => h), fun k hk => .inl hk⟩, hc.of_no⟩
theorem rgive_any (X : Nat) (f : Int) (w : World) (h : RefL w X G L T) (hL : L.length ≤ 1048576) (ht : T.length ≤ 1048576) :
    Calls Try.prog 12 #[.pointer (some ⟨X, 0, none⟩), .int .i64 f] w fun e w' => e = .returned (.int .i64 (gvE f T)) ∧ (∃ G', RefL w' X G' (gvL f L T) (without f T) ∧ ExtR w G G') ∧ Chg (fun k => k = X) w w' := by
  unfold gvE gvL
  by_cases hf : f ∈ T
  · rw [if_pos hf, if_pos hf]
    exact rgive_yes X f w h hL ht hf
  · rw [if_neg hf, if_neg hf, without_not f T hf]
    refine (rgive_none X f w h ht hf).mono ?_
    rintro e w' ⟨rfl, rfl⟩
    exact ⟨rfl, ⟨G, h, fun k hk => .inl hk⟩, Chg.refl _ _⟩
end
/-- the two are one stock -/
structure PairF (w w1 : World) (sp X n : Nat) (a : Int) (F G : Nat → Prop) (L T : List Int) : Prop where
  stk : StkL w1 sp F L T a n
  ref : RefL w1 X G L T
  fF : ∀ k, F k → w.heap.size ≤ k
  fG : ∀ k, G k → w.heap.size ≤ k
  ap : ∀ k, F k → ¬ G k
  chg : Chg no w w1
section
variable {w w1 w2 w3 : World} {sp X n : Nat} {a : Int} {F F' G G' : Nat → Prop} {L T L' T' : List Int}
theorem PairF.any (h : PairF w w1 sp X n a F G L T) (hc : Chg no w1 w2) : PairF w w2 sp X n a F G L T :=
  ⟨h.stk.chg hc (fun _ _ h => h), h.ref.chg hc (fun _ _ h => h), h.fF, h.fG, h.ap, h.chg.trans hc⟩
theorem PairF.ref1 (h : PairF w w1 sp X n a F G L T) (hc : Chg F w1 w2) : RefL w2 X G L T := h.ref.chg hc (fun k hg hf => h.ap k hf hg)
theorem PairF.lens (h : PairF w w1 sp X n a F G L T) : L.length ≤ 1048576 ∧ T.length ≤ 1048576 := by
  have h1 := h.stk.all
  have h2 := h1.1.len
  omega
theorem PairF.join (h : PairF w w1 sp X n a F G L T) (hs : StkL w2 sp F' L' T' a n) (hx : Ext w1 F F') (hc1 : Chg F w1 w2) (hr : RefL w3 X G' L' T') (hx2 : ExtR w2 G G') (hc2 : Chg (fun k => k = X) w2 w3) : PairF w w3 sp X n a F' G' L' T' := by
  have z0 := h.chg.size
  have z1 := hc1.size
  have hlt := hs.lt
  have hglt := h.ref.lt
  have hX := h.ref.X
  have hFX : ¬ F' X := fun hf => (hx X hf).elim (fun hf => h.ap X hf hX) (fun hge => by have := hglt X hX; omega)
  refine ⟨hs.chg hc2 (fun k hk e => hFX (e ▸ hk)), hr, fun k hk => (hx k hk).elim (h.fF k) (fun h => by omega), fun k hk => (hx2 k hk).elim (h.fG k) (fun h => by omega), fun k hf hg => ?_, (h.chg.thenOwn hc1 h.fF).thenOwn hc2 (fun k e => by have := h.fG X hX; omega)⟩
  rcases hx2 k hg with hg | hg
  · rcases hx k hf with hf | hf
    · exact h.ap k hf hg
    · have := hglt k hg; omega
  · have := hlt k hf; omega
end
/-- a slice of ints that came in -/
def RdS (w : World) (A : Option Addr) (Y : Nat) (l : List Int) : Prop := l = [] ∨ ∃ off, A = some ⟨Y, off, none⟩ ∧ Y < w.heap.size ∧ ∀ i (h : i < l.length), w.cell? ⟨Y, off + i, none⟩ = some (.int .i64 l[i])
set_option maxRecDepth 100000 in
set_option maxHeartbeats 4000000 in
theorem play_walk (u v : Nat) (A : Option Addr) (Y0 len cap : Nat) (l : List Int) (w : World) (hu : u ≤ 255) (hv : v ≤ 255) (hs : RdS w A Y0 l) (hl : l.length = len) (hlm : len ≤ 9223372036854775807) (hI : ∀ x ∈ l, I64 x) :
    Calls Try.prog 3 #[.int .u8 u, .int .u8 v, .slice A len cap] w fun e w' => e = .returned (.bool true) ∧ Below w.heap.size w w' := by
  obtain ⟨n, hn⟩ : ∃ n : Nat, n = v % 40 := ⟨_, rfl⟩
  have hni : (v : Int) % 40 = (n : Int) := by omega
  have hn40 : n < 40 := by omega
  have HS := Lib.hid hs; have HL := Lib.hid hl; have HI := Lib.hid hI
  clear hs hl hI hn
  go_enter Try.func3, Try.ntmps3
  go_wp2_with fail
  refine (firstL w).mono ?_
  rintro e w1 ⟨rfl, hc1⟩
  have HC1 := Lib.hid hc1; clear hc1
  go_wp2_with fail
  refine (one_new w w1 u n HC1.out (by omega) (by omega)).mono ?_
  rintro e w2 ⟨sp, rfl, F0, hs, hF, hc2⟩
  have HS2 := Lib.hid hs; have HF := Lib.hid hF; have HC2 := Lib.hid hc2
  clear hs hF hc2 HC1
  go_wp2_with fail
  refine (rnew_any u n w2 (by omega) (by omega) (by omega)).mono ?_
  rintro e w3 ⟨X, G0, rfl, hr, hG, hc3⟩
  have hP : PairF w w3 sp X n u F0 G0 (upto u n) [] := by
    have hlt := HS2.out.lt
    have hz := HC2.out.size
    exact ⟨HS2.out.chg hc3 (fun _ _ h => h), hr, HF.out, fun k hk => Nat.le_trans hz (hG k hk), fun k hf hg => by have := hlt k hf; have := hG k hg; omega, HC2.out.trans hc3⟩
  have HP := Lib.hid hP
  clear hr hG hc3 hP HS2 HF HC2
  go_wp2
  go_loopw [37] (fun i wr => ∃ (k : Nat) (F G : Nat → Prop) (L T : List Int), k ≤ len ∧ k ≤ 150 ∧ i = .int .i64 k ∧ PairF w wr sp X n u F G L T) (fun i _ => len - (intOf i).toNat)
  case atStart => exact ⟨0, _, _, _, _, Nat.zero_le _, Nat.zero_le _, rfl, HP.out⟩
  case round =>
    clear HP
    obtain ⟨k, F, G, L, T, hk, hk150, rfl, hp⟩ := hrel
    have hchg := hp.chg
    by_cases hlt : k < len
    · have hkl : k < l.length := by rw [HL.out]; exact hlt
      rcases HS.out with h | ⟨off, rfl, hY, hcl⟩
      · rw [h] at hkl; exact absurd hkl (Nat.not_lt_zero _)
      have e1 := hcl k hkl
      rw [← World.cell?_of_block (w := w) (a := ⟨Y0, off + k, none⟩) (hchg.block Y0 hY (fun h => h))] at e1
      have hIx := HI.out l[k] (List.getElem_mem hkl)
      obtain ⟨x, hx⟩ : ∃ x, x = l[k] := ⟨_, rfl⟩
      rw [← hx] at e1 hIx
      have P := Lib.hid hp
      clear hx hcl hkl hp
      by_cases h150 : 150 ≤ k
      · have hfin := Lib.hid hchg.none
        clear hchg
        go_wp2
        go_ret
        exact ⟨rfl, hfin.out⟩
      · have h150' : ¬ (150 : Int) ≤ (k : Int) := by omega
        clear hchg
        by_cases hneg : x < 0
        · go_wp2_with fail
          refine (take_any sp n wr P.out.stk).mono ?_
          rintro e w4 ⟨rfl, hs4, hc4⟩
          have hr4 := P.out.ref1 hc4
          have HS4 := Lib.hid hs4; have HC4 := Lib.hid hc4; have HR4 := Lib.hid hr4
          clear hs4 hc4 hr4
          go_wp2_with fail
          refine (rtake_any X w4 HR4.out P.out.lens.1 P.out.lens.2).mono ?_
          rintro e w5 ⟨rfl, ⟨G5, hr5, hx5⟩, hc5⟩
          have P5 := Lib.hid (P.out.join HS4.out (fun k hk => .inl hk) HC4.out hr5 hx5 hc5)
          clear hr5 hx5 hc5 HS4 HC4 HR4 P e1
          obtain ⟨L5, hL5⟩ : ∃ z, z = L.tail := ⟨_, rfl⟩
          obtain ⟨T5, hT5⟩ : ∃ z, z = tkT L T := ⟨_, rfl⟩
          have hP6 : PairF w w5.drew sp X n u F G5 L5 T5 := by rw [hL5, hT5]; exact P5.out.any (Chg.drew no w5)
          clear hL5 hT5 P5
          obtain ⟨w6, hw6⟩ : ∃ z, z = w5.drew := ⟨_, rfl⟩
          rw [← hw6] at hP6
          obtain ⟨A1, A2, d1, d2, y0, y1⟩ := hP6.ref.cells
          obtain ⟨nl, hnl⟩ : ∃ z, z = L5.length := ⟨_, rfl⟩
          obtain ⟨nt, hnt⟩ : ∃ z, z = T5.length := ⟨_, rfl⟩
          obtain ⟨b, hb⟩ : ∃ z, z = decide (x ∈ T5) := ⟨_, rfl⟩
          rw [← hnl] at y0
          rw [← hnt] at y1
          have hXl := hP6.ref.lt X hP6.ref.X
          have P6 := Lib.hid hP6
          have hcell : ∀ W, Chg no w6 W → Chg no w6 W ∧ W.cell? ⟨X, 0, none⟩ = some (.slice A1 nl d1) ∧ W.cell? ⟨X, 1, none⟩ = some (.slice A2 nt d2) := fun W hc =>
            ⟨hc, (World.cell?_of_block (w := w6) (a := ⟨X, 0, none⟩) (hc.block X hXl (fun h => h))).trans y0, (World.cell?_of_block (w := w6) (a := ⟨X, 1, none⟩) (hc.block X hXl (fun h => h))).trans y1⟩
          have cF : ∀ W, Chg no w6 W → Calls Try.prog 13 #[.pointer (some ⟨sp, 0, none⟩)] W fun e w' => e = .returned (.int .i64 nl) ∧ Chg no w6 w' := fun W hc => (free_at sp n nl W (P6.out.stk.chg hc (fun _ _ h => h)) hnl.symm).mono (by rintro e w' ⟨rfl, j, rfl⟩; exact ⟨rfl, hc.trans (Chg.drewN _ _ _)⟩)
          have cU : ∀ W, Chg no w6 W → Calls Try.prog 14 #[.pointer (some ⟨sp, 0, none⟩)] W fun e w' => e = .returned (.int .i64 nt) ∧ Chg no w6 w' := fun W hc => (used_at sp n nt W (P6.out.stk.chg hc (fun _ _ h => h)) hnt.symm).mono (by rintro e w' ⟨rfl, rfl⟩; exact ⟨rfl, hc⟩)
          have cT : ∀ W, Chg no w6 W → Calls Try.prog 15 #[.pointer (some ⟨sp, 0, none⟩), .int .i64 x] W fun e w' => e = .returned (.bool b) ∧ Chg no w6 w' := fun W hc => (taken_at sp n x W (P6.out.stk.chg hc (fun _ _ h => h)) hIx).mono (by rintro e w' ⟨rfl, h⟩; exact ⟨by rw [hb], hc.trans h⟩)
          have cI : ∀ W, Chg no w6 W → Calls Try.prog 16 #[.pointer (some ⟨X, 0, none⟩), .int .i64 x] W fun e w' => e = .returned (.bool b) ∧ Chg no w6 w' := fun W hc => (ris_any X x W (P6.out.ref.chg hc (fun _ _ h => h)) P6.out.lens.2).mono (by rintro e w' ⟨rfl, rfl⟩; exact ⟨by rw [hb], hc⟩)
          have HCELL := Lib.hid hcell; have CF := Lib.hid cF; have CU := Lib.hid cU; have CT := Lib.hid cT; have CI := Lib.hid cI
          clear hP6 hcell cF cU cT cI hnl hnt hb y0 y1 hXl
          go_wp2_with fail
          refine wp_region_held_drew (S := fun W => Chg no w6 W ∧ W.cell? ⟨X, 0, none⟩ = some (.slice A1 nl d1) ∧ W.cell? ⟨X, 1, none⟩ = some (.slice A2 nt d2)) (by kernel_rfl) (by rw [← hw6]; exact HCELL.out w6 (Chg.refl _ _)) (fun hHeld => ?_)
          rw [← hw6] at hHeld ⊢
          clear hw6
          simp only [List.size_toArray, List.length_cons, List.length_nil, Nat.reduceAdd]
          rw [show Array.replicate 27 false = [false, false, false, false, false, false, false, false, false, false, false, false, false, false, false, false, false, false, false, false, false, false, false, false, false, false, false].toArray from rfl]
          refine wpAnyH_take (i := 0) (v := ?_) rfl (by kernel_rfl) (by kernel_rfl) (by kernel_rfl) (fun _ _ _ h => h) (Or.inl ⟨by rfl, ?yldq⟩) (by assumption) ?_
          case yldq => (intro w hSw; (try dsimp only at hSw); go_simp; try with_reducible rfl)
          try simp only [Act.put, List.setIfInBounds_toArray, List.set_cons_zero, List.set_cons_succ, List.getElem_toArray, List.getElem_cons_succ, List.getElem_cons_zero]
          refine wpAnyH_take (i := 2) (v := ?_) rfl (by kernel_rfl) (by kernel_rfl) (by kernel_rfl) (fun _ _ _ h => h) (Or.inl ⟨by rfl, ?yldq⟩) (by assumption) ?_
          case yldq => (intro w hSw; (try dsimp only at hSw); go_simp; try with_reducible rfl)
          try simp only [Act.put, List.setIfInBounds_toArray, List.set_cons_zero, List.set_cons_succ, List.getElem_toArray, List.getElem_cons_succ, List.getElem_cons_zero]
          refine wpAnyH_take (i := 3) (v := ?_) rfl (by kernel_rfl) (by kernel_rfl) (by kernel_rfl) (fun _ _ _ h => h) (Or.inl ⟨by rfl, ?yldq⟩) (by assumption) ?_
          case yldq => (intro w hSw; (try dsimp only at hSw); go_simp; try with_reducible rfl)
          try simp only [Act.put, List.setIfInBounds_toArray, List.set_cons_zero, List.set_cons_succ, List.getElem_toArray, List.getElem_cons_succ, List.getElem_cons_zero]
          refine wpAnyH_take (i := 4) (v := ?_) rfl (by kernel_rfl) (by kernel_rfl) (by kernel_rfl) (fun _ _ _ h => h) (Or.inl ⟨by rfl, ?yldq⟩) (by assumption) ?_
          case yldq => (intro w hSw; (try dsimp only at hSw); go_simp; try with_reducible rfl)
          try simp only [Act.put, List.setIfInBounds_toArray, List.set_cons_zero, List.set_cons_succ, List.getElem_toArray, List.getElem_cons_succ, List.getElem_cons_zero]
          refine wpAnyH_take (i := 5) (v := ?_) rfl (by kernel_rfl) (by kernel_rfl) (by kernel_rfl) (fun _ _ _ h => h) (Or.inl ⟨by rfl, ?yldq⟩) (by assumption) ?_
          case yldq => (intro w hSw; (try dsimp only at hSw); go_simp; try with_reducible rfl)
          try simp only [Act.put, List.setIfInBounds_toArray, List.set_cons_zero, List.set_cons_succ, List.getElem_toArray, List.getElem_cons_succ, List.getElem_cons_zero]
          refine wpAnyH_take (i := 6) (v := ?_) rfl (by kernel_rfl) (by kernel_rfl) (by kernel_rfl) (fun _ _ _ h => h) (Or.inl ⟨by rfl, ?yldq⟩) (by assumption) ?_
          case yldq => (intro w hSw; (try dsimp only at hSw); go_simp; try with_reducible rfl)
          try simp only [Act.put, List.setIfInBounds_toArray, List.set_cons_zero, List.set_cons_succ, List.getElem_toArray, List.getElem_cons_succ, List.getElem_cons_zero]
          refine wpAnyH_ready (rs := [1]) (by kernel_rfl) (by simp) ?_
          refine AllReadyH.cons rfl (fun K hK => ?_) AllReadyH.nil
          go_simp
          refine (CF.out _ hHeld.1).mono ?_
          rintro e w7 ⟨rfl, hc7⟩
          have hS7 := HCELL.out w7 hc7
          clear hHeld hc7
          refine hK.out _ _ hS7 (fun _ => ?_)
          clear hK K
          refine wpAnyH_take (i := 7) (v := ?_) rfl (by kernel_rfl) (by kernel_rfl) (by kernel_rfl) (fun _ _ _ h => h) (Or.inl ⟨by rfl, ?yldq⟩) (by assumption) ?_
          case yldq => (intro w hSw; (try dsimp only at hSw); go_simp; try with_reducible rfl)
          try simp only [Act.put, List.setIfInBounds_toArray, List.set_cons_zero, List.set_cons_succ, List.getElem_toArray, List.getElem_cons_succ, List.getElem_cons_zero]
          refine wpAnyH_take (i := 8) (v := ?_) rfl (by kernel_rfl) (by kernel_rfl) (by kernel_rfl) (fun _ _ _ h => h) (Or.inl ⟨by rfl, ?yldq⟩) (by assumption) ?_
          case yldq => (intro w hSw; (try dsimp only at hSw); go_simp; try with_reducible rfl)
          try simp only [Act.put, List.setIfInBounds_toArray, List.set_cons_zero, List.set_cons_succ, List.getElem_toArray, List.getElem_cons_succ, List.getElem_cons_zero]
          refine wpAnyH_take (i := 9) (v := ?_) rfl (by kernel_rfl) (by kernel_rfl) (by kernel_rfl) (fun _ _ _ h => h) (Or.inl ⟨by rfl, ?yldq⟩) (by assumption) ?_
          case yldq => (intro w hSw; (try dsimp only at hSw); go_simp; try with_reducible rfl)
          try simp only [Act.put, List.setIfInBounds_toArray, List.set_cons_zero, List.set_cons_succ, List.getElem_toArray, List.getElem_cons_succ, List.getElem_cons_zero]
          refine wpAnyH_take (i := 11) (v := ?_) rfl (by kernel_rfl) (by kernel_rfl) (by kernel_rfl) (fun _ _ _ h => h) (Or.inl ⟨by rfl, ?yldq⟩) (by assumption) ?_
          case yldq => (intro w hSw; (try dsimp only at hSw); go_simp; try with_reducible rfl)
          try simp only [Act.put, List.setIfInBounds_toArray, List.set_cons_zero, List.set_cons_succ, List.getElem_toArray, List.getElem_cons_succ, List.getElem_cons_zero]
          refine wpAnyH_take (i := 12) (v := ?_) rfl (by kernel_rfl) (by kernel_rfl) (by kernel_rfl) (fun _ _ _ h => h) (Or.inl ⟨by rfl, ?yldq⟩) (by assumption) ?_
          case yldq => (intro w hSw; (try dsimp only at hSw); go_simp; try with_reducible rfl)
          try simp only [Act.put, List.setIfInBounds_toArray, List.set_cons_zero, List.set_cons_succ, List.getElem_toArray, List.getElem_cons_succ, List.getElem_cons_zero]
          refine wpAnyH_take (i := 13) (v := ?_) rfl (by kernel_rfl) (by kernel_rfl) (by kernel_rfl) (fun _ _ _ h => h) (Or.inl ⟨by rfl, ?yldq⟩) (by assumption) ?_
          case yldq => (intro w hSw; (try dsimp only at hSw); go_simp; try with_reducible rfl)
          try simp only [Act.put, List.setIfInBounds_toArray, List.set_cons_zero, List.set_cons_succ, List.getElem_toArray, List.getElem_cons_succ, List.getElem_cons_zero]
          refine wpAnyH_take (i := 14) (v := ?_) rfl (by kernel_rfl) (by kernel_rfl) (by kernel_rfl) (fun _ _ _ h => h) (Or.inl ⟨by rfl, ?yldq⟩) (by assumption) ?_
          case yldq => (intro w hSw; (try dsimp only at hSw); go_simp; try with_reducible rfl)
          try simp only [Act.put, List.setIfInBounds_toArray, List.set_cons_zero, List.set_cons_succ, List.getElem_toArray, List.getElem_cons_succ, List.getElem_cons_zero]
          refine wpAnyH_take (i := 15) (v := ?_) rfl (by kernel_rfl) (by kernel_rfl) (by kernel_rfl) (fun _ _ _ h => h) (Or.inl ⟨by rfl, ?yldq⟩) (by assumption) ?_
          case yldq => (intro w hSw; (try dsimp only at hSw); go_simp; try with_reducible rfl)
          try simp only [Act.put, List.setIfInBounds_toArray, List.set_cons_zero, List.set_cons_succ, List.getElem_toArray, List.getElem_cons_succ, List.getElem_cons_zero]
          refine wpAnyH_ready (rs := [10]) (by kernel_rfl) (by simp) ?_
          refine AllReadyH.cons rfl (fun K hK => ?_) AllReadyH.nil
          go_simp
          refine (CU.out _ hS7.1).mono ?_
          rintro e w8 ⟨rfl, hc8⟩
          have hS8 := HCELL.out w8 hc8
          clear hS7 hc8
          refine hK.out _ _ hS8 (fun _ => ?_)
          clear hK K
          refine wpAnyH_take (i := 16) (v := ?_) rfl (by kernel_rfl) (by kernel_rfl) (by kernel_rfl) (fun _ _ _ h => h) (Or.inl ⟨by rfl, ?yldq⟩) (by assumption) ?_
          case yldq => (intro w hSw; (try dsimp only at hSw); go_simp; try with_reducible rfl)
          try simp only [Act.put, List.setIfInBounds_toArray, List.set_cons_zero, List.set_cons_succ, List.getElem_toArray, List.getElem_cons_succ, List.getElem_cons_zero]
          refine wpAnyH_take (i := 17) (v := ?_) rfl (by kernel_rfl) (by kernel_rfl) (by kernel_rfl) (fun _ _ _ h => h) (Or.inl ⟨by rfl, ?yldq⟩) (by assumption) ?_
          case yldq => (intro w hSw; (try dsimp only at hSw); go_simp; try with_reducible rfl)
          try simp only [Act.put, List.setIfInBounds_toArray, List.set_cons_zero, List.set_cons_succ, List.getElem_toArray, List.getElem_cons_succ, List.getElem_cons_zero]
          refine wpAnyH_take (i := 18) (v := ?_) rfl (by kernel_rfl) (by kernel_rfl) (by kernel_rfl) (fun _ _ _ h => h) (Or.inl ⟨by rfl, ?yldq⟩) (by assumption) ?_
          case yldq => (intro w hSw; (try dsimp only at hSw); go_simp; try with_reducible rfl)
          try simp only [Act.put, List.setIfInBounds_toArray, List.set_cons_zero, List.set_cons_succ, List.getElem_toArray, List.getElem_cons_succ, List.getElem_cons_zero]
          refine wpAnyH_take (i := 19) (v := ?_) rfl (by kernel_rfl) (by kernel_rfl) (by kernel_rfl) (fun _ _ _ h => h) (Or.inl ⟨by rfl, ?yldq⟩) (by assumption) ?_
          case yldq => (intro w hSw; (try dsimp only at hSw); go_simp; try with_reducible rfl)
          try simp only [Act.put, List.setIfInBounds_toArray, List.set_cons_zero, List.set_cons_succ, List.getElem_toArray, List.getElem_cons_succ, List.getElem_cons_zero]
          refine wpAnyH_take (i := 20) (v := ?_) rfl (by kernel_rfl) (by kernel_rfl) (by kernel_rfl) (fun _ _ _ h => h) (Or.inl ⟨by rfl, ?yldq⟩) (by assumption) ?_
          case yldq => (intro w hSw; (try dsimp only at hSw); go_simp; try with_reducible rfl)
          try simp only [Act.put, List.setIfInBounds_toArray, List.set_cons_zero, List.set_cons_succ, List.getElem_toArray, List.getElem_cons_succ, List.getElem_cons_zero]
          refine wpAnyH_take (i := 22) (v := ?_) rfl (by kernel_rfl) (by kernel_rfl) (by kernel_rfl) (fun _ _ _ h => h) (Or.inl ⟨by rfl, ?yldq⟩) (by assumption) ?_
          case yldq => (intro w hSw; (try dsimp only at hSw); go_simp; try with_reducible rfl)
          try simp only [Act.put, List.setIfInBounds_toArray, List.set_cons_zero, List.set_cons_succ, List.getElem_toArray, List.getElem_cons_succ, List.getElem_cons_zero]
          refine wpAnyH_take (i := 23) (v := ?_) rfl (by kernel_rfl) (by kernel_rfl) (by kernel_rfl) (fun _ _ _ h => h) (Or.inl ⟨by rfl, ?yldq⟩) (by assumption) ?_
          case yldq => (intro w hSw; (try dsimp only at hSw); go_simp; try with_reducible rfl)
          try simp only [Act.put, List.setIfInBounds_toArray, List.set_cons_zero, List.set_cons_succ, List.getElem_toArray, List.getElem_cons_succ, List.getElem_cons_zero]
          refine wpAnyH_ready (rs := [21]) (by kernel_rfl) (by simp) ?_
          refine AllReadyH.cons rfl (fun K hK => ?_) AllReadyH.nil
          go_simp
          refine (CT.out _ hS8.1).mono ?_
          rintro e w9 ⟨rfl, hc9⟩
          have hS9 := HCELL.out w9 hc9
          clear hS8 hc9
          refine hK.out _ _ hS9 (fun _ => ?_)
          clear hK K
          refine wpAnyH_ready (rs := [24]) (by kernel_rfl) (by simp) ?_
          refine AllReadyH.cons rfl (fun K hK => ?_) AllReadyH.nil
          go_simp
          refine (CI.out _ hS9.1).mono ?_
          rintro e w10 ⟨rfl, hc10⟩
          have hS10 := HCELL.out w10 hc10
          have P10 := Lib.hid (P6.out.any hc10)
          clear hS9 hc10 P6 CF CU CT CI HCELL
          refine hK.out _ _ hS10 (fun _ => ?_)
          clear hK K
          refine wpAnyH_take (i := 25) (v := ?_) rfl (by kernel_rfl) (by kernel_rfl) (by kernel_rfl) (fun _ _ _ h => h) (Or.inl ⟨by rfl, ?yldq⟩) (by assumption) ?_
          case yldq => (intro w hSw; (try dsimp only at hSw); go_simp; try with_reducible rfl)
          try simp only [Act.put, List.setIfInBounds_toArray, List.set_cons_zero, List.set_cons_succ, List.getElem_toArray, List.getElem_cons_succ, List.getElem_cons_zero]
          refine wpAnyH_take (i := 26) (v := ?_) rfl (by kernel_rfl) (by kernel_rfl) (by kernel_rfl) (fun _ _ _ h => h) (Or.inl ⟨by rfl, ?yldq⟩) (by assumption) ?_
          case yldq => (intro w hSw; (try dsimp only at hSw); go_simp; try with_reducible rfl)
          try simp only [Act.put, List.setIfInBounds_toArray, List.set_cons_zero, List.set_cons_succ, List.getElem_toArray, List.getElem_cons_succ, List.getElem_cons_zero]
          refine wpAnyH_done (by kernel_rfl) ?_ _
          clear hS10
          go_wp2
          go_roundw
          case rel => exact ⟨k + 1, F, G5, L5, T5, hlt, by omega, by go_num, P10.out⟩
          case measure => simp [intOf]; omega
        · go_wp2_with fail
          refine (give_any sp n x wr P.out.stk hIx).mono ?_
          rintro e w4 ⟨rfl, ⟨F5, hs4, hx4⟩, hc4⟩
          have hr4 := P.out.ref1 hc4
          have HS4 := Lib.hid hs4; have HC4 := Lib.hid hc4; have HR4 := Lib.hid hr4; have HX4 := Lib.hid hx4
          clear hs4 hc4 hr4 hx4
          go_wp2_with fail
          refine (rgive_any X x w4 HR4.out P.out.lens.1 P.out.lens.2).mono ?_
          rintro e w5 ⟨rfl, ⟨G5, hr5, hx5⟩, hc5⟩
          have P5 := Lib.hid (P.out.join HS4.out HX4.out HC4.out hr5 hx5 hc5)
          clear hr5 hx5 hc5 HS4 HC4 HR4 HX4 P e1
          obtain ⟨L5, hL5⟩ : ∃ z, z = gvL x L T := ⟨_, rfl⟩
          obtain ⟨T5, hT5⟩ : ∃ z, z = without x T := ⟨_, rfl⟩
          have hP6 : PairF w w5.drew sp X n u F5 G5 L5 T5 := by rw [hL5, hT5]; exact P5.out.any (Chg.drew no w5)
          clear hL5 hT5 P5
          obtain ⟨w6, hw6⟩ : ∃ z, z = w5.drew := ⟨_, rfl⟩
          rw [← hw6] at hP6
          obtain ⟨A1, A2, d1, d2, y0, y1⟩ := hP6.ref.cells
          obtain ⟨nl, hnl⟩ : ∃ z, z = L5.length := ⟨_, rfl⟩
          obtain ⟨nt, hnt⟩ : ∃ z, z = T5.length := ⟨_, rfl⟩
          obtain ⟨b, hb⟩ : ∃ z, z = decide (x ∈ T5) := ⟨_, rfl⟩
          rw [← hnl] at y0
          rw [← hnt] at y1
          have hXl := hP6.ref.lt X hP6.ref.X
          have P6 := Lib.hid hP6
          have hcell : ∀ W, Chg no w6 W → Chg no w6 W ∧ W.cell? ⟨X, 0, none⟩ = some (.slice A1 nl d1) ∧ W.cell? ⟨X, 1, none⟩ = some (.slice A2 nt d2) := fun W hc =>
            ⟨hc, (World.cell?_of_block (w := w6) (a := ⟨X, 0, none⟩) (hc.block X hXl (fun h => h))).trans y0, (World.cell?_of_block (w := w6) (a := ⟨X, 1, none⟩) (hc.block X hXl (fun h => h))).trans y1⟩
          have cF : ∀ W, Chg no w6 W → Calls Try.prog 13 #[.pointer (some ⟨sp, 0, none⟩)] W fun e w' => e = .returned (.int .i64 nl) ∧ Chg no w6 w' := fun W hc => (free_at sp n nl W (P6.out.stk.chg hc (fun _ _ h => h)) hnl.symm).mono (by rintro e w' ⟨rfl, j, rfl⟩; exact ⟨rfl, hc.trans (Chg.drewN _ _ _)⟩)
          have cU : ∀ W, Chg no w6 W → Calls Try.prog 14 #[.pointer (some ⟨sp, 0, none⟩)] W fun e w' => e = .returned (.int .i64 nt) ∧ Chg no w6 w' := fun W hc => (used_at sp n nt W (P6.out.stk.chg hc (fun _ _ h => h)) hnt.symm).mono (by rintro e w' ⟨rfl, rfl⟩; exact ⟨rfl, hc⟩)
          have cT : ∀ W, Chg no w6 W → Calls Try.prog 15 #[.pointer (some ⟨sp, 0, none⟩), .int .i64 x] W fun e w' => e = .returned (.bool b) ∧ Chg no w6 w' := fun W hc => (taken_at sp n x W (P6.out.stk.chg hc (fun _ _ h => h)) hIx).mono (by rintro e w' ⟨rfl, h⟩; exact ⟨by rw [hb], hc.trans h⟩)
          have cI : ∀ W, Chg no w6 W → Calls Try.prog 16 #[.pointer (some ⟨X, 0, none⟩), .int .i64 x] W fun e w' => e = .returned (.bool b) ∧ Chg no w6 w' := fun W hc => (ris_any X x W (P6.out.ref.chg hc (fun _ _ h => h)) P6.out.lens.2).mono (by rintro e w' ⟨rfl, rfl⟩; exact ⟨by rw [hb], hc⟩)
          have HCELL := Lib.hid hcell; have CF := Lib.hid cF; have CU := Lib.hid cU; have CT := Lib.hid cT; have CI := Lib.hid cI
          clear hP6 hcell cF cU cT cI hnl hnt hb y0 y1 hXl
          go_wp2_with fail
          refine wp_region_held_drew (S := fun W => Chg no w6 W ∧ W.cell? ⟨X, 0, none⟩ = some (.slice A1 nl d1) ∧ W.cell? ⟨X, 1, none⟩ = some (.slice A2 nt d2)) (by kernel_rfl) (by rw [← hw6]; exact HCELL.out w6 (Chg.refl _ _)) (fun hHeld => ?_)
          rw [← hw6] at hHeld ⊢
          clear hw6
          simp only [List.size_toArray, List.length_cons, List.length_nil, Nat.reduceAdd]
          rw [show Array.replicate 27 false = [false, false, false, false, false, false, false, false, false, false, false, false, false, false, false, false, false, false, false, false, false, false, false, false, false, false, false].toArray from rfl]
          refine wpAnyH_take (i := 0) (v := ?_) rfl (by kernel_rfl) (by kernel_rfl) (by kernel_rfl) (fun _ _ _ h => h) (Or.inl ⟨by rfl, ?yldq⟩) (by assumption) ?_
          case yldq => (intro w hSw; (try dsimp only at hSw); go_simp; try with_reducible rfl)
          try simp only [Act.put, List.setIfInBounds_toArray, List.set_cons_zero, List.set_cons_succ, List.getElem_toArray, List.getElem_cons_succ, List.getElem_cons_zero]
          refine wpAnyH_take (i := 2) (v := ?_) rfl (by kernel_rfl) (by kernel_rfl) (by kernel_rfl) (fun _ _ _ h => h) (Or.inl ⟨by rfl, ?yldq⟩) (by assumption) ?_
          case yldq => (intro w hSw; (try dsimp only at hSw); go_simp; try with_reducible rfl)
          try simp only [Act.put, List.setIfInBounds_toArray, List.set_cons_zero, List.set_cons_succ, List.getElem_toArray, List.getElem_cons_succ, List.getElem_cons_zero]
          refine wpAnyH_take (i := 3) (v := ?_) rfl (by kernel_rfl) (by kernel_rfl) (by kernel_rfl) (fun _ _ _ h => h) (Or.inl ⟨by rfl, ?yldq⟩) (by assumption) ?_
          case yldq => (intro w hSw; (try dsimp only at hSw); go_simp; try with_reducible rfl)
          try simp only [Act.put, List.setIfInBounds_toArray, List.set_cons_zero, List.set_cons_succ, List.getElem_toArray, List.getElem_cons_succ, List.getElem_cons_zero]
          refine wpAnyH_take (i := 4) (v := ?_) rfl (by kernel_rfl) (by kernel_rfl) (by kernel_rfl) (fun _ _ _ h => h) (Or.inl ⟨by rfl, ?yldq⟩) (by assumption) ?_
          case yldq => (intro w hSw; (try dsimp only at hSw); go_simp; try with_reducible rfl)
          try simp only [Act.put, List.setIfInBounds_toArray, List.set_cons_zero, List.set_cons_succ, List.getElem_toArray, List.getElem_cons_succ, List.getElem_cons_zero]
          refine wpAnyH_take (i := 5) (v := ?_) rfl (by kernel_rfl) (by kernel_rfl) (by kernel_rfl) (fun _ _ _ h => h) (Or.inl ⟨by rfl, ?yldq⟩) (by assumption) ?_
          case yldq => (intro w hSw; (try dsimp only at hSw); go_simp; try with_reducible rfl)
          try simp only [Act.put, List.setIfInBounds_toArray, List.set_cons_zero, List.set_cons_succ, List.getElem_toArray, List.getElem_cons_succ, List.getElem_cons_zero]
          refine wpAnyH_take (i := 6) (v := ?_) rfl (by kernel_rfl) (by kernel_rfl) (by kernel_rfl) (fun _ _ _ h => h) (Or.inl ⟨by rfl, ?yldq⟩) (by assumption) ?_
          case yldq => (intro w hSw; (try dsimp only at hSw); go_simp; try with_reducible rfl)
          try simp only [Act.put, List.setIfInBounds_toArray, List.set_cons_zero, List.set_cons_succ, List.getElem_toArray, List.getElem_cons_succ, List.getElem_cons_zero]
          refine wpAnyH_ready (rs := [1]) (by kernel_rfl) (by simp) ?_
          refine AllReadyH.cons rfl (fun K hK => ?_) AllReadyH.nil
          go_simp
          refine (CF.out _ hHeld.1).mono ?_
          rintro e w7 ⟨rfl, hc7⟩
          have hS7 := HCELL.out w7 hc7
          clear hHeld hc7
          refine hK.out _ _ hS7 (fun _ => ?_)
          clear hK K
          refine wpAnyH_take (i := 7) (v := ?_) rfl (by kernel_rfl) (by kernel_rfl) (by kernel_rfl) (fun _ _ _ h => h) (Or.inl ⟨by rfl, ?yldq⟩) (by assumption) ?_
          case yldq => (intro w hSw; (try dsimp only at hSw); go_simp; try with_reducible rfl)
          try simp only [Act.put, List.setIfInBounds_toArray, List.set_cons_zero, List.set_cons_succ, List.getElem_toArray, List.getElem_cons_succ, List.getElem_cons_zero]
          refine wpAnyH_take (i := 8) (v := ?_) rfl (by kernel_rfl) (by kernel_rfl) (by kernel_rfl) (fun _ _ _ h => h) (Or.inl ⟨by rfl, ?yldq⟩) (by assumption) ?_
          case yldq => (intro w hSw; (try dsimp only at hSw); go_simp; try with_reducible rfl)
          try simp only [Act.put, List.setIfInBounds_toArray, List.set_cons_zero, List.set_cons_succ, List.getElem_toArray, List.getElem_cons_succ, List.getElem_cons_zero]
          refine wpAnyH_take (i := 9) (v := ?_) rfl (by kernel_rfl) (by kernel_rfl) (by kernel_rfl) (fun _ _ _ h => h) (Or.inl ⟨by rfl, ?yldq⟩) (by assumption) ?_
          case yldq => (intro w hSw; (try dsimp only at hSw); go_simp; try with_reducible rfl)
          try simp only [Act.put, List.setIfInBounds_toArray, List.set_cons_zero, List.set_cons_succ, List.getElem_toArray, List.getElem_cons_succ, List.getElem_cons_zero]
          refine wpAnyH_take (i := 11) (v := ?_) rfl (by kernel_rfl) (by kernel_rfl) (by kernel_rfl) (fun _ _ _ h => h) (Or.inl ⟨by rfl, ?yldq⟩) (by assumption) ?_
          case yldq => (intro w hSw; (try dsimp only at hSw); go_simp; try with_reducible rfl)
          try simp only [Act.put, List.setIfInBounds_toArray, List.set_cons_zero, List.set_cons_succ, List.getElem_toArray, List.getElem_cons_succ, List.getElem_cons_zero]
          refine wpAnyH_take (i := 12) (v := ?_) rfl (by kernel_rfl) (by kernel_rfl) (by kernel_rfl) (fun _ _ _ h => h) (Or.inl ⟨by rfl, ?yldq⟩) (by assumption) ?_
          case yldq => (intro w hSw; (try dsimp only at hSw); go_simp; try with_reducible rfl)
          try simp only [Act.put, List.setIfInBounds_toArray, List.set_cons_zero, List.set_cons_succ, List.getElem_toArray, List.getElem_cons_succ, List.getElem_cons_zero]
          refine wpAnyH_take (i := 13) (v := ?_) rfl (by kernel_rfl) (by kernel_rfl) (by kernel_rfl) (fun _ _ _ h => h) (Or.inl ⟨by rfl, ?yldq⟩) (by assumption) ?_
          case yldq => (intro w hSw; (try dsimp only at hSw); go_simp; try with_reducible rfl)
          try simp only [Act.put, List.setIfInBounds_toArray, List.set_cons_zero, List.set_cons_succ, List.getElem_toArray, List.getElem_cons_succ, List.getElem_cons_zero]
          refine wpAnyH_take (i := 14) (v := ?_) rfl (by kernel_rfl) (by kernel_rfl) (by kernel_rfl) (fun _ _ _ h => h) (Or.inl ⟨by rfl, ?yldq⟩) (by assumption) ?_
          case yldq => (intro w hSw; (try dsimp only at hSw); go_simp; try with_reducible rfl)
          try simp only [Act.put, List.setIfInBounds_toArray, List.set_cons_zero, List.set_cons_succ, List.getElem_toArray, List.getElem_cons_succ, List.getElem_cons_zero]
          refine wpAnyH_take (i := 15) (v := ?_) rfl (by kernel_rfl) (by kernel_rfl) (by kernel_rfl) (fun _ _ _ h => h) (Or.inl ⟨by rfl, ?yldq⟩) (by assumption) ?_
          case yldq => (intro w hSw; (try dsimp only at hSw); go_simp; try with_reducible rfl)
          try simp only [Act.put, List.setIfInBounds_toArray, List.set_cons_zero, List.set_cons_succ, List.getElem_toArray, List.getElem_cons_succ, List.getElem_cons_zero]
          refine wpAnyH_ready (rs := [10]) (by kernel_rfl) (by simp) ?_
          refine AllReadyH.cons rfl (fun K hK => ?_) AllReadyH.nil
          go_simp
          refine (CU.out _ hS7.1).mono ?_
          rintro e w8 ⟨rfl, hc8⟩
          have hS8 := HCELL.out w8 hc8
          clear hS7 hc8
          refine hK.out _ _ hS8 (fun _ => ?_)
          clear hK K
          refine wpAnyH_take (i := 16) (v := ?_) rfl (by kernel_rfl) (by kernel_rfl) (by kernel_rfl) (fun _ _ _ h => h) (Or.inl ⟨by rfl, ?yldq⟩) (by assumption) ?_
          case yldq => (intro w hSw; (try dsimp only at hSw); go_simp; try with_reducible rfl)
          try simp only [Act.put, List.setIfInBounds_toArray, List.set_cons_zero, List.set_cons_succ, List.getElem_toArray, List.getElem_cons_succ, List.getElem_cons_zero]
          refine wpAnyH_take (i := 17) (v := ?_) rfl (by kernel_rfl) (by kernel_rfl) (by kernel_rfl) (fun _ _ _ h => h) (Or.inl ⟨by rfl, ?yldq⟩) (by assumption) ?_
          case yldq => (intro w hSw; (try dsimp only at hSw); go_simp; try with_reducible rfl)
          try simp only [Act.put, List.setIfInBounds_toArray, List.set_cons_zero, List.set_cons_succ, List.getElem_toArray, List.getElem_cons_succ, List.getElem_cons_zero]
          refine wpAnyH_take (i := 18) (v := ?_) rfl (by kernel_rfl) (by kernel_rfl) (by kernel_rfl) (fun _ _ _ h => h) (Or.inl ⟨by rfl, ?yldq⟩) (by assumption) ?_
          case yldq => (intro w hSw; (try dsimp only at hSw); go_simp; try with_reducible rfl)
          try simp only [Act.put, List.setIfInBounds_toArray, List.set_cons_zero, List.set_cons_succ, List.getElem_toArray, List.getElem_cons_succ, List.getElem_cons_zero]
          refine wpAnyH_take (i := 19) (v := ?_) rfl (by kernel_rfl) (by kernel_rfl) (by kernel_rfl) (fun _ _ _ h => h) (Or.inl ⟨by rfl, ?yldq⟩) (by assumption) ?_
          case yldq => (intro w hSw; (try dsimp only at hSw); go_simp; try with_reducible rfl)
          try simp only [Act.put, List.setIfInBounds_toArray, List.set_cons_zero, List.set_cons_succ, List.getElem_toArray, List.getElem_cons_succ, List.getElem_cons_zero]
          refine wpAnyH_take (i := 20) (v := ?_) rfl (by kernel_rfl) (by kernel_rfl) (by kernel_rfl) (fun _ _ _ h => h) (Or.inl ⟨by rfl, ?yldq⟩) (by assumption) ?_
          case yldq => (intro w hSw; (try dsimp only at hSw); go_simp; try with_reducible rfl)
          try simp only [Act.put, List.setIfInBounds_toArray, List.set_cons_zero, List.set_cons_succ, List.getElem_toArray, List.getElem_cons_succ, List.getElem_cons_zero]
          refine wpAnyH_take (i := 22) (v := ?_) rfl (by kernel_rfl) (by kernel_rfl) (by kernel_rfl) (fun _ _ _ h => h) (Or.inl ⟨by rfl, ?yldq⟩) (by assumption) ?_
          case yldq => (intro w hSw; (try dsimp only at hSw); go_simp; try with_reducible rfl)
          try simp only [Act.put, List.setIfInBounds_toArray, List.set_cons_zero, List.set_cons_succ, List.getElem_toArray, List.getElem_cons_succ, List.getElem_cons_zero]
          refine wpAnyH_take (i := 23) (v := ?_) rfl (by kernel_rfl) (by kernel_rfl) (by kernel_rfl) (fun _ _ _ h => h) (Or.inl ⟨by rfl, ?yldq⟩) (by assumption) ?_
          case yldq => (intro w hSw; (try dsimp only at hSw); go_simp; try with_reducible rfl)
          try simp only [Act.put, List.setIfInBounds_toArray, List.set_cons_zero, List.set_cons_succ, List.getElem_toArray, List.getElem_cons_succ, List.getElem_cons_zero]
          refine wpAnyH_ready (rs := [21]) (by kernel_rfl) (by simp) ?_
          refine AllReadyH.cons rfl (fun K hK => ?_) AllReadyH.nil
          go_simp
          refine (CT.out _ hS8.1).mono ?_
          rintro e w9 ⟨rfl, hc9⟩
          have hS9 := HCELL.out w9 hc9
          clear hS8 hc9
          refine hK.out _ _ hS9 (fun _ => ?_)
          clear hK K
          refine wpAnyH_ready (rs := [24]) (by kernel_rfl) (by simp) ?_
          refine AllReadyH.cons rfl (fun K hK => ?_) AllReadyH.nil
          go_simp
          refine (CI.out _ hS9.1).mono ?_
          rintro e w10 ⟨rfl, hc10⟩
          have hS10 := HCELL.out w10 hc10
          have P10 := Lib.hid (P6.out.any hc10)
          clear hS9 hc10 P6 CF CU CT CI HCELL
          refine hK.out _ _ hS10 (fun _ => ?_)
          clear hK K
          refine wpAnyH_take (i := 25) (v := ?_) rfl (by kernel_rfl) (by kernel_rfl) (by kernel_rfl) (fun _ _ _ h => h) (Or.inl ⟨by rfl, ?yldq⟩) (by assumption) ?_
          case yldq => (intro w hSw; (try dsimp only at hSw); go_simp; try with_reducible rfl)
          try simp only [Act.put, List.setIfInBounds_toArray, List.set_cons_zero, List.set_cons_succ, List.getElem_toArray, List.getElem_cons_succ, List.getElem_cons_zero]
          refine wpAnyH_take (i := 26) (v := ?_) rfl (by kernel_rfl) (by kernel_rfl) (by kernel_rfl) (fun _ _ _ h => h) (Or.inl ⟨by rfl, ?yldq⟩) (by assumption) ?_
          case yldq => (intro w hSw; (try dsimp only at hSw); go_simp; try with_reducible rfl)
          try simp only [Act.put, List.setIfInBounds_toArray, List.set_cons_zero, List.set_cons_succ, List.getElem_toArray, List.getElem_cons_succ, List.getElem_cons_zero]
          refine wpAnyH_done (by kernel_rfl) ?_ _
          clear hS10
          go_wp2
          go_roundw
          case rel => exact ⟨k + 1, F5, G5, L5, T5, hlt, by omega, by go_num, P10.out⟩
          case measure => simp [intOf]; omega
    · have hfin := Lib.hid hchg.none
      clear hp hchg
      go_wp2
      go_ret
      exact ⟨rfl, hfin.out⟩
end Go.Proofs.Ytbfnbiadmmpaaaa
