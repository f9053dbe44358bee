/-
  What each function of package runrigref05 answers and leaves in memory: contracts over the translation. Each says its own conditions.
-/
import Derived.Test.YteepofehjofeaaaRingI
import Derived.Laws.AppendOwnNone
namespace Go.Proofs.Yteepofehjofeaaa
open Go.RowKit
set_option linter.unusedVariables false
set_option linter.unusedSimpArgs false

/-- a slice at A, in block Y, reads these numbers -/
def Rdi (w : World) (A : Option Addr) (Y : Nat) (l : List Int) : Prop :=
  (A = none ∧ l = []) ∨ ∃ off, A = some ⟨Y, off, none⟩ ∧ Y < w.heap.size ∧ ∀ i (h : i < l.length), w.cell? ⟨Y, off + i, none⟩ = some (.int .i64 l[i])
theorem Rdi.chg {F : Nat → Prop} {w w' : World} {A : Option Addr} {Y : Nat} {l : List Int} (h : Rdi w A Y l) (hc : Chg F w w') (hf : ¬ F Y) : Rdi w' A Y l := by
  rcases h with h | ⟨off, rfl, hlt, h⟩
  · exact .inl h
  · exact .inr ⟨off, rfl, Nat.lt_of_lt_of_le hlt hc.size, fun i hi => (World.cell?_of_block (w := w) (a := ⟨Y, off + i, none⟩) (hc.block Y hlt hf)).trans (h i hi)⟩
theorem Rdi.blk {w : World} {Y : Nat} {l : List Int} (h : Blk w Y (l.map (Value.int .i64)) 3) : Rdi w (some ⟨Y, 0, none⟩) Y l :=
  .inr ⟨0, rfl, h.lt, fun i hi => by rw [Nat.zero_add, h.cell i, List.getElem?_map, List.getElem?_eq_getElem hi]; rfl⟩
/-- a ring of the document at block X, its list in block Y -/
structure RefR (w : World) (X Y room : Nat) (A : Option Addr) (cap : Nat) (l : List Int) : Prop where
  blk : Blk w X [.slice A l.length cap, .int .i64 room] 33
  le : l.length ≤ cap
  top : cap ≤ maxLen
  nil : A = none → cap = 0
  rd : Rdi w A Y l
  ne : A ≠ none → Y ≠ X
theorem RefR.chg {F : Nat → Prop} {w w' : World} {X Y room cap : Nat} {A : Option Addr} {l : List Int} (h : RefR w X Y room A cap l) (hc : Chg F w w') (h1 : ¬ F X) (h2 : ¬ F Y) : RefR w' X Y room A cap l :=
  ⟨h.blk.chg hc h1, h.le, h.top, h.nil, h.rd.chg hc h2, h.ne⟩
theorem rnew_any (n : Int) (w : World) : Calls Try.prog 7 #[.int .i64 n] w fun e w' => e = .returned (.pointer (some ⟨w.heap.size, 0, none⟩)) ∧ RefR w' w.heap.size w.heap.size (min (max n 0) 65536).toNat none 0 [] ∧ Chg no w w' := by
  go_enter Try.func7, Try.ntmps7
  go_wp2
  all_goals
    go_ret
    refine ⟨rfl, ?_, Chg.alloc _ _ _⟩
    have hb := Blk.new w [.slice none 0 0, .int .i64 ((min (max n 0) 65536).toNat : Nat)] 33
  · have e : (min (max n 0) 65536).toNat = 65536 := by omega
    rw [e] at hb ⊢
    exact ⟨hb, Nat.le_refl _, by unfold maxLen; omega, fun _ => rfl, .inl ⟨rfl, rfl⟩, fun h => absurd rfl h⟩
  · have e : ((min (max n 0) 65536).toNat : Int) = n := by omega
    refine ⟨?_, Nat.le_refl _, by unfold maxLen; omega, fun _ => rfl, .inl ⟨rfl, rfl⟩, fun h => absurd rfl h⟩
    rw [e] at hb ⊢
    exact hb
  · have e : (min (max n 0) 65536).toNat = 0 := by omega
    rw [e] at hb ⊢
    exact ⟨hb, Nat.le_refl _, by unfold maxLen; omega, fun _ => rfl, .inl ⟨rfl, rfl⟩, fun h => absurd rfl h⟩
theorem rpop_none (X Y room cap : Nat) (A : Option Addr) (w : World) (h : RefR w X Y room A cap []) : Calls Try.prog 9 #[.pointer (some ⟨X, 0, none⟩)] w fun e w' => e = .returned (.tuple #[.int .i64 0, .bool false]) ∧ w = w' := by
  have h0 : w.cell? ⟨X, 0, none⟩ = some (.slice A 0 cap) := h.blk.cell 0
  clear h
  go_enter Try.func9, Try.ntmps9
  go_wp2
  go_ret2
  exact ⟨rfl, rfl⟩
theorem rpop_some (X Y room cap : Nat) (A : Option Addr) (x : Int) (l : List Int) (w : World) (h : RefR w X Y room A cap (x :: l)) : Calls Try.prog 9 #[.pointer (some ⟨X, 0, none⟩)] w fun e w' => e = .returned (.tuple #[.int .i64 x, .bool true]) ∧ (∃ A' cap', RefR w' X Y room A' cap' l) ∧ Chg (soleI X) w w' := by
  obtain ⟨off, rfl, hlt, hc⟩ : ∃ off, A = some ⟨Y, off, none⟩ ∧ Y < w.heap.size ∧ ∀ i (h : i < (x :: l).length), w.cell? ⟨Y, off + i, none⟩ = some (.int .i64 (x :: l)[i]) := by
    rcases h.rd with ⟨_, h⟩ | h
    · cases h
    · exact h
  have h0 : w.cell? ⟨X, 0, none⟩ = some (.slice (some ⟨Y, off, none⟩) (l.length + 1) cap) := h.blk.cell 0
  have hf := h.blk.free 0
  have hle := h.le
  rw [List.length_cons] at hle
  have htop := h.top
  unfold maxLen at htop
  have hx : w.cell? ⟨Y, off, none⟩ = some (.int .i64 x) := hc 0 (by simp)
  have hn := h.ne (by simp)
  have hrd : ∀ i (h : i < l.length), w.cell? ⟨Y, off + 1 + i, none⟩ = some (.int .i64 l[i]) := fun i hi => by
    have := hc (i + 1) (by rw [List.length_cons]; omega)
    rw [show off + 1 + i = off + (i + 1) from by omega]
    exact this
  have hd : ((l.length : Int) + 1 == 0) = false := by simp; omega
  obtain ⟨n, hnl⟩ : ∃ n, n = l.length := ⟨_, rfl⟩
  rw [← hnl] at h0 hle hd
  have HB := Lib.hid h.blk; have HRD := Lib.hid hrd; have HNL := Lib.hid hnl
  clear h hc hrd hnl
  by_cases h1 : cap = 1
  · have hn0 : n = 0 := by omega
    have hl0 : l = [] := List.length_eq_zero_iff.1 (by rw [← HNL.out]; exact hn0)
    have HL0 := Lib.hid hl0
    clear hl0
    subst h1
    subst hn0
    clear hd hle
    go_enter Try.func9, Try.ntmps9
    go_wp2
    go_ret2
    refine ⟨rfl, ⟨some ⟨Y, off, none⟩, 0, ?_⟩, Chg.setCell _ ⟨X, 0, none⟩ _ rfl⟩
    have hb := HB.out.set 0 (.slice (some ⟨Y, off, none⟩) 0 0)
    rw [HL0.out]
    exact ⟨hb, Nat.le_refl _, Nat.zero_le _, fun h => (by cases h), .inr ⟨off, rfl, (by simp [World.setCell]; exact hlt), fun i hi => by simp at hi⟩, fun _ => hn⟩
  · have hc1 : 1 < cap := by omega
    go_enter Try.func9, Try.ntmps9
    go_wp2
    go_ret2
    refine ⟨rfl, ⟨some ⟨Y, off + 1, none⟩, cap - 1, ?_⟩, Chg.setCell _ ⟨X, 0, none⟩ _ rfl⟩
    have hb := HB.out.set 0 (.slice (some ⟨Y, off + 1, none⟩) n (cap - 1))
    rw [HNL.out] at hb
    have e := HNL.out
    refine ⟨?_, by omega, by unfold maxLen; omega, fun h => (by cases h), .inr ⟨off + 1, rfl, (by simp [World.setCell]; exact hlt), fun i hi => ?_⟩, fun _ => hn⟩
    · rw [HNL.out]; exact hb
    · exact (cell_other w ⟨Y, off + 1 + i, none⟩ ⟨X, 0, none⟩ _ hn).trans (HRD.out i hi)
theorem rpush_full (X Y room cap : Nat) (A : Option Addr) (v : Int) (l : List Int) (w : World) (h : RefR w X Y room A cap l) (hn : l.length = room) : Calls Try.prog 11 #[.pointer (some ⟨X, 0, none⟩), .int .i64 v] w fun e w' => e = .returned (.bool false) ∧ ∃ n, w' = w.drewN n := by
  have h0 : w.cell? ⟨X, 0, none⟩ = some (.slice A room cap) := by rw [← hn]; exact h.blk.cell 0
  have h1 : w.cell? ⟨X, 1, none⟩ = some (.int .i64 room) := h.blk.cell 1
  clear h hn
  go_enter Try.func11, Try.ntmps11
  go_wp2
  go_quiet (fail)
  go_wp2
  go_ret
  exact ⟨rfl, _, rfl⟩
theorem own_rdi {w : World} {B : Nat} {v : Value} {l : List Int} {n : Nat} (h : w.ownsRow B 3 1 v n (l.map (Value.int .i64))) (hn : 0 < n) : ∃ g cap, v = .slice (some ⟨g, 0, none⟩) n cap ∧ n ≤ cap ∧ cap ≤ maxLen ∧ B ≤ g ∧ Rdi w (some ⟨g, 0, none⟩) g l := by
  obtain ⟨h1, h2⟩ := h
  rcases h2 with ⟨rfl, h0⟩ | ⟨g, cap, cur, rfl, hB, hg, hc, hm, hcs, ht⟩
  · omega
  · refine ⟨g, cap, rfl, hc, hm, hB, .inr ⟨0, rfl, ?_, fun i hi => ?_⟩⟩
    · rcases Nat.lt_or_ge g w.heap.size with hlt | hge
      · exact hlt
      · rw [Array.getElem?_eq_none hge] at hg; cases hg
    · rw [Nat.zero_add, cell_of_row w g i cur _ _ hg]
      rw [List.length_map] at h1
      have e : (cur.toList.take (n * 1))[i]? = some (.int .i64 l[i]) := by
        rw [ht, List.getElem?_map, List.getElem?_eq_getElem hi]; rfl
      rw [List.getElem?_take_of_lt (by omega)] at e
      simpa using e
theorem own_from {w : World} {B e n : Nat} {v : Value} {xs : List Value} (h : w.ownsRow B e 1 v n xs) (k : Nat) (hk : v.ownBlock = some k) : B ≤ k := by
  rcases h.2 with ⟨rfl, _⟩ | ⟨g, cap, cur, rfl, hB, _⟩
  · cases hk
  · cases hk; exact hB
set_option maxHeartbeats 1000000 in
theorem rpush_fits (X Y room cap : Nat) (A : Option Addr) (v : Int) (l : List Int) (w : World) (h : RefR w X Y room A cap l) (hn : l.length < room) (hl : l.length ≤ 1000) : Calls Try.prog 11 #[.pointer (some ⟨X, 0, none⟩), .int .i64 v] w fun e w' => e = .returned (.bool true) ∧ (∃ Y' A' cap', w.heap.size ≤ Y' ∧ RefR w' X Y' room A' cap' (l ++ [v])) ∧ Chg (soleI X) w w' := by
  obtain ⟨i0, hi, hz0, hz1, hz2⟩ := info_parts infoI
  obtain ⟨m, hm⟩ : ∃ m, m = l.length := ⟨_, rfl⟩
  have h0 : w.cell? ⟨X, 0, none⟩ = some (.slice A m cap) := by rw [hm]; exact h.blk.cell 0
  have h1 : w.cell? ⟨X, 1, none⟩ = some (.int .i64 room) := h.blk.cell 1
  have hne : ((m : Int) == (room : Int)) = false := by simp; omega
  have ha : ∀ n o, ((w.drewN n).alloc o).cell? ⟨X, 0, none⟩ = some (.slice A m cap) := fun n o => (((h.blk.drewN n).alloc o).cell 0).trans (by rw [hm]; rfl)
  have ho0 : ∀ n, ((w.drewN n).alloc (.cells #[] 3)).ownsRow w.heap.size 3 1 (.slice (some ⟨w.heap.size, 0, none⟩) 0 0) 0 [] := fun n => ⟨rfl, .inr ⟨w.heap.size, 0, #[], rfl, Nat.le_refl _, heap_alloc_new _ _, Nat.le_refl _, Nat.zero_le _, rfl, rfl⟩⟩
  have HO0 := Lib.hid ho0; clear ho0
  have HM := Lib.hid hm; have HB := Lib.hid h.blk
  have hXs := h.blk.lt
  rw [← hm] at hn hl
  rcases h.rd with ⟨hA, hl0⟩ | ⟨off, hA, hlt, hc⟩
  · have hm0 : m = 0 := by rw [hm, hl0]; rfl
    have hcap := h.nil hA
    have HL0 := Lib.hid hl0
    subst hA hm0 hcap
    clear h hm hl0 hne
    have hne : ((0 : Int) == (room : Int)) = false := by simp; omega
    go_enter Try.func11, Try.ntmps11
    go_wp2
    go_quiet (fail)
    go_wp2_with (first | (at_builtin; refine wpList_append_own_none rfl (.tmp 16) (.tmp 20) 22 rfl w.heap.size 3 i0 1 Try.underlying22 hi _ 0 [] rfl (HO0.out _) rfl ?_) | (at_builtin; refine wpList_append_own _ rfl (.tmp 21) (.tmp 23) 22 rfl w.heap.size 3 i0 (.int .i64 0) 1 8 Try.underlying22 hi hz0 hz1 hz2 rfl (by decide) _ 0 [] rfl ((HO0.out _).alloc _) ⟨w.heap.size + 1, 0, none⟩ 1 1 [.int .i64 v] rfl rfl ?c1 ?c2 ?c3 ?c4 ?c5 ?_))
    case c1 => intro j u hu; rcases j with _ | j; (injection hu with hu; subst hu; simp [go_sem]); cases hu
    case c2 => intro u hu; simp at hu; subst hu; rfl
    case c3 => unfold maxLen; omega
    case c4 => omega
    case c5 => simp [go_sem]; try omega
    intro v2 w2 hown2 hgr2 _
    have hc2 : Chg no w w2 := ((((Chg.drewN _ w nq).thenAlloc _).thenAlloc _).thenGrown hgr2 (fun k hk => by cases hk; exact .inr (Nat.le_refl _)))
    have hown2 : w2.ownsRow w.heap.size 3 1 v2 (0 + 1) ((l ++ [v]).map (Value.int .i64)) := by
      rw [List.map_append]; rw [HL0.out]; exact hown2
    obtain ⟨g, cap2, rfl, hle2, hmax2, hg2, hrd2⟩ := own_rdi hown2 (by omega)
    have hb2 := HB.out.chg hc2 (fun h => h)
    have j0 := hb2.cell 0
    have j0 : w2.cell? ⟨X, 0, none⟩ = some (.slice none (l.length) 0) := j0
    have jf := hb2.free 0
    have HB2 := Lib.hid hb2; have HC2 := Lib.hid hc2; have HRD := Lib.hid hrd2
    clear hown2 hgr2 hc2 hb2 hrd2
    go_wp2
    go_ret
    have hb3 := HB2.out.set 0 (.slice (some ⟨g, 0, none⟩) (0 + 1) cap2)
    have el : (l ++ [v]).length = 0 + 1 := by rw [List.length_append, ← HM.out]; rfl
    refine ⟨rfl, ⟨g, some ⟨g, 0, none⟩, cap2, hg2, ⟨?_, by omega, hmax2, fun h => (by cases h), ?_, fun _ => by omega⟩⟩, (HC2.out.of_no).trans (Chg.setCell _ ⟨X, 0, none⟩ _ rfl)⟩
    · rw [el]; exact hb3
    · exact HRD.out.chg (Chg.setCell (F := soleI X) _ ⟨X, 0, none⟩ _ rfl) (by unfold soleI; omega)
  · skip
    clear h hm
    subst hA
    have hla : ∀ n o i, i < m → ((w.drewN n).alloc o).cell? ⟨Y, off + i, none⟩ = some (.int .i64 (l.getD i 0)) := fun n o i hi => by
      have h1 : ((w.drewN n).alloc o).cell? ⟨Y, off + i, none⟩ = w.cell? ⟨Y, off + i, none⟩ := World.cell?_of_block (w := w.drewN n) (a := ⟨Y, off + i, none⟩) (Below.heap_alloc _ _ _ hlt)
      have hi' : i < l.length := by rw [← HM.out]; exact hi
      rw [h1, hc i hi', List.getD_eq_getElem?_getD, List.getElem?_eq_getElem hi']; rfl
    have HLA := Lib.hid hla
    clear hc hla
    go_enter Try.func11, Try.ntmps11
    go_wp2
    go_quiet (fail)
    go_wp2_with (first | (at_builtin; refine wpList_append_own _ rfl (.tmp 16) (.tmp 20) 22 rfl w.heap.size 3 i0 (.int .i64 0) 1 8 Try.underlying22 hi hz0 hz1 hz2 rfl (by decide) _ 0 [] rfl (HO0.out _) ⟨Y, off, none⟩ m cap (l.map (Value.int .i64)) rfl (by rw [List.length_map, Nat.mul_one]; exact HM.out.symm) ?c1 ?c2 ?c3 ?c4 ?c5 ?_))
    case c1 =>
      intro j u hu
      rw [List.getElem?_map] at hu
      rcases Nat.lt_or_ge j l.length with hj | hj
      · rw [List.getElem?_eq_getElem hj] at hu
        injection hu with hu
        have h1 := HLA.out nq (.cells #[] 3) j (by rw [HM.out]; exact hj)
        rw [List.getD_eq_getElem?_getD, List.getElem?_eq_getElem hj] at h1
        have e : (⟨Y, off, none⟩ : Addr).add j = ⟨Y, off + j, none⟩ := by
          unfold Addr.add; split
          · rename_i h; rw [h]; rfl
          · rfl
        rw [e, ← hu]; exact h1
      · rw [List.getElem?_eq_none hj] at hu; cases hu
    case c2 => intro u hu; rw [List.mem_map] at hu; obtain ⟨x, _, rfl⟩ := hu; rfl
    case c3 => unfold maxLen; omega
    case c4 => omega
    case c5 => simp [go_sem]
    intro v1 w1 hown1 hgr1 _
    have hc1 : Chg no w w1 := (((Chg.drewN _ w nq).thenAlloc _).thenGrown hgr1 (fun k hk => by cases hk; exact .inr (Nat.le_refl _)))
    have hs1 := hc1.size
    have hown1 : w1.ownsRow w.heap.size 3 1 v1 m (l.map (Value.int .i64)) := by simpa using hown1
    have HO1 := Lib.hid hown1; have HC1 := Lib.hid hc1
    clear hown1 hgr1 hc1
    go_wp2_with (at_builtin; refine wpList_append_own _ rfl (.tmp 21) (.tmp 23) 22 rfl w.heap.size 3 i0 (.int .i64 0) 1 8 Try.underlying22 hi hz0 hz1 hz2 rfl (by decide) _ m (l.map (Value.int .i64)) rfl (HO1.out.alloc _) ⟨w1.heap.size, 0, none⟩ 1 1 [.int .i64 v] rfl rfl ?c1 ?c2 ?c3 ?c4 ?c5 ?_)
    case c1 => intro j u hu; rcases j with _ | j; (injection hu with hu; subst hu; simp [go_sem]); cases hu
    case c2 => intro u hu; simp at hu; subst hu; rfl
    case c3 => unfold maxLen; omega
    case c4 => omega
    case c5 => simp [go_sem]; try omega
    intro v2 w2 hown2 hgr2 _
    have hc2 : Chg no w w2 := ((HC1.out.thenAlloc _).thenGrown hgr2 (fun k hk => .inr (own_from HO1.out k hk)))
    have hown2 : w2.ownsRow w.heap.size 3 1 v2 (m + 1) ((l ++ [v]).map (Value.int .i64)) := by
      rw [List.map_append]; exact hown2
    obtain ⟨g, cap2, rfl, hle2, hmax2, hg2, hrd2⟩ := own_rdi hown2 (by omega)
    have hb2 := HB.out.chg hc2 (fun h => h)
    have j0 := hb2.cell 0
    have j0 : w2.cell? ⟨X, 0, none⟩ = some (.slice (some ⟨Y, off, none⟩) (l.length) cap) := j0
    have jf := hb2.free 0
    have HB2 := Lib.hid hb2; have HC2 := Lib.hid hc2; have HRD := Lib.hid hrd2
    clear hown2 hgr2 hc2 hb2 hrd2
    go_wp2
    go_ret
    have hb3 := HB2.out.set 0 (.slice (some ⟨g, 0, none⟩) (m + 1) cap2)
    have el : (l ++ [v]).length = m + 1 := by rw [List.length_append, ← HM.out]; rfl
    refine ⟨rfl, ⟨g, some ⟨g, 0, none⟩, cap2, hg2, ⟨?_, by omega, hmax2, fun h => (by cases h), ?_, fun _ => by omega⟩⟩, (HC2.out.of_no).trans (Chg.setCell _ ⟨X, 0, none⟩ _ rfl)⟩
    · rw [el]; exact hb3
    · exact HRD.out.chg (Chg.setCell (F := soleI X) _ ⟨X, 0, none⟩ _ rfl) (by unfold soleI; omega)
theorem same_eq (A B : Option Addr) (Y Z n ca cb : Nat) (l : List Int) (w : World) (ha : Rdi w A Y l) (hb : Rdi w B Z l) (hn : l.length = n) (hn1 : n ≤ 1000) : Calls Try.prog 16 #[.slice A n ca, .slice B n cb] w fun e w' => e = .returned (.bool true) ∧ ∃ k, w' = w.drewN k := by
  have HA := Lib.hid ha; have HB := Lib.hid hb; have HN := Lib.hid hn
  clear ha hb hn
  go_enter Try.func16, Try.ntmps16
  go_wp2
  go_loopw [13] (fun i wr => ∃ k m : Nat, k ≤ n ∧ i = .int .i64 k ∧ wr = w.drewN m) (fun i _ => n - (intOf i).toNat)
  case atStart => exact ⟨0, 0, Nat.zero_le _, rfl, (World.drewN_zero w).symm⟩
  case round =>
    obtain ⟨k, m, hk, rfl, rfl⟩ := hrel
    by_cases hlt : k < n
    · have hkl : k < l.length := by rw [HN.out]; exact hlt
      rcases HA.out with ⟨_, h⟩ | ⟨oa, hA, _, hca⟩
      · rw [h] at hkl; exact absurd hkl (Nat.not_lt_zero _)
      rcases HB.out with ⟨_, h⟩ | ⟨ob, hB, _, hcb⟩
      · rw [h] at hkl; exact absurd hkl (Nat.not_lt_zero _)
      have h1 := hca k hkl
      have h2 := hcb k hkl
      obtain ⟨x, hx⟩ : ∃ x, x = l[k] := ⟨_, rfl⟩
      rw [← hx] at h1 h2
      subst hA hB
      clear hca hcb hx hkl
      go_wp2
      go_quiet (fail)
      go_wp2
      go_roundw
      case rel => exact ⟨k + 1, _, hlt, by go_num, by first | rfl | (rw [World.drewN_drewN])⟩
      case measure => simp [intOf]; omega
    · go_wp2
      go_ret
      exact ⟨rfl, _, rfl⟩
end Go.Proofs.Yteepofehjofeaaa
