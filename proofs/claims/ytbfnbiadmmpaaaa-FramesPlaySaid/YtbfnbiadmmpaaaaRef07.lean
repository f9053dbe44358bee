/-
  What each function of package runrigref07 answers and leaves in memory: contracts over the translation. Each says its own conditions.
-/
import Derived.Test.YtbfnbiadmmpaaaaRow07
namespace Go.Proofs.Ytbfnbiadmmpaaaa
open Go.RowKit
set_option linter.unusedVariables false
set_option linter.unusedSimpArgs false

/-- the document's stock at block X, its lists -/
structure RefS (w : World) (X : Nat) (A1 A2 : Option Addr) (Y1 Y2 c1 c2 : Nat) (L T : List Int) : Prop where
  blk : Blk w X [.slice A1 L.length c1, .slice A2 T.length c2] 38
  r1 : Rdi w A1 Y1 c1 L
  r2 : Rdi w A2 Y2 c2 T
  n1 : A1 ≠ none → Y1 ≠ X
  n2 : A2 ≠ none → Y2 ≠ X
/-- its blocks -/
def FpR (X : Nat) (A1 A2 : Option Addr) (Y1 Y2 : Nat) : Nat → Prop := fun k => k = X ∨ (A1 ≠ none ∧ k = Y1) ∨ (A2 ≠ none ∧ k = Y2)
def RefL (w : World) (X : Nat) (G : Nat → Prop) (L T : List Int) : Prop := ∃ A1 A2 Y1 Y2 c1 c2, RefS w X A1 A2 Y1 Y2 c1 c2 L T ∧ G = FpR X A1 A2 Y1 Y2
theorem RefL.chg {F G : Nat → Prop} {w w' : World} {X : Nat} {L T : List Int} (h : RefL w X G L T) (hc : Chg F w w') (hf : ∀ k, G k → ¬ F k) : RefL w' X G L T := by
  obtain ⟨A1, A2, Y1, Y2, c1, c2, h, rfl⟩ := h
  exact ⟨A1, A2, Y1, Y2, c1, c2, ⟨h.blk.chg hc (hf _ (.inl rfl)), h.r1.chg hc (fun hn => hf _ (.inr (.inl ⟨hn, rfl⟩))), h.r2.chg hc (fun hn => hf _ (.inr (.inr ⟨hn, rfl⟩))), h.n1, h.n2⟩, rfl⟩
theorem Rdi.lt {w : World} {A : Option Addr} {Y c : Nat} {l : List Int} (h : Rdi w A Y c l) (hA : A ≠ none) : Y < w.heap.size := by
  rcases h with ⟨rfl, _⟩ | ⟨off, rfl, hlt, _⟩
  · exact absurd rfl hA
  · exact hlt
theorem RefL.lt {G : Nat → Prop} {w : World} {X : Nat} {L T : List Int} (h : RefL w X G L T) : ∀ k, G k → k < w.heap.size := by
  obtain ⟨A1, A2, Y1, Y2, c1, c2, h, rfl⟩ := h
  rintro k (rfl | ⟨h1, rfl⟩ | ⟨h1, rfl⟩)
  · exact h.blk.lt
  · exact h.r1.lt h1
  · exact h.r2.lt h1
theorem RefL.X {G : Nat → Prop} {w : World} {X : Nat} {L T : List Int} (h : RefL w X G L T) : G X := by
  obtain ⟨A1, A2, Y1, Y2, c1, c2, h, rfl⟩ := h
  exact .inl rfl
theorem RefL.cells {G : Nat → Prop} {w : World} {X : Nat} {L T : List Int} (h : RefL w X G L T) : ∃ A1 A2 c1 c2, w.cell? ⟨X, 0, none⟩ = some (.slice A1 L.length c1) ∧ w.cell? ⟨X, 1, none⟩ = some (.slice A2 T.length c2) := by
  obtain ⟨A1, A2, Y1, Y2, c1, c2, h, rfl⟩ := h
  exact ⟨A1, A2, c1, c2, h.blk.cell 0, h.blk.cell 1⟩
theorem ris_any {G : Nat → Prop} {L T : List Int} (X : Nat) (f : Int) (w : World) (h : RefL w X G L T) (ht : T.length ≤ 1048576) :
    Calls Try.prog 16 #[.pointer (some ⟨X, 0, none⟩), .int .i64 f] w fun e w' => e = .returned (.bool (decide (f ∈ T))) ∧ w = w' := by
  obtain ⟨A1, A2, Y1, Y2, c1, c2, h, rfl⟩ := h
  obtain ⟨n, hn⟩ : ∃ n, n = T.length := ⟨_, rfl⟩
  have x1 : w.cell? ⟨X, 1, none⟩ = some (.slice A2 n c2) := by rw [hn]; exact h.blk.cell 1
  have hle := h.r2.le
  rw [← hn] at hle ht
  have HR := Lib.hid h.r2; have HN := Lib.hid hn
  clear h hn
  obtain ⟨hc1, hc2⟩ := hle
  unfold maxLen at hc2
  go_enter Try.func16, Try.ntmps16
  go_wp2
  go_loopw [12] (fun i wr => ∃ k : Nat, k ≤ n ∧ i = .int .i64 k ∧ (decide (f ∈ T) = decide (f ∈ T.drop k)) ∧ wr = w) (fun i _ => n - (intOf i).toNat)
  case atStart => exact ⟨0, Nat.zero_le _, rfl, rfl, rfl⟩
  case round =>
    obtain ⟨k, hk, rfl, he, rfl⟩ := hrel
    by_cases hlt : k < n
    · have hkl : k < T.length := by rw [← HN.out]; exact hlt
      rcases HR.out with ⟨_, h, _⟩ | ⟨off, rfl, _, _, _, hcl⟩
      · rw [h] at hkl; exact absurd hkl (Nat.not_lt_zero _)
      have e1 := hcl k hkl
      rw [List.drop_eq_getElem_cons hkl] at he
      obtain ⟨x, hx⟩ : ∃ x, x = T[k] := ⟨_, rfl⟩
      rw [← hx] at e1 he
      have HE := Lib.hid he
      clear he hx hcl
      go_wp2
      · go_ret
        have hxa : x = f := by simp at *; omega
        exact ⟨by rw [HE.out, hxa]; simp, by trivial⟩
      · have hxa : ¬ f = x := by simp at *; omega
        refine ⟨⟨k + 1, hlt, by go_num, by rw [HE.out]; simp [hxa], by trivial⟩, by simp [intOf]; omega⟩
    · obtain rfl : k = n := by omega
      have h0 : decide (f ∈ T) = false := by
        rw [he, HN.out, List.drop_length]; simp
      have H0 := Lib.hid h0
      clear he h0
      go_wp2
      go_ret
      exact ⟨by rw [H0.out]; rfl, by trivial⟩
theorem rtake_none {G : Nat → Prop} {T : List Int} (X : Nat) (w : World) (h : RefL w X G [] T) :
    Calls Try.prog 10 #[.pointer (some ⟨X, 0, none⟩)] w fun e w' => e = .returned (.tuple #[.int .i64 (-1), .int .i64 50]) ∧ w = w' := by
  obtain ⟨A1, A2, c1, c2, x0, -⟩ := h.cells
  rw [List.length_nil] at x0
  clear h
  go_enter Try.func10, Try.ntmps10
  go_wp2
  go_ret2
  exact ⟨rfl, rfl⟩
theorem rgive_none {G : Nat → Prop} {L T : List Int} (X : Nat) (f : Int) (w : World) (h : RefL w X G L T) (ht : T.length ≤ 1048576) (hf : f ∉ T) :
    Calls Try.prog 12 #[.pointer (some ⟨X, 0, none⟩), .int .i64 f] w fun e w' => e = .returned (.int .i64 51) ∧ w = w' := by
  have hi := ris_any X f w h ht
  rw [show decide (f ∈ T) = false from decide_eq_false hf] at hi
  clear h ht hf
  go_enter Try.func12, Try.ntmps12
  go_wp2_with fail
  refine hi.mono ?_
  rintro e w' ⟨rfl, rfl⟩
  go_wp2
  go_ret
  exact ⟨rfl, rfl⟩
theorem rnew_any (a : Int) (n : Nat) (w : World) (h0 : 0 ≤ a) (ha : a ≤ 1048576) (hn : n ≤ 1000) :
    Calls Try.prog 8 #[.int .i64 a, .int .i64 n] w fun e w' => ∃ X G, e = .returned (.pointer (some ⟨X, 0, none⟩)) ∧ RefL w' X G (upto a n) [] ∧ (∀ k, G k → w.heap.size ≤ k) ∧ Chg no w w' := by
  obtain ⟨i0, hi, hz0, hz1, hz2⟩ := info_parts infoI
  go_enter Try.func8, Try.ntmps8
  go_wp2
  go_loopw [6] (fun i wr => ∃ (k : Nat) (v : Value), k ≤ n ∧ i = .int .i64 k ∧ Blk wr w.heap.size [v, .slice none 0 0] 38 ∧ wr.ownsRow (w.heap.size + 1) 3 1 v k ((upto a k).map (Value.int .i64)) ∧ Chg no w wr) (fun i _ => n - (intOf i).toNat)
  case atStart =>
    refine ⟨0, .slice none 0 0, Nat.zero_le _, rfl, ?_, World.ownsRow_nil _ _ _ _, Chg.alloc _ _ _⟩
    exact Blk.new w _ _
  case round =>
    obtain ⟨k, v, hk, rfl, hb, ho, hc⟩ := hrel
    have hsz := hc.size
    have hlt := hb.lt
    obtain ⟨A, c, rfl⟩ := own_slice ho
    by_cases hlk : k < n
    · have x0 : wr.cell? ⟨w.heap.size, 0, none⟩ = some (.slice A k c) := hb.cell 0
      have x0' : ∀ o, (wr.alloc o).cell? ⟨w.heap.size, 0, none⟩ = some (.slice A k c) := fun o => (hb.alloc o).cell 0
      have HB := Lib.hid hb; have HO := Lib.hid ho; have HC := Lib.hid hc
      clear hb ho hc
      go_wp2_with (at_builtin; refine wpList_append_lies _ rfl _ _ 22 rfl (w.heap.size + 1) 3 i0 (.int .i64 0) 1 8 Try.underlying22 hi hz0 hz1 hz2 rfl (by decide) (.slice A k c) k ((upto a k).map (Value.int .i64)) rfl (HO.out.alloc _) ⟨wr.heap.size, 0, none⟩ 1 1 [.int .i64 (a + k)] rfl rfl ?c1 ?c2 ?c3 ?c4 ?c5 ?c6 (wr.heap.size + 1) ?c7 ?_)
      case c1 => exact cell_one_new _ _ _
      case c2 => exact ints_one (l := [a + k])
      case c3 => omega
      case c4 => unfold maxLen; omega
      case c5 => omega
      case c6 => simp; omega
      case c7 => simp
      intro g c3 w3 hown hgr hat hlt3
      have hcA : Chg (fun j => (Value.slice A k c).ownBlock = some j) wr w3 := ((Chg.alloc _ wr _)).thenGrown hgr (fun j hj => .inl hj)
      have hB : ∀ j, (Value.slice A k c).ownBlock = some j → w.heap.size + 1 ≤ j := fun j hj => own_from HO.out j hj
      have hb3 := HB.out.chg hcA (fun e => by have := hB w.heap.size e; omega)
      have f1 := hb3.free 0
      have d1 : w3.cell? ⟨w.heap.size, 0, none⟩ = some (.slice A k c) := hb3.cell 0
      have HOWN := Lib.hid hown; have HCA := Lib.hid hcA; have HB3 := Lib.hid hb3; have HBB := Lib.hid hB
      clear hown hgr hcA hb3 hB hat
      go_wp2
      go_roundw
      case rel =>
        have hb4 := HB3.out.set 0 (.slice (some ⟨g, 0, none⟩) (k + 1) c3)
        have hc4 := Chg.setCell (F := fun j => j = w.heap.size) w3 ⟨w.heap.size, 0, none⟩ (.slice (some ⟨g, 0, none⟩) (k + 1) c3) rfl
        refine ⟨k + 1, .slice (some ⟨g, 0, none⟩) (k + 1) c3, hlk, by go_num, hb4, ?_, ?_⟩
        · rw [upto_snoc, List.map_append]
          exact own_chg HOWN.out hc4 (fun j hj e => by
            have := own_from HOWN.out j hj
            have e : j = w.heap.size := e
            omega)
        · refine ⟨hc4.os.trans (HCA.out.os.trans HC.out.os), hc4.tape.trans (HCA.out.tape.trans HC.out.tape), hc4.output.trans (HCA.out.output.trans HC.out.output), Nat.le_trans hsz (Nat.le_trans HCA.out.size hc4.size), fun j hj _ => ?_⟩
          have h1 := HCA.out.block j (by omega) (fun e => by have := HBB.out j e; omega)
          have h2 := hc4.block j (by have := HCA.out.size; omega) (fun e => by have e : j = w.heap.size := e; omega)
          exact h2.trans (h1.trans (HC.out.block j hj (fun h => h)))
      case measure => simp [intOf]; omega
    · obtain rfl : k = n := by omega
      obtain ⟨A', Y, c', hv, hr, hob⟩ := own_rdi ho
      injection hv with e1 _ e2
      subst e1 e2
      have hB : ∀ j, (Value.slice A k c).ownBlock = some j → w.heap.size + 1 ≤ j := fun j hj => own_from ho j hj
      have hY : A ≠ none → w.heap.size + 1 ≤ Y := fun hA => hB Y ((hob Y).2 ⟨hA, rfl⟩)
      clear ho hob
      go_wp2
      go_ret
      refine ⟨w.heap.size, rfl, FpR w.heap.size A none Y w.heap.size, ⟨A, none, Y, w.heap.size, c, 0, ⟨?_, hr, .inl ⟨rfl, rfl, rfl⟩, fun hA => by have := hY hA; omega, fun h => absurd rfl h⟩, rfl⟩, ?_, hc⟩
      · rw [upto_len]; exact hb
      · rintro j (rfl | ⟨hA, rfl⟩ | ⟨hA, rfl⟩)
        · omega
        · have := hY hA; omega
        · exact absurd rfl hA
end Go.Proofs.Ytbfnbiadmmpaaaa
