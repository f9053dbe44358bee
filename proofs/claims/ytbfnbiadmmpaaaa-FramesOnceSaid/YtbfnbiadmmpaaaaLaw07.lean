/-
  A stock that a law has made: contracts; what the statements of layer 7 ask first, and FramesMake: walks over the translation.
-/
import Derived.Test.YtbfnbiadmmpaaaaStkB07
namespace Go.Proofs.Ytbfnbiadmmpaaaa
open Go.RowKit
set_option linter.unusedVariables false
set_option linter.unusedSimpArgs false

theorem Chg.thenOwn {F : Nat → Prop} {w w1 w2 : World} (h : Chg no w w1) (hc : Chg F w1 w2) (hF : ∀ k, F k → w.heap.size ≤ k) : Chg no w w2 :=
  ⟨hc.os.trans h.os, hc.tape.trans h.tape, hc.output.trans h.output, Nat.le_trans h.size hc.size, fun k hk _ => (hc.block k (Nat.lt_of_lt_of_le hk h.size) (fun hf => by have := hF k hf; omega)).trans (h.block k hk (fun h => h))⟩
/-- a stock made since w -/
def One (w w1 : World) (sp n : Nat) (a : Int) (L T : List Int) : Prop := ∃ F, StkL w1 sp F L T a n ∧ (∀ k, F k → w.heap.size ≤ k) ∧ Chg no w w1
section
variable {w w1 w2 : World} {sp n : Nat} {a : Int} {L T : List Int}
theorem One.chg (h : One w w1 sp n a L T) : Chg no w w1 := by obtain ⟨F, _, _, h⟩ := h; exact h
theorem One.all (h : One w w1 sp n a L T) : All L T a n ∧ 0 ≤ a ∧ a + n ≤ 1048576 := by obtain ⟨F, h, _, _⟩ := h; exact h.all
theorem One.any (h : One w w1 sp n a L T) (hc : Chg no w1 w2) : One w w2 sp n a L T := by
  obtain ⟨F, hs, hF, h⟩ := h
  exact ⟨F, hs.chg hc (fun _ _ h => h), hF, h.trans hc⟩
theorem One.drewN (h : One w w1 sp n a L T) (j : Nat) : One w (w1.drewN j) sp n a L T := h.any (Chg.drewN no _ _)
theorem One.step {F F' : Nat → Prop} {L' T' : List Int} (hc0 : Chg no w w1) (hF : ∀ k, F k → w.heap.size ≤ k) (h : StkL w2 sp F' L' T' a n) (hx : Ext w1 F F') (hc : Chg F w1 w2) : One w w2 sp n a L' T' :=
  ⟨F', h, fun k hk => (hx k hk).elim (hF k) (fun h => Nat.le_trans hc0.size h), hc0.thenOwn hc hF⟩
end
theorem one_new (w w1 : World) (a : Int) (n : Nat) (hc : Chg no w w1) (h0 : 0 ≤ a) (h1 : a + n ≤ 1048576) :
    Calls Try.prog 7 #[.int .i64 a, .int .i64 n] w1 fun e w2 => ∃ sp, e = .returned (.tuple #[.pointer (some ⟨sp, 0, none⟩), .int .i64 0]) ∧ One w w2 sp n a (upto a n) [] := by
  refine (new_yes a n w1 h0 h1).mono ?_
  rintro e w2 ⟨sp, F, rfl, hs, hF, hc2⟩
  exact ⟨sp, rfl, F, hs, fun k hk => Nat.le_trans hc.size (hF k hk), hc.trans hc2⟩
section
variable {w : World} {a : Int} {L T : List Int}
theorem one_take_none (sp n : Nat) (w1 : World) (h : One w w1 sp n a [] T) :
    Calls Try.prog 9 #[.pointer (some ⟨sp, 0, none⟩)] w1 fun e w2 => e = .returned (.tuple #[.int .i64 (-1), .int .i64 50]) ∧ One w w2 sp n a [] T := by
  obtain ⟨F, hs, hF, hc0⟩ := h
  refine (take_none sp n w1 hs).mono ?_
  rintro e w2 ⟨rfl, k, rfl⟩
  exact ⟨rfl, F, hs.drewN k, hF, hc0.trans (Chg.drewN _ _ _)⟩
theorem one_take_some (sp n : Nat) (f : Int) (w1 : World) (h : One w w1 sp n a (f :: L) T) :
    Calls Try.prog 9 #[.pointer (some ⟨sp, 0, none⟩)] w1 fun e w2 => e = .returned (.tuple #[.int .i64 f, .int .i64 0]) ∧ One w w2 sp n a L (T ++ [f]) := by
  obtain ⟨F, hs, hF, hc0⟩ := h
  refine (take_some sp n f w1 hs).mono ?_
  rintro e w2 ⟨rfl, hs2, hc⟩
  exact ⟨rfl, One.step hc0 hF hs2 (fun k hk => .inl hk) hc⟩
theorem one_give_none (sp n : Nat) (f : Int) (w1 : World) (h : One w w1 sp n a L T) (hI : I64 f) (hf : f ∉ T) :
    Calls Try.prog 11 #[.pointer (some ⟨sp, 0, none⟩), .int .i64 f] w1 fun e w2 => e = .returned (.int .i64 51) ∧ One w w2 sp n a L T := by
  obtain ⟨F, hs, hF, hc0⟩ := h
  refine (give_none sp n f w1 hs hI hf).mono ?_
  rintro e w2 ⟨rfl, hc⟩
  exact ⟨rfl, F, hs.chg hc (fun _ _ h => h), hF, hc0.trans hc⟩
theorem one_give_yes (sp n : Nat) (f : Int) (w1 : World) (h : One w w1 sp n a L T) (hI : I64 f) (hf : f ∈ T) :
    Calls Try.prog 11 #[.pointer (some ⟨sp, 0, none⟩), .int .i64 f] w1 fun e w2 => e = .returned (.int .i64 0) ∧ One w w2 sp n a (f :: L) (without f T) := by
  obtain ⟨F, hs, hF, hc0⟩ := h
  refine (give_yes sp n f w1 hs hI hf).mono ?_
  rintro e w2 ⟨rfl, F', hs2, hx, hc⟩
  exact ⟨rfl, One.step hc0 hF hs2 hx hc⟩
theorem one_free (sp n l : Nat) (w1 : World) (h : One w w1 sp n a L T) (hl : L.length = l) :
    Calls Try.prog 13 #[.pointer (some ⟨sp, 0, none⟩)] w1 fun e w2 => e = .returned (.int .i64 l) ∧ One w w2 sp n a L T := by
  obtain ⟨F, hs, hF, hc0⟩ := h
  refine (free_at sp n l w1 hs hl).mono ?_
  rintro e w2 ⟨rfl, k, rfl⟩
  exact ⟨rfl, F, hs.drewN k, hF, hc0.trans (Chg.drewN _ _ _)⟩
theorem one_used (sp n l : Nat) (w1 : World) (h : One w w1 sp n a L T) (hl : T.length = l) :
    Calls Try.prog 14 #[.pointer (some ⟨sp, 0, none⟩)] w1 fun e w2 => e = .returned (.int .i64 l) ∧ One w w2 sp n a L T := by
  obtain ⟨F, hs, hF, hc0⟩ := h
  refine (used_at sp n l w1 hs hl).mono ?_
  rintro e w2 ⟨rfl, rfl⟩
  exact ⟨rfl, F, hs, hF, hc0⟩
theorem one_taken (sp n : Nat) (f : Int) (b : Bool) (w1 : World) (h : One w w1 sp n a L T) (hI : I64 f) (hb : decide (f ∈ T) = b) :
    Calls Try.prog 15 #[.pointer (some ⟨sp, 0, none⟩), .int .i64 f] w1 fun e w2 => e = .returned (.bool b) ∧ One w w2 sp n a L T := by
  obtain ⟨F, hs, hF, hc0⟩ := h
  refine (taken_at sp n f w1 hs hI).mono ?_
  rintro e w2 ⟨rfl, hc⟩
  exact ⟨by rw [hb], F, hs.chg hc (fun _ _ h => h), hF, hc0.trans hc⟩
end
theorem firstL (w : World) : Calls Try.prog 6 #[] w fun e w' => e = .returned (.bool true) ∧ Chg no w w' := by
  have hn : Calls Try.prog 7 #[.int .i64 2, .int .i64 3] w _ := one_new w w 2 3 (Chg.refl _ _) (by omega) (by omega)
  have HN := Lib.hid hn; clear hn
  go_enter Try.func6, Try.ntmps6
  go_wp2_with fail
  refine HN.out.mono ?_
  rintro e w1 ⟨sp, rfl, h1⟩
  clear HN
  have H1 := Lib.hid h1; clear h1
  go_wp2_with fail
  refine (one_take_some sp 3 2 _ H1.out).mono ?_
  rintro e w2 ⟨rfl, h2⟩
  have H2 := Lib.hid h2; clear h2 H1
  go_wp2_with fail
  refine (one_take_some sp 3 (2 + 1) _ H2.out).mono ?_
  rintro e w3 ⟨rfl, h3⟩
  have H3 := Lib.hid h3; clear h3 H2
  go_wp2_with fail
  refine (one_give_yes sp 3 2 _ H3.out (by unfold I64; omega) (by simp)).mono ?_
  rintro e w4 ⟨rfl, h4⟩
  have H4 := Lib.hid h4; clear h4 H3
  go_wp2_with fail
  refine (one_take_some sp 3 2 _ H4.out).mono ?_
  rintro e w5 ⟨rfl, h5⟩
  have H5 := Lib.hid h5; clear h5 H4
  go_wp2_with fail
  refine (one_take_some sp 3 (2 + 1 + 1) _ H5.out).mono ?_
  rintro e w6 ⟨rfl, h6⟩
  have H6 := Lib.hid h6; clear h6 H5
  go_wp2_with fail
  refine (one_take_none sp 3 _ H6.out).mono ?_
  rintro e w7 ⟨rfl, h7⟩
  have H7 := Lib.hid h7; clear h7 H6
  go_wp2_with fail
  refine (one_give_none sp 3 9 _ H7.out (by unfold I64; omega) (by decide)).mono ?_
  rintro e w8 ⟨rfl, h8⟩
  have H8 := Lib.hid h8.chg; clear h8 H7
  go_wp2
  go_ret
  exact ⟨rfl, H8.out⟩
theorem make_yes (a : Int) (n : Nat) (w : World) (h0 : 0 ≤ a) (h1 : a + n ≤ 1048576) :
    Calls Try.prog 4 #[.int .i64 a, .int .i64 n] w fun e w' => e = .returned (.bool true) ∧ Below w.heap.size w w' := by
  have h2 : a ≤ 1048576 := by omega
  have h3 : (n : Int) ≤ 1048576 := by omega
  have hI : I64 a := by unfold I64; omega
  go_enter Try.func4, Try.ntmps4
  go_wp2_with fail
  refine (firstL w).mono ?_
  rintro e w1 ⟨rfl, hc1⟩
  have HC1 := Lib.hid hc1; clear hc1
  go_wp2_with fail
  refine (one_new w w1 a n HC1.out h0 h1).mono ?_
  rintro e w2 ⟨sp, rfl, h⟩
  have H := Lib.hid h; clear h HC1
  go_wp2_with fail
  refine (one_free sp n n _ H.out (upto_len _ _)).mono ?_
  rintro e w3 ⟨rfl, h⟩
  have H := Lib.hid h; clear h
  go_wp2_with fail
  refine (one_used sp n 0 _ H.out rfl).mono ?_
  rintro e w4 ⟨rfl, h⟩
  have H := Lib.hid h; clear h
  go_wp2_with fail
  refine (one_taken sp n a false _ H.out hI (by simp)).mono ?_
  rintro e w5 ⟨rfl, h⟩
  have H := Lib.hid h.chg; clear h
  go_wp2
  go_ret
  exact ⟨by simp [go_sem], H.out.none⟩
theorem make_no (a n : Int) (w : World) (ha : I64 a) (hn : I64 n) (h : ¬ (0 ≤ a ∧ 0 ≤ n ∧ a + n ≤ 1048576)) :
    Calls Try.prog 4 #[.int .i64 a, .int .i64 n] w fun e w' => e = .returned (.bool true) ∧ Below w.heap.size w w' := by
  have hnb := fun w => new_bad a n w h
  have NB := Lib.hid hnb; clear hnb
  have hs : a < 0 ∨ (0 ≤ a ∧ 1048576 < a) ∨ (0 ≤ a ∧ a ≤ 1048576 ∧ n < 0) ∨ (0 ≤ a ∧ a ≤ 1048576 ∧ 0 ≤ n ∧ 1048576 < n) ∨ (0 ≤ a ∧ a ≤ 1048576 ∧ 0 ≤ n ∧ n ≤ 1048576 ∧ 1048576 < a + n) := by omega
  clear h ha hn
  rcases hs with h1 | ⟨h1, h2⟩ | ⟨h1, h2, h3⟩ | ⟨h1, h2, h3, h4⟩ | ⟨h1, h2, h3, h4, h5⟩
  all_goals
    go_enter Try.func4, Try.ntmps4
    go_wp2_with fail
    refine (firstL w).mono ?_
    rintro e w1 ⟨rfl, hc1⟩
    have HC1 := Lib.hid hc1; clear hc1
    go_wp2_with fail
    refine (NB.out w1).mono ?_
    rintro e w2 ⟨rfl, rfl⟩
    go_wp2_with fail
    refine (take_nil w1).mono ?_
    rintro e w2 ⟨rfl, rfl⟩
    go_wp2_with fail
    refine (give_nil 0 w1).mono ?_
    rintro e w2 ⟨rfl, rfl⟩
    go_wp2_with fail
    refine (taken_nil 0 w1).mono ?_
    rintro e w2 ⟨rfl, rfl⟩
    go_wp2_with fail
    refine (free_nil w1).mono ?_
    rintro e w2 ⟨rfl, rfl⟩
    go_wp2_with fail
    refine (used_nil w1).mono ?_
    rintro e w2 ⟨rfl, rfl⟩
    go_wp2
    go_ret
    exact ⟨by trivial, HC1.out.none⟩
theorem make_walk (a n : Int) (w : World) (ha : I64 a) (hn : I64 n) :
    Calls Try.prog 4 #[.int .i64 a, .int .i64 n] w fun e w' => e = .returned (.bool true) ∧ Below w.heap.size w w' := by
  by_cases h : 0 ≤ a ∧ 0 ≤ n ∧ a + n ≤ 1048576
  · obtain ⟨q, rfl⟩ : ∃ q : Nat, n = q := ⟨n.toNat, by omega⟩
    exact make_yes a q w h.1 h.2.2
  · exact make_no a n w ha hn h
end Go.Proofs.Ytbfnbiadmmpaaaa
