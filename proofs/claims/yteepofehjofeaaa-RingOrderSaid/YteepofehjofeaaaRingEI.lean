/-
  Rings of int, their places left open: what a call answers by the ring's things alone.
-/
import Derived.Test.YteepofehjofeaaaRingI
namespace Go.Proofs.Yteepofehjofeaaa
open Go.RowKit
set_option linter.unusedVariables false
set_option linter.unusedSimpArgs false

/-- a ring at block R, its places at block G, with these things -/
def RngI (w : World) (R G room : Nat) (l : List Int) : Prop := ∃ f c cs, RingI w R G room f c cs l
theorem RngI.lt {w : World} {R G room : Nat} {l : List Int} (h : RngI w R G room l) : R < w.heap.size ∧ G < w.heap.size := by
  obtain ⟨f, c, cs, h⟩ := h
  refine ⟨h.blk.lt, ?_⟩
  by_cases h0 : c = 0
  · rw [(h.nil h0).2]; exact h.blk.lt
  · exact (h.row (by omega)).2.2.1.lt
theorem RngI.le {w : World} {R G room : Nat} {l : List Int} (h : RngI w R G room l) : l.length ≤ room ∧ room ≤ 65536 := by
  obtain ⟨f, c, cs, h⟩ := h
  exact ⟨Nat.le_trans h.len h.cap, h.top⟩
theorem RngI.chg {F : Nat → Prop} {w w' : World} {R G room : Nat} {l : List Int} (h : RngI w R G room l) (hc : Chg F w w') (h1 : ¬ F R) (h2 : ¬ F G) : RngI w' R G room l := by
  obtain ⟨f, c, cs, h⟩ := h
  exact ⟨f, c, cs, h.chg hc h1 h2⟩
theorem RngI.drewN {w : World} {R G room : Nat} {l : List Int} (h : RngI w R G room l) (n : Nat) : RngI (w.drewN n) R G room l := h.chg (Chg.drewN no w n) (fun h => h) (fun h => h)
theorem enewI (n : Int) (w : World) : Calls Try.prog 6 #[.int .i64 n] w fun e w' => e = .returned (.pointer (some ⟨w.heap.size, 0, none⟩)) ∧ RngI w' w.heap.size w.heap.size (min (max n 0) 65536).toNat [] ∧ Chg no w w' :=
  (newI_any n w).mono fun e w' h => ⟨h.1, ⟨_, _, _, h.2.1⟩, h.2.2⟩
theorem elenI (R G room n : Nat) (l : List Int) (w : World) (h : RngI w R G room l) (hn : l.length = n) : Calls Try.prog 13 #[.pointer (some ⟨R, 0, none⟩)] w fun e w' => e = .returned (.int .i64 n) ∧ w = w' := by
  obtain ⟨f, c, cs, h⟩ := h
  subst hn
  exact lenI_at R l.length w h.c3
theorem eroomI (R G room : Nat) (l : List Int) (w : World) (h : RngI w R G room l) : Calls Try.prog 14 #[.pointer (some ⟨R, 0, none⟩)] w fun e w' => e = .returned (.int .i64 room) ∧ w = w' := by
  obtain ⟨f, c, cs, h⟩ := h
  exact roomI_at R room w h.c0
theorem eatI_in (R G room i : Nat) (l : List Int) (v : Int) (w : World) (h : RngI w R G room l) (hi : i < l.length) (hv : l[i] = v) :
    Calls Try.prog 12 #[.pointer (some ⟨R, 0, none⟩), .int .i64 i] w fun e w' => e = .returned (.tuple #[(Value.int .i64) v, .bool true]) ∧ ∃ n, w' = w.drewN n := by
  obtain ⟨f, c, cs, h⟩ := h
  exact atI_in R G room f c i cs l v w h hi hv
theorem eatI_out (R G room n : Nat) (l : List Int) (i : Int) (w : World) (h : RngI w R G room l) (hn : l.length = n) (hi : i < 0 ∨ n ≤ i) :
    Calls Try.prog 12 #[.pointer (some ⟨R, 0, none⟩), .int .i64 i] w fun e w' => e = .returned (.tuple #[.int .i64 0, .bool false]) ∧ w = w' := by
  obtain ⟨f, c, cs, h⟩ := h
  subst hn
  exact atI_out R l.length i w h.c3 hi
theorem epopI_none (R G room : Nat) (w : World) (h : RngI w R G room []) : Calls Try.prog 8 #[.pointer (some ⟨R, 0, none⟩)] w fun e w' => e = .returned (.tuple #[.int .i64 0, .bool false]) ∧ w = w' := by
  obtain ⟨f, c, cs, h⟩ := h
  exact popI_none R w h.c3
theorem epopI_some (R G room : Nat) (l : List Int) (v : Int) (w : World) (h : RngI w R G room (v :: l)) :
    Calls Try.prog 8 #[.pointer (some ⟨R, 0, none⟩)] w fun e w' => e = .returned (.tuple #[(Value.int .i64) v, .bool true]) ∧ RngI w' R G room l ∧ Chg (two R G) w w' := by
  obtain ⟨f, c, cs, h⟩ := h
  refine (popI_some R G room f c cs l v w h).mono ?_
  rintro e w' ⟨he, ⟨f', h'⟩, hc⟩
  exact ⟨he, ⟨_, _, _, h'⟩, hc⟩
theorem epushI_full (v : Int) (R G room : Nat) (l : List Int) (w : World) (h : RngI w R G room l) (hn : l.length = room) : Calls Try.prog 10 #[.pointer (some ⟨R, 0, none⟩), (Value.int .i64) v] w fun e w' => e = .returned (.bool false) ∧ w = w' := by
  obtain ⟨f, c, cs, h⟩ := h
  exact pushI_full v R G room f c cs l w h hn
theorem epushI_fits (v : Int) (R G room : Nat) (l : List Int) (w : World) (h : RngI w R G room l) (hn : l.length < room) : Calls Try.prog 10 #[.pointer (some ⟨R, 0, none⟩), (Value.int .i64) v] w fun e w' => e = .returned (.bool true) ∧ (∃ G', (G' = G ∨ w.heap.size ≤ G') ∧ RngI w' R G' room (l ++ [v])) ∧ Chg (two R G) w w' := by
  obtain ⟨f, c, cs, h⟩ := h
  rcases Nat.lt_or_eq_of_le h.len with hlt | he
  · refine (pushI_lies v R G room f c l.length cs l w h rfl hn hlt).mono ?_
    rintro e w' ⟨he, ⟨G', f', c', cs', hG, h'⟩, hc⟩
    exact ⟨he, ⟨G', hG, _, _, _, h'⟩, hc⟩
  · refine (pushI_grows v R G room f c l.length cs l w h rfl hn he).mono ?_
    rintro e w' ⟨he, ⟨G', f', c', cs', hG, h'⟩, hc⟩
    exact ⟨he, ⟨G', hG, _, _, _, h'⟩, hc⟩
theorem elistI (R G room n : Nat) (l : List Int) (w : World) (h : RngI w R G room l) (hn : l.length = n) :
    Calls Try.prog 15 #[.pointer (some ⟨R, 0, none⟩)] w fun e w' => e = .returned (.slice (some ⟨w.heap.size, 0, none⟩) n n) ∧ Blk w' w.heap.size (l.map (Value.int .i64)) 3 ∧ Chg no w w' := by
  obtain ⟨f, c, cs, h⟩ := h
  exact listI_at R G room f c n cs l w h hn
end Go.Proofs.Yteepofehjofeaaa
