/-
  Rings of string, their places left open: what a call answers by the ring's things alone.
-/
import Derived.Test.YteepofehjofeaaaRingS
namespace Go.Proofs.Yteepofehjofeaaa
open Go.RowKit
set_option linter.unusedVariables false
set_option linter.unusedSimpArgs false

/-- a ring at block R, its places at block G, with these things -/
def RngS (w : World) (R G room : Nat) (l : List ByteArray) : Prop := ∃ f c cs, RingS w R G room f c cs l
theorem RngS.lt {w : World} {R G room : Nat} {l : List ByteArray} (h : RngS w R G room l) : R < w.heap.size ∧ G < w.heap.size := by
  obtain ⟨f, c, cs, h⟩ := h
  refine ⟨h.blk.lt, ?_⟩
  by_cases h0 : c = 0
  · rw [(h.nil h0).2]; exact h.blk.lt
  · exact (h.row (by omega)).2.2.1.lt
theorem RngS.le {w : World} {R G room : Nat} {l : List ByteArray} (h : RngS w R G room l) : l.length ≤ room ∧ room ≤ 65536 := by
  obtain ⟨f, c, cs, h⟩ := h
  exact ⟨Nat.le_trans h.len h.cap, h.top⟩
theorem RngS.chg {F : Nat → Prop} {w w' : World} {R G room : Nat} {l : List ByteArray} (h : RngS w R G room l) (hc : Chg F w w') (h1 : ¬ F R) (h2 : ¬ F G) : RngS w' R G room l := by
  obtain ⟨f, c, cs, h⟩ := h
  exact ⟨f, c, cs, h.chg hc h1 h2⟩
theorem RngS.drewN {w : World} {R G room : Nat} {l : List ByteArray} (h : RngS w R G room l) (n : Nat) : RngS (w.drewN n) R G room l := h.chg (Chg.drewN no w n) (fun h => h) (fun h => h)
theorem enewS (n : Int) (w : World) : Calls Try.prog 17 #[.int .i64 n] w fun e w' => e = .returned (.pointer (some ⟨w.heap.size, 0, none⟩)) ∧ RngS w' w.heap.size w.heap.size (min (max n 0) 65536).toNat [] ∧ Chg no w w' :=
  (newS_any n w).mono fun e w' h => ⟨h.1, ⟨_, _, _, h.2.1⟩, h.2.2⟩
theorem elenS (R G room n : Nat) (l : List ByteArray) (w : World) (h : RngS w R G room l) (hn : l.length = n) : Calls Try.prog 20 #[.pointer (some ⟨R, 0, none⟩)] w fun e w' => e = .returned (.int .i64 n) ∧ w = w' := by
  obtain ⟨f, c, cs, h⟩ := h
  subst hn
  exact lenS_at R l.length w h.c3
theorem eroomS (R G room : Nat) (l : List ByteArray) (w : World) (h : RngS w R G room l) : Calls Try.prog 26 #[.pointer (some ⟨R, 0, none⟩)] w fun e w' => e = .returned (.int .i64 room) ∧ w = w' := by
  obtain ⟨f, c, cs, h⟩ := h
  exact roomS_at R room w h.c0
theorem eatS_in (R G room i : Nat) (l : List ByteArray) (v : ByteArray) (w : World) (h : RngS w R G room l) (hi : i < l.length) (hv : l[i] = v) :
    Calls Try.prog 24 #[.pointer (some ⟨R, 0, none⟩), .int .i64 i] w fun e w' => e = .returned (.tuple #[Value.string v, .bool true]) ∧ ∃ n, w' = w.drewN n := by
  obtain ⟨f, c, cs, h⟩ := h
  exact atS_in R G room f c i cs l v w h hi hv
theorem eatS_out (R G room n : Nat) (l : List ByteArray) (i : Int) (w : World) (h : RngS w R G room l) (hn : l.length = n) (hi : i < 0 ∨ n ≤ i) :
    Calls Try.prog 24 #[.pointer (some ⟨R, 0, none⟩), .int .i64 i] w fun e w' => e = .returned (.tuple #[.string ⟨#[]⟩, .bool false]) ∧ w = w' := by
  obtain ⟨f, c, cs, h⟩ := h
  subst hn
  exact atS_out R l.length i w h.c3 hi
theorem epopS_none (R G room : Nat) (w : World) (h : RngS w R G room []) : Calls Try.prog 18 #[.pointer (some ⟨R, 0, none⟩)] w fun e w' => e = .returned (.tuple #[.string ⟨#[]⟩, .bool false]) ∧ w = w' := by
  obtain ⟨f, c, cs, h⟩ := h
  exact popS_none R w h.c3
theorem epopS_some (R G room : Nat) (l : List ByteArray) (v : ByteArray) (w : World) (h : RngS w R G room (v :: l)) :
    Calls Try.prog 18 #[.pointer (some ⟨R, 0, none⟩)] w fun e w' => e = .returned (.tuple #[Value.string v, .bool true]) ∧ RngS w' R G room l ∧ Chg (two R G) w w' := by
  obtain ⟨f, c, cs, h⟩ := h
  refine (popS_some R G room f c cs l v w h).mono ?_
  rintro e w' ⟨he, ⟨f', h'⟩, hc⟩
  exact ⟨he, ⟨_, _, _, h'⟩, hc⟩
theorem epushS_full (v : ByteArray) (R G room : Nat) (l : List ByteArray) (w : World) (h : RngS w R G room l) (hn : l.length = room) : Calls Try.prog 19 #[.pointer (some ⟨R, 0, none⟩), Value.string v] w fun e w' => e = .returned (.bool false) ∧ w = w' := by
  obtain ⟨f, c, cs, h⟩ := h
  exact pushS_full v R G room f c cs l w h hn
theorem epushS_fits (v : ByteArray) (R G room : Nat) (l : List ByteArray) (w : World) (h : RngS w R G room l) (hn : l.length < room) : Calls Try.prog 19 #[.pointer (some ⟨R, 0, none⟩), Value.string v] w fun e w' => e = .returned (.bool true) ∧ (∃ G', (G' = G ∨ w.heap.size ≤ G') ∧ RngS w' R G' room (l ++ [v])) ∧ Chg (two R G) w w' := by
  obtain ⟨f, c, cs, h⟩ := h
  rcases Nat.lt_or_eq_of_le h.len with hlt | he
  · refine (pushS_lies v R G room f c l.length cs l w h rfl hn hlt).mono ?_
    rintro e w' ⟨he, ⟨G', f', c', cs', hG, h'⟩, hc⟩
    exact ⟨he, ⟨G', hG, _, _, _, h'⟩, hc⟩
  · refine (pushS_grows v R G room f c l.length cs l w h rfl hn he).mono ?_
    rintro e w' ⟨he, ⟨G', f', c', cs', hG, h'⟩, hc⟩
    exact ⟨he, ⟨G', hG, _, _, _, h'⟩, hc⟩
end Go.Proofs.Yteepofehjofeaaa
