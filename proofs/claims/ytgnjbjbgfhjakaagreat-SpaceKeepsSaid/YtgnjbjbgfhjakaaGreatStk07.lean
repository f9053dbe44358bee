/-
  What each function of package frames answers and leaves in memory: contracts over the translation. Each says its own conditions.
-/
import Derived.Test.YtgnjbjbgfhjakaaGreatRow07
import Derived.Deep.QuietTactic
import Derived.BigQuiet
namespace Go.Proofs.YtgnjbjbgfhjakaaGreat
open Go.RowKit
set_option linter.unusedVariables false
set_option linter.unusedSimpArgs false

/-- a stock at block sp: the set of the taken at mb, the given at v, the rest from nx to en -/
structure Stk (w : World) (sp mb : Nat) (v : Value) (gv : List Int) (nx en : Int) (T : List Int) : Prop where
  blk : Blk w sp [.map (some mb), v, .int .i64 nx, .int .i64 en] 136
  map : Tk w mb T
  own : w.ownsRow 0 3 1 v gv.length (gv.map (Value.int .i64))
  ne : mb ≠ sp
  ns : v.ownBlock ≠ some sp
  nm : v.ownBlock ≠ some mb
  gl : gv.length ≤ 1048576
  n0 : 0 ≤ nx
  n1 : nx ≤ en
  n2 : en ≤ 1048576
/-- its blocks -/
def FpS (sp mb : Nat) (v : Value) : Nat → Prop := fun k => k = sp ∨ k = mb ∨ v.ownBlock = some k
theorem Stk.chg {F : Nat → Prop} {w w' : World} {sp mb : Nat} {v : Value} {gv T : List Int} {nx en : Int} (h : Stk w sp mb v gv nx en T) (hc : Chg F w w') (hf : ∀ k, FpS sp mb v k → ¬ F k) : Stk w' sp mb v gv nx en T :=
  ⟨h.blk.chg hc (hf _ (.inl rfl)), h.map.chg hc (hf _ (.inr (.inl rfl))), own_chgF h.own hc (fun k hk => hf _ (.inr (.inr hk))), h.ne, h.ns, h.nm, h.gl, h.n0, h.n1, h.n2⟩
/-- a stock with these free frames, in the order in which they are taken, and these taken ones -/
def StkL (w : World) (sp : Nat) (F : Nat → Prop) (L T : List Int) (a : Int) (n : Nat) : Prop :=
  ∃ mb v gv nx, ∃ m : Nat, Stk w sp mb v gv nx (nx + m) T ∧ L = gv.reverse ++ upto nx m ∧ F = FpS sp mb v ∧ All L T a n ∧ 0 ≤ a ∧ a + n ≤ 1048576
theorem StkL.chg {F G : Nat → Prop} {w w' : World} {sp n : Nat} {L T : List Int} {a : Int} (h : StkL w sp G L T a n) (hc : Chg F w w') (hf : ∀ k, G k → ¬ F k) : StkL w' sp G L T a n := by
  obtain ⟨mb, v, gv, nx, m, hs, h2, rfl, h3⟩ := h
  exact ⟨mb, v, gv, nx, m, hs.chg hc hf, h2, rfl, h3⟩
theorem StkL.drewN {G : Nat → Prop} {w : World} {sp n : Nat} {L T : List Int} {a : Int} (h : StkL w sp G L T a n) (j : Nat) : StkL (w.drewN j) sp G L T a n :=
  h.chg (Chg.drewN no w j) (fun _ _ h => h)
theorem StkL.lt {G : Nat → Prop} {w : World} {sp n : Nat} {L T : List Int} {a : Int} (h : StkL w sp G L T a n) : ∀ k, G k → k < w.heap.size := by
  obtain ⟨mb, v, gv, nx, m, hs, h2, rfl, h3⟩ := h
  rintro k (rfl | rfl | hk)
  · exact hs.blk.lt
  · exact hs.map.lt
  · exact (hs.own.lt k hk).2
theorem StkL.all {G : Nat → Prop} {w : World} {sp n : Nat} {L T : List Int} {a : Int} (h : StkL w sp G L T a n) : All L T a n ∧ 0 ≤ a ∧ a + n ≤ 1048576 := by
  obtain ⟨mb, v, gv, nx, m, hs, h2, rfl, h3⟩ := h
  exact h3
theorem StkL.sp {G : Nat → Prop} {w : World} {sp n : Nat} {L T : List Int} {a : Int} (h : StkL w sp G L T a n) : G sp := by
  obtain ⟨mb, v, gv, nx, m, hs, h2, rfl, h3⟩ := h
  exact .inl rfl
/-- what is new in F' is new memory -/
def ExtF (w : World) (F F' : Nat → Prop) : Prop := ∀ k, F' k → F k ∨ w.heap.size ≤ k
theorem new_yesF (a : Int) (n : Nat) (w : World) (h0 : 0 ≤ a) (h1 : a + n ≤ 1048576) : Calls Tryz.prog 34 #[.int .i64 a, .int .i64 n] w fun e w' => ∃ sp F, e = .returned (.tuple #[.pointer (some ⟨sp, 0, none⟩), .int .i64 0]) ∧ StkL w' sp F (upto a n) [] a n ∧ (∀ k, F k → w.heap.size ≤ k) ∧ Chg no w w' := by
  have hm := Tk.made w
  have hmm := @run_makeMap Tryz.prog
  have HM := Lib.hid hm; clear hm
  have h2 : a ≤ 1048576 - n := by omega
  go_enter Tryz.func34, Tryz.ntmps34
  go_wp2
  go_ret2
  have hb := Blk.new (w.alloc (.map #[] 0)) [.map (some w.heap.size), .slice none 0 0, .int .i64 a, .int .i64 (a + n)] 136
  have e : (w.alloc (.map #[] 0)).heap.size = w.heap.size + 1 := by simp
  rw [e] at hb
  refine ⟨_, _, rfl, ⟨w.heap.size, .slice none 0 0, [], a, n, ⟨hb, HM.out.chg (Chg.alloc no _ _) (fun h => h), World.ownsRow_nil _ _ _ _, by simp, (by intro h; cases h), (by intro h; cases h), by simp, by omega, by omega, by omega⟩, rfl, rfl, All.new a n, h0, h1⟩, ?_, (Chg.alloc _ _ _).thenAlloc _⟩
  rintro k (rfl | rfl | hk)
  · simp
  · exact Nat.le_refl _
  · cases hk
theorem free_cells (sp gl c : Nat) (A : Option Addr) (nx en : Int) (w : World) (h1 : w.cell? ⟨sp, 1, none⟩ = some (.slice A gl c)) (h2 : w.cell? ⟨sp, 2, none⟩ = some (.int .i64 nx)) (h3 : w.cell? ⟨sp, 3, none⟩ = some (.int .i64 en))
    (n0 : 0 ≤ nx) (n1 : nx ≤ en) (n2 : en ≤ 1048576) (hg : gl ≤ 1048576) : Calls Tryz.prog 104 #[.pointer (some ⟨sp, 0, none⟩)] w fun e w' => e = .returned (.int .i64 (gl + en - nx)) ∧ ∃ k, w' = w.drewN k := by
  go_enter Tryz.func104, Tryz.ntmps104
  go_wp2
  go_quiet (fail)
  go_wp2
  go_ret
  exact ⟨rfl, _, rfl⟩
theorem free_at {F : Nat → Prop} {L T : List Int} {a : Int} (sp n l : Nat) (w : World) (h : StkL w sp F L T a n) (hl : L.length = l) : Calls Tryz.prog 104 #[.pointer (some ⟨sp, 0, none⟩)] w fun e w' => e = .returned (.int .i64 l) ∧ ∃ k, w' = w.drewN k := by
  obtain ⟨mb, v, gv, nx, m, hs, h2, rfl, h3, h4, h5⟩ := h
  obtain ⟨A, Y, c, rfl, hr, -⟩ := own_rdi hs.own
  refine (free_cells sp gv.length c A nx (nx + m) w (hs.blk.cell 1) (hs.blk.cell 2) (hs.blk.cell 3) hs.n0 hs.n1 hs.n2 hs.gl).mono ?_
  rintro e w' ⟨rfl, h⟩
  refine ⟨?_, h⟩
  rw [h2, List.length_append, List.length_reverse, upto_len] at hl
  have : (gv.length : Int) + (nx + m) - nx = l := by omega
  rw [this]
theorem used_at {F : Nat → Prop} {L T : List Int} {a : Int} (sp n l : Nat) (w : World) (h : StkL w sp F L T a n) (hl : T.length = l) : Calls Tryz.prog 39 #[.pointer (some ⟨sp, 0, none⟩)] w fun e w' => e = .returned (.int .i64 l) ∧ w = w' := by
  obtain ⟨mb, v, gv, nx, m, hs, h2, rfl, h3, h4, h5⟩ := h
  have c0 : w.cell? ⟨sp, 0, none⟩ = some (.map (some mb)) := hs.blk.cell 0
  have ln := fun ty => hs.map.len ty
  rw [hl] at ln
  clear hs h2 h3 h4 h5 hl
  go_enter Tryz.func39, Tryz.ntmps39
  go_wp2
  go_ret
  exact ⟨rfl, rfl⟩
theorem taken_at {F : Nat → Prop} {L T : List Int} {a : Int} (sp n : Nat) (f : Int) (w : World) (h : StkL w sp F L T a n) (hf : I64 f) : Calls Tryz.prog 118 #[.pointer (some ⟨sp, 0, none⟩), .int .i64 f] w fun e w' => e = .returned (.bool (decide (f ∈ T))) ∧ Chg no w w' := by
  obtain ⟨mb, v, gv, nx, m, hs, h2, rfl, h3, h4, h5⟩ := h
  have c0 : w.cell? ⟨sp, 0, none⟩ = some (.map (some mb)) := hs.blk.cell 0
  have lk := hs.map.look f hf
  obtain ⟨b, hb⟩ : ∃ b, b = decide (f ∈ T) := ⟨_, rfl⟩
  rw [← hb] at lk ⊢
  clear hs h2 h3 h4 h5 hb
  go_enter Tryz.func118, Tryz.ntmps118
  go_wp2
  go_ret
  exact ⟨rfl, Chg.alloc _ _ _⟩
end Go.Proofs.YtgnjbjbgfhjakaaGreat
