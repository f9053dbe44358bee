/-
  What the small functions of package tlb answer: contracts over the translation. Each says its own conditions.
-/
import Derived.Test.YtgnjbjbgfhjakaaGreatTlb11
import Derived.Test.YtgnjbjbgfhjakaaGreatPte08
import Derived.Deep.Cut
import Derived.Deep.RegionHeld
namespace Go.Proofs.YtgnjbjbgfhjakaaGreat
open Go.RowKit
set_option linter.unusedVariables false
set_option linter.unusedSimpArgs false
attribute [local go_sem] setCell_drewN alloc_drewN

theorem number_any (va l : Nat) (w : World) (hv : va < 18446744073709551616) (hl : l < 3) : Calls Tryz.prog 134 #[.int .u64 va, .int .i64 l] w fun r w' => r = .returned (.int .u64 (numN va l : Nat)) ∧ ∃ k, w' = w.drewN k := by
  have h1 := fun w => vpn_any va w hv
  have hb := fld_lt va 12 27
  unfold numN
  generalize fld va 12 27 = F at h1 hb ⊢
  rw [show (2 : Nat) ^ 27 = 134217728 from rfl] at hb
  have h3 : l = 0 ∨ l = 1 ∨ l = 2 := by omega
  have H1 := Lib.hid h1; clear h1 hl
  rcases h3 with rfl | rfl | rfl
  all_goals
    go_enter Tryz.func134, Tryz.ntmps134
    go_wp2_with fail
    refine (H1.out _).mono ?_
    rintro e w1 ⟨rfl, k, rfl⟩
    go_wp2
    go_ret
    exact ⟨ret_int (by omega), _, rfl⟩
section
variable {w : World} {b sp n m : Nat} {g : Nat → Nat} {R : Nat → Nat → Wy}
theorem none_at (h : Buf w b sp g n m R) : Calls Tryz.prog 81 #[.pointer (some ⟨b, 0, none⟩)] w fun r w' => r = .returned (.bool false) ∧ w = w' := by
  have c0 : w.cell? ⟨b, 0, none⟩ = some (.slice (some ⟨sp, 0, none⟩) n n) := h.blk.cell 0
  have n0 := h.n0
  clear h
  go_enter Tryz.func81, Tryz.ntmps81
  go_wp2
  go_ret
  exact ⟨ret_bool (by simp; omega), rfl⟩
theorem set_at (p : Nat) (h : Buf w b sp g n m R) (hp : p < 18446744073709551616) : Calls Tryz.prog 135 #[.pointer (some ⟨b, 0, none⟩), .int .u64 p] w fun r w' => r = .returned (.slice (some ⟨g (p % n), 0, none⟩) m m) ∧ ∃ k, w' = w.drewN k := by
  have c0 : w.cell? ⟨b, 0, none⟩ = some (.slice (some ⟨sp, 0, none⟩) n n) := h.blk.cell 0
  have n0 := h.n0
  have n1 := h.n1
  have hlt : p % n < n := Nat.mod_lt _ n0
  have c1 := h.set_at hlt
  have e1 : IntKind.u64.wrap (n : Int) = (n : Int) := by rw [wrap_u64B]; omega
  have e2 : (p : Int).tmod (n : Int) = ((p % n : Nat) : Int) := by rw [Int.tmod_eq_emod_of_nonneg (by omega)]; rfl
  generalize p % n = q at hlt c1 e2 ⊢
  clear h
  go_enter Tryz.func135, Tryz.ntmps135
  go_wp2
  go_quiet (fail)
  go_wp2
  go_ret
  exact ⟨rfl, _, rfl⟩
end
theorem covers_any (x : Wy) (q o va : Nat) (w : World) (h : WyAt w q o x) (hl : x.l.lv < 3) (hv : va < 18446744073709551616) : Calls Tryz.prog 127 #[.pointer (some ⟨q, o, none⟩), .int .u64 va] w fun r w' => r = .returned (.bool (covW x va)) ∧ ∃ k, w' = w.drewN k := by
  have c2 : w.cell? ⟨q, o + 2, none⟩ = some (.int .u64 (x.page : Int)) := h 2 _ rfl
  have c13 : w.cell? ⟨q, o + 13, none⟩ = some (.int .i64 (x.l.lv : Int)) := h 13 _ rfl
  have h1 := fun w => number_any va x.l.lv w hv hl
  have e1 : ((x.page : Int) == ((numN va x.l.lv : Nat) : Int)) = covW x va := by unfold covW; rw [Bool.eq_iff_iff]; simp only [beq_iff_eq]; omega
  generalize covW x va = B at e1 ⊢
  generalize numN va x.l.lv = N at h1 e1
  generalize x.l.lv = L at *
  generalize x.page = P at *
  have H1 := Lib.hid h1; clear h1 h hl
  go_enter Tryz.func127, Tryz.ntmps127
  go_wp2
  go_quiet ((go_at_call 134; exact Calls.quiet_of (H1.out _)))
  go_wp2
  go_ret
  exact ⟨rfl, _, rfl⟩
theorem matches_any (x : Wy) (q o va : Nat) (a : Int) (w : World) (h : WyAt w q o x) (hl : x.l.lv < 3) (hv : va < 18446744073709551616) : Calls Tryz.prog 136 #[.pointer (some ⟨q, o, none⟩), .int .u64 va, .int .i64 a] w fun r w' => r = .returned (.bool (matW x va a)) ∧ ∃ k, w' = w.drewN k := by
  have c0 : w.cell? ⟨q, o, none⟩ = some (.bool x.full) := h 0 _ rfl
  have c1 : w.cell? ⟨q, o + 1, none⟩ = some (.int .i64 x.asid) := h 1 _ rfl
  have c8 : w.cell? ⟨q, o + 8, none⟩ = some (.bool x.l.e.g) := h 8 _ rfl
  have h1 := covers_any x q o va w h hl hv
  unfold matW
  generalize covW x va = B at *
  generalize x.l.e.g = G at *
  generalize x.full = U at *
  obtain ⟨E, hE⟩ : ∃ E, E = decide (x.asid = a) := ⟨_, rfl⟩
  rw [← hE]
  have e1 : (x.asid == a) = E := by rw [hE, Bool.eq_iff_iff]; simp
  generalize x.asid = Z at *
  have H1 := Lib.hid h1; clear h1 h hl hE
  cases U
  · go_enter Tryz.func136, Tryz.ntmps136
    go_wp2
    go_ret
    exact ⟨rfl, 0, rfl⟩
  · go_enter Tryz.func136, Tryz.ntmps136
    go_wp2_with fail
    refine (H1.out).mono ?_
    rintro e w1 ⟨rfl, k, rfl⟩
    cases B <;> cases E <;> cases G
    all_goals
      go_wp2
      go_ret
      exact ⟨rfl, _, rfl⟩
theorem same_any (x y : Wy) (q o : Nat) (w : World) (h : WyAt w q o x) : Calls Tryz.prog 139 #[.pointer (some ⟨q, o, none⟩), wyv y] w fun r w' => r = .returned (.bool (sameW x y)) ∧ Below w.heap.size w w' := by
  have c0 : w.cell? ⟨q, o, none⟩ = some (.bool x.full) := h 0 _ rfl
  have c1 : w.cell? ⟨q, o + 1, none⟩ = some (.int .i64 x.asid) := h 1 _ rfl
  have c2 : w.cell? ⟨q, o + 2, none⟩ = some (.int .u64 (x.page : Int)) := h 2 _ rfl
  have c13 : w.cell? ⟨q, o + 13, none⟩ = some (.int .i64 (x.l.lv : Int)) := h 13 _ rfl
  have hq : x.full = x.full := rfl
  have hlt : q < w.heap.size := by
    rcases Nat.lt_or_ge q w.heap.size with hlt | hge
    · exact hlt
    · simp [World.cell?, Array.getElem?_eq_none hge] at c0
  unfold sameW
  obtain ⟨E1, h1⟩ : ∃ E, E = decide (x.l.lv = y.l.lv) := ⟨_, rfl⟩
  obtain ⟨E2, h2⟩ : ∃ E, E = decide (x.page = y.page) := ⟨_, rfl⟩
  obtain ⟨E3, h3⟩ : ∃ E, E = decide (x.asid = y.asid) := ⟨_, rfl⟩
  rw [← h1, ← h2, ← h3]
  have e1 : ((x.l.lv : Int) == (y.l.lv : Int)) = E1 := by rw [h1, Bool.eq_iff_iff]; simp only [beq_iff_eq, decide_eq_true_eq]; omega
  have e2 : ((x.page : Int) == (y.page : Int)) = E2 := by rw [h2, Bool.eq_iff_iff]; simp only [beq_iff_eq, decide_eq_true_eq]; omega
  have e3 : (x.asid == y.asid) = E3 := by rw [h3, Bool.eq_iff_iff]; simp
  obtain ⟨yf, ya, yp, ⟨yv, yr, yw, yx, yu, yg, yaa, yd, yrsw, yppn⟩, ylv, ypl⟩ := y
  unfold wyv
  dsimp only at *
  generalize x.full = U at *
  generalize x.l.lv = L at *
  generalize x.page = P at *
  generalize x.asid = Z at *
  clear h h1 h2 h3
  cases U <;> cases E1 <;> cases E2 <;> cases E3
  all_goals
    go_enter Tryz.func139, Tryz.ntmps139
    go_wp2
    go_quiet (fail)
    go_wp2
    go_ret
    exact ⟨by simp_all, below_drewNsB ((Below.refl _ _).alloc (Nat.le_refl _) _) _⟩
/-- a list of none or one: it, or its first one, as the program has it -/
def LsN (w : World) (k : IntKind) (v : Value) : Option Int → Prop
  | none => ∃ A c, v = .slice A 0 c
  | some x => ∃ q p n c, v = .slice (some ⟨q, p, none⟩) n c ∧ 0 < n ∧ w.cell? ⟨q, p, none⟩ = some (.int k x)
theorem fenced_any (x : Wy) (q o : Nat) (va : Option Nat) (a : Option Int) (v1 v2 : Value) (w : World) (h : WyAt w q o x) (hl : x.l.lv < 3) (hv : ∀ k, va = some k → k < 18446744073709551616)
    (h1 : LsN w .u64 v1 (va.map (fun k => (k : Int)))) (h2 : LsN w .i64 v2 a) : Calls Tryz.prog 103 #[.pointer (some ⟨q, o, none⟩), v1, v2] w fun r w' => r = .returned (.bool (fenW x va a)) ∧ ∃ k, w' = w.drewN k := by
  have c0 : w.cell? ⟨q, o, none⟩ = some (.bool x.full) := h 0 _ rfl
  have c1 : w.cell? ⟨q, o + 1, none⟩ = some (.int .i64 x.asid) := h 1 _ rfl
  have c8 : w.cell? ⟨q, o + 8, none⟩ = some (.bool x.l.e.g) := h 8 _ rfl
  have hc := fun va hv => covers_any x q o va w h hl hv
  unfold fenW
  generalize x.l.e.g = G at *
  obtain _ | va := va <;> obtain _ | a := a
  · obtain ⟨A, c, rfl⟩ := h1
    obtain ⟨A2, c2, rfl⟩ := h2
    clear h hl hv hc
    go_enter Tryz.func103, Tryz.ntmps103
    go_wp2
    go_quiet (fail)
    go_wp2
    go_ret
    exact ⟨rfl, _, rfl⟩
  · obtain ⟨A, c, rfl⟩ := h1
    obtain ⟨q2, p2, n2, c2, rfl, hn2, hc2⟩ := h2
    obtain ⟨E, hE⟩ : ∃ E, E = decide (x.asid = a) := ⟨_, rfl⟩
    dsimp only
    rw [← hE]
    have e1 : (x.asid == a) = E := by rw [hE, Bool.eq_iff_iff]; simp
    have e2 : ((n2 : Int) == 0) = false := by rw [Bool.eq_false_iff]; simp; omega
    generalize x.asid = Z at *
    clear h hl hv hc hE
    cases E <;> cases G
    all_goals
      go_enter Tryz.func103, Tryz.ntmps103
      go_wp2
      go_quiet (fail)
      go_wp2
      go_ret
      exact ⟨rfl, _, rfl⟩
  · obtain ⟨q1, p1, n1, c1', rfl, hn1, hc1⟩ := h1
    obtain ⟨A2, c2, rfl⟩ := h2
    have hc := hc va (hv va rfl)
    dsimp only
    generalize covW x va = B at *
    have HC := Lib.hid hc; clear h hl hv hc
    go_enter Tryz.func103, Tryz.ntmps103
    go_wp2_with fail
    refine (HC.out).mono ?_
    rintro e w1 ⟨rfl, k, rfl⟩
    cases B
    all_goals
      go_wp2
      try go_quiet (fail)
      try go_wp2
      go_ret
      exact ⟨rfl, by first | exact ⟨_, rfl⟩ | exact ⟨_, World.drewN_drewN _ _ _⟩⟩
  · obtain ⟨q1, p1, n1, c1', rfl, hn1, hc1⟩ := h1
    obtain ⟨q2, p2, n2, c2, rfl, hn2, hc2⟩ := h2
    have hc := hc va (hv va rfl)
    obtain ⟨E, hE⟩ : ∃ E, E = decide (x.asid = a) := ⟨_, rfl⟩
    dsimp only
    rw [← hE]
    have e1 : (x.asid == a) = E := by rw [hE, Bool.eq_iff_iff]; simp
    have e2 : ((n2 : Int) == 0) = false := by rw [Bool.eq_false_iff]; simp; omega
    generalize covW x va = B at *
    generalize x.asid = Z at *
    have HC := Lib.hid hc; clear h hl hv hc hE
    go_enter Tryz.func103, Tryz.ntmps103
    go_wp2_with fail
    refine (HC.out).mono ?_
    rintro e w1 ⟨rfl, k, rfl⟩
    cases B <;> cases E <;> cases G
    all_goals
      go_wp2
      try go_quiet (fail)
      try go_wp2
      go_ret
      exact ⟨rfl, by first | exact ⟨_, rfl⟩ | exact ⟨_, World.drewN_drewN _ _ _⟩⟩
end Go.Proofs.YtgnjbjbgfhjakaaGreat
