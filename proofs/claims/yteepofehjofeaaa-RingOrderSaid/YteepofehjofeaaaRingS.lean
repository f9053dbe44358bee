/-
  What each function of package ring answers and leaves in memory, for rings of string: contracts over the translation. Each says its own conditions.
-/
import Derived.Test.YteepofehjofeaaaHeap
import Derived.Laws.MakeOwn
import Derived.Deep.RegionWith
import Derived.Deep.RegionHeld
import Derived.Deep.QuietTactic
import Derived.BigQuiet
import Derived.OwnWalk
namespace Go.Proofs.Yteepofehjofeaaa
open Go.RowKit
set_option linter.unusedVariables false
set_option linter.unusedSimpArgs false

/-- the places of a ring as a slice -/
def plcS (G c : Nat) : Value := if c = 0 then .slice none 0 0 else .slice (some ⟨G, 0, none⟩) c c
/-- the cells of a ring -/
def celS (G c room f n : Nat) : List Value := [.int .i64 room, plcS G c, .int .i64 f, .int .i64 n]
/-- a ring at block R, its places at block G, holds these things -/
structure RingS (w : World) (R G room : Nat) (f c : Nat) (cs : List Value) (l : List ByteArray) : Prop where
  blk : Blk w R (celS G c room f l.length) 50
  len : l.length ≤ c
  cap : c ≤ room
  top : room ≤ 65536
  nil : c = 0 → f = 0 ∧ G = R
  row : 0 < c → f < c ∧ G ≠ R ∧ Blk w G cs 9 ∧ cs.length = c
  at_ : ∀ i (h : i < l.length), cs[(f + i) % c]? = some (Value.string l[i])
theorem newS_any (n : Int) (w : World) : Calls Try.prog 17 #[.int .i64 n] w fun e w' => e = .returned (.pointer (some ⟨w.heap.size, 0, none⟩)) ∧ RingS w' w.heap.size w.heap.size (min (max n 0) 65536).toNat 0 0 [] [] ∧ Chg no w w' := by
  go_enter Try.func17, Try.ntmps17
  go_wp2
  all_goals
    go_ret
    refine ⟨rfl, ?_, Chg.alloc _ _ _⟩
    have hb := Blk.new w (celS w.heap.size 0 (min (max n 0) 65536).toNat 0 0) 50
  · have e : (min (max n 0) 65536).toNat = 0 := by omega
    rw [e] at hb ⊢
    exact ⟨hb, Nat.le_refl _, by omega, by omega, fun _ => ⟨rfl, rfl⟩, by omega, fun i h => by simp at h⟩
  · have e : (min (max n 0) 65536).toNat = 65536 := by omega
    rw [e] at hb ⊢
    exact ⟨hb, Nat.le_refl _, by omega, by omega, fun _ => ⟨rfl, rfl⟩, by omega, fun i h => by simp at h⟩
  · have e : ((min (max n 0) 65536).toNat : Int) = n := by omega
    refine ⟨?_, Nat.le_refl _, by omega, by omega, fun _ => ⟨rfl, rfl⟩, by omega, fun i h => by simp at h⟩
    unfold celS at hb ⊢
    rw [e] at hb ⊢
    exact hb
section
variable {w : World} {R G room f c : Nat} {cs : List Value} {l : List ByteArray}
theorem RingS.c0 (h : RingS w R G room f c cs l) : w.cell? ⟨R, 0, none⟩ = some (.int .i64 room) := h.blk.cell 0
theorem RingS.c1 (h : RingS w R G room f c cs l) : w.cell? ⟨R, 1, none⟩ = some (plcS G c) := h.blk.cell 1
theorem RingS.c2 (h : RingS w R G room f c cs l) : w.cell? ⟨R, 2, none⟩ = some (.int .i64 f) := h.blk.cell 2
theorem RingS.c3 (h : RingS w R G room f c cs l) : w.cell? ⟨R, 3, none⟩ = some (.int .i64 l.length) := h.blk.cell 3
theorem RingS.chg {F : Nat → Prop} {w' : World} (h : RingS w R G room f c cs l) (hc : Chg F w w') (h1 : ¬ F R) (h2 : ¬ F G) : RingS w' R G room f c cs l :=
  ⟨h.blk.chg hc h1, h.len, h.cap, h.top, h.nil, fun h0 => ⟨(h.row h0).1, (h.row h0).2.1, (h.row h0).2.2.1.chg hc h2, (h.row h0).2.2.2⟩, h.at_⟩
theorem RingS.drewN (h : RingS w R G room f c cs l) (n : Nat) : RingS (w.drewN n) R G room f c cs l := h.chg (Chg.drewN no w n) (fun h => h) (fun h => h)
end
theorem RingS.popped {w w' : World} {R G room f c : Nat} {cs : List Value} {l : List ByteArray} {v : ByteArray} (h : RingS w R G room f c cs (v :: l)) (h1 : Blk w' R (celS G c room ((f + 1) % c) l.length) 50) (h2 : Blk w' G (cs.set f (.string ⟨#[]⟩)) 9) :
    RingS w' R G room ((f + 1) % c) c (cs.set f (.string ⟨#[]⟩)) l := by
  have hlen := h.len
  rw [List.length_cons] at hlen
  have c0 : 0 < c := by omega
  obtain ⟨hf, hne, hg, hl⟩ := h.row c0
  refine ⟨h1, by omega, h.cap, h.top, fun h0 => by omega, fun _ => ⟨Nat.mod_lt _ c0, hne, h2, by rw [List.length_set, hl]⟩, fun i hi => ?_⟩
  have e : ((f + 1) % c + i) % c = (f + (i + 1)) % c := by rw [Nat.mod_add_mod]; congr 1; omega
  have hn : f ≠ (f + (i + 1)) % c := by
    have := mod_ne (i := 0) (j := i + 1) hf (by omega) (by omega) (by omega)
    rwa [mod_at hf] at this
  rw [e, List.getElem?_set_ne hn, h.at_ (i + 1) (by rw [List.length_cons]; omega)]
  rfl
theorem lenS_at (R n : Nat) (w : World) (h : w.cell? ⟨R, 3, none⟩ = some (.int .i64 n)) : Calls Try.prog 20 #[.pointer (some ⟨R, 0, none⟩)] w fun e w' => e = .returned (.int .i64 n) ∧ w = w' := by
  go_enter Try.func20, Try.ntmps20
  go_wp2
  go_ret
  exact ⟨rfl, rfl⟩
theorem lenS_nil (w : World) : Calls Try.prog 20 #[.pointer none] w fun e w' => e = .returned (.int .i64 0) ∧ w = w' := by
  go_enter Try.func20, Try.ntmps20
  go_wp2
  go_ret
  exact ⟨rfl, rfl⟩
theorem roomS_at (R n : Nat) (w : World) (h : w.cell? ⟨R, 0, none⟩ = some (.int .i64 n)) : Calls Try.prog 26 #[.pointer (some ⟨R, 0, none⟩)] w fun e w' => e = .returned (.int .i64 n) ∧ w = w' := by
  go_enter Try.func26, Try.ntmps26
  go_wp2
  go_ret
  exact ⟨rfl, rfl⟩
theorem roomS_nil (w : World) : Calls Try.prog 26 #[.pointer none] w fun e w' => e = .returned (.int .i64 0) ∧ w = w' := by
  go_enter Try.func26, Try.ntmps26
  go_wp2
  go_ret
  exact ⟨rfl, rfl⟩
theorem placeS_at (R G c f i : Nat) (w : World) (h1 : w.cell? ⟨R, 1, none⟩ = some (.slice (some ⟨G, 0, none⟩) c c)) (h2 : w.cell? ⟨R, 2, none⟩ = some (.int .i64 f)) (h0 : 0 < c) (hf : f < c) (hc : c ≤ 65536) (hi : i ≤ 65536) :
    Calls Try.prog 25 #[.pointer (some ⟨R, 0, none⟩), .int .i64 i] w fun e w' => e = .returned (.int .i64 ((f + i) % c : Nat)) ∧ ∃ n, w' = w.drewN n := by
  have hd : ((c : Int) == 0) = false := by simp; omega
  go_enter Try.func25, Try.ntmps25
  go_wp2
  go_quiet (fail)
  go_wp2
  go_ret
  exact ⟨rfl, _, rfl⟩
theorem atS_in (R G room f c i : Nat) (cs : List Value) (l : List ByteArray) (v : ByteArray) (w : World) (h : RingS w R G room f c cs l) (hi : i < l.length) (hv : l[i] = v) :
    Calls Try.prog 24 #[.pointer (some ⟨R, 0, none⟩), .int .i64 i] w fun e w' => e = .returned (.tuple #[Value.string v, .bool true]) ∧ ∃ n, w' = w.drewN n := by
  have c0 : 0 < c := by have := h.len; omega
  obtain ⟨hf, hne, hg, hl⟩ := h.row c0
  have c1 := h.c1
  unfold plcS at c1
  rw [if_neg (by omega)] at c1
  have c2 := h.c2
  have hx := hg.cell ((f + i) % c)
  rw [h.at_ i hi, hv] at hx
  have hle := h.len; have hca := h.cap; have hto := h.top
  have hlt : (f + i) % c < c := Nat.mod_lt _ c0
  have cl := fun w h => lenS_at R l.length w h
  have cp := fun w h1 h2 => placeS_at R G c f i w h1 h2 c0 hf (by omega) (by omega)
  have c3 := h.c3
  generalize (f + i) % c = q at *
  have CL := Lib.hid cl; have CP := Lib.hid cp
  clear cl cp h hv hf
  go_enter Try.func24, Try.ntmps24
  go_wp2_with (go_at_call 20; refine (CL.out _ (by first | assumption | simpa using c3)).mono ?_; rintro e w' ⟨rfl, rfl⟩)
  go_quiet ((go_at_call 25; exact Calls.quiet_of ((CP.out _ (by simpa using c1) (by simpa using c2)).mono fun _ _ h => h)))
  go_wp2
  go_ret2
  exact ⟨rfl, _, rfl⟩
theorem atS_out (R n : Nat) (i : Int) (w : World) (h : w.cell? ⟨R, 3, none⟩ = some (.int .i64 n)) (hi : i < 0 ∨ n ≤ i) :
    Calls Try.prog 24 #[.pointer (some ⟨R, 0, none⟩), .int .i64 i] w fun e w' => e = .returned (.tuple #[.string ⟨#[]⟩, .bool false]) ∧ w = w' := by
  have cl := lenS_at R n w h
  have CL := Lib.hid cl; clear cl
  by_cases h0 : i < 0
  · go_enter Try.func24, Try.ntmps24
    go_wp2
    go_ret2
    exact ⟨rfl, rfl⟩
  · have h1 : (n : Int) ≤ i := by omega
    go_enter Try.func24, Try.ntmps24
    go_wp2_with (go_at_call 20; refine CL.out.mono ?_; rintro e w' ⟨rfl, rfl⟩)
    go_ret2
    exact ⟨rfl, rfl⟩
theorem atS_nil (i : Int) (w : World) : Calls Try.prog 24 #[.pointer none, .int .i64 i] w fun e w' => e = .returned (.tuple #[.string ⟨#[]⟩, .bool false]) ∧ w = w' := by
  by_cases h0 : i < 0
  · go_enter Try.func24, Try.ntmps24
    go_wp2
    go_ret2
    exact ⟨rfl, rfl⟩
  · have h1 : (0 : Int) ≤ i := by omega
    go_enter Try.func24, Try.ntmps24
    go_wp2_with (go_at_call 20; refine (lenS_nil _).mono ?_; rintro e w' ⟨rfl, rfl⟩)
    go_ret2
    exact ⟨rfl, rfl⟩
theorem popS_nil (w : World) : Calls Try.prog 18 #[.pointer none] w fun e w' => e = .returned (.tuple #[.string ⟨#[]⟩, .bool false]) ∧ w = w' := by
  go_enter Try.func18, Try.ntmps18
  go_wp2_with (go_at_call 24; refine (atS_nil 0 _).mono ?_; rintro e w' ⟨rfl, rfl⟩)
  go_ret2
  exact ⟨rfl, rfl⟩
theorem popS_none (R : Nat) (w : World) (h : w.cell? ⟨R, 3, none⟩ = some (.int .i64 0)) : Calls Try.prog 18 #[.pointer (some ⟨R, 0, none⟩)] w fun e w' => e = .returned (.tuple #[.string ⟨#[]⟩, .bool false]) ∧ w = w' := by
  have ca := atS_out R 0 0 w h (by omega)
  have CA := Lib.hid ca; clear ca
  go_enter Try.func18, Try.ntmps18
  go_wp2_with (go_at_call 24; refine CA.out.mono ?_; rintro e w' ⟨rfl, rfl⟩)
  go_ret2
  exact ⟨rfl, rfl⟩
theorem popS_some (R G room f c : Nat) (cs : List Value) (l : List ByteArray) (v : ByteArray) (w : World) (h : RingS w R G room f c cs (v :: l)) :
    Calls Try.prog 18 #[.pointer (some ⟨R, 0, none⟩)] w fun e w' => e = .returned (.tuple #[Value.string v, .bool true]) ∧ (∃ f', RingS w' R G room f' c (cs.set f (.string ⟨#[]⟩)) l) ∧ Chg (two R G) w w' := by
  have hlen := h.len
  rw [List.length_cons] at hlen
  have c0 : 0 < c := by omega
  obtain ⟨hf, hne, hg, hl⟩ := h.row c0
  have ca := atS_in R G room f c 0 cs (v :: l) v w h (by simp) rfl
  have hle := h.len; have hca := h.cap; have hto := h.top
  have CA := Lib.hid ca
  have H := Lib.hid h
  clear ca h
  go_enter Try.func18, Try.ntmps18
  go_wp2_with fail
  refine CA.out.mono ?_
  rintro e w1 ⟨rfl, n1, hw1⟩
  have h1 : RingS w1 R G room f c cs (v :: l) := hw1 ▸ H.out.drewN n1
  have hc1 : Chg (two R G) w w1 := hw1 ▸ Chg.drewN _ w n1
  have H1 := Lib.hid h1; have C1 := Lib.hid hc1
  have k1 := h1.c1
  unfold plcS at k1
  rw [if_neg (by omega)] at k1
  have k2 := h1.c2
  have k3 := h1.c3
  have kg := (h1.row c0).2.2.1.cell f
  rw [List.getElem?_eq_getElem (by omega)] at kg
  have kf := (h1.row c0).2.2.1.free f
  have fr := h1.blk.free 2
  clear h1 hc1 hw1
  go_wp2
  refine wp_region_held_drew (S := fun w' => w'.cell? ⟨R, 1, none⟩ = some (.slice (some ⟨G, 0, none⟩) c c) ∧ w'.cell? ⟨R, 2, none⟩ = some (.int .i64 f)) (by kernel_rfl) (by simp [go_sem, k1, k2]) (fun hHeld => ?_)
  simp only [List.size_toArray, List.length_cons, List.length_nil, Nat.reduceAdd]
  rw [show Array.replicate 11 false = [false, false, false, false, false, false, false, false, false, false, false].toArray from rfl]
  refine wpAnyH_take (i := 0) (v := ?_) rfl (by kernel_rfl) (by kernel_rfl) (by kernel_rfl) (fun _ _ _ h => h) (Or.inl ⟨by rfl, ?yldq⟩) (by assumption) ?_
  case yldq => (intro w hSw; (try dsimp only at hSw); go_simp; try with_reducible rfl)
  try simp only [Act.put, List.setIfInBounds_toArray, List.set_cons_zero, List.set_cons_succ, List.getElem_toArray, List.getElem_cons_succ, List.getElem_cons_zero]
  refine wpAnyH_take (i := 1) (v := ?_) rfl (by kernel_rfl) (by kernel_rfl) (by kernel_rfl) (fun _ _ _ h => h) (Or.inl ⟨by rfl, ?yldq⟩) (by assumption) ?_
  case yldq => (intro w hSw; (try dsimp only at hSw); go_simp; try with_reducible rfl)
  try simp only [Act.put, List.setIfInBounds_toArray, List.set_cons_zero, List.set_cons_succ, List.getElem_toArray, List.getElem_cons_succ, List.getElem_cons_zero]
  refine wpAnyH_take (i := 2) (v := ?_) rfl (by kernel_rfl) (by kernel_rfl) (by kernel_rfl) (fun _ _ _ h => h) (Or.inl ⟨by rfl, ?yldq⟩) (by assumption) ?_
  case yldq => (intro w hSw; (try dsimp only at hSw); go_simp; try with_reducible rfl)
  try simp only [Act.put, List.setIfInBounds_toArray, List.set_cons_zero, List.set_cons_succ, List.getElem_toArray, List.getElem_cons_succ, List.getElem_cons_zero]
  refine wpAnyH_take (i := 3) (v := ?_) rfl (by kernel_rfl) (by kernel_rfl) (by kernel_rfl) (fun _ _ _ h => h) (Or.inl ⟨by rfl, ?yldq⟩) (by assumption) ?_
  case yldq => (intro w hSw; (try dsimp only at hSw); go_simp; try with_reducible rfl)
  try simp only [Act.put, List.setIfInBounds_toArray, List.set_cons_zero, List.set_cons_succ, List.getElem_toArray, List.getElem_cons_succ, List.getElem_cons_zero]
  refine wpAnyH_take (i := 4) (v := ?_) rfl (by kernel_rfl) (by kernel_rfl) (by kernel_rfl) (fun _ _ _ h => h) (Or.inl ⟨by rfl, ?yldq⟩) (by assumption) ?_
  case yldq => (intro w hSw; (try dsimp only at hSw); go_simp; try with_reducible rfl)
  try simp only [Act.put, List.setIfInBounds_toArray, List.set_cons_zero, List.set_cons_succ, List.getElem_toArray, List.getElem_cons_succ, List.getElem_cons_zero]
  refine wpAnyH_take (i := 5) (v := ?_) rfl (by kernel_rfl) (by kernel_rfl) (by kernel_rfl) (fun _ _ _ h => h) (Or.inl ⟨by rfl, ?yldq⟩) (by assumption) ?_
  case yldq => (intro w hSw; (try dsimp only at hSw); go_simp; try with_reducible rfl)
  try simp only [Act.put, List.setIfInBounds_toArray, List.set_cons_zero, List.set_cons_succ, List.getElem_toArray, List.getElem_cons_succ, List.getElem_cons_zero]
  refine wpAnyH_take (i := 6) (v := ?_) rfl (by kernel_rfl) (by kernel_rfl) (by kernel_rfl) (fun _ _ _ h => h) (Or.inl ⟨by rfl, ?yldq⟩) (by assumption) ?_
  case yldq => (intro w hSw; (try dsimp only at hSw); go_simp; try with_reducible rfl)
  try simp only [Act.put, List.setIfInBounds_toArray, List.set_cons_zero, List.set_cons_succ, List.getElem_toArray, List.getElem_cons_succ, List.getElem_cons_zero]
  refine wpAnyH_take (i := 7) (v := ?_) rfl (by kernel_rfl) (by kernel_rfl) (by kernel_rfl) (fun _ _ _ h => h) (Or.inl ⟨by rfl, ?yldq⟩) (by assumption) ?_
  case yldq => (intro w hSw; (try dsimp only at hSw); go_simp; try with_reducible rfl)
  try simp only [Act.put, List.setIfInBounds_toArray, List.set_cons_zero, List.set_cons_succ, List.getElem_toArray, List.getElem_cons_succ, List.getElem_cons_zero]
  refine wpAnyH_take (i := 8) (v := ?_) rfl (by kernel_rfl) (by kernel_rfl) (by kernel_rfl) (fun _ _ _ h => h) (Or.inl ⟨by rfl, ?yldq⟩) (by assumption) ?_
  case yldq => (intro w hSw; (try dsimp only at hSw); go_simp; try with_reducible rfl)
  try simp only [Act.put, List.setIfInBounds_toArray, List.set_cons_zero, List.set_cons_succ, List.getElem_toArray, List.getElem_cons_succ, List.getElem_cons_zero]
  refine wpAnyH_take (i := 9) (v := ?_) rfl (by kernel_rfl) (by kernel_rfl) (by kernel_rfl) (fun _ _ _ h => h) (Or.inl ⟨by rfl, ?yldq⟩) (by assumption) ?_
  case yldq => (intro w hSw; (try dsimp only at hSw); go_simp; try with_reducible rfl)
  try simp only [Act.put, List.setIfInBounds_toArray, List.set_cons_zero, List.set_cons_succ, List.getElem_toArray, List.getElem_cons_succ, List.getElem_cons_zero]
  refine wpAnyH_ready (rs := [10]) (by kernel_rfl) (by simp) ?_
  refine AllReadyH.cons rfl (fun K hK => ?_) AllReadyH.nil
  go_simp
  obtain ⟨w2, hw2⟩ : ∃ x, x = (w1.setCell ⟨G, f, none⟩ (.string ⟨#[]⟩)).drew := ⟨_, rfl⟩
  rw [← hw2]
  have b2 : Blk w2 R (celS G c room f (v :: l).length) 50 := hw2 ▸ (H1.out.blk.other ⟨G, f, none⟩ (.string ⟨#[]⟩) (Ne.symm hne))
  have g2 : Blk w2 G (cs.set f (.string ⟨#[]⟩)) 9 := hw2 ▸ ((H1.out.row c0).2.2.1.set f (.string ⟨#[]⟩))
  have hc2 : Chg (two R G) w w2 := by
    rw [hw2]
    exact (C1.out.trans (Chg.setCell _ _ _ (.inr rfl))).trans (Chg.drew _ _)
  have m1 := b2.cell 1
  have m2 := b2.cell 2
  have m3 := b2.cell 3
  have mf := b2.free
  have m1 : w2.cell? ⟨R, 1, none⟩ = some (.slice (some ⟨G, 0, none⟩) c c) := by rw [m1]; show some (plcS G c) = _; unfold plcS; rw [if_neg (by omega)]
  have m2 : w2.cell? ⟨R, 2, none⟩ = some (.int .i64 f) := m2
  have m3 : w2.cell? ⟨R, 3, none⟩ = some (.int .i64 (l.length + 1 : Nat)) := m3
  refine hK.out _ _ ⟨m1, m2⟩ (fun _ => ?_)
  clear hK K
  refine wpAnyH_done (by kernel_rfl) ?_ _
  have cp := placeS_at R G c f 1 w2 m1 m2 c0 hf (by omega) (by omega)
  have m4 : ∀ n u, ((w2.drewN n).setCell ⟨R, 2, none⟩ u).cell? ⟨R, 3, none⟩ = some (.int .i64 (l.length + 1 : Nat)) := fun n u => ((b2.drewN n).set 2 u).cell 3
  have m5 : ∀ n u o, ((w2.drewN n).setCell ⟨R, 2, none⟩ u).frozen? ⟨R, o, none⟩ = false := fun n u => ((b2.drewN n).set 2 u).free
  have CP := Lib.hid cp; have C2 := Lib.hid hc2; have B2 := Lib.hid b2; have G2 := Lib.hid g2
  clear hHeld k1 k2 k3 kg kf fr hw2 cp hc2 b2 g2
  go_wp2_with fail
  refine CP.out.mono ?_
  rintro e w3 ⟨rfl, n3, rfl⟩
  go_wp2
  go_ret2
  have hR := ((B2.out.drewN n3).set 2 (.int .i64 (((f + 1) % c : Nat) : Int))).set 3 (.int .i64 l.length)
  have hG := ((G2.out.drewN n3).other ⟨R, 2, none⟩ (.int .i64 (((f + 1) % c : Nat) : Int)) hne).other ⟨R, 3, none⟩ (.int .i64 l.length) hne
  refine ⟨rfl, ⟨_, H1.out.popped hR hG⟩, ?_⟩
  exact ((C2.out.trans (Chg.drewN _ _ n3)).trans (Chg.setCell _ _ _ (.inl rfl))).trans (Chg.setCell _ _ _ (.inl rfl))
/-- this one -/
def soleS (a : Nat) : Nat → Prop := fun k => k = a
theorem layS_nil (A : Option Addr) (n : Nat) (w : World) : Calls Try.prog 28 #[.pointer none, .slice A n n] w fun e w' => e = .returned (.tuple #[]) ∧ w = w' := by
  go_enter Try.func28, Try.ntmps28
  go_wp2_with (go_at_call 20; refine (lenS_nil _).mono ?_; rintro e w' ⟨rfl, rfl⟩)
  go_loopw [7] (fun i wr => i = .int .i64 0 ∧ w = wr) (fun _ _ => 0)
  case atStart => exact ⟨rfl, rfl⟩
  case round =>
    obtain ⟨rfl, rfl⟩ := hrel
    go_wp2
    go_end0
    exact ⟨rfl, rfl⟩
theorem layS_at (R G D room f c n : Nat) (cs ds : List Value) (l : List ByteArray) (w : World) (h : RingS w R G room f c cs l) (hd : Blk w D ds 9) (hn : ds.length = n) (hln : l.length ≤ n) (hDR : D ≠ R) (hDG : D ≠ G) :
    Calls Try.prog 28 #[.pointer (some ⟨R, 0, none⟩), .slice (some ⟨D, 0, none⟩) n n] w fun e w' => e = .returned (.tuple #[]) ∧ Blk w' D (l.map Value.string ++ ds.drop l.length) 9 ∧ Chg (soleS D) w w' := by
  have cl := lenS_at R l.length w h.c3
  have CL := Lib.hid cl; clear cl
  have hle := h.len; have hca := h.cap; have hto := h.top
  have H := Lib.hid h; clear h
  have HD := Lib.hid hd; clear hd
  obtain ⟨m, hm⟩ : ∃ m, m = l.length := ⟨_, rfl⟩
  have HM := Lib.hid hm
  rw [← hm] at CL hle hln ⊢
  clear hm
  go_enter Try.func28, Try.ntmps28
  go_wp2_with (go_at_call 20; refine CL.out.mono ?_; rintro e w' ⟨rfl, rfl⟩)
  go_loopw [7] (fun i wr => ∃ k : Nat, k ≤ m ∧ i = .int .i64 k ∧ Blk wr D ((l.map Value.string).take k ++ ds.drop k) 9 ∧ Chg (soleS D) w wr) (fun i _ => m - (intOf i).toNat)
  case atStart => exact ⟨0, Nat.zero_le _, rfl, by simpa using HD.out, Chg.refl _ _⟩
  case round =>
    obtain ⟨k, hk, rfl, hb, hc⟩ := hrel
    by_cases hlt : k < m
    · have hr : RingS wr R G room f c cs l := H.out.chg hc (fun e => hDR e.symm) (fun e => hDG e.symm)
      have c0 : 0 < c := by omega
      obtain ⟨hf, hne, hg, hl⟩ := hr.row c0
      have k1 := hr.c1
      unfold plcS at k1
      rw [if_neg (by omega)] at k1
      have k2 := hr.c2
      have hx := hg.cell ((f + k) % c)
      have hkl : k < l.length := by rw [← HM.out]; exact hlt
      rw [hr.at_ k hkl] at hx
      have hq : (f + k) % c < c := Nat.mod_lt _ c0
      have cp := fun w h1 h2 => placeS_at R G c f k w h1 h2 c0 hf (by omega) (by omega)
      obtain ⟨q, hqe⟩ : ∃ q, q = (f + k) % c := ⟨_, rfl⟩
      rw [← hqe] at hx hq cp
      obtain ⟨v, hv⟩ : ∃ v, v = l[k] := ⟨_, rfl⟩
      rw [← hv] at hx
      have hdc : ∃ u, wr.cell? ⟨D, k, none⟩ = some u := by
        rw [hb.cell k, List.getElem?_append_right (by rw [List.length_take]; omega), List.length_take, List.length_map, Nat.min_eq_left (by omega), Nat.sub_self, List.getElem?_drop, Nat.add_zero, List.getElem?_eq_getElem (by omega)]
        exact ⟨_, rfl⟩
      obtain ⟨u, hu⟩ := hdc
      have hkn : k < n := by omega
      have hfr := hb.free k
      have CP := Lib.hid cp; have HB := Lib.hid hb; have HC := Lib.hid hc; have HV := Lib.hid hv
      clear cp hb hc hr hg hqe hl hv
      go_wp2
      refine wp_region_held_drew (S := fun w' => w'.cell? ⟨R, 1, none⟩ = some (.slice (some ⟨G, 0, none⟩) c c) ∧ w'.cell? ⟨R, 2, none⟩ = some (.int .i64 f) ∧ w'.cell? ⟨G, q, none⟩ = some (Value.string v)) (by kernel_rfl) (by simp [go_sem, k1, k2, hx]) (fun hHeld => ?_)
      simp only [List.size_toArray, List.length_cons, List.length_nil, Nat.reduceAdd]
      rw [show Array.replicate 13 false = [false, false, false, false, false, false, false, false, false, false, false, false, false].toArray from rfl]
      refine wpAnyH_take (i := 0) (v := ?_) rfl (by kernel_rfl) (by kernel_rfl) (by kernel_rfl) (fun _ _ _ h => h) (Or.inl ⟨by rfl, ?yldq⟩) (by assumption) ?_
      case yldq => (intro w hSw; (try dsimp only at hSw); go_simp; try with_reducible rfl)
      try simp only [Act.put, List.setIfInBounds_toArray, List.set_cons_zero, List.set_cons_succ, List.getElem_toArray, List.getElem_cons_succ, List.getElem_cons_zero]
      refine wpAnyH_take (i := 1) (v := ?_) rfl (by kernel_rfl) (by kernel_rfl) (by kernel_rfl) (fun _ _ _ h => h) (Or.inl ⟨by rfl, ?yldq⟩) (by assumption) ?_
      case yldq => (intro w hSw; (try dsimp only at hSw); go_simp; try with_reducible rfl)
      try simp only [Act.put, List.setIfInBounds_toArray, List.set_cons_zero, List.set_cons_succ, List.getElem_toArray, List.getElem_cons_succ, List.getElem_cons_zero]
      refine wpAnyH_take (i := 2) (v := ?_) rfl (by kernel_rfl) (by kernel_rfl) (by kernel_rfl) (fun _ _ _ h => h) (Or.inl ⟨by rfl, ?yldq⟩) (by assumption) ?_
      case yldq => (intro w hSw; (try dsimp only at hSw); go_simp; try with_reducible rfl)
      try simp only [Act.put, List.setIfInBounds_toArray, List.set_cons_zero, List.set_cons_succ, List.getElem_toArray, List.getElem_cons_succ, List.getElem_cons_zero]
      refine wpAnyH_take (i := 3) (v := ?_) rfl (by kernel_rfl) (by kernel_rfl) (by kernel_rfl) (fun _ _ _ h => h) (Or.inl ⟨by rfl, ?yldq⟩) (by assumption) ?_
      case yldq => (intro w hSw; (try dsimp only at hSw); go_simp; try with_reducible rfl)
      try simp only [Act.put, List.setIfInBounds_toArray, List.set_cons_zero, List.set_cons_succ, List.getElem_toArray, List.getElem_cons_succ, List.getElem_cons_zero]
      refine wpAnyH_take (i := 4) (v := ?_) rfl (by kernel_rfl) (by kernel_rfl) (by kernel_rfl) (fun _ _ _ h => h) (Or.inl ⟨by rfl, ?yldq⟩) (by assumption) ?_
      case yldq => (intro w hSw; (try dsimp only at hSw); go_simp; try with_reducible rfl)
      try simp only [Act.put, List.setIfInBounds_toArray, List.set_cons_zero, List.set_cons_succ, List.getElem_toArray, List.getElem_cons_succ, List.getElem_cons_zero]
      refine wpAnyH_take (i := 5) (v := ?_) rfl (by kernel_rfl) (by kernel_rfl) (by kernel_rfl) (fun _ _ _ h => h) (Or.inl ⟨by rfl, ?yldq⟩) (by assumption) ?_
      case yldq => (intro w hSw; (try dsimp only at hSw); go_simp; try with_reducible rfl)
      try simp only [Act.put, List.setIfInBounds_toArray, List.set_cons_zero, List.set_cons_succ, List.getElem_toArray, List.getElem_cons_succ, List.getElem_cons_zero]
      refine wpAnyH_take (i := 6) (v := ?_) rfl (by kernel_rfl) (by kernel_rfl) (by kernel_rfl) (fun _ _ _ h => h) (Or.inl ⟨by rfl, ?yldq⟩) (by assumption) ?_
      case yldq => (intro w hSw; (try dsimp only at hSw); go_simp; try with_reducible rfl)
      try simp only [Act.put, List.setIfInBounds_toArray, List.set_cons_zero, List.set_cons_succ, List.getElem_toArray, List.getElem_cons_succ, List.getElem_cons_zero]
      refine wpAnyH_take (i := 7) (v := ?_) rfl (by kernel_rfl) (by kernel_rfl) (by kernel_rfl) (fun _ _ _ h => h) (Or.inl ⟨by rfl, ?yldq⟩) (by assumption) ?_
      case yldq => (intro w hSw; (try dsimp only at hSw); go_simp; try with_reducible rfl)
      try simp only [Act.put, List.setIfInBounds_toArray, List.set_cons_zero, List.set_cons_succ, List.getElem_toArray, List.getElem_cons_succ, List.getElem_cons_zero]
      refine wpAnyH_ready (rs := [8]) (by kernel_rfl) (by simp) ?_
      refine AllReadyH.cons rfl (fun K hK => ?_) AllReadyH.nil
      go_simp
      refine (CP.out _ hHeld.1 hHeld.2.1).mono ?_
      rintro e w3 ⟨rfl, n3, hw3⟩
      have hS3 : w3.cell? ⟨R, 1, none⟩ = some (.slice (some ⟨G, 0, none⟩) c c) ∧ w3.cell? ⟨R, 2, none⟩ = some (.int .i64 f) ∧ w3.cell? ⟨G, q, none⟩ = some (Value.string v) := by rw [hw3]; exact ⟨hHeld.1, hHeld.2.1, hHeld.2.2⟩
      have hd3 : Blk w3 D ((l.map Value.string).take k ++ ds.drop k) 9 := by rw [hw3]; exact (HB.out.drewN 1).drewN n3
      have hc3 : Chg (soleS D) w w3 := by rw [hw3]; exact (HC.out.trans (Chg.drew _ _)).trans (Chg.drewN _ _ _)
      have hu3 : w3.cell? ⟨D, k, none⟩ = some u := by rw [hw3]; exact hu
      have hf3 := hd3.free k
      have HB3 := Lib.hid hd3; have HC3 := Lib.hid hc3
      clear hw3 hd3 hc3 hu hfr hHeld k1 k2 hx
      refine hK.out _ _ hS3 (fun _ => ?_)
      clear hK K
      refine wpAnyH_take (i := 9) (v := ?_) rfl (by kernel_rfl) (by kernel_rfl) (by kernel_rfl) (fun _ _ _ h => h) (Or.inl ⟨by rfl, ?yldq⟩) (by assumption) ?_
      case yldq => (intro w hSw; (try dsimp only at hSw); go_simp; try with_reducible rfl)
      try simp only [Act.put, List.setIfInBounds_toArray, List.set_cons_zero, List.set_cons_succ, List.getElem_toArray, List.getElem_cons_succ, List.getElem_cons_zero]
      refine wpAnyH_take (i := 10) (v := ?_) rfl (by kernel_rfl) (by kernel_rfl) (by kernel_rfl) (fun _ _ _ h => h) (Or.inl ⟨by rfl, ?yldq⟩) (by assumption) ?_
      case yldq => (intro w hSw; (try dsimp only at hSw); go_simp; try with_reducible rfl)
      try simp only [Act.put, List.setIfInBounds_toArray, List.set_cons_zero, List.set_cons_succ, List.getElem_toArray, List.getElem_cons_succ, List.getElem_cons_zero]
      refine wpAnyH_take (i := 11) (v := ?_) rfl (by kernel_rfl) (by kernel_rfl) (by kernel_rfl) (fun _ _ _ h => h) (Or.inl ⟨by rfl, ?yldq⟩) (by assumption) ?_
      case yldq => (intro w hSw; (try dsimp only at hSw); go_simp; try with_reducible rfl)
      try simp only [Act.put, List.setIfInBounds_toArray, List.set_cons_zero, List.set_cons_succ, List.getElem_toArray, List.getElem_cons_succ, List.getElem_cons_zero]
      refine wpAnyH_ready (rs := [12]) (by kernel_rfl) (by simp) ?_
      refine AllReadyH.cons rfl (fun K hK => ?_) AllReadyH.nil
      go_simp
      refine hK.out _ _ ?hS4 (fun _ => ?_)
      case hS4 =>
        obtain ⟨e1, e2, e3⟩ := hS3
        refine ⟨?_, ?_, ?_⟩
        · exact (cell_other w3 ⟨R, 1, none⟩ ⟨D, k, none⟩ (Value.string v) (Ne.symm hDR)).trans e1
        · exact (cell_other w3 ⟨R, 2, none⟩ ⟨D, k, none⟩ (Value.string v) (Ne.symm hDR)).trans e2
        · exact (cell_other w3 ⟨G, q, none⟩ ⟨D, k, none⟩ (Value.string v) (Ne.symm hDG)).trans e3
      clear hK K
      refine wpAnyH_done (by kernel_rfl) ?_ _
      clear hS3 hu3 hf3
      go_wp2
      go_roundw
      case rel =>
        refine ⟨k + 1, hlt, by go_num, ?_, HC3.out.trans (Chg.setCell _ _ _ rfl)⟩
        have := HB3.out.set k (Value.string v)
        have e : ((l.map Value.string).take k ++ ds.drop k).set k (Value.string v) = (l.map Value.string).take (k + 1) ++ ds.drop (k + 1) := set_next (l.map Value.string) ds k (Value.string v) (by rw [List.length_map, ← HM.out]; exact hlt) (by omega) (by rw [List.getElem_map, HV.out])
        rwa [e] at this
      case measure => simp [intOf]; omega
    · have hkm : k = m := by omega
      subst hkm
      have HB := Lib.hid hb; have HC := Lib.hid hc; clear hb hc
      go_wp2
      go_end0
      refine ⟨rfl, ?_, HC.out⟩
      have := HB.out
      rwa [List.take_of_length_le (by rw [List.length_map, ← HM.out]; exact Nat.le_refl _)] at this
theorem infoS : (Try.prog.info? 9).map (fun i => (i.zero, i.size, i.bytes)) = some (some (.string ⟨#[]⟩), 1, 16) := by kernel_rfl
theorem RingS.grew {w w' : World} {R G G' room f c c' : Nat} {cs : List Value} {l : List ByteArray} (h : RingS w R G room f c cs l) (hc : l.length = c) (hc' : c < c') (hr : c' ≤ room) (hG : G' ≠ R) (h1 : Blk w' R (celS G' c' room 0 c) 50) (h2 : Blk w' G' (l.map Value.string ++ (List.replicate c' (.string ⟨#[]⟩)).drop l.length) 9) :
    RingS w' R G' room 0 c' (l.map Value.string ++ (List.replicate c' (.string ⟨#[]⟩)).drop l.length) l := by
  refine ⟨by rw [hc]; exact h1, by omega, hr, h.top, fun h0 => by omega, fun _ => ⟨by omega, hG, h2, by simp; omega⟩, fun i hi => ?_⟩
  rw [Nat.zero_add, Nat.mod_eq_of_lt (by omega), List.getElem?_append_left (by rw [List.length_map]; exact hi), List.getElem?_map, List.getElem?_eq_getElem hi]
  rfl
set_option maxHeartbeats 1000000 in
theorem growS_at (R G room f n : Nat) (cs : List Value) (l : List ByteArray) (w : World) (h : RingS w R G room f n cs l) (hn : l.length = n) (hr : n < room) :
    Calls Try.prog 27 #[.pointer (some ⟨R, 0, none⟩)] w fun e w' => e = .returned (.tuple #[]) ∧ (∃ G' c' ds, w.heap.size ≤ G' ∧ n < c' ∧ RingS w' R G' room 0 c' ds l) ∧ Chg (soleS R) w w' := by
  obtain ⟨i0, hi, hz0, hz1, hz2⟩ := info_parts infoS
  have hto := h.top
  have hRs : R < w.heap.size := h.blk.lt
  have hGs : G < w.heap.size := by
    by_cases h0 : n = 0
    · rw [(h.nil h0).2]; exact hRs
    · exact (h.row (by omega)).2.2.1.lt
  have k0 := h.c0
  have k3 := h.c3
  rw [hn] at k3
  have H := Lib.hid h; have HN := Lib.hid hn; clear h hn
  obtain ⟨m, hm⟩ : ∃ m, m = min (max (2 * n) 1) room := ⟨_, rfl⟩
  obtain ⟨w7, hrun, hown7, hgr7⟩ := run_make_full (P := Try.prog) w.drew w.heap.size 38 9 i0 (.string ⟨#[]⟩) 1 Try.underlying38 hi hz0 hz1 .i64 .i64 m (by rw [hz2]; omega) (by unfold maxLen; omega) (Nat.le_refl _)
  rw [Nat.mul_one, show (.string ⟨#[]⟩ : Value).cells = #[.string ⟨#[]⟩] from rfl, toList_madeCells_one] at hown7
  obtain ⟨hb7, -, -, -⟩ := own_blk hown7
  have hc7 : Chg no w w7 := (Chg.drew _ _).trans (Chg.grown hgr7 (fun j hj => by cases hj))
  have hb7 : Blk w7 w.heap.size (List.replicate m (.string ⟨#[]⟩)) 9 := hb7
  have hrun : (Instr.makeSlice 38 (.int .i64 (m : Int)) (.int .i64 (m : Int))).run Try.prog w.drew = .ok (.slice (some ⟨w.heap.size, 0, none⟩) m m) w7 := hrun
  have hr7 := H.out.chg hc7 (fun h => h) (fun h => h)
  have hk0 := hr7.c0
  have hk3 := hr7.c3
  rw [HN.out] at hk3
  have hmn : n < m := by omega
  have hmr : m ≤ room := by omega
  have hmr : m ≤ room := by omega
  have hmr : m ≤ room := by omega
  have hmr : m ≤ room := by omega
  have cy := layS_at R G w.heap.size room f n m cs _ l w7 hr7 hb7 (by simp) (by rw [HN.out]; omega) (by omega) (by omega)
  have CY := Lib.hid cy; have HC7 := Lib.hid hc7; have HR7 := Lib.hid hr7; have HRUN := Lib.hid hrun
  clear hown7 hgr7 hc7 hb7 hr7 cy hrun
  have hcase : (n = 0 ∧ (m : Int) = 1) ∨ (0 < n ∧ 2 * n ≤ room ∧ ¬ (2 * (n : Int) < 1) ∧ ¬ ((room : Int) < 2 * (n : Int)) ∧ (m : Int) = 2 * (n : Int)) ∨ (0 < n ∧ room < 2 * n ∧ ¬ (2 * (n : Int) < 1) ∧ (room : Int) < 2 * (n : Int) ∧ (m : Int) = (room : Int)) := by omega
  have hwr : IntKind.i64.wrap (2 * (n : Int)) = 2 * (n : Int) := by simp [IntKind.wrap, IntKind.signed, IntKind.bits]; omega
  have hwz : IntKind.i64.wrap 0 = 0 := by decide
  have hr1 : (if (room : Int) < 1 then (room : Int) else 1) = 1 := if_neg (by omega)
  rcases hcase with ⟨hx, hy⟩ | ⟨hx, hx2, hq1, hq2, hy⟩ | ⟨hx, hx2, hq1, hq2, hy⟩
  all_goals
    try have hp1 : (if 2 * (n : Int) < 1 then (1 : Int) else 2 * (n : Int)) = 2 * (n : Int) := if_neg hq1
    try have hp2 : (if (room : Int) < 2 * (n : Int) then (room : Int) else 2 * (n : Int)) = (m : Int) := by rw [hy]; first | exact if_neg hq2 | exact if_pos hq2
    try rw [hy] at hp2
    have HY := Lib.hid hy; clear hy hm
    go_enter Try.func27, Try.ntmps27
    go_wp2
    refine wp_region_held_drew (S := fun w' => w'.cell? ⟨R, 0, none⟩ = some (.int .i64 room) ∧ w'.cell? ⟨R, 3, none⟩ = some (.int .i64 n)) (by kernel_rfl) (by simp [go_sem, k0, k3]) (fun hHeld => ?_)
    simp only [List.size_toArray, List.length_cons, List.length_nil, Nat.reduceAdd]
    rw [show Array.replicate 13 false = [false, false, false, false, false, false, false, false, false, false, false, false, false].toArray from rfl]
    refine wpAnyH_take (i := 0) (v := ?_) rfl (by kernel_rfl) (by kernel_rfl) (by kernel_rfl) (fun _ _ _ h => h) (Or.inl ⟨by rfl, ?yldq⟩) (by assumption) ?_
    case yldq => (intro w hSw; (try dsimp only at hSw); go_simp; try with_reducible rfl)
    try simp only [Act.put, List.setIfInBounds_toArray, List.set_cons_zero, List.set_cons_succ, List.getElem_toArray, List.getElem_cons_succ, List.getElem_cons_zero]
    refine wpAnyH_take (i := 1) (v := ?_) rfl (by kernel_rfl) (by kernel_rfl) (by kernel_rfl) (fun _ _ _ h => h) (Or.inl ⟨by rfl, ?yldq⟩) (by assumption) ?_
    case yldq => (intro w hSw; (try dsimp only at hSw); go_simp; try with_reducible rfl)
    try simp only [Act.put, List.setIfInBounds_toArray, List.set_cons_zero, List.set_cons_succ, List.getElem_toArray, List.getElem_cons_succ, List.getElem_cons_zero]
    refine wpAnyH_take (i := 2) (v := ?_) rfl (by kernel_rfl) (by kernel_rfl) (by kernel_rfl) (fun _ _ _ h => h) (Or.inl ⟨by rfl, ?yldq⟩) (by assumption) ?_
    case yldq => (intro w hSw; (try dsimp only at hSw); go_simp; try with_reducible rfl)
    try simp only [Act.put, List.setIfInBounds_toArray, List.set_cons_zero, List.set_cons_succ, List.getElem_toArray, List.getElem_cons_succ, List.getElem_cons_zero]
    refine wpAnyH_take (i := 3) (v := ?_) rfl (by kernel_rfl) (by kernel_rfl) (by kernel_rfl) (fun _ _ _ h => h) (Or.inl ⟨by rfl, ?yldq⟩) (by assumption) ?_
    case yldq => (intro w hSw; (try dsimp only at hSw); go_simp; try with_reducible rfl)
    try simp only [Act.put, List.setIfInBounds_toArray, List.set_cons_zero, List.set_cons_succ, List.getElem_toArray, List.getElem_cons_succ, List.getElem_cons_zero]
    refine wpAnyH_take (i := 4) (v := ?_) rfl (by kernel_rfl) (by kernel_rfl) (by kernel_rfl) (fun _ _ _ h => h) (Or.inl ⟨by rfl, ?yldq⟩) (by assumption) ?_
    case yldq => (intro w hSw; (try dsimp only at hSw); go_simp; try with_reducible rfl)
    try simp only [Act.put, List.setIfInBounds_toArray, List.set_cons_zero, List.set_cons_succ, List.getElem_toArray, List.getElem_cons_succ, List.getElem_cons_zero]
    refine wpAnyH_take (i := 5) (v := ?_) rfl (by kernel_rfl) (by kernel_rfl) (by kernel_rfl) (fun _ _ _ h => h) (Or.inl ⟨by rfl, ?yldq⟩) (by assumption) ?_
    case yldq => (intro w hSw; (try dsimp only at hSw); go_simp; try with_reducible rfl)
    try simp only [Act.put, List.setIfInBounds_toArray, List.set_cons_zero, List.set_cons_succ, List.getElem_toArray, List.getElem_cons_succ, List.getElem_cons_zero]
    refine wpAnyH_take (i := 6) (v := ?_) rfl (by kernel_rfl) (by kernel_rfl) (by kernel_rfl) (fun _ _ _ h => h) (Or.inl ⟨by rfl, ?yldq⟩) (by assumption) ?_
    case yldq => (intro w hSw; (try dsimp only at hSw); go_simp; try with_reducible rfl)
    try simp only [Act.put, List.setIfInBounds_toArray, List.set_cons_zero, List.set_cons_succ, List.getElem_toArray, List.getElem_cons_succ, List.getElem_cons_zero]
    refine wpAnyH_take (i := 7) (v := ?_) rfl (by kernel_rfl) (by kernel_rfl) (by kernel_rfl) (fun _ _ _ h => h) (Or.inl ⟨by rfl, ?yldq⟩) (by assumption) ?_
    case yldq => (intro w hSw; (try dsimp only at hSw); go_simp; try with_reducible rfl)
    try simp only [Act.put, List.setIfInBounds_toArray, List.set_cons_zero, List.set_cons_succ, List.getElem_toArray, List.getElem_cons_succ, List.getElem_cons_zero]
    refine wpAnyH_take (i := 8) (v := ?_) rfl (by kernel_rfl) (by kernel_rfl) (by kernel_rfl) (fun _ _ _ h => h) (Or.inl ⟨by rfl, ?yldq⟩) (by assumption) ?_
    case yldq => (intro w hSw; (try dsimp only at hSw); go_simp; try with_reducible rfl)
    try simp only [Act.put, List.setIfInBounds_toArray, List.set_cons_zero, List.set_cons_succ, List.getElem_toArray, List.getElem_cons_succ, List.getElem_cons_zero]
    refine wpAnyH_take (i := 9) (v := ?_) rfl (by kernel_rfl) (by kernel_rfl) (by kernel_rfl) (fun _ _ _ h => h) (Or.inl ⟨by rfl, ?yldq⟩) (by assumption) ?_
    case yldq => (intro w hSw; (try dsimp only at hSw); go_simp; try with_reducible rfl)
    try simp only [Act.put, List.setIfInBounds_toArray, List.set_cons_zero, List.set_cons_succ, List.getElem_toArray, List.getElem_cons_succ, List.getElem_cons_zero]
    refine wpAnyH_take (i := 10) (v := ?_) rfl (by kernel_rfl) (by kernel_rfl) (by kernel_rfl) (fun _ _ _ h => h) (Or.inl ⟨by rfl, ?yldq⟩) (by assumption) ?_
    case yldq => (intro w hSw; (try dsimp only at hSw); go_simp; try with_reducible rfl)
    try simp only [Act.put, List.setIfInBounds_toArray, List.set_cons_zero, List.set_cons_succ, List.getElem_toArray, List.getElem_cons_succ, List.getElem_cons_zero]
    have hrun := HRUN.out
    rw [HY.out] at hrun
    refine wpAnyH_ready (rs := [11]) (by kernel_rfl) (by simp) ?_
    refine AllReadyH.cons rfl (fun K hK => ?_) AllReadyH.nil
    go_simp
    refine hK.out _ _ ⟨hk0, hk3⟩ (fun _ => ?_)
    clear hK K hrun
    refine wpAnyH_take (i := 12) (v := ?_) rfl (by kernel_rfl) (by kernel_rfl) (by kernel_rfl) (fun _ _ _ h => h) (Or.inl ⟨by rfl, ?yldq⟩) (by assumption) ?_
    case yldq => (intro w hSw; (try dsimp only at hSw); go_simp; try with_reducible rfl)
    try simp only [Act.put, List.setIfInBounds_toArray, List.set_cons_zero, List.set_cons_succ, List.getElem_toArray, List.getElem_cons_succ, List.getElem_cons_zero]
    refine wpAnyH_done (by kernel_rfl) ?_ _
    clear hHeld
    go_wp2_with fail
    refine CY.out.mono ?_
    rintro e w8 ⟨rfl, hb8, hc8⟩
    have hg8 : Blk w8 R (celS G n room f l.length) 50 := HR7.out.blk.chg hc8 (by unfold soleS; omega)
    rw [HN.out] at hg8
    have j1 := hg8.cell 1
    have jf := hg8.free
    have j2 : ∀ u, (w8.setCell ⟨R, 1, none⟩ u).cell? ⟨R, 2, none⟩ = some (.int .i64 f) := fun u => (hg8.set 1 u).cell 2
    have jg : ∀ u o, (w8.setCell ⟨R, 1, none⟩ u).frozen? ⟨R, o, none⟩ = false := fun u => (hg8.set 1 u).free
    have j1 : w8.cell? ⟨R, 1, none⟩ = some (plcS G n) := j1
    have HB8 := Lib.hid hb8; have HC8 := Lib.hid hc8; have HG8 := Lib.hid hg8
    clear hb8 hc8 hg8
    go_wp2
    go_end0
    have hG : Blk ((w8.setCell ⟨R, 1, none⟩ (.slice (some ⟨w.heap.size, 0, none⟩) m m)).setCell ⟨R, 2, none⟩ (.int .i64 0)) R (celS w.heap.size m room 0 n) 50 := by
      have := (HG8.out.set 1 (.slice (some ⟨w.heap.size, 0, none⟩) m m)).set 2 (.int .i64 0)
      have e : plcS w.heap.size m = .slice (some ⟨w.heap.size, 0, none⟩) m m := by unfold plcS; rw [if_neg (by omega)]
      unfold celS at this ⊢
      rw [e]
      exact this
    have hL := (HB8.out.other ⟨R, 1, none⟩ (.slice (some ⟨w.heap.size, 0, none⟩) m m) (by show w.heap.size ≠ R; omega)).other ⟨R, 2, none⟩ (.int .i64 0) (by show w.heap.size ≠ R; omega)
    refine ⟨rfl, ⟨w.heap.size, m, _, Nat.le_refl _, hmn, H.out.grew HN.out hmn hmr (by omega) hG hL⟩, ?_⟩
    have hc9 : Chg (soleS R) w w8 := ⟨HC8.out.os.trans HC7.out.os, HC8.out.tape.trans HC7.out.tape, HC8.out.output.trans HC7.out.output, Nat.le_trans HC7.out.size HC8.out.size, fun k hk _ => (HC8.out.block k (Nat.lt_of_lt_of_le hk HC7.out.size) (fun e => by unfold soleS at e; omega)).trans (HC7.out.block k hk (fun h => h))⟩
    exact (hc9.trans (Chg.setCell w8 ⟨R, 1, none⟩ _ (show soleS R R from rfl))).trans (Chg.setCell _ ⟨R, 2, none⟩ _ (show soleS R R from rfl))
theorem RingS.pushed {w w' : World} {R G room f c : Nat} {cs : List Value} {l : List ByteArray} (v : ByteArray) (h : RingS w R G room f c cs l) (hlt : l.length < c) (h1 : Blk w' R (celS G c room f (l.length + 1)) 50) (h2 : Blk w' G (cs.set ((f + l.length) % c) (Value.string v)) 9) :
    RingS w' R G room f c (cs.set ((f + l.length) % c) (Value.string v)) (l ++ [v]) := by
  have c0 : 0 < c := by omega
  obtain ⟨hf, hne, hg, hl⟩ := h.row c0
  have e : (l ++ [v]).length = l.length + 1 := by simp
  refine ⟨by rw [e]; exact h1, by omega, h.cap, h.top, fun h0 => by omega, fun _ => ⟨hf, hne, h2, by rw [List.length_set, hl]⟩, fun i hi => ?_⟩
  have hm : (f + l.length) % c < c := Nat.mod_lt _ c0
  by_cases hil : i = l.length
  · subst hil
    rw [List.getElem?_set_self (by omega)]
    simp
  · have hi' : i < l.length := by omega
    rw [List.getElem?_set_ne (mod_ne hf (by omega) (by omega) (Ne.symm hil)), h.at_ i hi', List.getElem_append_left hi']
theorem pushS_nil (v : ByteArray) (w : World) : Calls Try.prog 19 #[.pointer none, Value.string v] w fun e w' => e = .returned (.bool false) ∧ w = w' := by
  go_enter Try.func19, Try.ntmps19
  go_wp2_with (first | (go_at_call 20; refine (lenS_nil _).mono ?_; rintro e w' ⟨rfl, rfl⟩) | (go_at_call 26; refine (roomS_nil _).mono ?_; rintro e w' ⟨rfl, rfl⟩))
  go_ret
  exact ⟨rfl, rfl⟩
theorem pushS_full (v : ByteArray) (R G room f c : Nat) (cs : List Value) (l : List ByteArray) (w : World) (h : RingS w R G room f c cs l) (hn : l.length = room) : Calls Try.prog 19 #[.pointer (some ⟨R, 0, none⟩), Value.string v] w fun e w' => e = .returned (.bool false) ∧ w = w' := by
  have cl := lenS_at R l.length w h.c3
  have cr := roomS_at R room w h.c0
  rw [hn] at cl
  have CL := Lib.hid cl; have CR := Lib.hid cr
  clear cl cr h hn
  go_enter Try.func19, Try.ntmps19
  go_wp2_with (first | (go_at_call 20; refine CL.out.mono ?_; rintro e w' ⟨rfl, rfl⟩) | (go_at_call 26; refine CR.out.mono ?_; rintro e w' ⟨rfl, rfl⟩))
  go_ret
  exact ⟨rfl, rfl⟩
set_option maxHeartbeats 2000000 in
theorem pushS_lies (v : ByteArray) (R G0 room f0 c0' n : Nat) (cs0 : List Value) (l : List ByteArray) (w : World) (h : RingS w R G0 room f0 c0' cs0 l) (hn : l.length = n) (hroom : n < room) (hnc : n < c0') : Calls Try.prog 19 #[.pointer (some ⟨R, 0, none⟩), Value.string v] w fun e w' => e = .returned (.bool true) ∧ (∃ G' f' c' cs', (G' = G0 ∨ w.heap.size ≤ G') ∧ RingS w' R G' room f' c' cs' (l ++ [v])) ∧ Chg (two R G0) w w' := by
  have hRG0 : True := trivial
  have hto := h.top
  have cl := lenS_at R l.length w h.c3
  have cr := roomS_at R room w h.c0
  rw [hn] at cl
  have CL := Lib.hid cl; have CR := Lib.hid cr; have HN := Lib.hid hn
  have z3 := h.c3
  rw [hn] at z3
  have z1 := h.c1
  unfold plcS at z1
  rw [if_neg (by omega)] at z1
  have hcn : ((n : Int) == (c0' : Int)) = false := by simp; omega
  have H := Lib.hid h
  clear cl cr h hn
  go_enter Try.func19, Try.ntmps19
  go_wp2_with (first | (go_at_call 20; refine CL.out.mono ?_; rintro e w' ⟨rfl, rfl⟩) | (go_at_call 26; refine CR.out.mono ?_; rintro e w' ⟨rfl, rfl⟩))
  go_quiet (fail)
  clear z1 z3
  obtain ⟨w1, hw1⟩ : ∃ x, x = w.drewN nq := ⟨_, rfl⟩
  have hr : RingS w1 R G0 room f0 c0' cs0 l := by rw [hw1]; exact H.out.drewN nq
  have hc1 : Chg (two R G0) w w1 := by rw [hw1]; exact Chg.drewN _ _ _
  rw [← hw1]
  clear hw1 hcn
  obtain ⟨G, rfl⟩ : ∃ G, G = G0 := ⟨_, rfl⟩
  obtain ⟨f, rfl⟩ : ∃ f, f = f0 := ⟨_, rfl⟩
  obtain ⟨c, rfl⟩ : ∃ c, c = c0' := ⟨_, rfl⟩
  obtain ⟨cs, rfl⟩ : ∃ cs, cs = cs0 := ⟨_, rfl⟩
  have c0 : 0 < c := by omega
  have hFG : two R G G ∨ w.heap.size ≤ G := .inl (.inr rfl)
  have hFR : two R G R := .inl rfl
  obtain ⟨hf, hne, hg, hl⟩ := hr.row c0
  have k1 := hr.c1
  unfold plcS at k1
  rw [if_neg (by omega)] at k1
  have k2 := hr.c2
  have k3 := hr.c3
  rw [HN.out] at k3
  have hq : (f + n) % c < c := Nat.mod_lt _ c0
  have hca := hr.cap; have hto := hr.top
  have cp := fun w h1 h2 => placeS_at R G c f n w h1 h2 c0 hf (by omega) (by omega)
  obtain ⟨q, hqe⟩ : ∃ q, q = (f + n) % c := ⟨_, rfl⟩
  rw [← hqe] at hq cp
  have kg := hg.cell q
  rw [List.getElem?_eq_getElem (by omega)] at kg
  obtain ⟨u, hu⟩ : ∃ u, u = cs[q] := ⟨_, rfl⟩
  rw [← hu] at kg
  have kf := hg.free q
  have CP := Lib.hid cp; have H1 := Lib.hid hr; have C1 := Lib.hid hc1; have QE := Lib.hid hqe
  clear cp hr hc1 hqe hg hl hu
  go_wp2
  refine wp_region_held_drew (S := fun w' => w'.cell? ⟨R, 1, none⟩ = some (.slice (some ⟨G, 0, none⟩) c c) ∧ w'.cell? ⟨R, 2, none⟩ = some (.int .i64 f) ∧ w'.cell? ⟨R, 3, none⟩ = some (.int .i64 n)) (by kernel_rfl) (by simp [go_sem, k1, k2, k3]) (fun hHeld => ?_)
  simp only [List.size_toArray, List.length_cons, List.length_nil, Nat.reduceAdd]
  rw [show Array.replicate 13 false = [false, false, false, false, false, false, false, false, false, false, false, false, false].toArray from rfl]
  refine wpAnyH_take (i := 0) (v := ?_) rfl (by kernel_rfl) (by kernel_rfl) (by kernel_rfl) (fun _ _ _ h => h) (Or.inl ⟨by rfl, ?yldq⟩) (by assumption) ?_
  case yldq => (intro w hSw; (try dsimp only at hSw); go_simp; try with_reducible rfl)
  try simp only [Act.put, List.setIfInBounds_toArray, List.set_cons_zero, List.set_cons_succ, List.getElem_toArray, List.getElem_cons_succ, List.getElem_cons_zero]
  refine wpAnyH_take (i := 1) (v := ?_) rfl (by kernel_rfl) (by kernel_rfl) (by kernel_rfl) (fun _ _ _ h => h) (Or.inl ⟨by rfl, ?yldq⟩) (by assumption) ?_
  case yldq => (intro w hSw; (try dsimp only at hSw); go_simp; try with_reducible rfl)
  try simp only [Act.put, List.setIfInBounds_toArray, List.set_cons_zero, List.set_cons_succ, List.getElem_toArray, List.getElem_cons_succ, List.getElem_cons_zero]
  refine wpAnyH_take (i := 2) (v := ?_) rfl (by kernel_rfl) (by kernel_rfl) (by kernel_rfl) (fun _ _ _ h => h) (Or.inl ⟨by rfl, ?yldq⟩) (by assumption) ?_
  case yldq => (intro w hSw; (try dsimp only at hSw); go_simp; try with_reducible rfl)
  try simp only [Act.put, List.setIfInBounds_toArray, List.set_cons_zero, List.set_cons_succ, List.getElem_toArray, List.getElem_cons_succ, List.getElem_cons_zero]
  refine wpAnyH_take (i := 3) (v := ?_) rfl (by kernel_rfl) (by kernel_rfl) (by kernel_rfl) (fun _ _ _ h => h) (Or.inl ⟨by rfl, ?yldq⟩) (by assumption) ?_
  case yldq => (intro w hSw; (try dsimp only at hSw); go_simp; try with_reducible rfl)
  try simp only [Act.put, List.setIfInBounds_toArray, List.set_cons_zero, List.set_cons_succ, List.getElem_toArray, List.getElem_cons_succ, List.getElem_cons_zero]
  refine wpAnyH_take (i := 4) (v := ?_) rfl (by kernel_rfl) (by kernel_rfl) (by kernel_rfl) (fun _ _ _ h => h) (Or.inl ⟨by rfl, ?yldq⟩) (by assumption) ?_
  case yldq => (intro w hSw; (try dsimp only at hSw); go_simp; try with_reducible rfl)
  try simp only [Act.put, List.setIfInBounds_toArray, List.set_cons_zero, List.set_cons_succ, List.getElem_toArray, List.getElem_cons_succ, List.getElem_cons_zero]
  refine wpAnyH_take (i := 5) (v := ?_) rfl (by kernel_rfl) (by kernel_rfl) (by kernel_rfl) (fun _ _ _ h => h) (Or.inl ⟨by rfl, ?yldq⟩) (by assumption) ?_
  case yldq => (intro w hSw; (try dsimp only at hSw); go_simp; try with_reducible rfl)
  try simp only [Act.put, List.setIfInBounds_toArray, List.set_cons_zero, List.set_cons_succ, List.getElem_toArray, List.getElem_cons_succ, List.getElem_cons_zero]
  refine wpAnyH_take (i := 6) (v := ?_) rfl (by kernel_rfl) (by kernel_rfl) (by kernel_rfl) (fun _ _ _ h => h) (Or.inl ⟨by rfl, ?yldq⟩) (by assumption) ?_
  case yldq => (intro w hSw; (try dsimp only at hSw); go_simp; try with_reducible rfl)
  try simp only [Act.put, List.setIfInBounds_toArray, List.set_cons_zero, List.set_cons_succ, List.getElem_toArray, List.getElem_cons_succ, List.getElem_cons_zero]
  refine wpAnyH_take (i := 7) (v := ?_) rfl (by kernel_rfl) (by kernel_rfl) (by kernel_rfl) (fun _ _ _ h => h) (Or.inl ⟨by rfl, ?yldq⟩) (by assumption) ?_
  case yldq => (intro w hSw; (try dsimp only at hSw); go_simp; try with_reducible rfl)
  try simp only [Act.put, List.setIfInBounds_toArray, List.set_cons_zero, List.set_cons_succ, List.getElem_toArray, List.getElem_cons_succ, List.getElem_cons_zero]
  refine wpAnyH_take (i := 8) (v := ?_) rfl (by kernel_rfl) (by kernel_rfl) (by kernel_rfl) (fun _ _ _ h => h) (Or.inl ⟨by rfl, ?yldq⟩) (by assumption) ?_
  case yldq => (intro w hSw; (try dsimp only at hSw); go_simp; try with_reducible rfl)
  try simp only [Act.put, List.setIfInBounds_toArray, List.set_cons_zero, List.set_cons_succ, List.getElem_toArray, List.getElem_cons_succ, List.getElem_cons_zero]
  refine wpAnyH_take (i := 10) (v := ?_) rfl (by kernel_rfl) (by kernel_rfl) (by kernel_rfl) (fun _ _ _ h => h) (Or.inl ⟨by rfl, ?yldq⟩) (by assumption) ?_
  case yldq => (intro w hSw; (try dsimp only at hSw); go_simp; try with_reducible rfl)
  try simp only [Act.put, List.setIfInBounds_toArray, List.set_cons_zero, List.set_cons_succ, List.getElem_toArray, List.getElem_cons_succ, List.getElem_cons_zero]
  refine wpAnyH_ready (rs := [9]) (by kernel_rfl) (by simp) ?_
  refine AllReadyH.cons rfl (fun K hK => ?_) AllReadyH.nil
  go_simp
  refine (CP.out _ hHeld.1 hHeld.2.1).mono ?_
  rintro e w3 ⟨rfl, n3, hw3⟩
  have hS3 : w3.cell? ⟨R, 1, none⟩ = some (.slice (some ⟨G, 0, none⟩) c c) ∧ w3.cell? ⟨R, 2, none⟩ = some (.int .i64 f) ∧ w3.cell? ⟨R, 3, none⟩ = some (.int .i64 n) := by rw [hw3]; exact ⟨hHeld.1, hHeld.2.1, hHeld.2.2⟩
  have hr3 : RingS w3 R G room f c cs l := by rw [hw3]; exact (H1.out.drewN 1).drewN n3
  have hc3 : Chg (two R G) w w3 := by rw [hw3]; exact (C1.out.trans (Chg.drew _ _)).trans (Chg.drewN _ _ _)
  have hg3 : w3.cell? ⟨G, q, none⟩ = some u := by rw [hw3]; exact kg
  have hf3 := (hr3.row c0).2.2.1.free q
  have H3 := Lib.hid hr3; have C3 := Lib.hid hc3
  clear hw3 hr3 hc3 kg kf hHeld k1 k2 k3
  refine hK.out _ _ hS3 (fun _ => ?_)
  clear hK K
  refine wpAnyH_take (i := 11) (v := ?_) rfl (by kernel_rfl) (by kernel_rfl) (by kernel_rfl) (fun _ _ _ h => h) (Or.inl ⟨by rfl, ?yldq⟩) (by assumption) ?_
  case yldq => (intro w hSw; (try dsimp only at hSw); go_simp; try with_reducible rfl)
  try simp only [Act.put, List.setIfInBounds_toArray, List.set_cons_zero, List.set_cons_succ, List.getElem_toArray, List.getElem_cons_succ, List.getElem_cons_zero]
  refine wpAnyH_ready (rs := [12]) (by kernel_rfl) (by simp) ?_
  refine AllReadyH.cons rfl (fun K hK => ?_) AllReadyH.nil
  go_simp
  obtain ⟨w4, hw4⟩ : ∃ x, x = w3.setCell ⟨G, q, none⟩ (Value.string v) := ⟨_, rfl⟩
  rw [← hw4]
  have b4 : Blk w4 R (celS G c room f l.length) 50 := hw4 ▸ (H3.out.blk.other ⟨G, q, none⟩ (Value.string v) (Ne.symm hne))
  have g4 : Blk w4 G (cs.set q (Value.string v)) 9 := hw4 ▸ ((H3.out.row c0).2.2.1.set q (Value.string v))
  have hc4 : Chg (two R G) w w4 := by
    rw [hw4]
    exact C3.out.setc ⟨G, q, none⟩ _ hFG
  rw [HN.out] at b4
  have m1 := b4.cell 1
  have m1 : w4.cell? ⟨R, 1, none⟩ = some (.slice (some ⟨G, 0, none⟩) c c) := by rw [m1]; show some (plcS G c) = _; unfold plcS; rw [if_neg (by omega)]
  have m2 : w4.cell? ⟨R, 2, none⟩ = some (.int .i64 f) := b4.cell 2
  have m3 : w4.cell? ⟨R, 3, none⟩ = some (.int .i64 n) := b4.cell 3
  have mf := b4.free
  refine hK.out _ _ ⟨m1, m2, m3⟩ (fun _ => ?_)
  clear hK K
  refine wpAnyH_done (by kernel_rfl) ?_ _
  have C4 := Lib.hid hc4; have B4 := Lib.hid b4; have G4 := Lib.hid g4
  clear hS3 hg3 hf3 hw4 hc4 b4 g4 m1 m2
  go_wp2
  go_ret
  have hR := B4.out.set 3 (.int .i64 ((n + 1 : Nat) : Int))
  have hG := G4.out.other ⟨R, 3, none⟩ (.int .i64 ((n + 1 : Nat) : Int)) hne
  rw [QE.out, ← HN.out] at hG
  rw [← HN.out] at hR
  have hFin := H3.out.pushed v (by rw [HN.out]; exact hnc) hR hG
  rw [HN.out] at hFin
  exact ⟨rfl, ⟨G, _, _, _, .inl rfl, hFin⟩, C4.out.trans (Chg.setCell _ ⟨R, 3, none⟩ _ hFR)⟩
set_option maxHeartbeats 4000000 in
theorem pushS_grows (v : ByteArray) (R G0 room f0 c0' n : Nat) (cs0 : List Value) (l : List ByteArray) (w : World) (h : RingS w R G0 room f0 c0' cs0 l) (hn : l.length = n) (hroom : n < room) (hnc0 : n = c0') : Calls Try.prog 19 #[.pointer (some ⟨R, 0, none⟩), Value.string v] w fun e w' => e = .returned (.bool true) ∧ (∃ G' f' c' cs', (G' = G0 ∨ w.heap.size ≤ G') ∧ RingS w' R G' room f' c' cs' (l ++ [v])) ∧ Chg (two R G0) w w' := by
  have hRG0 : True := trivial
  have hto := h.top
  have cl := lenS_at R l.length w h.c3
  have cr := roomS_at R room w h.c0
  rw [hn] at cl
  have CL := Lib.hid cl; have CR := Lib.hid cr; have HN := Lib.hid hn
  have z3 := h.c3
  rw [hn] at z3
  have z1 := h.c1
  obtain rfl : c0' = n := hnc0.symm
  have hG0s : G0 < w.heap.size := by
    by_cases h0 : c0' = 0
    · rw [(h.nil h0).2]; exact h.blk.lt
    · exact (h.row (by omega)).2.2.1.lt
  have hRs := h.blk.lt
  rcases Nat.eq_zero_or_pos c0' with hz | hz
  · have hcn : ((c0' : Int) == 0) = true := by simp [hz]
    unfold plcS at z1
    rw [if_pos hz] at z1
    clear hz
    have H := Lib.hid h
    clear cl cr h hn
    go_enter Try.func19, Try.ntmps19
    go_wp2_with (first | (go_at_call 20; refine CL.out.mono ?_; rintro e w' ⟨rfl, rfl⟩) | (go_at_call 26; refine CR.out.mono ?_; rintro e w' ⟨rfl, rfl⟩))
    go_quiet (fail)
    clear z1 z3
    obtain ⟨w1, hw1⟩ : ∃ x, x = w.drewN nq := ⟨_, rfl⟩
    have hr1 : RingS w1 R G0 room f0 c0' cs0 l := by rw [hw1]; exact H.out.drewN nq
    have hs1 : w1.heap.size = w.heap.size := by rw [hw1]; rfl
    have hc1 : Chg (two R G0) w w1 := by rw [hw1]; exact Chg.drewN _ _ _
    have cg := growS_at R G0 room f0 c0' cs0 l w1 hr1 HN.out hroom
    have CG := Lib.hid cg; have C1 := Lib.hid hc1
    rw [← hw1]
    clear hw1 cg hr1 hc1
    try clear hcn
    go_wp2_with fail
    refine CG.out.mono ?_
    rintro e w2 ⟨rfl, ⟨G, c, cs, hGn, hnc, hr⟩, hc2⟩
    obtain ⟨n, rfl⟩ : ∃ n, n = c0' := ⟨_, rfl⟩
    obtain ⟨f, hf0⟩ : ∃ f, f = 0 := ⟨_, rfl⟩
    rw [← hf0] at hr
    have hc1 : Chg (two R G0) w w2 := C1.out.trans (hc2.mono fun k _ h => .inl h)
    have hGnew : w.heap.size ≤ G := by omega
    clear hf0 hc2 hGn hs1
    have c0 : 0 < c := by omega
    have hFG : two R G0 G ∨ w.heap.size ≤ G := .inr hGnew
    have hFR : two R G0 R := .inl rfl
    obtain ⟨hf, hne, hg, hl⟩ := hr.row c0
    have k1 := hr.c1
    unfold plcS at k1
    rw [if_neg (by omega)] at k1
    have k2 := hr.c2
    have k3 := hr.c3
    rw [HN.out] at k3
    have hq : (f + n) % c < c := Nat.mod_lt _ c0
    have hca := hr.cap; have hto := hr.top
    have cp := fun w h1 h2 => placeS_at R G c f n w h1 h2 c0 hf (by omega) (by omega)
    obtain ⟨q, hqe⟩ : ∃ q, q = (f + n) % c := ⟨_, rfl⟩
    rw [← hqe] at hq cp
    have kg := hg.cell q
    rw [List.getElem?_eq_getElem (by omega)] at kg
    obtain ⟨u, hu⟩ : ∃ u, u = cs[q] := ⟨_, rfl⟩
    rw [← hu] at kg
    have kf := hg.free q
    have CP := Lib.hid cp; have H1 := Lib.hid hr; have C1 := Lib.hid hc1; have QE := Lib.hid hqe
    clear cp hr hc1 hqe hg hl hu
    go_wp2
    refine wp_region_held_drew (S := fun w' => w'.cell? ⟨R, 1, none⟩ = some (.slice (some ⟨G, 0, none⟩) c c) ∧ w'.cell? ⟨R, 2, none⟩ = some (.int .i64 f) ∧ w'.cell? ⟨R, 3, none⟩ = some (.int .i64 n)) (by kernel_rfl) (by simp [go_sem, k1, k2, k3]) (fun hHeld => ?_)
    simp only [List.size_toArray, List.length_cons, List.length_nil, Nat.reduceAdd]
    rw [show Array.replicate 13 false = [false, false, false, false, false, false, false, false, false, false, false, false, false].toArray from rfl]
    refine wpAnyH_take (i := 0) (v := ?_) rfl (by kernel_rfl) (by kernel_rfl) (by kernel_rfl) (fun _ _ _ h => h) (Or.inl ⟨by rfl, ?yldq⟩) (by assumption) ?_
    case yldq => (intro w hSw; (try dsimp only at hSw); go_simp; try with_reducible rfl)
    try simp only [Act.put, List.setIfInBounds_toArray, List.set_cons_zero, List.set_cons_succ, List.getElem_toArray, List.getElem_cons_succ, List.getElem_cons_zero]
    refine wpAnyH_take (i := 1) (v := ?_) rfl (by kernel_rfl) (by kernel_rfl) (by kernel_rfl) (fun _ _ _ h => h) (Or.inl ⟨by rfl, ?yldq⟩) (by assumption) ?_
    case yldq => (intro w hSw; (try dsimp only at hSw); go_simp; try with_reducible rfl)
    try simp only [Act.put, List.setIfInBounds_toArray, List.set_cons_zero, List.set_cons_succ, List.getElem_toArray, List.getElem_cons_succ, List.getElem_cons_zero]
    refine wpAnyH_take (i := 2) (v := ?_) rfl (by kernel_rfl) (by kernel_rfl) (by kernel_rfl) (fun _ _ _ h => h) (Or.inl ⟨by rfl, ?yldq⟩) (by assumption) ?_
    case yldq => (intro w hSw; (try dsimp only at hSw); go_simp; try with_reducible rfl)
    try simp only [Act.put, List.setIfInBounds_toArray, List.set_cons_zero, List.set_cons_succ, List.getElem_toArray, List.getElem_cons_succ, List.getElem_cons_zero]
    refine wpAnyH_take (i := 3) (v := ?_) rfl (by kernel_rfl) (by kernel_rfl) (by kernel_rfl) (fun _ _ _ h => h) (Or.inl ⟨by rfl, ?yldq⟩) (by assumption) ?_
    case yldq => (intro w hSw; (try dsimp only at hSw); go_simp; try with_reducible rfl)
    try simp only [Act.put, List.setIfInBounds_toArray, List.set_cons_zero, List.set_cons_succ, List.getElem_toArray, List.getElem_cons_succ, List.getElem_cons_zero]
    refine wpAnyH_take (i := 4) (v := ?_) rfl (by kernel_rfl) (by kernel_rfl) (by kernel_rfl) (fun _ _ _ h => h) (Or.inl ⟨by rfl, ?yldq⟩) (by assumption) ?_
    case yldq => (intro w hSw; (try dsimp only at hSw); go_simp; try with_reducible rfl)
    try simp only [Act.put, List.setIfInBounds_toArray, List.set_cons_zero, List.set_cons_succ, List.getElem_toArray, List.getElem_cons_succ, List.getElem_cons_zero]
    refine wpAnyH_take (i := 5) (v := ?_) rfl (by kernel_rfl) (by kernel_rfl) (by kernel_rfl) (fun _ _ _ h => h) (Or.inl ⟨by rfl, ?yldq⟩) (by assumption) ?_
    case yldq => (intro w hSw; (try dsimp only at hSw); go_simp; try with_reducible rfl)
    try simp only [Act.put, List.setIfInBounds_toArray, List.set_cons_zero, List.set_cons_succ, List.getElem_toArray, List.getElem_cons_succ, List.getElem_cons_zero]
    refine wpAnyH_take (i := 6) (v := ?_) rfl (by kernel_rfl) (by kernel_rfl) (by kernel_rfl) (fun _ _ _ h => h) (Or.inl ⟨by rfl, ?yldq⟩) (by assumption) ?_
    case yldq => (intro w hSw; (try dsimp only at hSw); go_simp; try with_reducible rfl)
    try simp only [Act.put, List.setIfInBounds_toArray, List.set_cons_zero, List.set_cons_succ, List.getElem_toArray, List.getElem_cons_succ, List.getElem_cons_zero]
    refine wpAnyH_take (i := 7) (v := ?_) rfl (by kernel_rfl) (by kernel_rfl) (by kernel_rfl) (fun _ _ _ h => h) (Or.inl ⟨by rfl, ?yldq⟩) (by assumption) ?_
    case yldq => (intro w hSw; (try dsimp only at hSw); go_simp; try with_reducible rfl)
    try simp only [Act.put, List.setIfInBounds_toArray, List.set_cons_zero, List.set_cons_succ, List.getElem_toArray, List.getElem_cons_succ, List.getElem_cons_zero]
    refine wpAnyH_take (i := 8) (v := ?_) rfl (by kernel_rfl) (by kernel_rfl) (by kernel_rfl) (fun _ _ _ h => h) (Or.inl ⟨by rfl, ?yldq⟩) (by assumption) ?_
    case yldq => (intro w hSw; (try dsimp only at hSw); go_simp; try with_reducible rfl)
    try simp only [Act.put, List.setIfInBounds_toArray, List.set_cons_zero, List.set_cons_succ, List.getElem_toArray, List.getElem_cons_succ, List.getElem_cons_zero]
    refine wpAnyH_take (i := 10) (v := ?_) rfl (by kernel_rfl) (by kernel_rfl) (by kernel_rfl) (fun _ _ _ h => h) (Or.inl ⟨by rfl, ?yldq⟩) (by assumption) ?_
    case yldq => (intro w hSw; (try dsimp only at hSw); go_simp; try with_reducible rfl)
    try simp only [Act.put, List.setIfInBounds_toArray, List.set_cons_zero, List.set_cons_succ, List.getElem_toArray, List.getElem_cons_succ, List.getElem_cons_zero]
    refine wpAnyH_ready (rs := [9]) (by kernel_rfl) (by simp) ?_
    refine AllReadyH.cons rfl (fun K hK => ?_) AllReadyH.nil
    go_simp
    refine (CP.out _ hHeld.1 hHeld.2.1).mono ?_
    rintro e w3 ⟨rfl, n3, hw3⟩
    have hS3 : w3.cell? ⟨R, 1, none⟩ = some (.slice (some ⟨G, 0, none⟩) c c) ∧ w3.cell? ⟨R, 2, none⟩ = some (.int .i64 f) ∧ w3.cell? ⟨R, 3, none⟩ = some (.int .i64 n) := by rw [hw3]; exact ⟨hHeld.1, hHeld.2.1, hHeld.2.2⟩
    have hr3 : RingS w3 R G room f c cs l := by rw [hw3]; exact (H1.out.drewN 1).drewN n3
    have hc3 : Chg (two R G0) w w3 := by rw [hw3]; exact (C1.out.trans (Chg.drew _ _)).trans (Chg.drewN _ _ _)
    have hg3 : w3.cell? ⟨G, q, none⟩ = some u := by rw [hw3]; exact kg
    have hf3 := (hr3.row c0).2.2.1.free q
    have H3 := Lib.hid hr3; have C3 := Lib.hid hc3
    clear hw3 hr3 hc3 kg kf hHeld k1 k2 k3
    refine hK.out _ _ hS3 (fun _ => ?_)
    clear hK K
    refine wpAnyH_take (i := 11) (v := ?_) rfl (by kernel_rfl) (by kernel_rfl) (by kernel_rfl) (fun _ _ _ h => h) (Or.inl ⟨by rfl, ?yldq⟩) (by assumption) ?_
    case yldq => (intro w hSw; (try dsimp only at hSw); go_simp; try with_reducible rfl)
    try simp only [Act.put, List.setIfInBounds_toArray, List.set_cons_zero, List.set_cons_succ, List.getElem_toArray, List.getElem_cons_succ, List.getElem_cons_zero]
    refine wpAnyH_ready (rs := [12]) (by kernel_rfl) (by simp) ?_
    refine AllReadyH.cons rfl (fun K hK => ?_) AllReadyH.nil
    go_simp
    obtain ⟨w4, hw4⟩ : ∃ x, x = w3.setCell ⟨G, q, none⟩ (Value.string v) := ⟨_, rfl⟩
    rw [← hw4]
    have b4 : Blk w4 R (celS G c room f l.length) 50 := hw4 ▸ (H3.out.blk.other ⟨G, q, none⟩ (Value.string v) (Ne.symm hne))
    have g4 : Blk w4 G (cs.set q (Value.string v)) 9 := hw4 ▸ ((H3.out.row c0).2.2.1.set q (Value.string v))
    have hc4 : Chg (two R G0) w w4 := by
      rw [hw4]
      exact C3.out.setc ⟨G, q, none⟩ _ hFG
    rw [HN.out] at b4
    have m1 := b4.cell 1
    have m1 : w4.cell? ⟨R, 1, none⟩ = some (.slice (some ⟨G, 0, none⟩) c c) := by rw [m1]; show some (plcS G c) = _; unfold plcS; rw [if_neg (by omega)]
    have m2 : w4.cell? ⟨R, 2, none⟩ = some (.int .i64 f) := b4.cell 2
    have m3 : w4.cell? ⟨R, 3, none⟩ = some (.int .i64 n) := b4.cell 3
    have mf := b4.free
    refine hK.out _ _ ⟨m1, m2, m3⟩ (fun _ => ?_)
    clear hK K
    refine wpAnyH_done (by kernel_rfl) ?_ _
    have C4 := Lib.hid hc4; have B4 := Lib.hid b4; have G4 := Lib.hid g4
    clear hS3 hg3 hf3 hw4 hc4 b4 g4 m1 m2
    go_wp2
    go_ret
    have hR := B4.out.set 3 (.int .i64 ((n + 1 : Nat) : Int))
    have hG := G4.out.other ⟨R, 3, none⟩ (.int .i64 ((n + 1 : Nat) : Int)) hne
    rw [QE.out, ← HN.out] at hG
    rw [← HN.out] at hR
    have hFin := H3.out.pushed v (by rw [HN.out]; exact hnc) hR hG
    rw [HN.out] at hFin
    exact ⟨rfl, ⟨G, _, _, _, .inr hGnew, hFin⟩, C4.out.trans (Chg.setCell _ ⟨R, 3, none⟩ _ hFR)⟩
  · unfold plcS at z1
    rw [if_neg (by omega)] at z1
    have H := Lib.hid h
    clear cl cr h hn
    go_enter Try.func19, Try.ntmps19
    go_wp2_with (first | (go_at_call 20; refine CL.out.mono ?_; rintro e w' ⟨rfl, rfl⟩) | (go_at_call 26; refine CR.out.mono ?_; rintro e w' ⟨rfl, rfl⟩))
    go_quiet (fail)
    clear z1 z3
    obtain ⟨w1, hw1⟩ : ∃ x, x = w.drewN nq := ⟨_, rfl⟩
    have hr1 : RingS w1 R G0 room f0 c0' cs0 l := by rw [hw1]; exact H.out.drewN nq
    have hs1 : w1.heap.size = w.heap.size := by rw [hw1]; rfl
    have hc1 : Chg (two R G0) w w1 := by rw [hw1]; exact Chg.drewN _ _ _
    have cg := growS_at R G0 room f0 c0' cs0 l w1 hr1 HN.out hroom
    have CG := Lib.hid cg; have C1 := Lib.hid hc1
    rw [← hw1]
    clear hw1 cg hr1 hc1
    try clear hcn
    go_wp2_with fail
    refine CG.out.mono ?_
    rintro e w2 ⟨rfl, ⟨G, c, cs, hGn, hnc, hr⟩, hc2⟩
    obtain ⟨n, rfl⟩ : ∃ n, n = c0' := ⟨_, rfl⟩
    obtain ⟨f, hf0⟩ : ∃ f, f = 0 := ⟨_, rfl⟩
    rw [← hf0] at hr
    have hc1 : Chg (two R G0) w w2 := C1.out.trans (hc2.mono fun k _ h => .inl h)
    have hGnew : w.heap.size ≤ G := by omega
    clear hf0 hc2 hGn hs1
    have c0 : 0 < c := by omega
    have hFG : two R G0 G ∨ w.heap.size ≤ G := .inr hGnew
    have hFR : two R G0 R := .inl rfl
    obtain ⟨hf, hne, hg, hl⟩ := hr.row c0
    have k1 := hr.c1
    unfold plcS at k1
    rw [if_neg (by omega)] at k1
    have k2 := hr.c2
    have k3 := hr.c3
    rw [HN.out] at k3
    have hq : (f + n) % c < c := Nat.mod_lt _ c0
    have hca := hr.cap; have hto := hr.top
    have cp := fun w h1 h2 => placeS_at R G c f n w h1 h2 c0 hf (by omega) (by omega)
    obtain ⟨q, hqe⟩ : ∃ q, q = (f + n) % c := ⟨_, rfl⟩
    rw [← hqe] at hq cp
    have kg := hg.cell q
    rw [List.getElem?_eq_getElem (by omega)] at kg
    obtain ⟨u, hu⟩ : ∃ u, u = cs[q] := ⟨_, rfl⟩
    rw [← hu] at kg
    have kf := hg.free q
    have CP := Lib.hid cp; have H1 := Lib.hid hr; have C1 := Lib.hid hc1; have QE := Lib.hid hqe
    clear cp hr hc1 hqe hg hl hu
    go_wp2
    refine wp_region_held_drew (S := fun w' => w'.cell? ⟨R, 1, none⟩ = some (.slice (some ⟨G, 0, none⟩) c c) ∧ w'.cell? ⟨R, 2, none⟩ = some (.int .i64 f) ∧ w'.cell? ⟨R, 3, none⟩ = some (.int .i64 n)) (by kernel_rfl) (by simp [go_sem, k1, k2, k3]) (fun hHeld => ?_)
    simp only [List.size_toArray, List.length_cons, List.length_nil, Nat.reduceAdd]
    rw [show Array.replicate 13 false = [false, false, false, false, false, false, false, false, false, false, false, false, false].toArray from rfl]
    refine wpAnyH_take (i := 0) (v := ?_) rfl (by kernel_rfl) (by kernel_rfl) (by kernel_rfl) (fun _ _ _ h => h) (Or.inl ⟨by rfl, ?yldq⟩) (by assumption) ?_
    case yldq => (intro w hSw; (try dsimp only at hSw); go_simp; try with_reducible rfl)
    try simp only [Act.put, List.setIfInBounds_toArray, List.set_cons_zero, List.set_cons_succ, List.getElem_toArray, List.getElem_cons_succ, List.getElem_cons_zero]
    refine wpAnyH_take (i := 1) (v := ?_) rfl (by kernel_rfl) (by kernel_rfl) (by kernel_rfl) (fun _ _ _ h => h) (Or.inl ⟨by rfl, ?yldq⟩) (by assumption) ?_
    case yldq => (intro w hSw; (try dsimp only at hSw); go_simp; try with_reducible rfl)
    try simp only [Act.put, List.setIfInBounds_toArray, List.set_cons_zero, List.set_cons_succ, List.getElem_toArray, List.getElem_cons_succ, List.getElem_cons_zero]
    refine wpAnyH_take (i := 2) (v := ?_) rfl (by kernel_rfl) (by kernel_rfl) (by kernel_rfl) (fun _ _ _ h => h) (Or.inl ⟨by rfl, ?yldq⟩) (by assumption) ?_
    case yldq => (intro w hSw; (try dsimp only at hSw); go_simp; try with_reducible rfl)
    try simp only [Act.put, List.setIfInBounds_toArray, List.set_cons_zero, List.set_cons_succ, List.getElem_toArray, List.getElem_cons_succ, List.getElem_cons_zero]
    refine wpAnyH_take (i := 3) (v := ?_) rfl (by kernel_rfl) (by kernel_rfl) (by kernel_rfl) (fun _ _ _ h => h) (Or.inl ⟨by rfl, ?yldq⟩) (by assumption) ?_
    case yldq => (intro w hSw; (try dsimp only at hSw); go_simp; try with_reducible rfl)
    try simp only [Act.put, List.setIfInBounds_toArray, List.set_cons_zero, List.set_cons_succ, List.getElem_toArray, List.getElem_cons_succ, List.getElem_cons_zero]
    refine wpAnyH_take (i := 4) (v := ?_) rfl (by kernel_rfl) (by kernel_rfl) (by kernel_rfl) (fun _ _ _ h => h) (Or.inl ⟨by rfl, ?yldq⟩) (by assumption) ?_
    case yldq => (intro w hSw; (try dsimp only at hSw); go_simp; try with_reducible rfl)
    try simp only [Act.put, List.setIfInBounds_toArray, List.set_cons_zero, List.set_cons_succ, List.getElem_toArray, List.getElem_cons_succ, List.getElem_cons_zero]
    refine wpAnyH_take (i := 5) (v := ?_) rfl (by kernel_rfl) (by kernel_rfl) (by kernel_rfl) (fun _ _ _ h => h) (Or.inl ⟨by rfl, ?yldq⟩) (by assumption) ?_
    case yldq => (intro w hSw; (try dsimp only at hSw); go_simp; try with_reducible rfl)
    try simp only [Act.put, List.setIfInBounds_toArray, List.set_cons_zero, List.set_cons_succ, List.getElem_toArray, List.getElem_cons_succ, List.getElem_cons_zero]
    refine wpAnyH_take (i := 6) (v := ?_) rfl (by kernel_rfl) (by kernel_rfl) (by kernel_rfl) (fun _ _ _ h => h) (Or.inl ⟨by rfl, ?yldq⟩) (by assumption) ?_
    case yldq => (intro w hSw; (try dsimp only at hSw); go_simp; try with_reducible rfl)
    try simp only [Act.put, List.setIfInBounds_toArray, List.set_cons_zero, List.set_cons_succ, List.getElem_toArray, List.getElem_cons_succ, List.getElem_cons_zero]
    refine wpAnyH_take (i := 7) (v := ?_) rfl (by kernel_rfl) (by kernel_rfl) (by kernel_rfl) (fun _ _ _ h => h) (Or.inl ⟨by rfl, ?yldq⟩) (by assumption) ?_
    case yldq => (intro w hSw; (try dsimp only at hSw); go_simp; try with_reducible rfl)
    try simp only [Act.put, List.setIfInBounds_toArray, List.set_cons_zero, List.set_cons_succ, List.getElem_toArray, List.getElem_cons_succ, List.getElem_cons_zero]
    refine wpAnyH_take (i := 8) (v := ?_) rfl (by kernel_rfl) (by kernel_rfl) (by kernel_rfl) (fun _ _ _ h => h) (Or.inl ⟨by rfl, ?yldq⟩) (by assumption) ?_
    case yldq => (intro w hSw; (try dsimp only at hSw); go_simp; try with_reducible rfl)
    try simp only [Act.put, List.setIfInBounds_toArray, List.set_cons_zero, List.set_cons_succ, List.getElem_toArray, List.getElem_cons_succ, List.getElem_cons_zero]
    refine wpAnyH_take (i := 10) (v := ?_) rfl (by kernel_rfl) (by kernel_rfl) (by kernel_rfl) (fun _ _ _ h => h) (Or.inl ⟨by rfl, ?yldq⟩) (by assumption) ?_
    case yldq => (intro w hSw; (try dsimp only at hSw); go_simp; try with_reducible rfl)
    try simp only [Act.put, List.setIfInBounds_toArray, List.set_cons_zero, List.set_cons_succ, List.getElem_toArray, List.getElem_cons_succ, List.getElem_cons_zero]
    refine wpAnyH_ready (rs := [9]) (by kernel_rfl) (by simp) ?_
    refine AllReadyH.cons rfl (fun K hK => ?_) AllReadyH.nil
    go_simp
    refine (CP.out _ hHeld.1 hHeld.2.1).mono ?_
    rintro e w3 ⟨rfl, n3, hw3⟩
    have hS3 : w3.cell? ⟨R, 1, none⟩ = some (.slice (some ⟨G, 0, none⟩) c c) ∧ w3.cell? ⟨R, 2, none⟩ = some (.int .i64 f) ∧ w3.cell? ⟨R, 3, none⟩ = some (.int .i64 n) := by rw [hw3]; exact ⟨hHeld.1, hHeld.2.1, hHeld.2.2⟩
    have hr3 : RingS w3 R G room f c cs l := by rw [hw3]; exact (H1.out.drewN 1).drewN n3
    have hc3 : Chg (two R G0) w w3 := by rw [hw3]; exact (C1.out.trans (Chg.drew _ _)).trans (Chg.drewN _ _ _)
    have hg3 : w3.cell? ⟨G, q, none⟩ = some u := by rw [hw3]; exact kg
    have hf3 := (hr3.row c0).2.2.1.free q
    have H3 := Lib.hid hr3; have C3 := Lib.hid hc3
    clear hw3 hr3 hc3 kg kf hHeld k1 k2 k3
    refine hK.out _ _ hS3 (fun _ => ?_)
    clear hK K
    refine wpAnyH_take (i := 11) (v := ?_) rfl (by kernel_rfl) (by kernel_rfl) (by kernel_rfl) (fun _ _ _ h => h) (Or.inl ⟨by rfl, ?yldq⟩) (by assumption) ?_
    case yldq => (intro w hSw; (try dsimp only at hSw); go_simp; try with_reducible rfl)
    try simp only [Act.put, List.setIfInBounds_toArray, List.set_cons_zero, List.set_cons_succ, List.getElem_toArray, List.getElem_cons_succ, List.getElem_cons_zero]
    refine wpAnyH_ready (rs := [12]) (by kernel_rfl) (by simp) ?_
    refine AllReadyH.cons rfl (fun K hK => ?_) AllReadyH.nil
    go_simp
    obtain ⟨w4, hw4⟩ : ∃ x, x = w3.setCell ⟨G, q, none⟩ (Value.string v) := ⟨_, rfl⟩
    rw [← hw4]
    have b4 : Blk w4 R (celS G c room f l.length) 50 := hw4 ▸ (H3.out.blk.other ⟨G, q, none⟩ (Value.string v) (Ne.symm hne))
    have g4 : Blk w4 G (cs.set q (Value.string v)) 9 := hw4 ▸ ((H3.out.row c0).2.2.1.set q (Value.string v))
    have hc4 : Chg (two R G0) w w4 := by
      rw [hw4]
      exact C3.out.setc ⟨G, q, none⟩ _ hFG
    rw [HN.out] at b4
    have m1 := b4.cell 1
    have m1 : w4.cell? ⟨R, 1, none⟩ = some (.slice (some ⟨G, 0, none⟩) c c) := by rw [m1]; show some (plcS G c) = _; unfold plcS; rw [if_neg (by omega)]
    have m2 : w4.cell? ⟨R, 2, none⟩ = some (.int .i64 f) := b4.cell 2
    have m3 : w4.cell? ⟨R, 3, none⟩ = some (.int .i64 n) := b4.cell 3
    have mf := b4.free
    refine hK.out _ _ ⟨m1, m2, m3⟩ (fun _ => ?_)
    clear hK K
    refine wpAnyH_done (by kernel_rfl) ?_ _
    have C4 := Lib.hid hc4; have B4 := Lib.hid b4; have G4 := Lib.hid g4
    clear hS3 hg3 hf3 hw4 hc4 b4 g4 m1 m2
    go_wp2
    go_ret
    have hR := B4.out.set 3 (.int .i64 ((n + 1 : Nat) : Int))
    have hG := G4.out.other ⟨R, 3, none⟩ (.int .i64 ((n + 1 : Nat) : Int)) hne
    rw [QE.out, ← HN.out] at hG
    rw [← HN.out] at hR
    have hFin := H3.out.pushed v (by rw [HN.out]; exact hnc) hR hG
    rw [HN.out] at hFin
    exact ⟨rfl, ⟨G, _, _, _, .inr hGnew, hFin⟩, C4.out.trans (Chg.setCell _ ⟨R, 3, none⟩ _ hFR)⟩
end Go.Proofs.Yteepofehjofeaaa
