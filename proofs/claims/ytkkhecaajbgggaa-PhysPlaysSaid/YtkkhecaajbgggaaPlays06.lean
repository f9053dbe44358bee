/-
  PhysPlays: the walk over the translation.
-/
import Derived.Test.YtkkhecaajbgggaaJoin06
import Derived.Deep.RegionHeld
import Derived.Laws.AppendOwnNone
namespace Go.Proofs.Ytkkhecaajbgggaa
open Go.RowKit
set_option linter.unusedVariables false
set_option linter.unusedSimpArgs false

/-- an act that came in -/
structure ActN where
  kind : Int
  size : Int
  frame : Int
  at_ : Nat
  v : Int
  A : Option Addr
  n : Nat
  c : Nat
  l : List Int
structure IsAct (w : World) (b o : Nat) (x : ActN) : Prop where
  c0 : w.cell? ⟨b, o, none⟩ = some (.int .i64 x.kind)
  c1 : w.cell? ⟨b, o + 1, none⟩ = some (.int .i64 x.size)
  c2 : w.cell? ⟨b, o + 2, none⟩ = some (.int .i64 x.frame)
  c3 : w.cell? ⟨b, o + 3, none⟩ = some (.int .u64 x.at_)
  c4 : w.cell? ⟨b, o + 4, none⟩ = some (.int .u64 x.v)
  c5 : w.cell? ⟨b, o + 5, none⟩ = some (.slice x.A x.n x.c)
  ia : x.at_ ≤ 18446744073709551615
  v0 : 0 ≤ x.v
  v1 : x.v ≤ 18446744073709551615
  rd : Rd w x.A x.l
  ln : x.l.length = x.n
  le : x.n ≤ x.c
  nil : x.A = none → x.n = 0 ∧ x.c = 0
/-- what stands apart from the two memories -/
structure Off (w : World) (mp rm bx : Nat) (F : Nat → Prop) (vv : Value) (g : Nat) : Prop where
  n0 : ¬ F g
  n1 : g ≠ mp
  n2 : g ≠ rm
  n3 : vv.ownBlock ≠ some g
  n4 : bx ≠ g
  n5 : w.heap.size ≤ g
/-- a slice of bytes of the call's own, apart from the two memories -/
def Inc (w wr : World) (mp rm bx : Nat) (F : Nat → Prop) (vv : Value) (A : Option Addr) (n : Nat) : Prop :=
  0 < n → ∃ g cs t, A = some ⟨g, 0, none⟩ ∧ Off w mp rm bx F vv g ∧ Blk wr g cs t ∧ ∀ j, j < n → ∃ d, cs[j]? = some (.int .u8 d) ∧ 0 ≤ d ∧ d ≤ 255
theorem Pair.off {w w1 w2 : World} {mp rm fr k bx g : Nat} {F : Nat → Prop} {vv : Value} {C : Nat → List Int} {L : List (Nat × Int)} (T : Pair w w1 mp rm fr k F vv C L) (h : Off w mp rm bx F vv g) (hc : Chg (fun j => j = g) w1 w2) : Pair w w2 mp rm fr k F vv C L :=
  ⟨T.mem.chg hc (fun e => h.n1 e.symm) (fun j hj e => h.n0 (e ▸ hj)), T.ref.chg hc (fun e => h.n2 e.symm) (fun j hj e => h.n3 (e ▸ hj)), T.agr, T.len, T.kk, T.fF, T.fV, T.s1, T.s2, T.s3, T.bm, T.br, T.chg.thenExt hc (fun j hj => .inr (hj ▸ h.n5))⟩
theorem Pair.up {w w1 : World} {mp rm fr k : Nat} {F : Nat → Prop} {vv : Value} {C : Nat → List Int} {L : List (Nat × Int)} (T : Pair w w1 mp rm fr k F vv C L) (hk : k < 100) : Pair w w1 mp rm fr (k + 1) F vv C L :=
  ⟨T.mem.mono (by omega), T.ref, T.agr, by have := T.len; omega, by omega, T.fF, T.fV, T.s1, T.s2, T.s3, T.bm, T.br, T.chg⟩
theorem own_take {w : World} {B n : Nat} {v : Value} {l : List Int} (h : w.ownsRow B 5 1 v n (l.map (Value.int .u8))) (hb : Byt l) (hm : n ≤ 9223372036854775807) :
    ∃ A c, v = .slice A n c ∧ Rd w A l ∧ (∀ b off, A = some ⟨b, off, none⟩ → B ≤ b) ∧ (0 < n → ∃ g cs, A = some ⟨g, 0, none⟩ ∧ B ≤ g ∧ Blk w g cs 5 ∧ ∀ j, j < n → ∃ d, cs[j]? = some (.int .u8 d) ∧ 0 ≤ d ∧ d ≤ 255) := by
  have hl : l.length = n := by have := h.1; simpa using this
  rcases h.2 with ⟨rfl, h0⟩ | ⟨g, cap, cur, rfl, hB, hg, hn, hmx, hcs, ht⟩
  · have : l = [] := List.length_eq_zero_iff.1 (by omega)
    subst this
    exact ⟨none, 0, by rw [h0], ⟨hb, by simp, fun h => by simp at h⟩, fun b off e => by (cases e), fun h => by omega⟩
  · have at_ : ∀ j, j < n → cur.toList[j]? = some (.int .u8 (l.getD j 0)) := fun j hj => by
      have e : (cur.toList.take (n * 1))[j]? = some (.int .u8 (l.getD j 0)) := by
        rw [ht, List.getElem?_map, List.getD_eq_getElem?_getD, List.getElem?_eq_getElem (by omega)]; rfl
      rw [List.getElem?_take_of_lt (by omega)] at e
      exact e
    have hblk : Blk w g cur.toList 5 := by unfold Blk; rw [hg]
    refine ⟨_, cap, rfl, ⟨hb, by omega, fun _ => ⟨g, 0, rfl, fun i hi => ?_⟩⟩, fun b off e => by injection e with e; injection e with e; omega, fun _ => ⟨g, cur.toList, rfl, hB, hblk, fun j hj => ⟨_, at_ j hj, (hb.getD j).1, (hb.getD j).2⟩⟩⟩
    rw [Nat.zero_add, hblk.cell i]
    exact at_ i (by omega)
theorem inc_set {cs : List Value} {n j : Nat} {d : Int} (h : ∀ j, j < n → ∃ d, cs[j]? = some (.int .u8 d) ∧ 0 ≤ d ∧ d ≤ 255) (hd : 0 ≤ d ∧ d ≤ 255) : ∀ i, i < n → ∃ e, (cs.set j (.int .u8 d))[i]? = some (.int .u8 e) ∧ 0 ≤ e ∧ e ≤ 255 := fun i hi => by
  obtain ⟨e, he, h0, h1⟩ := h i hi
  by_cases hij : j = i
  · subst hij
    have hlt : j < cs.length := by
      rcases Nat.lt_or_ge j cs.length with h | h
      · exact h
      · rw [List.getElem?_eq_none h] at he; cases he
    exact ⟨d, by rw [List.getElem?_set_self hlt], hd⟩
  · exact ⟨e, by rw [List.getElem?_set_ne hij]; exact he, h0, h1⟩
def IsActs (w : World) (A : Option Addr) (n : Nat) : Prop := 0 < n → ∃ b off, A = some ⟨b, off, none⟩ ∧ ∀ i, i < n → ∃ x, IsAct w b (off + i * 6) x
set_option maxRecDepth 100000 in
set_option maxHeartbeats 4000000 in
theorem plays_walk (r : Nat) (A : Option Addr) (len cap : Nat) (w : World) (hr : r ≤ 255) (hs : IsActs w A len) (hl : len ≤ 9223372036854775807) :
    Calls Try.prog 3 #[.int .u8 r, .slice A len cap] w fun e w' => e = .returned (.bool true) ∧ Below w.heap.size w w' := by
  obtain ⟨i0, hi, hz0, hz1, hz2⟩ := info_parts info_u8
  obtain ⟨fr, hfr⟩ : ∃ fr : Nat, fr = 1 + r % 4 := ⟨_, rfl⟩
  have hfi : (1 : Int) + (r : Int) % 4 = (fr : Int) := by omega
  have hf1 : 1 ≤ fr := by omega
  have hf4 : fr ≤ 4 := by omega
  have hf := first_true w
  have hnew := fun w => newX fr w hf1 (by omega)
  have HF := Lib.hid hf; have HN := Lib.hid hnew; have HS := Lib.hid hs
  clear hf hnew hs hfr
  go_enter Try.func3, Try.ntmps3
  go_wp2_with fail
  refine HF.out.mono ?_
  rintro e w1 ⟨rfl, hc1⟩
  have HC1 := Lib.hid hc1; clear hc1
  go_wp2_with fail
  refine (HN.out w1).mono ?_
  rintro e w2 ⟨mp, F2, rfl, hmp, hF2, hM2, hc2⟩
  have hb3 := Blk.new w2 [.int .i64 fr, .slice none 0 0] 31
  have hc3 : Chg no w2 (w2.alloc (.cells #[.int .i64 fr, .slice none 0 0] 31)) := Chg.alloc _ _ _
  have hP : Pair w (w2.alloc (.cells #[.int .i64 fr, .slice none 0 0] 31)) mp w2.heap.size fr 0 F2 (.slice none 0 0) (fun _ => List.replicate 4096 0) [] := by
    have z1 := HC1.out.size
    have z2 := hc2.size
    have hlt := hM2.lt
    have hml := hM2.mplt
    exact ⟨hM2.chg hc3 (fun h => h) (fun _ _ h => h), refNil hb3, Agree.zero, Nat.le_refl _, by omega, fun j hj => by have := hF2 j hj; omega, fun j hj => (by cases hj), fun h => by have := hlt _ h; omega, fun j hj => (by cases hj), by omega, by omega, by omega, (HC1.out.trans hc2).trans hc3⟩
  obtain ⟨rm, hrm⟩ : ∃ rm, rm = w2.heap.size := ⟨_, rfl⟩
  rw [← hrm] at hP
  have HP := Lib.hid hP
  have HRM := Lib.hid hrm
  clear hb3 hc3 hP hmp hF2 hM2 hc2
  go_wp2
  rw [← HRM.out]
  clear hrm
  go_loopw [42] (fun i wr => ∃ (k : Nat) (F : Nat → Prop) (vv : Value) (C : Nat → List Int) (L : List (Nat × Int)), k ≤ len ∧ k ≤ 60 ∧ i = .int .i64 k ∧ Pair w wr mp rm fr k F vv C L) (fun i _ => len - (intOf i).toNat)
  case atStart => exact ⟨0, _, _, _, _, Nat.zero_le _, Nat.zero_le _, rfl, HP.out⟩
  case round =>
    obtain ⟨k, F, vv, C, L, hk, hk60, rfl, hT⟩ := hrel
    have T := Lib.hid hT; clear hT
    by_cases hlt : k < len
    · obtain ⟨b, off, rfl, hact⟩ := HS.out (by omega)
      obtain ⟨x, hx⟩ := hact k hlt
      have hx' : IsAct wr b (off + k * 6) x := by
        have hc := T.out.chg
        have mv : ∀ o u, w.cell? ⟨b, o, none⟩ = some u → wr.cell? ⟨b, o, none⟩ = some u := fun o u h => (World.cell?_of_block (w := w) (a := ⟨b, o, none⟩) (hc.block b (cell_lt h) (fun h => h))).trans h
        exact ⟨mv _ _ hx.c0, mv _ _ hx.c1, mv _ _ hx.c2, mv _ _ hx.c3, mv _ _ hx.c4, mv _ _ hx.c5, hx.ia, hx.v0, hx.v1, hx.rd.chg hc (fun _ _ _ h => h), hx.ln, hx.le, hx.nil⟩
      have hrw := hx.rd
      clear hx hact
      obtain ⟨kind, size, frame, a, v, B, n, c, l⟩ := x
      obtain ⟨x0, x1, x2, x3, x4, x5, xa, xv0, xv1, xr, xl, xc, xn⟩ := hx'
      simp only [] at x0 x1 x2 x3 x4 x5 xa xv0 xv1 xr xl xc xn hrw
      have XR := Lib.hid hrw; have XL := Lib.hid xl; have XN := Lib.hid xn
      clear xr xl xn hrw
      by_cases h60 : 60 ≤ k
      · have hfm := frames_at mp fr (wr.alloc (.cells #[.int .i64 kind, .int .i64 size, .int .i64 frame, .int .u64 a, .int .u64 v, .slice B n c] 35)) (T.out.any (Chg.alloc no wr (.cells #[.int .i64 kind, .int .i64 size, .int .i64 frame, .int .u64 a, .int .u64 v, .slice B n c] 35))).mem.c0
        have hfin := (T.out.any (Chg.alloc no wr (.cells #[.int .i64 kind, .int .i64 size, .int .i64 frame, .int .u64 a, .int .u64 v, .slice B n c] 35))).chg.none
        have HFM := Lib.hid hfm; have HFIN := Lib.hid hfin
        clear hfm hfin
        go_wp2_with fail
        refine HFM.out.mono ?_
        rintro e w' ⟨rfl, rfl⟩
        go_wp2
        go_ret
        exact ⟨by simp, HFIN.out⟩
      · by_cases h5 : 5000 < n
        · have hfm := frames_at mp fr (wr.alloc (.cells #[.int .i64 kind, .int .i64 size, .int .i64 frame, .int .u64 a, .int .u64 v, .slice B n c] 35)) (T.out.any (Chg.alloc no wr (.cells #[.int .i64 kind, .int .i64 size, .int .i64 frame, .int .u64 a, .int .u64 v, .slice B n c] 35))).mem.c0
          have hfin := (T.out.any (Chg.alloc no wr (.cells #[.int .i64 kind, .int .i64 size, .int .i64 frame, .int .u64 a, .int .u64 v, .slice B n c] 35))).chg.none
          have HFM := Lib.hid hfm; have HFIN := Lib.hid hfin
          clear hfm hfin
          go_wp2_with fail
          refine HFM.out.mono ?_
          rintro e w' ⟨rfl, rfl⟩
          go_wp2
          go_ret
          exact ⟨by simp, HFIN.out⟩
        · have h60' : ¬ (60 : Int) ≤ (k : Int) := by omega
          have h5' : ¬ (5000 : Int) < (n : Int) := by omega
          obtain ⟨t, ht⟩ : ∃ t : Int, (IntKind.u64.wrap kind).tmod 5 = t := ⟨_, rfl⟩
          by_cases t0 : t = 0
          · obtain ⟨w3, hw3⟩ : ∃ x, x = wr.alloc (.cells #[.int .i64 kind, .int .i64 size, .int .i64 frame, .int .u64 a, .int .u64 v, .slice B n c] 35) := ⟨_, rfl⟩
            obtain ⟨bx, hbxe⟩ : ∃ x, x = wr.heap.size := ⟨_, rfl⟩
            have hT3 : Pair w w3 mp rm fr k F vv C L := by rw [hw3]; exact T.out.any (Chg.alloc _ _ _)
            have hbx : Blk w3 bx [.int .i64 kind, .int .i64 size, .int .i64 frame, .int .u64 a, .int .u64 v, .slice B n c] 35 := by rw [hw3, hbxe]; exact Blk.new wr [.int .i64 kind, .int .i64 size, .int .i64 frame, .int .u64 a, .int .u64 v, .slice B n c] _
            have hbF : ∀ j, F j → j < bx := fun j hj => by rw [hbxe]; exact T.out.mem.lt j hj
            have hbV : ∀ j, vv.ownBlock = some j → j < bx := fun j hj => by rw [hbxe]; exact (T.out.ref.own.lt j hj).2
            have hbm : mp < bx := by rw [hbxe]; exact T.out.mem.mplt
            have hbr : rm < bx := by rw [hbxe]; exact T.out.ref.blk.lt
            have hbw : w.heap.size ≤ bx := by rw [hbxe]; exact T.out.chg.size
            have hbl : bx < w3.heap.size := hbx.lt
            have T3 := Lib.hid hT3; have BX3 := Lib.hid hbx; have BF := Lib.hid hbF; have BV := Lib.hid hbV
            clear hT3 hbx hbF hbV
            rw [t0] at ht
            go_wp2_with fail
            rw [← hw3, ← hbxe]
            clear hw3 hbxe T x0 x1 x2 x3 x4 x5
            have hT4 : Pair w w3.drew mp rm fr k F vv C L := T3.out.any (Chg.drew _ _)
            have hb4 : Blk w3.drew bx [.int .i64 kind, .int .i64 size, .int .i64 frame, .int .u64 a, .int .u64 v, .slice B n c] 35 := BX3.out.chg (Chg.drew no w3) (fun h => h)
            obtain ⟨w4, hw4⟩ : ∃ x, x = w3.drew := ⟨_, rfl⟩
            rw [← hw4] at hT4 hb4
            have hst := store_any mp fr k a size v C F w4 hT4.mem xa (by omega) xv0 xv1
            have hrs := fun W h => rstore_any rm fr a size v vv L W h (by have := hT4.len; omega) xa (by omega) xv0 xv1
            have T4 := Lib.hid hT4; have BX4 := Lib.hid hb4
            have y1 : w4.cell? ⟨bx, 1, none⟩ = some (.int .i64 size) := hb4.cell 1
            have y3 : w4.cell? ⟨bx, 3, none⟩ = some (.int .u64 a) := hb4.cell 3
            have y4 : w4.cell? ⟨bx, 4, none⟩ = some (.int .u64 v) := hb4.cell 4
            obtain ⟨E, hE⟩ : ∃ E, E = errL fr a size := ⟨_, rfl⟩
            rw [← hE] at hst hrs
            have HST := Lib.hid hst; have HRS := Lib.hid hrs
            clear hT4 hb4 hst hrs hE
            refine wp_region_held_drew (S := fun w' => w'.cell? ⟨bx, 1, none⟩ = some (.int .i64 size) ∧ w'.cell? ⟨bx, 3, none⟩ = some (.int .u64 a) ∧ w'.cell? ⟨bx, 4, none⟩ = some (.int .u64 v)) (by kernel_rfl) (by rw [← hw4]; exact ⟨y1, y3, y4⟩) (fun hHeld => ?_)
            rw [← hw4] at hHeld ⊢
            clear hw4 y1 y3 y4
            simp only [List.size_toArray, List.length_cons, List.length_nil, Nat.reduceAdd]
            rw [show Array.replicate 17 false = [false, false, false, false, false, false, false, false, false, false, false, false, false, false, false, false, false].toArray from rfl]
            refine wpAnyH_take (i := 0) (v := ?_) rfl (by kernel_rfl) (by kernel_rfl) (by kernel_rfl) (fun _ _ _ h => h) (Or.inl ⟨by rfl, ?yldq⟩) (by assumption) ?_
            case yldq => (intro w hSw; (try dsimp only at hSw); go_simp; try with_reducible rfl)
            try simp only [Act.put, List.setIfInBounds_toArray, List.set_cons_zero, List.set_cons_succ, List.getElem_toArray, List.getElem_cons_succ, List.getElem_cons_zero]
            refine wpAnyH_take (i := 1) (v := ?_) rfl (by kernel_rfl) (by kernel_rfl) (by kernel_rfl) (fun _ _ _ h => h) (Or.inl ⟨by rfl, ?yldq⟩) (by assumption) ?_
            case yldq => (intro w hSw; (try dsimp only at hSw); go_simp; try with_reducible rfl)
            try simp only [Act.put, List.setIfInBounds_toArray, List.set_cons_zero, List.set_cons_succ, List.getElem_toArray, List.getElem_cons_succ, List.getElem_cons_zero]
            refine wpAnyH_take (i := 2) (v := ?_) rfl (by kernel_rfl) (by kernel_rfl) (by kernel_rfl) (fun _ _ _ h => h) (Or.inl ⟨by rfl, ?yldq⟩) (by assumption) ?_
            case yldq => (intro w hSw; (try dsimp only at hSw); go_simp; try with_reducible rfl)
            try simp only [Act.put, List.setIfInBounds_toArray, List.set_cons_zero, List.set_cons_succ, List.getElem_toArray, List.getElem_cons_succ, List.getElem_cons_zero]
            refine wpAnyH_take (i := 3) (v := ?_) rfl (by kernel_rfl) (by kernel_rfl) (by kernel_rfl) (fun _ _ _ h => h) (Or.inl ⟨by rfl, ?yldq⟩) (by assumption) ?_
            case yldq => (intro w hSw; (try dsimp only at hSw); go_simp; try with_reducible rfl)
            try simp only [Act.put, List.setIfInBounds_toArray, List.set_cons_zero, List.set_cons_succ, List.getElem_toArray, List.getElem_cons_succ, List.getElem_cons_zero]
            refine wpAnyH_take (i := 4) (v := ?_) rfl (by kernel_rfl) (by kernel_rfl) (by kernel_rfl) (fun _ _ _ h => h) (Or.inl ⟨by rfl, ?yldq⟩) (by assumption) ?_
            case yldq => (intro w hSw; (try dsimp only at hSw); go_simp; try with_reducible rfl)
            try simp only [Act.put, List.setIfInBounds_toArray, List.set_cons_zero, List.set_cons_succ, List.getElem_toArray, List.getElem_cons_succ, List.getElem_cons_zero]
            refine wpAnyH_take (i := 5) (v := ?_) rfl (by kernel_rfl) (by kernel_rfl) (by kernel_rfl) (fun _ _ _ h => h) (Or.inl ⟨by rfl, ?yldq⟩) (by assumption) ?_
            case yldq => (intro w hSw; (try dsimp only at hSw); go_simp; try with_reducible rfl)
            try simp only [Act.put, List.setIfInBounds_toArray, List.set_cons_zero, List.set_cons_succ, List.getElem_toArray, List.getElem_cons_succ, List.getElem_cons_zero]
            refine wpAnyH_take (i := 6) (v := ?_) rfl (by kernel_rfl) (by kernel_rfl) (by kernel_rfl) (fun _ _ _ h => h) (Or.inl ⟨by rfl, ?yldq⟩) (by assumption) ?_
            case yldq => (intro w hSw; (try dsimp only at hSw); go_simp; try with_reducible rfl)
            try simp only [Act.put, List.setIfInBounds_toArray, List.set_cons_zero, List.set_cons_succ, List.getElem_toArray, List.getElem_cons_succ, List.getElem_cons_zero]
            refine wpAnyH_take (i := 8) (v := ?_) rfl (by kernel_rfl) (by kernel_rfl) (by kernel_rfl) (fun _ _ _ h => h) (Or.inl ⟨by rfl, ?yldq⟩) (by assumption) ?_
            case yldq => (intro w hSw; (try dsimp only at hSw); go_simp; try with_reducible rfl)
            try simp only [Act.put, List.setIfInBounds_toArray, List.set_cons_zero, List.set_cons_succ, List.getElem_toArray, List.getElem_cons_succ, List.getElem_cons_zero]
            refine wpAnyH_take (i := 9) (v := ?_) rfl (by kernel_rfl) (by kernel_rfl) (by kernel_rfl) (fun _ _ _ h => h) (Or.inl ⟨by rfl, ?yldq⟩) (by assumption) ?_
            case yldq => (intro w hSw; (try dsimp only at hSw); go_simp; try with_reducible rfl)
            try simp only [Act.put, List.setIfInBounds_toArray, List.set_cons_zero, List.set_cons_succ, List.getElem_toArray, List.getElem_cons_succ, List.getElem_cons_zero]
            refine wpAnyH_take (i := 10) (v := ?_) rfl (by kernel_rfl) (by kernel_rfl) (by kernel_rfl) (fun _ _ _ h => h) (Or.inl ⟨by rfl, ?yldq⟩) (by assumption) ?_
            case yldq => (intro w hSw; (try dsimp only at hSw); go_simp; try with_reducible rfl)
            try simp only [Act.put, List.setIfInBounds_toArray, List.set_cons_zero, List.set_cons_succ, List.getElem_toArray, List.getElem_cons_succ, List.getElem_cons_zero]
            refine wpAnyH_take (i := 11) (v := ?_) rfl (by kernel_rfl) (by kernel_rfl) (by kernel_rfl) (fun _ _ _ h => h) (Or.inl ⟨by rfl, ?yldq⟩) (by assumption) ?_
            case yldq => (intro w hSw; (try dsimp only at hSw); go_simp; try with_reducible rfl)
            try simp only [Act.put, List.setIfInBounds_toArray, List.set_cons_zero, List.set_cons_succ, List.getElem_toArray, List.getElem_cons_succ, List.getElem_cons_zero]
            refine wpAnyH_take (i := 12) (v := ?_) rfl (by kernel_rfl) (by kernel_rfl) (by kernel_rfl) (fun _ _ _ h => h) (Or.inl ⟨by rfl, ?yldq⟩) (by assumption) ?_
            case yldq => (intro w hSw; (try dsimp only at hSw); go_simp; try with_reducible rfl)
            try simp only [Act.put, List.setIfInBounds_toArray, List.set_cons_zero, List.set_cons_succ, List.getElem_toArray, List.getElem_cons_succ, List.getElem_cons_zero]
            refine wpAnyH_take (i := 13) (v := ?_) rfl (by kernel_rfl) (by kernel_rfl) (by kernel_rfl) (fun _ _ _ h => h) (Or.inl ⟨by rfl, ?yldq⟩) (by assumption) ?_
            case yldq => (intro w hSw; (try dsimp only at hSw); go_simp; try with_reducible rfl)
            try simp only [Act.put, List.setIfInBounds_toArray, List.set_cons_zero, List.set_cons_succ, List.getElem_toArray, List.getElem_cons_succ, List.getElem_cons_zero]
            refine wpAnyH_take (i := 14) (v := ?_) rfl (by kernel_rfl) (by kernel_rfl) (by kernel_rfl) (fun _ _ _ h => h) (Or.inl ⟨by rfl, ?yldq⟩) (by assumption) ?_
            case yldq => (intro w hSw; (try dsimp only at hSw); go_simp; try with_reducible rfl)
            try simp only [Act.put, List.setIfInBounds_toArray, List.set_cons_zero, List.set_cons_succ, List.getElem_toArray, List.getElem_cons_succ, List.getElem_cons_zero]
            refine wpAnyH_ready (rs := [7]) (by kernel_rfl) (by simp) ?_
            refine AllReadyH.cons rfl (fun K hK => ?_) AllReadyH.nil
            go_simp
            refine HST.out.mono ?_
            rintro e w5 ⟨rfl, F5, hM5, hx5, hc5⟩
            have hb5 := BX4.out.chg hc5 (fun h => by have := BF.out _ h; omega)
            have hr5 := T4.out.ref1 hc5
            have HM5 := Lib.hid hM5; have HX5 := Lib.hid hx5; have HC5 := Lib.hid hc5; have BX5 := Lib.hid hb5; have HR5 := Lib.hid hr5
            have hS5 : w5.cell? ⟨bx, 1, none⟩ = some (.int .i64 size) ∧ w5.cell? ⟨bx, 3, none⟩ = some (.int .u64 a) ∧ w5.cell? ⟨bx, 4, none⟩ = some (.int .u64 v) := ⟨hb5.cell 1, hb5.cell 3, hb5.cell 4⟩
            clear hM5 hx5 hc5 hb5 hr5 hHeld
            refine hK.out _ _ hS5 (fun _ => ?_)
            clear hK K
            refine wpAnyH_ready (rs := [15]) (by kernel_rfl) (by simp) ?_
            refine AllReadyH.cons rfl (fun K hK => ?_) AllReadyH.nil
            go_simp
            refine (HRS.out w5 HR5.out).mono ?_
            rintro e w6 ⟨rfl, v6, hr6, hn6, hc6⟩
            have hb6 := BX5.out.chg hc6 (by omega)
            have hS6 : w6.cell? ⟨bx, 1, none⟩ = some (.int .i64 size) ∧ w6.cell? ⟨bx, 3, none⟩ = some (.int .u64 a) ∧ w6.cell? ⟨bx, 4, none⟩ = some (.int .u64 v) := ⟨hb6.cell 1, hb6.cell 3, hb6.cell 4⟩
            have T6 := Lib.hid (T4.out.join HM5.out HX5.out HC5.out hr6 hn6 hc6 (st_agree T4.out.agr (by omega)) (by have := st_len fr a size v L; have := T4.out.len; omega) (by omega))
            have BX6 := Lib.hid hb6
            clear hr6 hn6 hc6 hb6 hS5 HM5 HX5 HC5 HR5 HST HRS T4
            refine hK.out _ _ hS6 (fun _ => ?_)
            clear hK K
            refine wpAnyH_take (i := 16) (v := ?_) rfl (by kernel_rfl) (by kernel_rfl) (by kernel_rfl) (fun _ _ _ h => h) (Or.inl ⟨by rfl, ?yldq⟩) (by assumption) ?_
            case yldq => (intro w hSw; (try dsimp only at hSw); go_simp; try with_reducible rfl)
            try simp only [Act.put, List.setIfInBounds_toArray, List.set_cons_zero, List.set_cons_succ, List.getElem_toArray, List.getElem_cons_succ, List.getElem_cons_zero]
            refine wpAnyH_done (by kernel_rfl) ?_ _
            clear hS6
            have y1 : w6.cell? ⟨bx, 1, none⟩ = some (.int .i64 size) := BX6.out.cell 1
            have y3 : w6.cell? ⟨bx, 3, none⟩ = some (.int .u64 a) := BX6.out.cell 3
            have hl1 := load_any mp fr (k + 1) a size (stC fr C a size v) (F5) w6 T6.out.mem xa
            have hl2 := rload_any rm fr a size (v6) (stC fr C a size v) (stL fr L a size v) w6 T6.out.ref T6.out.agr xa (by omega)
            generalize ldV fr (stC fr C a size v) a size = V1 at hl1 hl2
            generalize errL fr a size = E1 at hl1 hl2
            have HL1 := Lib.hid hl1; have HL2 := Lib.hid hl2
            clear hl1 hl2 BX6
            go_wp2_with fail
            refine HL1.out.mono ?_
            rintro e w' ⟨rfl, rfl⟩
            go_wp2_with fail
            refine HL2.out.mono ?_
            rintro e w9 ⟨rfl, hc9⟩
            have T9 := Lib.hid (T6.out.any hc9)
            clear hc9 HL1 HL2 y1 y3
            go_wp2
            go_roundw
            case rel => exact ⟨k + 1, F5, v6, stC fr C a size v, stL fr L a size v, hlt, by omega, by go_num, T9.out⟩
            case measure => simp [intOf]; omega
          · by_cases t2 : t = 2
            · obtain ⟨w3, hw3⟩ : ∃ x, x = wr.alloc (.cells #[.int .i64 kind, .int .i64 size, .int .i64 frame, .int .u64 a, .int .u64 v, .slice B n c] 35) := ⟨_, rfl⟩
              obtain ⟨bx, hbxe⟩ : ∃ x, x = wr.heap.size := ⟨_, rfl⟩
              have hT3 : Pair w w3 mp rm fr k F vv C L := by rw [hw3]; exact T.out.any (Chg.alloc _ _ _)
              have hbx : Blk w3 bx [.int .i64 kind, .int .i64 size, .int .i64 frame, .int .u64 a, .int .u64 v, .slice B n c] 35 := by rw [hw3, hbxe]; exact Blk.new wr [.int .i64 kind, .int .i64 size, .int .i64 frame, .int .u64 a, .int .u64 v, .slice B n c] _
              have hbF : ∀ j, F j → j < bx := fun j hj => by rw [hbxe]; exact T.out.mem.lt j hj
              have hbV : ∀ j, vv.ownBlock = some j → j < bx := fun j hj => by rw [hbxe]; exact (T.out.ref.own.lt j hj).2
              have hbm : mp < bx := by rw [hbxe]; exact T.out.mem.mplt
              have hbr : rm < bx := by rw [hbxe]; exact T.out.ref.blk.lt
              have hbw : w.heap.size ≤ bx := by rw [hbxe]; exact T.out.chg.size
              have hbl : bx < w3.heap.size := hbx.lt
              have T3 := Lib.hid hT3; have BX3 := Lib.hid hbx; have BF := Lib.hid hbF; have BV := Lib.hid hbV
              clear hT3 hbx hbF hbV
              rw [t2] at ht
              go_wp2_with fail
              rw [← hw3, ← hbxe]
              clear hw3 hbxe T x0 x1 x2 x3 x4 x5
              have hst := swap_any mp fr k a size v C F w3 T3.out.mem xa (by omega) xv0 xv1
              have hrl := fun W h => rload_any rm fr a size vv C L W h T3.out.agr xa (by omega)
              have hrs := fun W h => rstore_any rm fr a size v vv L W h (by have := T3.out.len; omega) xa (by omega) xv0 xv1
              obtain ⟨E, hE⟩ : ∃ E, E = errL fr a size := ⟨_, rfl⟩
              obtain ⟨V0, hV0⟩ : ∃ V, V = ldV fr C a size := ⟨_, rfl⟩
              rw [← hE] at hst hrs
              simp only [← hE, ← hV0] at hst hrl hrs
              have HST := Lib.hid hst; have HRS := Lib.hid hrs; have HRL := Lib.hid hrl
              clear hst hrs hrl hE hV0
              refine HST.out.mono ?_
              rintro e w5 ⟨rfl, F5, hM5, hx5, hc5⟩
              have hb5 := BX3.out.chg hc5 (fun h => by have := BF.out _ h; omega)
              have hr5 := T3.out.ref1 hc5
              have HM5 := Lib.hid hM5; have HX5 := Lib.hid hx5; have HC5 := Lib.hid hc5; have BX5 := Lib.hid hb5; have HR5 := Lib.hid hr5
              have y1 : w5.cell? ⟨bx, 1, none⟩ = some (.int .i64 size) := hb5.cell 1
              have y3 : w5.cell? ⟨bx, 3, none⟩ = some (.int .u64 a) := hb5.cell 3
              clear hM5 hx5 hc5 hb5 hr5
              go_wp2_with fail
              refine (HRL.out w5 HR5.out).mono ?_
              rintro e w6 ⟨rfl, hc6⟩
              have hb6 := BX5.out.chg hc6 (fun h => h)
              have hr6 := HR5.out.chg hc6 (fun h => h) (fun _ _ h => h)
              have hm6 := HM5.out.chg hc6 (fun h => h) (fun _ _ h => h)
              have hcc6 := HC5.out.trans (hc6.of_no)
              have y1' : w6.cell? ⟨bx, 1, none⟩ = some (.int .i64 size) := hb6.cell 1
              have y3' : w6.cell? ⟨bx, 3, none⟩ = some (.int .u64 a) := hb6.cell 3
              have y4' : w6.cell? ⟨bx, 4, none⟩ = some (.int .u64 v) := hb6.cell 4
              have HM6 := Lib.hid hm6; have HC6 := Lib.hid hcc6; have BX6 := Lib.hid hb6; have HR6 := Lib.hid hr6
              clear hc6 hb6 hr6 hm6 hcc6 y1 y3 HM5 HC5 BX5 HR5
              go_wp2_with fail
              refine (HRS.out w6 HR6.out).mono ?_
              rintro e w7 ⟨rfl, v7, hr7, hn7, hc7⟩
              have hb7 := BX6.out.chg hc7 (by omega)
              have T7 := Lib.hid (T3.out.join HM6.out HX5.out HC6.out hr7 hn7 hc7 (st_agree T3.out.agr (by omega)) (by have := st_len fr a size v L; have := T3.out.len; omega) (by omega))
              have BX7 := Lib.hid hb7
              clear hr7 hn7 hc7 hb7 HM6 HC6 BX6 HR6 HX5 HST HRS HRL y1' y3' y4'
              have y1 : w7.cell? ⟨bx, 1, none⟩ = some (.int .i64 size) := BX7.out.cell 1
              have y3 : w7.cell? ⟨bx, 3, none⟩ = some (.int .u64 a) := BX7.out.cell 3
              have hl1 := load_any mp fr (k + 1) a size (stC fr C a size v) (F5) w7 T7.out.mem xa
              have hl2 := rload_any rm fr a size (v7) (stC fr C a size v) (stL fr L a size v) w7 T7.out.ref T7.out.agr xa (by omega)
              generalize ldV fr (stC fr C a size v) a size = V1 at hl1 hl2
              generalize errL fr a size = E1 at hl1 hl2
              have HL1 := Lib.hid hl1; have HL2 := Lib.hid hl2
              clear hl1 hl2 BX7
              go_wp2_with fail
              refine HL1.out.mono ?_
              rintro e w' ⟨rfl, rfl⟩
              go_wp2_with fail
              refine HL2.out.mono ?_
              rintro e w9 ⟨rfl, hc9⟩
              have T9 := Lib.hid (T7.out.any hc9)
              clear hc9 HL1 HL2 y1 y3
              go_wp2
              go_roundw
              case rel => exact ⟨k + 1, F5, v7, stC fr C a size v, stL fr L a size v, hlt, by omega, by go_num, T9.out⟩
              case measure => simp [intOf]; omega
            · by_cases t4 : t = 4
              · rw [t4] at ht
                have hT3 : Pair w (wr.alloc (.cells #[.int .i64 kind, .int .i64 size, .int .i64 frame, .int .u64 a, .int .u64 v, .slice B n c] 35)) mp rm fr k F vv C L := T.out.any (Chg.alloc _ _ _)
                have hbx0 := Blk.new wr [.int .i64 kind, .int .i64 size, .int .i64 frame, .int .u64 a, .int .u64 v, .slice B n c] 35
                have hsz : (wr.alloc (.cells #[.int .i64 kind, .int .i64 size, .int .i64 frame, .int .u64 a, .int .u64 v, .slice B n c] 35)).heap.size = wr.heap.size + 1 := by simp
                have hT4 := hT3.any (Chg.alloc no _ (.cells #[] 5))
                have hb4 := hbx0.alloc (.cells #[] 5)
                have ho4 : ((wr.alloc (.cells #[.int .i64 kind, .int .i64 size, .int .i64 frame, .int .u64 a, .int .u64 v, .slice B n c] 35)).alloc (.cells #[] 5)).ownsRow (wr.heap.size + 1) 5 1 (.slice (some ⟨wr.heap.size + 1, 0, none⟩) 0 0) 0 [] := ⟨rfl, .inr ⟨wr.heap.size + 1, 0, #[], rfl, Nat.le_refl _, (by rw [← hsz]; exact heap_alloc_new _ _), Nat.le_refl _, Nat.zero_le _, rfl, rfl⟩⟩
                obtain ⟨bx, hbxe⟩ : ∃ x, x = wr.heap.size := ⟨_, rfl⟩
                have hbF : ∀ j, F j → j < bx := fun j hj => by rw [hbxe]; exact T.out.mem.lt j hj
                have hbV : ∀ j, vv.ownBlock = some j → j < bx := fun j hj => by rw [hbxe]; exact (T.out.ref.own.lt j hj).2
                have hbm : mp < bx := by rw [hbxe]; exact T.out.mem.mplt
                have hbr : rm < bx := by rw [hbxe]; exact T.out.ref.blk.lt
                have hbw : w.heap.size ≤ bx := by rw [hbxe]; exact T.out.chg.size
                have T4 := Lib.hid hT4; have BX4 := Lib.hid hb4; have HO4 := Lib.hid ho4; have BF := Lib.hid hbF; have BV := Lib.hid hbV
                clear hT3 hbx0 hT4 hb4 ho4 hbF hbV hsz
                have XNO := XN.out
                rcases B with _ | ad
                · obtain ⟨rfl, rfl⟩ := XNO rfl
                  go_wp2_with (at_builtin; refine wpList_append_own_none rfl (.tmp 154) (.tmp 156) 33 rfl (wr.heap.size + 1) 5 i0 1 Try.underlying33 hi _ 0 [] rfl HO4.out rfl ?_)
                
                  go_wp2_with fail
                  have hA3 : ∀ b off, (some ⟨bx + 1, 0, none⟩ : Option Addr) = some ⟨b, off, none⟩ → bx < b := fun b off e => by injection e with e; injection e with e; omega
                  rw [← hbxe] at BX4 ⊢
                  obtain ⟨w5, hw5⟩ : ∃ x, x = (wr.alloc (.cells #[.int .i64 kind, .int .i64 size, .int .i64 frame, .int .u64 a, .int .u64 v, .slice none 0 0] 35)).alloc (.cells #[] 5) := ⟨_, rfl⟩
                  rw [← hw5] at T4 BX4 ⊢
                  obtain ⟨A3, hA3e⟩ : ∃ A : Option Addr, A = some ⟨bx + 1, 0, none⟩ := ⟨_, rfl⟩
                  rw [← hA3e] at hA3 ⊢
                  have T5 := T4; have BX5 := BX4; have HA3 := Lib.hid hA3
                  have hl0 : l = [] := List.length_eq_zero_iff.1 XL.out
                  have RD5 : Hid (Rd w5 A3 l) := by rw [hl0]; exact (⟨Byt.nil, by simp, fun h => by simp at h⟩ : Rd w5 A3 [])
                  have IN5 : Hid (0 < 0 → ∃ g cs, A3 = some ⟨g, 0, none⟩ ∧ bx < g ∧ Blk w5 g cs 5 ∧ ∀ j, j < 0 → ∃ d, cs[j]? = some (.int .u8 d) ∧ 0 ≤ d ∧ d ≤ 255) := fun h => absurd h (Nat.lt_irrefl 0)
                  clear T4 BX4 HO4 hA3 hw5 hl0 T x0 x1 x2 x3 x4 x5 hbxe hA3e XNO
                  have hT6 : Pair w w5.drew mp rm fr k F vv C L := T5.out.any (Chg.drew _ _)
                  have hb6 : Blk w5.drew bx [.int .i64 kind, .int .i64 size, .int .i64 frame, .int .u64 a, .int .u64 v, .slice none 0 0] 35 := BX5.out.chg (Chg.drew no w5) (fun h => h)
                  have hr6 : Rd w5.drew A3 l := RD5.out.chg (Chg.drew no w5) (fun _ _ _ h => h)
                  have hi6 : 0 < 0 → ∃ g cs, A3 = some ⟨g, 0, none⟩ ∧ bx < g ∧ Blk w5.drew g cs 5 ∧ ∀ j, j < 0 → ∃ d, cs[j]? = some (.int .u8 d) ∧ 0 ≤ d ∧ d ≤ 255 := fun h0 => by
                    obtain ⟨g, cs, hg, hb, hB, hcs⟩ := IN5.out h0
                    exact ⟨g, cs, hg, hb, hB.chg (Chg.drew no w5) (fun h => h), hcs⟩
                  obtain ⟨w6, hw6⟩ : ∃ x, x = w5.drew := ⟨_, rfl⟩
                  rw [← hw6] at hT6 hb6 hr6 hi6
                  have hsp := setpage_any mp fr k (0) 0 frame A3 l C F w6 hT6.mem (by omega) hr6 XL.out (fun b off e h => by have := BF.out _ h; have := HA3.out b off e; omega)
                  have hrs := fun W h hR => rsetpage_any rm fr (0) (0) frame (none) l vv L W h (by have := hT6.len; omega) hT6.agr.bnd (by omega) hR XL.out
                  have T6 := Lib.hid hT6; have BX6 := Lib.hid hb6; have IN6 := Lib.hid hi6
                  have y2 : w6.cell? ⟨bx, 2, none⟩ = some (.int .i64 frame) := hb6.cell 2
                  have y5 : w6.cell? ⟨bx, 5, none⟩ = some (.slice (none) (0) (0)) := hb6.cell 5
                  obtain ⟨E, hE⟩ : ∃ E, E = errS fr frame (0) := ⟨_, rfl⟩
                  simp only [← hE] at hsp hrs
                  have HSP := Lib.hid hsp; have HRS := Lib.hid hrs
                  clear hT6 hb6 hr6 hi6 hsp hrs hE T5 BX5 RD5 IN5
                  refine wp_region_held_drew (S := fun w' => w'.cell? ⟨bx, 2, none⟩ = some (.int .i64 frame) ∧ w'.cell? ⟨bx, 5, none⟩ = some (.slice (none) (0) (0))) (by kernel_rfl) (by rw [← hw6]; exact ⟨y2, y5⟩) (fun hHeld => ?_)
                  rw [← hw6] at hHeld ⊢
                  clear hw6 y2 y5
                  simp only [List.size_toArray, List.length_cons, List.length_nil, Nat.reduceAdd]
                  rw [show Array.replicate 12 false = [false, false, false, false, false, false, false, false, false, false, false, false].toArray from rfl]
                  refine wpAnyH_take (i := 0) (v := ?_) rfl (by kernel_rfl) (by kernel_rfl) (by kernel_rfl) (fun _ _ _ h => h) (Or.inl ⟨by rfl, ?yldq⟩) (by assumption) ?_
                  case yldq => (intro w hSw; (try dsimp only at hSw); go_simp; try with_reducible rfl)
                  try simp only [Act.put, List.setIfInBounds_toArray, List.set_cons_zero, List.set_cons_succ, List.getElem_toArray, List.getElem_cons_succ, List.getElem_cons_zero]
                  refine wpAnyH_take (i := 1) (v := ?_) rfl (by kernel_rfl) (by kernel_rfl) (by kernel_rfl) (fun _ _ _ h => h) (Or.inl ⟨by rfl, ?yldq⟩) (by assumption) ?_
                  case yldq => (intro w hSw; (try dsimp only at hSw); go_simp; try with_reducible rfl)
                  try simp only [Act.put, List.setIfInBounds_toArray, List.set_cons_zero, List.set_cons_succ, List.getElem_toArray, List.getElem_cons_succ, List.getElem_cons_zero]
                  refine wpAnyH_take (i := 2) (v := ?_) rfl (by kernel_rfl) (by kernel_rfl) (by kernel_rfl) (fun _ _ _ h => h) (Or.inl ⟨by rfl, ?yldq⟩) (by assumption) ?_
                  case yldq => (intro w hSw; (try dsimp only at hSw); go_simp; try with_reducible rfl)
                  try simp only [Act.put, List.setIfInBounds_toArray, List.set_cons_zero, List.set_cons_succ, List.getElem_toArray, List.getElem_cons_succ, List.getElem_cons_zero]
                  refine wpAnyH_take (i := 3) (v := ?_) rfl (by kernel_rfl) (by kernel_rfl) (by kernel_rfl) (fun _ _ _ h => h) (Or.inl ⟨by rfl, ?yldq⟩) (by assumption) ?_
                  case yldq => (intro w hSw; (try dsimp only at hSw); go_simp; try with_reducible rfl)
                  try simp only [Act.put, List.setIfInBounds_toArray, List.set_cons_zero, List.set_cons_succ, List.getElem_toArray, List.getElem_cons_succ, List.getElem_cons_zero]
                  refine wpAnyH_take (i := 5) (v := ?_) rfl (by kernel_rfl) (by kernel_rfl) (by kernel_rfl) (fun _ _ _ h => h) (Or.inl ⟨by rfl, ?yldq⟩) (by assumption) ?_
                  case yldq => (intro w hSw; (try dsimp only at hSw); go_simp; try with_reducible rfl)
                  try simp only [Act.put, List.setIfInBounds_toArray, List.set_cons_zero, List.set_cons_succ, List.getElem_toArray, List.getElem_cons_succ, List.getElem_cons_zero]
                  refine wpAnyH_take (i := 6) (v := ?_) rfl (by kernel_rfl) (by kernel_rfl) (by kernel_rfl) (fun _ _ _ h => h) (Or.inl ⟨by rfl, ?yldq⟩) (by assumption) ?_
                  case yldq => (intro w hSw; (try dsimp only at hSw); go_simp; try with_reducible rfl)
                  try simp only [Act.put, List.setIfInBounds_toArray, List.set_cons_zero, List.set_cons_succ, List.getElem_toArray, List.getElem_cons_succ, List.getElem_cons_zero]
                  refine wpAnyH_take (i := 7) (v := ?_) rfl (by kernel_rfl) (by kernel_rfl) (by kernel_rfl) (fun _ _ _ h => h) (Or.inl ⟨by rfl, ?yldq⟩) (by assumption) ?_
                  case yldq => (intro w hSw; (try dsimp only at hSw); go_simp; try with_reducible rfl)
                  try simp only [Act.put, List.setIfInBounds_toArray, List.set_cons_zero, List.set_cons_succ, List.getElem_toArray, List.getElem_cons_succ, List.getElem_cons_zero]
                  refine wpAnyH_take (i := 8) (v := ?_) rfl (by kernel_rfl) (by kernel_rfl) (by kernel_rfl) (fun _ _ _ h => h) (Or.inl ⟨by rfl, ?yldq⟩) (by assumption) ?_
                  case yldq => (intro w hSw; (try dsimp only at hSw); go_simp; try with_reducible rfl)
                  try simp only [Act.put, List.setIfInBounds_toArray, List.set_cons_zero, List.set_cons_succ, List.getElem_toArray, List.getElem_cons_succ, List.getElem_cons_zero]
                  refine wpAnyH_take (i := 9) (v := ?_) rfl (by kernel_rfl) (by kernel_rfl) (by kernel_rfl) (fun _ _ _ h => h) (Or.inl ⟨by rfl, ?yldq⟩) (by assumption) ?_
                  case yldq => (intro w hSw; (try dsimp only at hSw); go_simp; try with_reducible rfl)
                  try simp only [Act.put, List.setIfInBounds_toArray, List.set_cons_zero, List.set_cons_succ, List.getElem_toArray, List.getElem_cons_succ, List.getElem_cons_zero]
                  refine wpAnyH_ready (rs := [4]) (by kernel_rfl) (by simp) ?_
                  refine AllReadyH.cons rfl (fun K hK => ?_) AllReadyH.nil
                  go_simp
                  refine HSP.out.mono ?_
                  rintro e w7 ⟨rfl, F7, hM7, hx7, hc7⟩
                  have hb7 := BX6.out.chg hc7 (fun h => by have := BF.out _ h; omega)
                  have hr7 := T6.out.ref1 hc7
                  have hcw7 : Chg no w w7 := T6.out.chg.thenExt hc7 (fun j hj => .inr (T6.out.fF j hj))
                  have hR7 := XR.out.chg hcw7 (fun _ _ _ h => h)
                  have hi7 : 0 < 0 → ∃ g cs, A3 = some ⟨g, 0, none⟩ ∧ bx < g ∧ g < w6.heap.size ∧ Blk w7 g cs 5 ∧ ∀ j, j < 0 → ∃ d, cs[j]? = some (.int .u8 d) ∧ 0 ≤ d ∧ d ≤ 255 := fun h0 => by
                    obtain ⟨g, cs, hg, hb, hB, hcs⟩ := IN6.out h0
                    exact ⟨g, cs, hg, hb, hB.lt, hB.chg hc7 (fun h => by have := BF.out _ h; omega), hcs⟩
                  have HM7 := Lib.hid hM7; have HX7 := Lib.hid hx7; have HC7 := Lib.hid hc7; have BX7 := Lib.hid hb7; have HR7 := Lib.hid hr7; have HRR := Lib.hid hR7; have IN7 := Lib.hid hi7
                  have hS7 : w7.cell? ⟨bx, 2, none⟩ = some (.int .i64 frame) ∧ w7.cell? ⟨bx, 5, none⟩ = some (.slice (none) (0) (0)) := ⟨hb7.cell 2, hb7.cell 5⟩
                  have hs67 := hc7.size
                  clear hM7 hx7 hc7 hb7 hr7 hcw7 hR7 hi7 hHeld IN6
                  refine hK.out _ _ hS7 (fun _ => ?_)
                  clear hK K
                  refine wpAnyH_ready (rs := [10]) (by kernel_rfl) (by simp) ?_
                  refine AllReadyH.cons rfl (fun K hK => ?_) AllReadyH.nil
                  go_simp
                  refine (HRS.out w7 HR7.out HRR.out).mono ?_
                  rintro e w8 ⟨rfl, v8, hr8, hn8, hc8⟩
                  have hb8 := BX7.out.chg hc8 (by omega)
                  have hS8 : w8.cell? ⟨bx, 2, none⟩ = some (.int .i64 frame) ∧ w8.cell? ⟨bx, 5, none⟩ = some (.slice (none) (0) (0)) := ⟨hb8.cell 2, hb8.cell 5⟩
                  have hT8 := T6.out.join HM7.out HX7.out HC7.out hr8 hn8 hc8 (sp_agree (f := frame) (l := l) T6.out.agr (by omega) XR.out.1) (by have := sp_len fr frame l L; have := T6.out.len; omega) (by omega)
                  have hinc : Inc w w8 mp rm bx F7 v8 A3 (0) := fun h0 => by
                    obtain ⟨g, cs, hg, hgb, hg6, hB, hcs⟩ := IN7.out h0
                    exact ⟨g, cs, _, hg, ⟨fun h => (HX7.out _ h).elim (fun h => by have := BF.out _ h; omega) (fun h => by omega), by omega, by omega, fun h => (hn8 _ h).elim (fun h => by have := BV.out _ h; omega) (fun h => by omega), by omega, by omega⟩, hB.chg hc8 (by omega), hcs⟩
                  have T8 := Lib.hid hT8; have BX8 := Lib.hid hb8; have INC := Lib.hid hinc
                  clear hr8 hn8 hc8 hb8 hT8 hinc hS7 HM7 HX7 HC7 BX7 HR7 HRR IN7 HSP HRS T6 BX6 hs67
                  refine hK.out _ _ hS8 (fun _ => ?_)
                  clear hK K
                  refine wpAnyH_take (i := 11) (v := ?_) rfl (by kernel_rfl) (by kernel_rfl) (by kernel_rfl) (fun _ _ _ h => h) (Or.inl ⟨by rfl, ?yldq⟩) (by assumption) ?_
                  case yldq => (intro w hSw; (try dsimp only at hSw); go_simp; try with_reducible rfl)
                  try simp only [Act.put, List.setIfInBounds_toArray, List.set_cons_zero, List.set_cons_succ, List.getElem_toArray, List.getElem_cons_succ, List.getElem_cons_zero]
                  refine wpAnyH_done (by kernel_rfl) ?_ _
                  clear hS8
                  go_wp2
                  go_loopw [172] (fun i wq => ∃ j : Nat, j ≤ 0 ∧ i = .int .i64 j ∧ Pair w wq mp rm fr (k + 1) (F7) (v8) (spC fr C frame l) (spL fr L frame l) ∧ Blk wq bx [.int .i64 kind, .int .i64 size, .int .i64 frame, .int .u64 a, .int .u64 v, .slice none 0 0] 35 ∧ Inc w wq mp rm bx (F7) (v8) A3 0) (fun i _ => 0 - (intOf i).toNat)
                  case atStart => exact ⟨0, Nat.zero_le _, rfl, T8.out, BX8.out, INC.out⟩
                  case round =>
                    obtain ⟨j, hj, rfl, tq, bq, iq⟩ := hrel
                    by_cases hjz : j < 0
                    · exact absurd hjz (Nat.not_lt_zero _)
                    · obtain rfl : j = 0 := by omega
                      have T8 := Lib.hid (tq); have BX8 := Lib.hid bq
                      clear tq bq iq
                      have y1 : wr.cell? ⟨bx, 1, none⟩ = some (.int .i64 size) := BX8.out.cell 1
                      have y3 : wr.cell? ⟨bx, 3, none⟩ = some (.int .u64 a) := BX8.out.cell 3
                      have hl1 := load_any mp fr (k + 1) a size (spC fr C frame l) (F7) wr T8.out.mem xa
                      have hl2 := rload_any rm fr a size (v8) (spC fr C frame l) (spL fr L frame l) wr T8.out.ref T8.out.agr xa (by omega)
                      generalize ldV fr (spC fr C frame l) a size = V1 at hl1 hl2
                      generalize errL fr a size = E1 at hl1 hl2
                      have HL1 := Lib.hid hl1; have HL2 := Lib.hid hl2
                      clear hl1 hl2 BX8
                      go_wp2_with fail
                      refine HL1.out.mono ?_
                      rintro e w' ⟨rfl, rfl⟩
                      go_wp2_with fail
                      refine HL2.out.mono ?_
                      rintro e w9 ⟨rfl, hc9⟩
                      have T9 := Lib.hid (T8.out.any hc9)
                      clear hc9 HL1 HL2 y1 y3
                      go_wp2
                      go_roundw
                      case rel => exact ⟨k + 1, F7, v8, spC fr C frame l, spL fr L frame l, hlt, by omega, by go_num, T9.out⟩
                      case measure => simp [intOf]; omega
                · obtain ⟨cl, hcl⟩ : ∃ cl, cl = l.map (Value.int .u8) := ⟨_, rfl⟩
                  have hcl1 : cl.length = n * 1 := by rw [hcl, List.length_map, Nat.mul_one]; exact XL.out
                  have hcl2 : ∀ j u, cl[j]? = some u → ((wr.alloc (.cells #[.int .i64 kind, .int .i64 size, .int .i64 frame, .int .u64 a, .int .u64 v, .slice (some ad) n c] 35)).alloc (.cells #[] 5)).cell? (ad.add j) = some u := fun j u hu => (XR.out.chg T4.out.chg (fun _ _ _ h => h)).cells j u (by rw [← hcl]; exact hu)
                  have hcl3 : ∀ u ∈ cl, u.oneCell' = true := by rw [hcl]; intro u hu; rw [List.mem_map] at hu; obtain ⟨x, _, rfl⟩ := hu; rfl
                  have CL := Lib.hid hcl; have CL1 := Lib.hid hcl1; have CL2 := Lib.hid hcl2; have CL3 := Lib.hid hcl3
                  clear hcl hcl1 hcl2 hcl3
                  go_wp2_with (at_builtin; refine wpList_append_own _ rfl (.tmp 154) (.tmp 156) 33 rfl (wr.heap.size + 1) 5 i0 (.int .u8 0) 1 1 Try.underlying33 hi hz0 hz1 hz2 rfl (by decide) _ 0 [] rfl HO4.out ad n c cl rfl CL1.out CL2.out CL3.out (by unfold maxLen; omega) (by omega) (by simp) ?_)
                  intro v2 w5 hown2 hgr2 _
                  have hc5 : Chg no wr w5 := ((Chg.alloc no wr _).thenAlloc _).thenGrown hgr2 (fun j hj => by cases hj; exact .inr (Nat.le_succ _))
                  have hb5 := BX4.out.chg (F := fun j => j = wr.heap.size + 1) (Chg.grown hgr2 (fun j hj _ => by cases hj; rfl)) (by omega)
                  rw [CL.out] at hown2
                  obtain ⟨A3, c3, rfl, hrd5, hA3, hin5⟩ := own_take hown2 XR.out.1 (by omega)
                  rw [← hbxe] at hb5 hA3 hin5 ⊢
                  have T5 := Lib.hid (T.out.any hc5); have BX5 := Lib.hid hb5; have RD5 := Lib.hid hrd5; have HA3 := Lib.hid hA3; have IN5 := Lib.hid hin5
                  clear hown2 hgr2 hc5 hb5 hrd5 hA3 hin5 T4 BX4 HO4 T x0 x1 x2 x3 x4 x5 hbxe XNO CL CL1 CL2 CL3
                  go_wp2_with fail
                  have hT6 : Pair w w5.drew mp rm fr k F vv C L := T5.out.any (Chg.drew _ _)
                  have hb6 : Blk w5.drew bx [.int .i64 kind, .int .i64 size, .int .i64 frame, .int .u64 a, .int .u64 v, .slice (some ad) n c] 35 := BX5.out.chg (Chg.drew no w5) (fun h => h)
                  have hr6 : Rd w5.drew A3 l := RD5.out.chg (Chg.drew no w5) (fun _ _ _ h => h)
                  have hi6 : 0 < n → ∃ g cs, A3 = some ⟨g, 0, none⟩ ∧ bx < g ∧ Blk w5.drew g cs 5 ∧ ∀ j, j < n → ∃ d, cs[j]? = some (.int .u8 d) ∧ 0 ≤ d ∧ d ≤ 255 := fun h0 => by
                    obtain ⟨g, cs, hg, hb, hB, hcs⟩ := IN5.out h0
                    exact ⟨g, cs, hg, hb, hB.chg (Chg.drew no w5) (fun h => h), hcs⟩
                  obtain ⟨w6, hw6⟩ : ∃ x, x = w5.drew := ⟨_, rfl⟩
                  rw [← hw6] at hT6 hb6 hr6 hi6
                  have hsp := setpage_any mp fr k (n) c3 frame A3 l C F w6 hT6.mem (by omega) hr6 XL.out (fun b off e h => by have := BF.out _ h; have := HA3.out b off e; omega)
                  have hrs := fun W h hR => rsetpage_any rm fr (n) (c) frame ((some ad)) l vv L W h (by have := hT6.len; omega) hT6.agr.bnd (by omega) hR XL.out
                  have T6 := Lib.hid hT6; have BX6 := Lib.hid hb6; have IN6 := Lib.hid hi6
                  have y2 : w6.cell? ⟨bx, 2, none⟩ = some (.int .i64 frame) := hb6.cell 2
                  have y5 : w6.cell? ⟨bx, 5, none⟩ = some (.slice ((some ad)) (n) (c)) := hb6.cell 5
                  obtain ⟨E, hE⟩ : ∃ E, E = errS fr frame (n) := ⟨_, rfl⟩
                  simp only [← hE] at hsp hrs
                  have HSP := Lib.hid hsp; have HRS := Lib.hid hrs
                  clear hT6 hb6 hr6 hi6 hsp hrs hE T5 BX5 RD5 IN5
                  refine wp_region_held_drew (S := fun w' => w'.cell? ⟨bx, 2, none⟩ = some (.int .i64 frame) ∧ w'.cell? ⟨bx, 5, none⟩ = some (.slice ((some ad)) (n) (c))) (by kernel_rfl) (by rw [← hw6]; exact ⟨y2, y5⟩) (fun hHeld => ?_)
                  rw [← hw6] at hHeld ⊢
                  clear hw6 y2 y5
                  simp only [List.size_toArray, List.length_cons, List.length_nil, Nat.reduceAdd]
                  rw [show Array.replicate 12 false = [false, false, false, false, false, false, false, false, false, false, false, false].toArray from rfl]
                  refine wpAnyH_take (i := 0) (v := ?_) rfl (by kernel_rfl) (by kernel_rfl) (by kernel_rfl) (fun _ _ _ h => h) (Or.inl ⟨by rfl, ?yldq⟩) (by assumption) ?_
                  case yldq => (intro w hSw; (try dsimp only at hSw); go_simp; try with_reducible rfl)
                  try simp only [Act.put, List.setIfInBounds_toArray, List.set_cons_zero, List.set_cons_succ, List.getElem_toArray, List.getElem_cons_succ, List.getElem_cons_zero]
                  refine wpAnyH_take (i := 1) (v := ?_) rfl (by kernel_rfl) (by kernel_rfl) (by kernel_rfl) (fun _ _ _ h => h) (Or.inl ⟨by rfl, ?yldq⟩) (by assumption) ?_
                  case yldq => (intro w hSw; (try dsimp only at hSw); go_simp; try with_reducible rfl)
                  try simp only [Act.put, List.setIfInBounds_toArray, List.set_cons_zero, List.set_cons_succ, List.getElem_toArray, List.getElem_cons_succ, List.getElem_cons_zero]
                  refine wpAnyH_take (i := 2) (v := ?_) rfl (by kernel_rfl) (by kernel_rfl) (by kernel_rfl) (fun _ _ _ h => h) (Or.inl ⟨by rfl, ?yldq⟩) (by assumption) ?_
                  case yldq => (intro w hSw; (try dsimp only at hSw); go_simp; try with_reducible rfl)
                  try simp only [Act.put, List.setIfInBounds_toArray, List.set_cons_zero, List.set_cons_succ, List.getElem_toArray, List.getElem_cons_succ, List.getElem_cons_zero]
                  refine wpAnyH_take (i := 3) (v := ?_) rfl (by kernel_rfl) (by kernel_rfl) (by kernel_rfl) (fun _ _ _ h => h) (Or.inl ⟨by rfl, ?yldq⟩) (by assumption) ?_
                  case yldq => (intro w hSw; (try dsimp only at hSw); go_simp; try with_reducible rfl)
                  try simp only [Act.put, List.setIfInBounds_toArray, List.set_cons_zero, List.set_cons_succ, List.getElem_toArray, List.getElem_cons_succ, List.getElem_cons_zero]
                  refine wpAnyH_take (i := 5) (v := ?_) rfl (by kernel_rfl) (by kernel_rfl) (by kernel_rfl) (fun _ _ _ h => h) (Or.inl ⟨by rfl, ?yldq⟩) (by assumption) ?_
                  case yldq => (intro w hSw; (try dsimp only at hSw); go_simp; try with_reducible rfl)
                  try simp only [Act.put, List.setIfInBounds_toArray, List.set_cons_zero, List.set_cons_succ, List.getElem_toArray, List.getElem_cons_succ, List.getElem_cons_zero]
                  refine wpAnyH_take (i := 6) (v := ?_) rfl (by kernel_rfl) (by kernel_rfl) (by kernel_rfl) (fun _ _ _ h => h) (Or.inl ⟨by rfl, ?yldq⟩) (by assumption) ?_
                  case yldq => (intro w hSw; (try dsimp only at hSw); go_simp; try with_reducible rfl)
                  try simp only [Act.put, List.setIfInBounds_toArray, List.set_cons_zero, List.set_cons_succ, List.getElem_toArray, List.getElem_cons_succ, List.getElem_cons_zero]
                  refine wpAnyH_take (i := 7) (v := ?_) rfl (by kernel_rfl) (by kernel_rfl) (by kernel_rfl) (fun _ _ _ h => h) (Or.inl ⟨by rfl, ?yldq⟩) (by assumption) ?_
                  case yldq => (intro w hSw; (try dsimp only at hSw); go_simp; try with_reducible rfl)
                  try simp only [Act.put, List.setIfInBounds_toArray, List.set_cons_zero, List.set_cons_succ, List.getElem_toArray, List.getElem_cons_succ, List.getElem_cons_zero]
                  refine wpAnyH_take (i := 8) (v := ?_) rfl (by kernel_rfl) (by kernel_rfl) (by kernel_rfl) (fun _ _ _ h => h) (Or.inl ⟨by rfl, ?yldq⟩) (by assumption) ?_
                  case yldq => (intro w hSw; (try dsimp only at hSw); go_simp; try with_reducible rfl)
                  try simp only [Act.put, List.setIfInBounds_toArray, List.set_cons_zero, List.set_cons_succ, List.getElem_toArray, List.getElem_cons_succ, List.getElem_cons_zero]
                  refine wpAnyH_take (i := 9) (v := ?_) rfl (by kernel_rfl) (by kernel_rfl) (by kernel_rfl) (fun _ _ _ h => h) (Or.inl ⟨by rfl, ?yldq⟩) (by assumption) ?_
                  case yldq => (intro w hSw; (try dsimp only at hSw); go_simp; try with_reducible rfl)
                  try simp only [Act.put, List.setIfInBounds_toArray, List.set_cons_zero, List.set_cons_succ, List.getElem_toArray, List.getElem_cons_succ, List.getElem_cons_zero]
                  refine wpAnyH_ready (rs := [4]) (by kernel_rfl) (by simp) ?_
                  refine AllReadyH.cons rfl (fun K hK => ?_) AllReadyH.nil
                  go_simp
                  refine HSP.out.mono ?_
                  rintro e w7 ⟨rfl, F7, hM7, hx7, hc7⟩
                  have hb7 := BX6.out.chg hc7 (fun h => by have := BF.out _ h; omega)
                  have hr7 := T6.out.ref1 hc7
                  have hcw7 : Chg no w w7 := T6.out.chg.thenExt hc7 (fun j hj => .inr (T6.out.fF j hj))
                  have hR7 := XR.out.chg hcw7 (fun _ _ _ h => h)
                  have hi7 : 0 < n → ∃ g cs, A3 = some ⟨g, 0, none⟩ ∧ bx < g ∧ g < w6.heap.size ∧ Blk w7 g cs 5 ∧ ∀ j, j < n → ∃ d, cs[j]? = some (.int .u8 d) ∧ 0 ≤ d ∧ d ≤ 255 := fun h0 => by
                    obtain ⟨g, cs, hg, hb, hB, hcs⟩ := IN6.out h0
                    exact ⟨g, cs, hg, hb, hB.lt, hB.chg hc7 (fun h => by have := BF.out _ h; omega), hcs⟩
                  have HM7 := Lib.hid hM7; have HX7 := Lib.hid hx7; have HC7 := Lib.hid hc7; have BX7 := Lib.hid hb7; have HR7 := Lib.hid hr7; have HRR := Lib.hid hR7; have IN7 := Lib.hid hi7
                  have hS7 : w7.cell? ⟨bx, 2, none⟩ = some (.int .i64 frame) ∧ w7.cell? ⟨bx, 5, none⟩ = some (.slice ((some ad)) (n) (c)) := ⟨hb7.cell 2, hb7.cell 5⟩
                  have hs67 := hc7.size
                  clear hM7 hx7 hc7 hb7 hr7 hcw7 hR7 hi7 hHeld IN6
                  refine hK.out _ _ hS7 (fun _ => ?_)
                  clear hK K
                  refine wpAnyH_ready (rs := [10]) (by kernel_rfl) (by simp) ?_
                  refine AllReadyH.cons rfl (fun K hK => ?_) AllReadyH.nil
                  go_simp
                  refine (HRS.out w7 HR7.out HRR.out).mono ?_
                  rintro e w8 ⟨rfl, v8, hr8, hn8, hc8⟩
                  have hb8 := BX7.out.chg hc8 (by omega)
                  have hS8 : w8.cell? ⟨bx, 2, none⟩ = some (.int .i64 frame) ∧ w8.cell? ⟨bx, 5, none⟩ = some (.slice ((some ad)) (n) (c)) := ⟨hb8.cell 2, hb8.cell 5⟩
                  have hT8 := T6.out.join HM7.out HX7.out HC7.out hr8 hn8 hc8 (sp_agree (f := frame) (l := l) T6.out.agr (by omega) XR.out.1) (by have := sp_len fr frame l L; have := T6.out.len; omega) (by omega)
                  have hinc : Inc w w8 mp rm bx F7 v8 A3 (n) := fun h0 => by
                    obtain ⟨g, cs, hg, hgb, hg6, hB, hcs⟩ := IN7.out h0
                    exact ⟨g, cs, _, hg, ⟨fun h => (HX7.out _ h).elim (fun h => by have := BF.out _ h; omega) (fun h => by omega), by omega, by omega, fun h => (hn8 _ h).elim (fun h => by have := BV.out _ h; omega) (fun h => by omega), by omega, by omega⟩, hB.chg hc8 (by omega), hcs⟩
                  have T8 := Lib.hid hT8; have BX8 := Lib.hid hb8; have INC := Lib.hid hinc
                  clear hr8 hn8 hc8 hb8 hT8 hinc hS7 HM7 HX7 HC7 BX7 HR7 HRR IN7 HSP HRS T6 BX6 hs67
                  refine hK.out _ _ hS8 (fun _ => ?_)
                  clear hK K
                  refine wpAnyH_take (i := 11) (v := ?_) rfl (by kernel_rfl) (by kernel_rfl) (by kernel_rfl) (fun _ _ _ h => h) (Or.inl ⟨by rfl, ?yldq⟩) (by assumption) ?_
                  case yldq => (intro w hSw; (try dsimp only at hSw); go_simp; try with_reducible rfl)
                  try simp only [Act.put, List.setIfInBounds_toArray, List.set_cons_zero, List.set_cons_succ, List.getElem_toArray, List.getElem_cons_succ, List.getElem_cons_zero]
                  refine wpAnyH_done (by kernel_rfl) ?_ _
                  clear hS8
                  go_wp2
                  go_loopw [172] (fun i wq => ∃ j : Nat, j ≤ n ∧ i = .int .i64 j ∧ Pair w wq mp rm fr (k + 1) (F7) (v8) (spC fr C frame l) (spL fr L frame l) ∧ Blk wq bx [.int .i64 kind, .int .i64 size, .int .i64 frame, .int .u64 a, .int .u64 v, .slice (some ad) n c] 35 ∧ Inc w wq mp rm bx (F7) (v8) A3 n) (fun i _ => n - (intOf i).toNat)
                  case atStart => exact ⟨0, Nat.zero_le _, rfl, T8.out, BX8.out, INC.out⟩
                  case round =>
                    obtain ⟨j, hj, rfl, tq, bq, iq⟩ := hrel
                    by_cases hjz : j < n
                    · obtain ⟨g, cs, tt, hAg, ho, hbq, hcs⟩ := iq (by omega)
                      subst hAg
                      obtain ⟨d, hd, d0, d1⟩ := hcs j hjz
                      have q1 : wr.cell? ⟨g, j, none⟩ = some (.int .u8 d) := (hbq.cell j).trans hd
                      have q2 := hbq.free j
                      have TQ := Lib.hid tq; have BQ := Lib.hid bq; have OQ := Lib.hid ho; have HBQ := Lib.hid hbq; have HCS := Lib.hid hcs
                      clear tq bq iq ho hbq hcs hd
                      go_wp2
                      go_roundw
                      case rel =>
                        refine ⟨j + 1, hjz, by go_num, TQ.out.off OQ.out (Chg.setCell _ ⟨g, j, none⟩ _ rfl), BQ.out.other ⟨g, j, none⟩ _ OQ.out.n4, fun _ => ⟨g, _, tt, rfl, OQ.out, HBQ.out.set j _, ?_⟩⟩
                        exact inc_set HCS.out (by refine ⟨?_, ?_⟩ <;> omega)
                      case measure => simp [intOf]; omega
                    · obtain rfl : j = n := by omega
                      have T8 := Lib.hid (tq); have BX8 := Lib.hid bq
                      clear tq bq iq
                      have y1 : wr.cell? ⟨bx, 1, none⟩ = some (.int .i64 size) := BX8.out.cell 1
                      have y3 : wr.cell? ⟨bx, 3, none⟩ = some (.int .u64 a) := BX8.out.cell 3
                      have hl1 := load_any mp fr (k + 1) a size (spC fr C frame l) (F7) wr T8.out.mem xa
                      have hl2 := rload_any rm fr a size (v8) (spC fr C frame l) (spL fr L frame l) wr T8.out.ref T8.out.agr xa (by omega)
                      generalize ldV fr (spC fr C frame l) a size = V1 at hl1 hl2
                      generalize errL fr a size = E1 at hl1 hl2
                      have HL1 := Lib.hid hl1; have HL2 := Lib.hid hl2
                      clear hl1 hl2 BX8
                      go_wp2_with fail
                      refine HL1.out.mono ?_
                      rintro e w' ⟨rfl, rfl⟩
                      go_wp2_with fail
                      refine HL2.out.mono ?_
                      rintro e w9 ⟨rfl, hc9⟩
                      have T9 := Lib.hid (T8.out.any hc9)
                      clear hc9 HL1 HL2 y1 y3
                      go_wp2
                      go_roundw
                      case rel => exact ⟨k + 1, F7, v8, spC fr C frame l, spL fr L frame l, hlt, by omega, by go_num, T9.out⟩
                      case measure => simp [intOf]; omega
              · obtain ⟨w3, hw3⟩ : ∃ x, x = wr.alloc (.cells #[.int .i64 kind, .int .i64 size, .int .i64 frame, .int .u64 a, .int .u64 v, .slice B n c] 35) := ⟨_, rfl⟩
                obtain ⟨bx, hbxe⟩ : ∃ x, x = wr.heap.size := ⟨_, rfl⟩
                have hT3 : Pair w w3 mp rm fr k F vv C L := by rw [hw3]; exact T.out.any (Chg.alloc _ _ _)
                have hbx : Blk w3 bx [.int .i64 kind, .int .i64 size, .int .i64 frame, .int .u64 a, .int .u64 v, .slice B n c] 35 := by rw [hw3, hbxe]; exact Blk.new wr [.int .i64 kind, .int .i64 size, .int .i64 frame, .int .u64 a, .int .u64 v, .slice B n c] _
                have hbF : ∀ j, F j → j < bx := fun j hj => by rw [hbxe]; exact T.out.mem.lt j hj
                have hbV : ∀ j, vv.ownBlock = some j → j < bx := fun j hj => by rw [hbxe]; exact (T.out.ref.own.lt j hj).2
                have hbm : mp < bx := by rw [hbxe]; exact T.out.mem.mplt
                have hbr : rm < bx := by rw [hbxe]; exact T.out.ref.blk.lt
                have hbw : w.heap.size ≤ bx := by rw [hbxe]; exact T.out.chg.size
                have hbl : bx < w3.heap.size := hbx.lt
                have T3 := Lib.hid hT3; have BX3 := Lib.hid hbx; have BF := Lib.hid hbF; have BV := Lib.hid hbV
                clear hT3 hbx hbF hbV
                have b0 : (t == 0) = false := by simpa using t0
                have b2 : (t == 2) = false := by simpa using t2
                have b4 : (t == 4) = false := by simpa using t4
                clear t0 t2 t4
                go_wp2_with fail
                rw [← hw3, ← hbxe]
                clear hw3 hbxe T x0 x1 x2 x3 x4 x5
                have hpg := page_any mp fr k frame C F w3 T3.out.mem
                have hrp := fun W h => rpage_any rm fr frame vv C L W h T3.out.agr (by omega) (fun q => (T3.out.mem.byt q).1)
                obtain ⟨P, hP⟩ : ∃ P, P = pgL fr C frame := ⟨_, rfl⟩
                obtain ⟨E, hE⟩ : ∃ E, E = errF fr frame := ⟨_, rfl⟩
                simp only [← hE, ← hP] at hpg hrp
                have HPG := Lib.hid hpg; have HRP := Lib.hid hrp
                clear hpg hrp hP hE
                refine HPG.out.mono ?_
                rintro e w4 ⟨A1, z1, rfl, hp1, hc4⟩
                have hb4 := BX3.out.chg hc4 (fun h => h)
                have y2 : w4.cell? ⟨bx, 2, none⟩ = some (.int .i64 frame) := hb4.cell 2
                have T4 := Lib.hid (T3.out.any hc4); have BX4 := Lib.hid hb4; have HP1 := Lib.hid hp1
                clear hp1 hc4 hb4
                go_wp2_with fail
                refine (HRP.out w4 T4.out.ref).mono ?_
                rintro e w5 ⟨A2, z2, rfl, hp2, hc5⟩
                have k1 := (HP1.out.rd.chg hc5 (fun _ _ _ h => h)).conv z1 z1 HP1.out.2.1
                have k2 := hp2.rd.conv z2 z2 hp2.2.1
                obtain ⟨S, hS⟩ : ∃ S, S = strOfNums P := ⟨_, rfl⟩
                rw [← hS] at k1 k2
                have hz4 : z1 ≤ 4096 := HP1.out.2.2.1
                have hinc : Inc w w5 mp rm bx F vv A1 z1 := fun h0 => by
                  obtain ⟨g, hg, hgb, hB⟩ := HP1.out.2.2.2.2 h0
                  refine ⟨g, _, _, hg, ⟨fun h => by have := BF.out _ h; omega, by omega, by omega, fun h => by have := BV.out _ h; omega, by omega, by omega⟩, hB.chg hc5 (fun h => h), fun j hj => ?_⟩
                  have hlt : j < P.length := by rw [HP1.out.2.1]; exact hj
                  exact ⟨P.getD j 0, by rw [List.getElem?_map, List.getD_eq_getElem?_getD, List.getElem?_eq_getElem hlt]; rfl, (HP1.out.1.getD j).1, (HP1.out.1.getD j).2⟩
                have T5 := Lib.hid (T4.out.any hc5); have BX5 := Lib.hid (BX4.out.chg hc5 (fun h => h)); have INC := Lib.hid hinc
                clear hp2 hc5 hinc y2 hS HPG HRP HP1 T4 BX4 T3 BX3
                go_wp2
                go_loopw [85] (fun i wq => ∃ j : Nat, j ≤ z1 ∧ i = .int .i64 j ∧ Pair w wq mp rm fr (k) (F) (vv) (C) (L) ∧ Blk wq bx [.int .i64 kind, .int .i64 size, .int .i64 frame, .int .u64 a, .int .u64 v, .slice B n c] 35 ∧ Inc w wq mp rm bx (F) (vv) A1 z1) (fun i _ => z1 - (intOf i).toNat)
                case atStart => exact ⟨0, Nat.zero_le _, rfl, T5.out, BX5.out, INC.out⟩
                case round =>
                  obtain ⟨j, hj, rfl, tq, bq, iq⟩ := hrel
                  by_cases hjz : j < z1
                  · obtain ⟨g, cs, tt, hAg, ho, hbq, hcs⟩ := iq (by omega)
                    subst hAg
                    obtain ⟨d, hd, d0, d1⟩ := hcs j hjz
                    have q1 : wr.cell? ⟨g, j, none⟩ = some (.int .u8 d) := (hbq.cell j).trans hd
                    have q2 := hbq.free j
                    have TQ := Lib.hid tq; have BQ := Lib.hid bq; have OQ := Lib.hid ho; have HBQ := Lib.hid hbq; have HCS := Lib.hid hcs
                    clear tq bq iq ho hbq hcs hd
                    go_wp2
                    go_roundw
                    case rel =>
                      refine ⟨j + 1, hjz, by go_num, TQ.out.off OQ.out (Chg.setCell _ ⟨g, j, none⟩ _ rfl), BQ.out.other ⟨g, j, none⟩ _ OQ.out.n4, fun _ => ⟨g, _, tt, rfl, OQ.out, HBQ.out.set j _, ?_⟩⟩
                      exact inc_set HCS.out (by refine ⟨?_, ?_⟩ <;> omega)
                    case measure => simp [intOf]; omega
                  · obtain rfl : j = z1 := by omega
                    have T8 := Lib.hid (tq.up (by omega)); have BX8 := Lib.hid bq
                    clear tq bq iq
                    have y1 : wr.cell? ⟨bx, 1, none⟩ = some (.int .i64 size) := BX8.out.cell 1
                    have y3 : wr.cell? ⟨bx, 3, none⟩ = some (.int .u64 a) := BX8.out.cell 3
                    have hl1 := load_any mp fr (k + 1) a size (C) (F) wr T8.out.mem xa
                    have hl2 := rload_any rm fr a size (vv) (C) (L) wr T8.out.ref T8.out.agr xa (by omega)
                    generalize ldV fr (C) a size = V1 at hl1 hl2
                    generalize errL fr a size = E1 at hl1 hl2
                    have HL1 := Lib.hid hl1; have HL2 := Lib.hid hl2
                    clear hl1 hl2 BX8
                    go_wp2_with fail
                    refine HL1.out.mono ?_
                    rintro e w' ⟨rfl, rfl⟩
                    go_wp2_with fail
                    refine HL2.out.mono ?_
                    rintro e w9 ⟨rfl, hc9⟩
                    have T9 := Lib.hid (T8.out.any hc9)
                    clear hc9 HL1 HL2 y1 y3
                    go_wp2
                    go_roundw
                    case rel => exact ⟨k + 1, F, vv, C, L, hlt, by omega, by go_num, T9.out⟩
                    case measure => simp [intOf]; omega
    · have hfm := frames_at mp fr (wr) (T.out).mem.c0
      have hfin := (T.out).chg.none
      have HFM := Lib.hid hfm; have HFIN := Lib.hid hfin
      clear hfm hfin
      go_wp2_with fail
      refine HFM.out.mono ?_
      rintro e w' ⟨rfl, rfl⟩
      go_wp2
      go_ret
      exact ⟨by simp, HFIN.out⟩
end Go.Proofs.Ytkkhecaajbgggaa
