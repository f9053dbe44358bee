/-
  What the laws of layer 5 (package runriglaw05) answer: the first test, and RingPlays' walk over the contracts.
-/
import Derived.Test.YteepofehjofeaaaRingEI
import Derived.Test.YteepofehjofeaaaRef05
import Derived.Test.YteepofehjofeaaaRows
namespace Go.Proofs.Yteepofehjofeaaa
open Go.RowKit
set_option linter.unusedVariables false
set_option linter.unusedSimpArgs false

theorem two_below {w w' : World} {R G B : Nat} (h : Chg (two R G) w w') (hB : B ≤ w.heap.size) (h1 : B ≤ R) (h2 : B ≤ G) : Below B w w' := h.below hB (fun k hk h => by unfold two at h; omega)
theorem sole_below {w w' : World} {R B : Nat} (h : Chg (soleI R) w w') (hB : B ≤ w.heap.size) (h1 : B ≤ R) : Below B w w' := h.below hB (fun k hk h => by unfold soleI at h; omega)
theorem no_below {w w' : World} {B : Nat} (h : Chg no w w') (hB : B ≤ w.heap.size) : Below B w w' := h.below hB (fun k hk h => h)
theorem below_dn {B : Nat} {a w : World} (h : Below B a w) (n : Nat) : Below B a (w.drewN n) := ⟨h.os, h.tape, h.output, h.size, h.block⟩
theorem sep_two {w w' : World} {R G G' X : Nat} (h : G' = G ∨ w.heap.size ≤ G') (hX : X < w.heap.size) (hne : G ≠ X) : G' ≠ X := by omega
theorem first_any (w : World) : Calls Try.prog 5 #[] w fun e w' => e = .returned (.bool true) ∧ Below w.heap.size w w' := by
  go_enter Try.func5, Try.ntmps5
  go_wp2_with fail
  refine (enewI 2 _).mono ?_
  rintro e w1 ⟨rfl, hr1, hc1⟩
  have hr1 : RngI w1 w.heap.size w.heap.size 2 [] := hr1
  have hs1 := hr1.lt.1
  have b1 : Below w.heap.size w w1 := hc1.none
  obtain ⟨R, hR⟩ : ∃ R, R = w.heap.size := ⟨_, rfl⟩
  rw [← hR] at hr1 hs1 ⊢
  have HR := Lib.hid hR; have B1 := Lib.hid b1; have H1 := Lib.hid hr1
  clear hR b1 hr1 hc1
  go_wp2_with fail
  refine (epushI_fits 7 R R 2 [] _ H1.out (by decide)).mono ?_
  rintro e w2 ⟨rfl, ⟨G2, hg2, hr2⟩, hc2⟩
  have hG2 : R ≤ G2 := by omega
  have H2 := Lib.hid hr2
  have B2 := Lib.hid (B1.out.trans ((two_below (B := R) hc2 (by omega) (Nat.le_refl _) (Nat.le_refl _)).mono (by rw [HR.out]; exact Nat.le_refl _)))
  have hs2 := hc2.size
  clear hg2 hr2 hc2
  go_wp2_with fail
  refine (epushI_fits 8 R G2 2 [7] _ H2.out (by decide)).mono ?_
  rintro e w3 ⟨rfl, ⟨G3, hg3, hr3⟩, hc3⟩
  have hG3 : R ≤ G3 := by omega
  have H3 := Lib.hid hr3
  have B3 := Lib.hid (B2.out.trans ((two_below (B := R) hc3 (by omega) (Nat.le_refl _) hG2).mono (by rw [HR.out]; exact Nat.le_refl _)))
  have hs3 := hc3.size
  clear hg3 hr3 hc3
  go_wp2_with fail
  refine (epushI_full 9 R G3 2 [7, 8] _ H3.out rfl).mono ?_
  rintro e w' ⟨rfl, rfl⟩
  go_wp2_with fail
  refine (epopI_some R G3 2 [8] 7 _ H3.out).mono ?_
  rintro e w4 ⟨rfl, hr4, hc4⟩
  have H4 := Lib.hid hr4
  have B4 := Lib.hid (B3.out.trans ((two_below (B := R) hc4 (by omega) (Nat.le_refl _) hG3).mono (by rw [HR.out]; exact Nat.le_refl _)))
  have hs4 := hc4.size
  clear hr4 hc4
  go_wp2_with fail
  refine (epushI_fits 9 R G3 2 [8] _ H4.out (by decide)).mono ?_
  rintro e w5 ⟨rfl, ⟨G5, hg5, hr5⟩, hc5⟩
  have hG5 : R ≤ G5 := by omega
  have H5 := Lib.hid hr5
  have B5 := Lib.hid (B4.out.trans ((two_below (B := R) hc5 (by omega) (Nat.le_refl _) hG3).mono (by rw [HR.out]; exact Nat.le_refl _)))
  have hs5 := hc5.size
  clear hg5 hr5 hc5
  go_wp2_with fail
  refine (elistI R G5 2 2 [8, 9] _ H5.out rfl).mono ?_
  rintro e w6 ⟨rfl, hb6, hc6⟩
  have H6 := Lib.hid (H5.out.chg hc6 (fun h => h) (fun h => h))
  have B6 := Lib.hid (B5.out.trans (no_below hc6 (by rw [← HR.out]; omega)))
  have hs6 := hc6.size
  have hl6 := hb6.lt
  have HB6 := Lib.hid hb6
  clear hb6 hc6
  go_wp2_with fail
  refine (same_eq _ _ w5.heap.size w6.heap.size 2 2 2 [8, 9] _ (.blk (HB6.out.alloc _)) (.blk (Blk.new w6 [.int .i64 8, .int .i64 9] 3)) rfl (by decide)).mono ?_
  rintro e w7 ⟨rfl, n7, rfl⟩
  go_wp2_with fail
  refine (eroomI R G5 2 [8, 9] _ ((H6.out.chg (F := no) (Chg.alloc _ _ _) (fun h => h) (fun h => h)).drewN n7)).mono ?_
  rintro e w8 ⟨rfl, rfl⟩
  go_wp2
  go_ret
  refine ⟨rfl, ?_⟩
  exact below_dn (B6.out.alloc (by rw [← HR.out]; omega) _) _
/-- what came in reads these numbers -/
def RdS (w : World) (A : Option Addr) (Y : Nat) (l : List Int) : Prop := l = [] ∨ ∃ off, A = some ⟨Y, off, none⟩ ∧ Y < w.heap.size ∧ ∀ i (h : i < l.length), w.cell? ⟨Y, off + i, none⟩ = some (.int .i64 l[i])
/-- both rings, apart from one another, with the same things -/
def Pair (B : Nat) (w wr : World) (R X rm : Nat) (q : List Int) : Prop := ∃ G Y A cap, RngI wr R G rm q ∧ RefR wr X Y rm A cap q ∧ Y < wr.heap.size ∧ G ≠ X ∧ G ≠ Y ∧ R ≠ X ∧ R ≠ Y ∧ B ≤ R ∧ B ≤ X ∧ B ≤ G ∧ B ≤ Y ∧ Below B w wr ∧ B ≤ wr.heap.size
theorem Pair.ring {B : Nat} {w w1 w2 : World} {R X rm G G' Y cap : Nat} {A : Option Addr} {q q' : List Int} (hx : RefR w1 X Y rm A cap q) (hc : Chg (two R G) w1 w2) (h1 : G ≠ X) (h2 : G ≠ Y) (h3 : R ≠ X) (h4 : R ≠ Y) : RefR w2 X Y rm A cap q :=
  hx.chg hc (by unfold two; omega) (by unfold two; omega)
set_option maxHeartbeats 40000000 in
set_option maxRecDepth 100000 in
theorem plays_walk (room : Int) (A : Option Addr) (Y0 n cap : Nat) (l : List Int) (w : World) (hr : RdS w A Y0 l) (hn : l.length = n) (hn63 : n ≤ 9223372036854775807) (hcap : n ≤ cap) (h1 : -9223372036854775808 ≤ room) (h2 : room ≤ 9223372036854775807) (hfit : ∀ x ∈ l, -9223372036854775808 ≤ x ∧ x ≤ 9223372036854775807) :
    Calls Try.prog 3 #[.int .i64 room, .slice A n cap] w fun e w' => e = .returned (.bool true) ∧ Below w.heap.size w w' := by
  have HR := Lib.hid hr; have HN := Lib.hid hn; have HF := Lib.hid hfit
  clear hr hn hfit
  go_enter Try.func3, Try.ntmps3
  go_wp2_with fail
  refine (first_any _).mono ?_
  rintro e w1 ⟨rfl, hb1⟩
  have B1 := Lib.hid hb1; have hs1 := hb1.size; clear hb1
  go_wp2_with fail
  refine (enewI room _).mono ?_
  rintro e w2 ⟨rfl, hr2, hc2⟩
  go_wp2_with fail
  refine (rnew_any room _).mono ?_
  rintro e w3 ⟨rfl, hx3, hc3⟩
  obtain ⟨rm, hrm⟩ : ∃ rm, rm = (min (max room 0) 65536).toNat := ⟨_, rfl⟩
  rw [← hrm] at hr2 hx3
  obtain ⟨R, hR⟩ : ∃ R, R = w1.heap.size := ⟨_, rfl⟩
  obtain ⟨X, hX⟩ : ∃ X, X = w2.heap.size := ⟨_, rfl⟩
  have hsz := hr2.lt.1
  rw [← hX] at hx3 ⊢
  rw [← hR] at hr2 hsz ⊢
  have hx3l := hx3.blk.lt
  have hp : Pair w.heap.size w w3 R X rm [] := ⟨R, X, none, 0, hr2.chg hc3 (fun h => h) (fun h => h), hx3, hx3l, by omega, by omega, by omega, by omega, by omega, by omega, by omega, by omega, (B1.out.trans (no_below hc2 hs1)).trans (no_below hc3 (Nat.le_trans hs1 hc2.size)), Nat.le_trans hs1 (Nat.le_trans hc2.size hc3.size)⟩
  have hrm2 : rm ≤ 65536 := by omega
  have HP := Lib.hid hp
  clear hp hr2 hx3 hc2 hc3 hrm hR hX hsz hx3l B1 hs1 h1 h2
  go_wp2
  go_loopw [30] (fun i wr => ∃ (k : Nat) (q : List Int), k ≤ n ∧ k ≤ 200 ∧ q.length ≤ k ∧ i = .int .i64 k ∧ Pair w.heap.size w wr R X rm q) (fun i _ => n - (intOf i).toNat)
  case atStart => exact ⟨0, [], Nat.zero_le _, Nat.zero_le _, Nat.le_refl _, rfl, HP.out⟩
  case round =>
    obtain ⟨k, q, hk, hk2, hqk, rfl, G, Y, A2, cap2, hr, hx, hYs, n1, n2, n3, n4, b1, b2, b3, b4, hbel, hbs⟩ := hrel
    have HBEL := Lib.hid hbel
    by_cases hlt : k < n
    · skip
      · have hkl : k < l.length := by rw [HN.out]; exact hlt
        obtain ⟨oa, hA, hY0, hca⟩ : ∃ off, A = some ⟨Y0, off, none⟩ ∧ Y0 < w.heap.size ∧ ∀ i (h : i < l.length), w.cell? ⟨Y0, off + i, none⟩ = some (.int .i64 l[i]) := by
          rcases HR.out with h | h
          · rw [h] at hkl; exact absurd hkl (Nat.not_lt_zero _)
          · exact h
        have hc := hca k hkl
        rw [← hbel.cell (p := ⟨Y0, oa + k, none⟩) hY0] at hc
        have hfa := HF.out _ (List.getElem_mem hkl)
        obtain ⟨a, ha⟩ : ∃ a, a = l[k] := ⟨_, rfl⟩
        rw [← ha] at hc hfa
        subst hA
        clear hca ha hkl hbel
        by_cases h200 : 200 ≤ k
        · skip
          go_wp2_with fail
          refine (popI_nil _).mono ?_
          rintro e w' ⟨rfl, rfl⟩
          go_wp2_with fail
          refine (atI_nil 0 _).mono ?_
          rintro e w' ⟨rfl, rfl⟩
          go_wp2_with fail
          refine (pushI_nil 1 _).mono ?_
          rintro e w' ⟨rfl, rfl⟩
          go_wp2_with fail
          refine (lenI_nil _).mono ?_
          rintro e w' ⟨rfl, rfl⟩
          go_wp2_with fail
          refine (roomI_nil _).mono ?_
          rintro e w' ⟨rfl, rfl⟩
          go_wp2_with fail
          refine (listI_nil _).mono ?_
          rintro e w9 ⟨⟨A9, rfl⟩, hc9⟩
          have C9 := Lib.hid hc9; clear hc9
          go_wp2
          go_ret
          exact ⟨rfl, HBEL.out.trans (no_below C9.out hbs)⟩
        have h200 : k < 200 := by omega
        by_cases h3 : a.tmod 3 = 0
        · by_cases hq : q = []
          · subst hq
            have HX := Lib.hid hx
            go_wp2_with fail
            refine (epopI_none R G rm _ hr).mono ?_
            rintro e w2' ⟨rfl, rfl⟩
            go_wp2_with fail
            refine (rpop_none X Y rm cap2 A2 _ HX.out).mono ?_
            rintro e w3' ⟨rfl, hw3'⟩
            obtain ⟨q', hq'⟩ : ∃ q' : List Int, q' = [] := ⟨_, rfl⟩
            have hqk' : q'.length ≤ k := by rw [hq']; exact Nat.zero_le _
            have hr3 := hr
            have hx3 := hx
            rw [← hq', hw3'] at hr3 hx3
            have hb3 := HBEL.out
            rw [hw3'] at hb3
            have hs3 : wr.heap.size ≤ w3'.heap.size := by rw [hw3']; exact Nat.le_refl _
            have hs2 : wr.heap.size ≤ wr.heap.size := Nat.le_refl _
            obtain ⟨A3, hA3⟩ : ∃ A3, A3 = A2 := ⟨_, rfl⟩
            obtain ⟨cap3, hcap3⟩ : ∃ cap3, cap3 = cap2 := ⟨_, rfl⟩
            obtain ⟨G3, hG3⟩ : ∃ G3, G3 = G := ⟨_, rfl⟩
            obtain ⟨Y3, hY3⟩ : ∃ Y3, Y3 = Y := ⟨_, rfl⟩
            rw [← hG3] at hr3
            rw [← hY3] at hx3
            rw [← hA3, ← hcap3] at hx3
            clear hw3' hq' hr hA3 hcap3 hx

            have hYs3 : Y3 < w3'.heap.size := by omega
            obtain ⟨m, hm⟩ : ∃ m, m = q'.length := ⟨_, rfl⟩
            have z1 : G3 ≠ X := by omega
            have z2 : G3 ≠ Y3 := by omega
            have z3 : R ≠ Y3 := by omega
            have z4 : w.heap.size ≤ G3 := by omega
            have z5 : w.heap.size ≤ Y3 := by omega
            have z6 : w.heap.size ≤ w3'.heap.size := by omega
            clear n1 n2 n4 b3 b4 hYs hbs hG3 hY3 hs2 hs3
            try clear hqk

            have hq1 : q'.length ≤ 1000 := by omega
            have a0 := hx3.blk.cell 0
            have a0 : w3'.cell? ⟨X, 0, none⟩ = some (.slice A3 m cap3) := by rw [hm]; exact a0
            have a1 : w3'.cell? ⟨X, 1, none⟩ = some (.int .i64 rm) := hx3.blk.cell 1
            have H3 := Lib.hid hr3; have X3 := Lib.hid hx3; have HM := Lib.hid hm; have B3 := Lib.hid hb3
            clear hr3 hx3 hm hb3

            by_cases hneg : a < 0
            · have cat := eatI_out R G3 rm m q' a w3' H3.out HM.out.symm (by omega)
              have CAT := Lib.hid cat
              clear cat
              go_wp2_with fail
              refine CAT.out.mono ?_
              rintro e w4 ⟨rfl, hw4⟩
              obtain ⟨n4', hn4'⟩ : ∃ j, w4 = w3'.drewN j := ⟨0, by rw [World.drewN_zero]; exact hw4.symm⟩
              subst hn4'
              clear hw4

              obtain ⟨w5, hw5⟩ : ∃ x, x = w3'.drewN n4' := ⟨_, rfl⟩
              rw [← hw5]
              have h5 : RngI w5 R G3 rm q' := by rw [hw5]; exact H3.out.drewN n4'
              have x5 : RefR w5 X Y3 rm A3 cap3 q' := by rw [hw5]; exact X3.out.chg (Chg.drewN no _ n4') (fun h => h) (fun h => h)
              have hb5 : Below w.heap.size w w5 := by rw [hw5]; exact below_dn B3.out n4'
              have a0 : w5.cell? ⟨X, 0, none⟩ = some (.slice A3 m cap3) := by rw [hw5]; exact a0
              have a1 : w5.cell? ⟨X, 1, none⟩ = some (.int .i64 rm) := by rw [hw5]; exact a1
              have z6 : w.heap.size ≤ w5.heap.size := by rw [hw5]; exact z6
              have z7 : Y3 < w5.heap.size := by rw [hw5]; exact hYs3
              have cl : ∀ j, Calls Try.prog 13 #[.pointer (some ⟨R, 0, none⟩)] (w5.drewN j) fun e w' => e = .returned (.int .i64 m) ∧ w' = w5.drewN j := fun j => (elenI R G3 rm m q' _ (h5.drewN j) HM.out.symm).mono fun _ _ h => ⟨h.1, h.2.symm⟩
              have cr : ∀ j, Calls Try.prog 14 #[.pointer (some ⟨R, 0, none⟩)] (w5.drewN j) fun e w' => e = .returned (.int .i64 rm) ∧ w' = w5.drewN j := fun j => (eroomI R G3 rm q' _ (h5.drewN j)).mono fun _ _ h => ⟨h.1, h.2.symm⟩
              have CL := Lib.hid cl; have CR := Lib.hid cr; have H5 := Lib.hid h5; have X5 := Lib.hid x5; have B5 := Lib.hid hb5
              clear cl cr h5 x5 hb5 hYs3 hw5
              go_wp2
              go_quiet ((first | (go_at_call 13; exact Calls.quiet_of_same (CL.out _)) | (go_at_call 14; exact Calls.quiet_of_same (CR.out _))))
              clear a0 a1
              try clear hci
              go_wp2_with fail
              refine (elistI R G3 rm m q' _ (H5.out.drewN nq) HM.out.symm).mono ?_
              rintro e w6 ⟨rfl, hb6, hc6⟩
              have x6 : RefR w6 X Y3 rm A3 cap3 q' := (X5.out.chg (Chg.drewN no w5 nq) (fun h => h) (fun h => h)).chg hc6 (fun h => h) (fun h => h)
              have h6 : RngI w6 R G3 rm q' := (H5.out.drewN nq).chg hc6 (fun h => h) (fun h => h)
              have a6 : w6.cell? ⟨X, 0, none⟩ = some (.slice A3 m cap3) := by rw [HM.out]; exact x6.blk.cell 0
              have z8 : w5.heap.size ≤ w6.heap.size := hc6.size
              have b6 : Below w.heap.size w w6 := (below_dn B5.out nq).trans (no_below hc6 z6)
              have HB6 := Lib.hid hb6; have X6 := Lib.hid x6; have H6 := Lib.hid h6; have B6 := Lib.hid b6
              clear hb6 hc6 x6 h6 b6
              go_wp2_with fail
              refine (same_eq _ _ _ Y3 m m cap3 q' _ (.blk HB6.out) X6.out.rd HM.out.symm (by rw [HM.out]; exact hq1)).mono ?_
              rintro e w7 ⟨rfl, n7, rfl⟩
              clear a6
              go_wp2
              go_roundw
              case rel => exact ⟨k + 1, q', hlt, by omega, by omega, by go_num, G3, Y3, A3, cap3, H6.out.drewN n7, X6.out.chg (Chg.drewN no _ n7) (fun h => h) (fun h => h), Nat.lt_of_lt_of_le z7 z8, z1, z2, n3, z3, b1, b2, z4, z5, below_dn B6.out n7, Nat.le_trans z6 z8⟩
              case measure => simp [intOf]; omega
            · by_cases hbig : (m : Int) ≤ a
              · have hdf : decide (a < (m : Int)) = false := decide_eq_false (by omega)
                have cat := eatI_out R G3 rm m q' a w3' H3.out HM.out.symm (by omega)
                have CAT := Lib.hid cat
                clear cat
                go_wp2_with fail
                refine CAT.out.mono ?_
                rintro e w4 ⟨rfl, hw4⟩
                obtain ⟨n4', hn4'⟩ : ∃ j, w4 = w3'.drewN j := ⟨0, by rw [World.drewN_zero]; exact hw4.symm⟩
                subst hn4'
                clear hw4

                obtain ⟨w5, hw5⟩ : ∃ x, x = w3'.drewN n4' := ⟨_, rfl⟩
                rw [← hw5]
                have h5 : RngI w5 R G3 rm q' := by rw [hw5]; exact H3.out.drewN n4'
                have x5 : RefR w5 X Y3 rm A3 cap3 q' := by rw [hw5]; exact X3.out.chg (Chg.drewN no _ n4') (fun h => h) (fun h => h)
                have hb5 : Below w.heap.size w w5 := by rw [hw5]; exact below_dn B3.out n4'
                have a0 : w5.cell? ⟨X, 0, none⟩ = some (.slice A3 m cap3) := by rw [hw5]; exact a0
                have a1 : w5.cell? ⟨X, 1, none⟩ = some (.int .i64 rm) := by rw [hw5]; exact a1
                have z6 : w.heap.size ≤ w5.heap.size := by rw [hw5]; exact z6
                have z7 : Y3 < w5.heap.size := by rw [hw5]; exact hYs3
                have cl : ∀ j, Calls Try.prog 13 #[.pointer (some ⟨R, 0, none⟩)] (w5.drewN j) fun e w' => e = .returned (.int .i64 m) ∧ w' = w5.drewN j := fun j => (elenI R G3 rm m q' _ (h5.drewN j) HM.out.symm).mono fun _ _ h => ⟨h.1, h.2.symm⟩
                have cr : ∀ j, Calls Try.prog 14 #[.pointer (some ⟨R, 0, none⟩)] (w5.drewN j) fun e w' => e = .returned (.int .i64 rm) ∧ w' = w5.drewN j := fun j => (eroomI R G3 rm q' _ (h5.drewN j)).mono fun _ _ h => ⟨h.1, h.2.symm⟩
                have CL := Lib.hid cl; have CR := Lib.hid cr; have H5 := Lib.hid h5; have X5 := Lib.hid x5; have B5 := Lib.hid hb5
                clear cl cr h5 x5 hb5 hYs3 hw5
                go_wp2
                go_quiet ((first | (go_at_call 13; exact Calls.quiet_of_same (CL.out _)) | (go_at_call 14; exact Calls.quiet_of_same (CR.out _))))
                clear a0 a1
                try clear hci
                go_wp2_with fail
                refine (elistI R G3 rm m q' _ (H5.out.drewN nq) HM.out.symm).mono ?_
                rintro e w6 ⟨rfl, hb6, hc6⟩
                have x6 : RefR w6 X Y3 rm A3 cap3 q' := (X5.out.chg (Chg.drewN no w5 nq) (fun h => h) (fun h => h)).chg hc6 (fun h => h) (fun h => h)
                have h6 : RngI w6 R G3 rm q' := (H5.out.drewN nq).chg hc6 (fun h => h) (fun h => h)
                have a6 : w6.cell? ⟨X, 0, none⟩ = some (.slice A3 m cap3) := by rw [HM.out]; exact x6.blk.cell 0
                have z8 : w5.heap.size ≤ w6.heap.size := hc6.size
                have b6 : Below w.heap.size w w6 := (below_dn B5.out nq).trans (no_below hc6 z6)
                have HB6 := Lib.hid hb6; have X6 := Lib.hid x6; have H6 := Lib.hid h6; have B6 := Lib.hid b6
                clear hb6 hc6 x6 h6 b6
                go_wp2_with fail
                refine (same_eq _ _ _ Y3 m m cap3 q' _ (.blk HB6.out) X6.out.rd HM.out.symm (by rw [HM.out]; exact hq1)).mono ?_
                rintro e w7 ⟨rfl, n7, rfl⟩
                clear a6
                go_wp2
                go_roundw
                case rel => exact ⟨k + 1, q', hlt, by omega, by omega, by go_num, G3, Y3, A3, cap3, H6.out.drewN n7, X6.out.chg (Chg.drewN no _ n7) (fun h => h) (fun h => h), Nat.lt_of_lt_of_le z7 z8, z1, z2, n3, z3, b1, b2, z4, z5, below_dn B6.out n7, Nat.le_trans z6 z8⟩
                case measure => simp [intOf]; omega
              · obtain ⟨i, rfl⟩ : ∃ i : Nat, a = i := ⟨a.toNat, by omega⟩
                have hiq : i < q'.length := by rw [← HM.out]; omega
                obtain ⟨off, hA3, -, hcl⟩ : ∃ off, A3 = some ⟨Y3, off, none⟩ ∧ Y3 < w3'.heap.size ∧ ∀ i (h : i < q'.length), w3'.cell? ⟨Y3, off + i, none⟩ = some (.int .i64 q'[i]) := by
                  rcases X3.out.rd with ⟨_, h⟩ | h
                  · rw [h] at hiq; exact absurd hiq (Nat.not_lt_zero _)
                  · exact h
                subst hA3
                have hci := hcl i hiq
                obtain ⟨v, hv⟩ : ∃ v, v = q'[i] := ⟨_, rfl⟩
                rw [← hv] at hci
                have cat := eatI_in R G3 rm i q' v w3' H3.out hiq hv.symm
                have CAT := Lib.hid cat
                have him : (i : Int) < (m : Int) := by omega
                clear hcl hv cat hiq
                go_wp2_with fail
                refine CAT.out.mono ?_
                rintro e w4 ⟨rfl, n4', rfl⟩

                obtain ⟨w5, hw5⟩ : ∃ x, x = w3'.drewN n4' := ⟨_, rfl⟩
                rw [← hw5]
                have h5 : RngI w5 R G3 rm q' := by rw [hw5]; exact H3.out.drewN n4'
                have x5 : RefR w5 X Y3 rm (some ⟨Y3, off, none⟩) cap3 q' := by rw [hw5]; exact X3.out.chg (Chg.drewN no _ n4') (fun h => h) (fun h => h)
                have hb5 : Below w.heap.size w w5 := by rw [hw5]; exact below_dn B3.out n4'
                have a0 : w5.cell? ⟨X, 0, none⟩ = some (.slice (some ⟨Y3, off, none⟩) m cap3) := by rw [hw5]; exact a0
                have a1 : w5.cell? ⟨X, 1, none⟩ = some (.int .i64 rm) := by rw [hw5]; exact a1
                have hci : w5.cell? ⟨Y3, off + i, none⟩ = some (.int .i64 v) := by rw [hw5]; exact hci
                have z6 : w.heap.size ≤ w5.heap.size := by rw [hw5]; exact z6
                have z7 : Y3 < w5.heap.size := by rw [hw5]; exact hYs3
                have cl : ∀ j, Calls Try.prog 13 #[.pointer (some ⟨R, 0, none⟩)] (w5.drewN j) fun e w' => e = .returned (.int .i64 m) ∧ w' = w5.drewN j := fun j => (elenI R G3 rm m q' _ (h5.drewN j) HM.out.symm).mono fun _ _ h => ⟨h.1, h.2.symm⟩
                have cr : ∀ j, Calls Try.prog 14 #[.pointer (some ⟨R, 0, none⟩)] (w5.drewN j) fun e w' => e = .returned (.int .i64 rm) ∧ w' = w5.drewN j := fun j => (eroomI R G3 rm q' _ (h5.drewN j)).mono fun _ _ h => ⟨h.1, h.2.symm⟩
                have CL := Lib.hid cl; have CR := Lib.hid cr; have H5 := Lib.hid h5; have X5 := Lib.hid x5; have B5 := Lib.hid hb5
                clear cl cr h5 x5 hb5 hYs3 hw5
                go_wp2
                go_quiet ((first | (go_at_call 13; exact Calls.quiet_of_same (CL.out _)) | (go_at_call 14; exact Calls.quiet_of_same (CR.out _))))
                clear a0 a1
                try clear hci
                go_wp2_with fail
                refine (elistI R G3 rm m q' _ (H5.out.drewN nq) HM.out.symm).mono ?_
                rintro e w6 ⟨rfl, hb6, hc6⟩
                have x6 : RefR w6 X Y3 rm (some ⟨Y3, off, none⟩) cap3 q' := (X5.out.chg (Chg.drewN no w5 nq) (fun h => h) (fun h => h)).chg hc6 (fun h => h) (fun h => h)
                have h6 : RngI w6 R G3 rm q' := (H5.out.drewN nq).chg hc6 (fun h => h) (fun h => h)
                have a6 : w6.cell? ⟨X, 0, none⟩ = some (.slice (some ⟨Y3, off, none⟩) m cap3) := by rw [HM.out]; exact x6.blk.cell 0
                have z8 : w5.heap.size ≤ w6.heap.size := hc6.size
                have b6 : Below w.heap.size w w6 := (below_dn B5.out nq).trans (no_below hc6 z6)
                have HB6 := Lib.hid hb6; have X6 := Lib.hid x6; have H6 := Lib.hid h6; have B6 := Lib.hid b6
                clear hb6 hc6 x6 h6 b6
                go_wp2_with fail
                refine (same_eq _ _ _ Y3 m m cap3 q' _ (.blk HB6.out) X6.out.rd HM.out.symm (by rw [HM.out]; exact hq1)).mono ?_
                rintro e w7 ⟨rfl, n7, rfl⟩
                clear a6
                go_wp2
                go_roundw
                case rel => exact ⟨k + 1, q', hlt, by omega, by omega, by go_num, G3, Y3, (some ⟨Y3, off, none⟩), cap3, H6.out.drewN n7, X6.out.chg (Chg.drewN no _ n7) (fun h => h) (fun h => h), Nat.lt_of_lt_of_le z7 z8, z1, z2, n3, z3, b1, b2, z4, z5, below_dn B6.out n7, Nat.le_trans z6 z8⟩
                case measure => simp [intOf]; omega
          · obtain ⟨x, q', rfl⟩ : ∃ x q', q = x :: q' := by
              cases q with
              | nil => exact absurd rfl hq
              | cons x q' => exact ⟨x, q', rfl⟩
            have hqk' : q'.length ≤ k := by rw [List.length_cons] at hqk; omega
            have HX := Lib.hid hx
            go_wp2_with fail
            refine (epopI_some R G rm q' x _ hr).mono ?_
            rintro e w2' ⟨rfl, hr2, hc2⟩
            have hx2 := HX.out.chg hc2 (by unfold two; omega) (by unfold two; omega)
            have hs2 := hc2.size
            have hb2 := HBEL.out.trans (two_below hc2 hbs b1 b3)
            have HR2 := Lib.hid hr2; have HB2 := Lib.hid hb2
            clear hc2 hr2 hb2
            go_wp2_with fail
            refine (rpop_some X Y rm cap2 A2 x q' _ hx2).mono ?_
            rintro e w3' ⟨rfl, ⟨A3, cap3, hx3⟩, hc3⟩
            have hr3 := HR2.out.chg hc3 (by unfold soleI; omega) (by unfold soleI; omega)
            have hs3 := hc3.size
            have hb3 := HB2.out.trans (sole_below hc3 (by omega) b2)
            obtain ⟨G3, hG3⟩ : ∃ G3, G3 = G := ⟨_, rfl⟩
            obtain ⟨Y3, hY3⟩ : ∃ Y3, Y3 = Y := ⟨_, rfl⟩
            rw [← hG3] at hr3
            rw [← hY3] at hx3

            have hYs3 : Y3 < w3'.heap.size := by omega
            obtain ⟨m, hm⟩ : ∃ m, m = q'.length := ⟨_, rfl⟩
            have z1 : G3 ≠ X := by omega
            have z2 : G3 ≠ Y3 := by omega
            have z3 : R ≠ Y3 := by omega
            have z4 : w.heap.size ≤ G3 := by omega
            have z5 : w.heap.size ≤ Y3 := by omega
            have z6 : w.heap.size ≤ w3'.heap.size := by omega
            clear n1 n2 n4 b3 b4 hYs hbs hG3 hY3 hs2 hs3
            try clear hqk

            have hq1 : q'.length ≤ 1000 := by omega
            have a0 := hx3.blk.cell 0
            have a0 : w3'.cell? ⟨X, 0, none⟩ = some (.slice A3 m cap3) := by rw [hm]; exact a0
            have a1 : w3'.cell? ⟨X, 1, none⟩ = some (.int .i64 rm) := hx3.blk.cell 1
            have H3 := Lib.hid hr3; have X3 := Lib.hid hx3; have HM := Lib.hid hm; have B3 := Lib.hid hb3
            clear hr3 hx3 hm hb3

            by_cases hneg : a < 0
            · have cat := eatI_out R G3 rm m q' a w3' H3.out HM.out.symm (by omega)
              have CAT := Lib.hid cat
              clear cat
              go_wp2_with fail
              refine CAT.out.mono ?_
              rintro e w4 ⟨rfl, hw4⟩
              obtain ⟨n4', hn4'⟩ : ∃ j, w4 = w3'.drewN j := ⟨0, by rw [World.drewN_zero]; exact hw4.symm⟩
              subst hn4'
              clear hw4

              obtain ⟨w5, hw5⟩ : ∃ x, x = w3'.drewN n4' := ⟨_, rfl⟩
              rw [← hw5]
              have h5 : RngI w5 R G3 rm q' := by rw [hw5]; exact H3.out.drewN n4'
              have x5 : RefR w5 X Y3 rm A3 cap3 q' := by rw [hw5]; exact X3.out.chg (Chg.drewN no _ n4') (fun h => h) (fun h => h)
              have hb5 : Below w.heap.size w w5 := by rw [hw5]; exact below_dn B3.out n4'
              have a0 : w5.cell? ⟨X, 0, none⟩ = some (.slice A3 m cap3) := by rw [hw5]; exact a0
              have a1 : w5.cell? ⟨X, 1, none⟩ = some (.int .i64 rm) := by rw [hw5]; exact a1
              have z6 : w.heap.size ≤ w5.heap.size := by rw [hw5]; exact z6
              have z7 : Y3 < w5.heap.size := by rw [hw5]; exact hYs3
              have cl : ∀ j, Calls Try.prog 13 #[.pointer (some ⟨R, 0, none⟩)] (w5.drewN j) fun e w' => e = .returned (.int .i64 m) ∧ w' = w5.drewN j := fun j => (elenI R G3 rm m q' _ (h5.drewN j) HM.out.symm).mono fun _ _ h => ⟨h.1, h.2.symm⟩
              have cr : ∀ j, Calls Try.prog 14 #[.pointer (some ⟨R, 0, none⟩)] (w5.drewN j) fun e w' => e = .returned (.int .i64 rm) ∧ w' = w5.drewN j := fun j => (eroomI R G3 rm q' _ (h5.drewN j)).mono fun _ _ h => ⟨h.1, h.2.symm⟩
              have CL := Lib.hid cl; have CR := Lib.hid cr; have H5 := Lib.hid h5; have X5 := Lib.hid x5; have B5 := Lib.hid hb5
              clear cl cr h5 x5 hb5 hYs3 hw5
              go_wp2
              go_quiet ((first | (go_at_call 13; exact Calls.quiet_of_same (CL.out _)) | (go_at_call 14; exact Calls.quiet_of_same (CR.out _))))
              clear a0 a1
              try clear hci
              go_wp2_with fail
              refine (elistI R G3 rm m q' _ (H5.out.drewN nq) HM.out.symm).mono ?_
              rintro e w6 ⟨rfl, hb6, hc6⟩
              have x6 : RefR w6 X Y3 rm A3 cap3 q' := (X5.out.chg (Chg.drewN no w5 nq) (fun h => h) (fun h => h)).chg hc6 (fun h => h) (fun h => h)
              have h6 : RngI w6 R G3 rm q' := (H5.out.drewN nq).chg hc6 (fun h => h) (fun h => h)
              have a6 : w6.cell? ⟨X, 0, none⟩ = some (.slice A3 m cap3) := by rw [HM.out]; exact x6.blk.cell 0
              have z8 : w5.heap.size ≤ w6.heap.size := hc6.size
              have b6 : Below w.heap.size w w6 := (below_dn B5.out nq).trans (no_below hc6 z6)
              have HB6 := Lib.hid hb6; have X6 := Lib.hid x6; have H6 := Lib.hid h6; have B6 := Lib.hid b6
              clear hb6 hc6 x6 h6 b6
              go_wp2_with fail
              refine (same_eq _ _ _ Y3 m m cap3 q' _ (.blk HB6.out) X6.out.rd HM.out.symm (by rw [HM.out]; exact hq1)).mono ?_
              rintro e w7 ⟨rfl, n7, rfl⟩
              clear a6
              go_wp2
              go_roundw
              case rel => exact ⟨k + 1, q', hlt, by omega, by omega, by go_num, G3, Y3, A3, cap3, H6.out.drewN n7, X6.out.chg (Chg.drewN no _ n7) (fun h => h) (fun h => h), Nat.lt_of_lt_of_le z7 z8, z1, z2, n3, z3, b1, b2, z4, z5, below_dn B6.out n7, Nat.le_trans z6 z8⟩
              case measure => simp [intOf]; omega
            · by_cases hbig : (m : Int) ≤ a
              · have hdf : decide (a < (m : Int)) = false := decide_eq_false (by omega)
                have cat := eatI_out R G3 rm m q' a w3' H3.out HM.out.symm (by omega)
                have CAT := Lib.hid cat
                clear cat
                go_wp2_with fail
                refine CAT.out.mono ?_
                rintro e w4 ⟨rfl, hw4⟩
                obtain ⟨n4', hn4'⟩ : ∃ j, w4 = w3'.drewN j := ⟨0, by rw [World.drewN_zero]; exact hw4.symm⟩
                subst hn4'
                clear hw4

                obtain ⟨w5, hw5⟩ : ∃ x, x = w3'.drewN n4' := ⟨_, rfl⟩
                rw [← hw5]
                have h5 : RngI w5 R G3 rm q' := by rw [hw5]; exact H3.out.drewN n4'
                have x5 : RefR w5 X Y3 rm A3 cap3 q' := by rw [hw5]; exact X3.out.chg (Chg.drewN no _ n4') (fun h => h) (fun h => h)
                have hb5 : Below w.heap.size w w5 := by rw [hw5]; exact below_dn B3.out n4'
                have a0 : w5.cell? ⟨X, 0, none⟩ = some (.slice A3 m cap3) := by rw [hw5]; exact a0
                have a1 : w5.cell? ⟨X, 1, none⟩ = some (.int .i64 rm) := by rw [hw5]; exact a1
                have z6 : w.heap.size ≤ w5.heap.size := by rw [hw5]; exact z6
                have z7 : Y3 < w5.heap.size := by rw [hw5]; exact hYs3
                have cl : ∀ j, Calls Try.prog 13 #[.pointer (some ⟨R, 0, none⟩)] (w5.drewN j) fun e w' => e = .returned (.int .i64 m) ∧ w' = w5.drewN j := fun j => (elenI R G3 rm m q' _ (h5.drewN j) HM.out.symm).mono fun _ _ h => ⟨h.1, h.2.symm⟩
                have cr : ∀ j, Calls Try.prog 14 #[.pointer (some ⟨R, 0, none⟩)] (w5.drewN j) fun e w' => e = .returned (.int .i64 rm) ∧ w' = w5.drewN j := fun j => (eroomI R G3 rm q' _ (h5.drewN j)).mono fun _ _ h => ⟨h.1, h.2.symm⟩
                have CL := Lib.hid cl; have CR := Lib.hid cr; have H5 := Lib.hid h5; have X5 := Lib.hid x5; have B5 := Lib.hid hb5
                clear cl cr h5 x5 hb5 hYs3 hw5
                go_wp2
                go_quiet ((first | (go_at_call 13; exact Calls.quiet_of_same (CL.out _)) | (go_at_call 14; exact Calls.quiet_of_same (CR.out _))))
                clear a0 a1
                try clear hci
                go_wp2_with fail
                refine (elistI R G3 rm m q' _ (H5.out.drewN nq) HM.out.symm).mono ?_
                rintro e w6 ⟨rfl, hb6, hc6⟩
                have x6 : RefR w6 X Y3 rm A3 cap3 q' := (X5.out.chg (Chg.drewN no w5 nq) (fun h => h) (fun h => h)).chg hc6 (fun h => h) (fun h => h)
                have h6 : RngI w6 R G3 rm q' := (H5.out.drewN nq).chg hc6 (fun h => h) (fun h => h)
                have a6 : w6.cell? ⟨X, 0, none⟩ = some (.slice A3 m cap3) := by rw [HM.out]; exact x6.blk.cell 0
                have z8 : w5.heap.size ≤ w6.heap.size := hc6.size
                have b6 : Below w.heap.size w w6 := (below_dn B5.out nq).trans (no_below hc6 z6)
                have HB6 := Lib.hid hb6; have X6 := Lib.hid x6; have H6 := Lib.hid h6; have B6 := Lib.hid b6
                clear hb6 hc6 x6 h6 b6
                go_wp2_with fail
                refine (same_eq _ _ _ Y3 m m cap3 q' _ (.blk HB6.out) X6.out.rd HM.out.symm (by rw [HM.out]; exact hq1)).mono ?_
                rintro e w7 ⟨rfl, n7, rfl⟩
                clear a6
                go_wp2
                go_roundw
                case rel => exact ⟨k + 1, q', hlt, by omega, by omega, by go_num, G3, Y3, A3, cap3, H6.out.drewN n7, X6.out.chg (Chg.drewN no _ n7) (fun h => h) (fun h => h), Nat.lt_of_lt_of_le z7 z8, z1, z2, n3, z3, b1, b2, z4, z5, below_dn B6.out n7, Nat.le_trans z6 z8⟩
                case measure => simp [intOf]; omega
              · obtain ⟨i, rfl⟩ : ∃ i : Nat, a = i := ⟨a.toNat, by omega⟩
                have hiq : i < q'.length := by rw [← HM.out]; omega
                obtain ⟨off, hA3, -, hcl⟩ : ∃ off, A3 = some ⟨Y3, off, none⟩ ∧ Y3 < w3'.heap.size ∧ ∀ i (h : i < q'.length), w3'.cell? ⟨Y3, off + i, none⟩ = some (.int .i64 q'[i]) := by
                  rcases X3.out.rd with ⟨_, h⟩ | h
                  · rw [h] at hiq; exact absurd hiq (Nat.not_lt_zero _)
                  · exact h
                subst hA3
                have hci := hcl i hiq
                obtain ⟨v, hv⟩ : ∃ v, v = q'[i] := ⟨_, rfl⟩
                rw [← hv] at hci
                have cat := eatI_in R G3 rm i q' v w3' H3.out hiq hv.symm
                have CAT := Lib.hid cat
                have him : (i : Int) < (m : Int) := by omega
                clear hcl hv cat hiq
                go_wp2_with fail
                refine CAT.out.mono ?_
                rintro e w4 ⟨rfl, n4', rfl⟩

                obtain ⟨w5, hw5⟩ : ∃ x, x = w3'.drewN n4' := ⟨_, rfl⟩
                rw [← hw5]
                have h5 : RngI w5 R G3 rm q' := by rw [hw5]; exact H3.out.drewN n4'
                have x5 : RefR w5 X Y3 rm (some ⟨Y3, off, none⟩) cap3 q' := by rw [hw5]; exact X3.out.chg (Chg.drewN no _ n4') (fun h => h) (fun h => h)
                have hb5 : Below w.heap.size w w5 := by rw [hw5]; exact below_dn B3.out n4'
                have a0 : w5.cell? ⟨X, 0, none⟩ = some (.slice (some ⟨Y3, off, none⟩) m cap3) := by rw [hw5]; exact a0
                have a1 : w5.cell? ⟨X, 1, none⟩ = some (.int .i64 rm) := by rw [hw5]; exact a1
                have hci : w5.cell? ⟨Y3, off + i, none⟩ = some (.int .i64 v) := by rw [hw5]; exact hci
                have z6 : w.heap.size ≤ w5.heap.size := by rw [hw5]; exact z6
                have z7 : Y3 < w5.heap.size := by rw [hw5]; exact hYs3
                have cl : ∀ j, Calls Try.prog 13 #[.pointer (some ⟨R, 0, none⟩)] (w5.drewN j) fun e w' => e = .returned (.int .i64 m) ∧ w' = w5.drewN j := fun j => (elenI R G3 rm m q' _ (h5.drewN j) HM.out.symm).mono fun _ _ h => ⟨h.1, h.2.symm⟩
                have cr : ∀ j, Calls Try.prog 14 #[.pointer (some ⟨R, 0, none⟩)] (w5.drewN j) fun e w' => e = .returned (.int .i64 rm) ∧ w' = w5.drewN j := fun j => (eroomI R G3 rm q' _ (h5.drewN j)).mono fun _ _ h => ⟨h.1, h.2.symm⟩
                have CL := Lib.hid cl; have CR := Lib.hid cr; have H5 := Lib.hid h5; have X5 := Lib.hid x5; have B5 := Lib.hid hb5
                clear cl cr h5 x5 hb5 hYs3 hw5
                go_wp2
                go_quiet ((first | (go_at_call 13; exact Calls.quiet_of_same (CL.out _)) | (go_at_call 14; exact Calls.quiet_of_same (CR.out _))))
                clear a0 a1
                try clear hci
                go_wp2_with fail
                refine (elistI R G3 rm m q' _ (H5.out.drewN nq) HM.out.symm).mono ?_
                rintro e w6 ⟨rfl, hb6, hc6⟩
                have x6 : RefR w6 X Y3 rm (some ⟨Y3, off, none⟩) cap3 q' := (X5.out.chg (Chg.drewN no w5 nq) (fun h => h) (fun h => h)).chg hc6 (fun h => h) (fun h => h)
                have h6 : RngI w6 R G3 rm q' := (H5.out.drewN nq).chg hc6 (fun h => h) (fun h => h)
                have a6 : w6.cell? ⟨X, 0, none⟩ = some (.slice (some ⟨Y3, off, none⟩) m cap3) := by rw [HM.out]; exact x6.blk.cell 0
                have z8 : w5.heap.size ≤ w6.heap.size := hc6.size
                have b6 : Below w.heap.size w w6 := (below_dn B5.out nq).trans (no_below hc6 z6)
                have HB6 := Lib.hid hb6; have X6 := Lib.hid x6; have H6 := Lib.hid h6; have B6 := Lib.hid b6
                clear hb6 hc6 x6 h6 b6
                go_wp2_with fail
                refine (same_eq _ _ _ Y3 m m cap3 q' _ (.blk HB6.out) X6.out.rd HM.out.symm (by rw [HM.out]; exact hq1)).mono ?_
                rintro e w7 ⟨rfl, n7, rfl⟩
                clear a6
                go_wp2
                go_roundw
                case rel => exact ⟨k + 1, q', hlt, by omega, by omega, by go_num, G3, Y3, (some ⟨Y3, off, none⟩), cap3, H6.out.drewN n7, X6.out.chg (Chg.drewN no _ n7) (fun h => h) (fun h => h), Nat.lt_of_lt_of_le z7 z8, z1, z2, n3, z3, b1, b2, z4, z5, below_dn B6.out n7, Nat.le_trans z6 z8⟩
                case measure => simp [intOf]; omega
        · have h3b : (a.tmod 3 == 0) = false := by simp [h3]
          by_cases hq : q.length = rm
          · have HX := Lib.hid hx
            go_wp2_with fail
            refine (epushI_full a R G rm q _ hr hq).mono ?_
            rintro e w2' ⟨rfl, rfl⟩
            go_wp2_with fail
            refine (rpush_full X Y rm cap2 A2 a q _ HX.out hq).mono ?_
            rintro e w3' ⟨rfl, nn, hw3'⟩
            obtain ⟨q', hq'⟩ : ∃ q' : List Int, q' = q := ⟨_, rfl⟩
            have hqk' : q'.length ≤ k := by rw [hq']; exact hqk
            have hr3 := hr.drewN nn
            have hx3 := hx.chg (Chg.drewN no _ nn) (fun h => h) (fun h => h)
            rw [← hq', ← hw3'] at hr3 hx3
            have hb3 := below_dn HBEL.out nn
            rw [← hw3'] at hb3
            have hs3 : wr.heap.size ≤ w3'.heap.size := by rw [hw3']; exact Nat.le_refl _
            have hs2 : wr.heap.size ≤ wr.heap.size := Nat.le_refl _
            obtain ⟨A3, hA3⟩ : ∃ A3, A3 = A2 := ⟨_, rfl⟩
            obtain ⟨cap3, hcap3⟩ : ∃ cap3, cap3 = cap2 := ⟨_, rfl⟩
            obtain ⟨G3, hG3⟩ : ∃ G3, G3 = G := ⟨_, rfl⟩
            obtain ⟨Y3, hY3⟩ : ∃ Y3, Y3 = Y := ⟨_, rfl⟩
            rw [← hG3] at hr3
            rw [← hY3] at hx3
            rw [← hA3, ← hcap3] at hx3
            clear hw3' hq' hr hA3 hcap3 hx

            have hYs3 : Y3 < w3'.heap.size := by omega
            obtain ⟨m, hm⟩ : ∃ m, m = q'.length := ⟨_, rfl⟩
            have z1 : G3 ≠ X := by omega
            have z2 : G3 ≠ Y3 := by omega
            have z3 : R ≠ Y3 := by omega
            have z4 : w.heap.size ≤ G3 := by omega
            have z5 : w.heap.size ≤ Y3 := by omega
            have z6 : w.heap.size ≤ w3'.heap.size := by omega
            clear n1 n2 n4 b3 b4 hYs hbs hG3 hY3 hs2 hs3
            try clear hqk

            have hq1 : q'.length ≤ 1000 := by omega
            have a0 := hx3.blk.cell 0
            have a0 : w3'.cell? ⟨X, 0, none⟩ = some (.slice A3 m cap3) := by rw [hm]; exact a0
            have a1 : w3'.cell? ⟨X, 1, none⟩ = some (.int .i64 rm) := hx3.blk.cell 1
            have H3 := Lib.hid hr3; have X3 := Lib.hid hx3; have HM := Lib.hid hm; have B3 := Lib.hid hb3
            clear hr3 hx3 hm hb3

            by_cases hneg : a < 0
            · have cat := eatI_out R G3 rm m q' a w3' H3.out HM.out.symm (by omega)
              have CAT := Lib.hid cat
              clear cat
              go_wp2_with fail
              refine CAT.out.mono ?_
              rintro e w4 ⟨rfl, hw4⟩
              obtain ⟨n4', hn4'⟩ : ∃ j, w4 = w3'.drewN j := ⟨0, by rw [World.drewN_zero]; exact hw4.symm⟩
              subst hn4'
              clear hw4

              obtain ⟨w5, hw5⟩ : ∃ x, x = w3'.drewN n4' := ⟨_, rfl⟩
              rw [← hw5]
              have h5 : RngI w5 R G3 rm q' := by rw [hw5]; exact H3.out.drewN n4'
              have x5 : RefR w5 X Y3 rm A3 cap3 q' := by rw [hw5]; exact X3.out.chg (Chg.drewN no _ n4') (fun h => h) (fun h => h)
              have hb5 : Below w.heap.size w w5 := by rw [hw5]; exact below_dn B3.out n4'
              have a0 : w5.cell? ⟨X, 0, none⟩ = some (.slice A3 m cap3) := by rw [hw5]; exact a0
              have a1 : w5.cell? ⟨X, 1, none⟩ = some (.int .i64 rm) := by rw [hw5]; exact a1
              have z6 : w.heap.size ≤ w5.heap.size := by rw [hw5]; exact z6
              have z7 : Y3 < w5.heap.size := by rw [hw5]; exact hYs3
              have cl : ∀ j, Calls Try.prog 13 #[.pointer (some ⟨R, 0, none⟩)] (w5.drewN j) fun e w' => e = .returned (.int .i64 m) ∧ w' = w5.drewN j := fun j => (elenI R G3 rm m q' _ (h5.drewN j) HM.out.symm).mono fun _ _ h => ⟨h.1, h.2.symm⟩
              have cr : ∀ j, Calls Try.prog 14 #[.pointer (some ⟨R, 0, none⟩)] (w5.drewN j) fun e w' => e = .returned (.int .i64 rm) ∧ w' = w5.drewN j := fun j => (eroomI R G3 rm q' _ (h5.drewN j)).mono fun _ _ h => ⟨h.1, h.2.symm⟩
              have CL := Lib.hid cl; have CR := Lib.hid cr; have H5 := Lib.hid h5; have X5 := Lib.hid x5; have B5 := Lib.hid hb5
              clear cl cr h5 x5 hb5 hYs3 hw5
              go_wp2
              go_quiet ((first | (go_at_call 13; exact Calls.quiet_of_same (CL.out _)) | (go_at_call 14; exact Calls.quiet_of_same (CR.out _))))
              clear a0 a1
              try clear hci
              go_wp2_with fail
              refine (elistI R G3 rm m q' _ (H5.out.drewN nq) HM.out.symm).mono ?_
              rintro e w6 ⟨rfl, hb6, hc6⟩
              have x6 : RefR w6 X Y3 rm A3 cap3 q' := (X5.out.chg (Chg.drewN no w5 nq) (fun h => h) (fun h => h)).chg hc6 (fun h => h) (fun h => h)
              have h6 : RngI w6 R G3 rm q' := (H5.out.drewN nq).chg hc6 (fun h => h) (fun h => h)
              have a6 : w6.cell? ⟨X, 0, none⟩ = some (.slice A3 m cap3) := by rw [HM.out]; exact x6.blk.cell 0
              have z8 : w5.heap.size ≤ w6.heap.size := hc6.size
              have b6 : Below w.heap.size w w6 := (below_dn B5.out nq).trans (no_below hc6 z6)
              have HB6 := Lib.hid hb6; have X6 := Lib.hid x6; have H6 := Lib.hid h6; have B6 := Lib.hid b6
              clear hb6 hc6 x6 h6 b6
              go_wp2_with fail
              refine (same_eq _ _ _ Y3 m m cap3 q' _ (.blk HB6.out) X6.out.rd HM.out.symm (by rw [HM.out]; exact hq1)).mono ?_
              rintro e w7 ⟨rfl, n7, rfl⟩
              clear a6
              go_wp2
              go_roundw
              case rel => exact ⟨k + 1, q', hlt, by omega, by omega, by go_num, G3, Y3, A3, cap3, H6.out.drewN n7, X6.out.chg (Chg.drewN no _ n7) (fun h => h) (fun h => h), Nat.lt_of_lt_of_le z7 z8, z1, z2, n3, z3, b1, b2, z4, z5, below_dn B6.out n7, Nat.le_trans z6 z8⟩
              case measure => simp [intOf]; omega
            · by_cases hbig : (m : Int) ≤ a
              · have hdf : decide (a < (m : Int)) = false := decide_eq_false (by omega)
                have cat := eatI_out R G3 rm m q' a w3' H3.out HM.out.symm (by omega)
                have CAT := Lib.hid cat
                clear cat
                go_wp2_with fail
                refine CAT.out.mono ?_
                rintro e w4 ⟨rfl, hw4⟩
                obtain ⟨n4', hn4'⟩ : ∃ j, w4 = w3'.drewN j := ⟨0, by rw [World.drewN_zero]; exact hw4.symm⟩
                subst hn4'
                clear hw4

                obtain ⟨w5, hw5⟩ : ∃ x, x = w3'.drewN n4' := ⟨_, rfl⟩
                rw [← hw5]
                have h5 : RngI w5 R G3 rm q' := by rw [hw5]; exact H3.out.drewN n4'
                have x5 : RefR w5 X Y3 rm A3 cap3 q' := by rw [hw5]; exact X3.out.chg (Chg.drewN no _ n4') (fun h => h) (fun h => h)
                have hb5 : Below w.heap.size w w5 := by rw [hw5]; exact below_dn B3.out n4'
                have a0 : w5.cell? ⟨X, 0, none⟩ = some (.slice A3 m cap3) := by rw [hw5]; exact a0
                have a1 : w5.cell? ⟨X, 1, none⟩ = some (.int .i64 rm) := by rw [hw5]; exact a1
                have z6 : w.heap.size ≤ w5.heap.size := by rw [hw5]; exact z6
                have z7 : Y3 < w5.heap.size := by rw [hw5]; exact hYs3
                have cl : ∀ j, Calls Try.prog 13 #[.pointer (some ⟨R, 0, none⟩)] (w5.drewN j) fun e w' => e = .returned (.int .i64 m) ∧ w' = w5.drewN j := fun j => (elenI R G3 rm m q' _ (h5.drewN j) HM.out.symm).mono fun _ _ h => ⟨h.1, h.2.symm⟩
                have cr : ∀ j, Calls Try.prog 14 #[.pointer (some ⟨R, 0, none⟩)] (w5.drewN j) fun e w' => e = .returned (.int .i64 rm) ∧ w' = w5.drewN j := fun j => (eroomI R G3 rm q' _ (h5.drewN j)).mono fun _ _ h => ⟨h.1, h.2.symm⟩
                have CL := Lib.hid cl; have CR := Lib.hid cr; have H5 := Lib.hid h5; have X5 := Lib.hid x5; have B5 := Lib.hid hb5
                clear cl cr h5 x5 hb5 hYs3 hw5
                go_wp2
                go_quiet ((first | (go_at_call 13; exact Calls.quiet_of_same (CL.out _)) | (go_at_call 14; exact Calls.quiet_of_same (CR.out _))))
                clear a0 a1
                try clear hci
                go_wp2_with fail
                refine (elistI R G3 rm m q' _ (H5.out.drewN nq) HM.out.symm).mono ?_
                rintro e w6 ⟨rfl, hb6, hc6⟩
                have x6 : RefR w6 X Y3 rm A3 cap3 q' := (X5.out.chg (Chg.drewN no w5 nq) (fun h => h) (fun h => h)).chg hc6 (fun h => h) (fun h => h)
                have h6 : RngI w6 R G3 rm q' := (H5.out.drewN nq).chg hc6 (fun h => h) (fun h => h)
                have a6 : w6.cell? ⟨X, 0, none⟩ = some (.slice A3 m cap3) := by rw [HM.out]; exact x6.blk.cell 0
                have z8 : w5.heap.size ≤ w6.heap.size := hc6.size
                have b6 : Below w.heap.size w w6 := (below_dn B5.out nq).trans (no_below hc6 z6)
                have HB6 := Lib.hid hb6; have X6 := Lib.hid x6; have H6 := Lib.hid h6; have B6 := Lib.hid b6
                clear hb6 hc6 x6 h6 b6
                go_wp2_with fail
                refine (same_eq _ _ _ Y3 m m cap3 q' _ (.blk HB6.out) X6.out.rd HM.out.symm (by rw [HM.out]; exact hq1)).mono ?_
                rintro e w7 ⟨rfl, n7, rfl⟩
                clear a6
                go_wp2
                go_roundw
                case rel => exact ⟨k + 1, q', hlt, by omega, by omega, by go_num, G3, Y3, A3, cap3, H6.out.drewN n7, X6.out.chg (Chg.drewN no _ n7) (fun h => h) (fun h => h), Nat.lt_of_lt_of_le z7 z8, z1, z2, n3, z3, b1, b2, z4, z5, below_dn B6.out n7, Nat.le_trans z6 z8⟩
                case measure => simp [intOf]; omega
              · obtain ⟨i, rfl⟩ : ∃ i : Nat, a = i := ⟨a.toNat, by omega⟩
                have hiq : i < q'.length := by rw [← HM.out]; omega
                obtain ⟨off, hA3, -, hcl⟩ : ∃ off, A3 = some ⟨Y3, off, none⟩ ∧ Y3 < w3'.heap.size ∧ ∀ i (h : i < q'.length), w3'.cell? ⟨Y3, off + i, none⟩ = some (.int .i64 q'[i]) := by
                  rcases X3.out.rd with ⟨_, h⟩ | h
                  · rw [h] at hiq; exact absurd hiq (Nat.not_lt_zero _)
                  · exact h
                subst hA3
                have hci := hcl i hiq
                obtain ⟨v, hv⟩ : ∃ v, v = q'[i] := ⟨_, rfl⟩
                rw [← hv] at hci
                have cat := eatI_in R G3 rm i q' v w3' H3.out hiq hv.symm
                have CAT := Lib.hid cat
                have him : (i : Int) < (m : Int) := by omega
                clear hcl hv cat hiq
                go_wp2_with fail
                refine CAT.out.mono ?_
                rintro e w4 ⟨rfl, n4', rfl⟩

                obtain ⟨w5, hw5⟩ : ∃ x, x = w3'.drewN n4' := ⟨_, rfl⟩
                rw [← hw5]
                have h5 : RngI w5 R G3 rm q' := by rw [hw5]; exact H3.out.drewN n4'
                have x5 : RefR w5 X Y3 rm (some ⟨Y3, off, none⟩) cap3 q' := by rw [hw5]; exact X3.out.chg (Chg.drewN no _ n4') (fun h => h) (fun h => h)
                have hb5 : Below w.heap.size w w5 := by rw [hw5]; exact below_dn B3.out n4'
                have a0 : w5.cell? ⟨X, 0, none⟩ = some (.slice (some ⟨Y3, off, none⟩) m cap3) := by rw [hw5]; exact a0
                have a1 : w5.cell? ⟨X, 1, none⟩ = some (.int .i64 rm) := by rw [hw5]; exact a1
                have hci : w5.cell? ⟨Y3, off + i, none⟩ = some (.int .i64 v) := by rw [hw5]; exact hci
                have z6 : w.heap.size ≤ w5.heap.size := by rw [hw5]; exact z6
                have z7 : Y3 < w5.heap.size := by rw [hw5]; exact hYs3
                have cl : ∀ j, Calls Try.prog 13 #[.pointer (some ⟨R, 0, none⟩)] (w5.drewN j) fun e w' => e = .returned (.int .i64 m) ∧ w' = w5.drewN j := fun j => (elenI R G3 rm m q' _ (h5.drewN j) HM.out.symm).mono fun _ _ h => ⟨h.1, h.2.symm⟩
                have cr : ∀ j, Calls Try.prog 14 #[.pointer (some ⟨R, 0, none⟩)] (w5.drewN j) fun e w' => e = .returned (.int .i64 rm) ∧ w' = w5.drewN j := fun j => (eroomI R G3 rm q' _ (h5.drewN j)).mono fun _ _ h => ⟨h.1, h.2.symm⟩
                have CL := Lib.hid cl; have CR := Lib.hid cr; have H5 := Lib.hid h5; have X5 := Lib.hid x5; have B5 := Lib.hid hb5
                clear cl cr h5 x5 hb5 hYs3 hw5
                go_wp2
                go_quiet ((first | (go_at_call 13; exact Calls.quiet_of_same (CL.out _)) | (go_at_call 14; exact Calls.quiet_of_same (CR.out _))))
                clear a0 a1
                try clear hci
                go_wp2_with fail
                refine (elistI R G3 rm m q' _ (H5.out.drewN nq) HM.out.symm).mono ?_
                rintro e w6 ⟨rfl, hb6, hc6⟩
                have x6 : RefR w6 X Y3 rm (some ⟨Y3, off, none⟩) cap3 q' := (X5.out.chg (Chg.drewN no w5 nq) (fun h => h) (fun h => h)).chg hc6 (fun h => h) (fun h => h)
                have h6 : RngI w6 R G3 rm q' := (H5.out.drewN nq).chg hc6 (fun h => h) (fun h => h)
                have a6 : w6.cell? ⟨X, 0, none⟩ = some (.slice (some ⟨Y3, off, none⟩) m cap3) := by rw [HM.out]; exact x6.blk.cell 0
                have z8 : w5.heap.size ≤ w6.heap.size := hc6.size
                have b6 : Below w.heap.size w w6 := (below_dn B5.out nq).trans (no_below hc6 z6)
                have HB6 := Lib.hid hb6; have X6 := Lib.hid x6; have H6 := Lib.hid h6; have B6 := Lib.hid b6
                clear hb6 hc6 x6 h6 b6
                go_wp2_with fail
                refine (same_eq _ _ _ Y3 m m cap3 q' _ (.blk HB6.out) X6.out.rd HM.out.symm (by rw [HM.out]; exact hq1)).mono ?_
                rintro e w7 ⟨rfl, n7, rfl⟩
                clear a6
                go_wp2
                go_roundw
                case rel => exact ⟨k + 1, q', hlt, by omega, by omega, by go_num, G3, Y3, (some ⟨Y3, off, none⟩), cap3, H6.out.drewN n7, X6.out.chg (Chg.drewN no _ n7) (fun h => h) (fun h => h), Nat.lt_of_lt_of_le z7 z8, z1, z2, n3, z3, b1, b2, z4, z5, below_dn B6.out n7, Nat.le_trans z6 z8⟩
                case measure => simp [intOf]; omega
          · have hq : q.length < rm := by have := hr.le.1; omega
            have HX := Lib.hid hx
            have hXw := hx.blk.lt
            obtain ⟨q', hq'⟩ : ∃ q', q' = q ++ [a] := ⟨_, rfl⟩
            have hqk' : q'.length ≤ k + 1 := by rw [hq', List.length_append]; exact Nat.succ_le_succ hqk
            go_wp2_with fail
            refine (epushI_fits a R G rm q _ hr hq).mono ?_
            rintro e w2' ⟨rfl, ⟨G3, hG3, hr2⟩, hc2⟩
            have hx2 := HX.out.chg hc2 (by unfold two; omega) (by unfold two; omega)
            have hs2 := hc2.size
            have hb2 := HBEL.out.trans (two_below hc2 hbs b1 b3)
            have HR2 := Lib.hid hr2; have HB2 := Lib.hid hb2
            have hXs := hx2.blk.lt
            clear hc2 hr2 hb2
            go_wp2_with fail
            refine (rpush_fits X Y rm cap2 A2 a q _ hx2 hq (by omega)).mono ?_
            rintro e w3' ⟨rfl, ⟨Y3, A3, cap3, hY3, hx3⟩, hc3⟩
            have hG3s := HR2.out.lt.2
            have hRs := HR2.out.lt.1
            have hr3 := HR2.out.chg hc3 (by unfold soleI; omega) (by unfold soleI; omega)
            have hs3 := hc3.size
            have hb3 := HB2.out.trans (sole_below hc3 (by omega) b2)
            rw [← hq'] at hr3 hx3

            have hYs3 : Y3 < w3'.heap.size := by
              rcases hx3.rd with ⟨_, h⟩ | ⟨off, _, h, _⟩
              · rw [hq'] at h; simp at h
              · exact h
            obtain ⟨m, hm⟩ : ∃ m, m = q'.length := ⟨_, rfl⟩
            have z1 : G3 ≠ X := by omega
            have z2 : G3 ≠ Y3 := by omega
            have z3 : R ≠ Y3 := by omega
            have z4 : w.heap.size ≤ G3 := by omega
            have z5 : w.heap.size ≤ Y3 := by omega
            have z6 : w.heap.size ≤ w3'.heap.size := by omega
            clear n1 n2 n4 b3 b4 hYs hbs hG3 hY3 hs2 hs3
            try clear hqk

            have hq1 : q'.length ≤ 1000 := by omega
            have a0 := hx3.blk.cell 0
            have a0 : w3'.cell? ⟨X, 0, none⟩ = some (.slice A3 m cap3) := by rw [hm]; exact a0
            have a1 : w3'.cell? ⟨X, 1, none⟩ = some (.int .i64 rm) := hx3.blk.cell 1
            have H3 := Lib.hid hr3; have X3 := Lib.hid hx3; have HM := Lib.hid hm; have B3 := Lib.hid hb3
            clear hr3 hx3 hm hb3

            by_cases hneg : a < 0
            · have cat := eatI_out R G3 rm m q' a w3' H3.out HM.out.symm (by omega)
              have CAT := Lib.hid cat
              clear cat
              go_wp2_with fail
              refine CAT.out.mono ?_
              rintro e w4 ⟨rfl, hw4⟩
              obtain ⟨n4', hn4'⟩ : ∃ j, w4 = w3'.drewN j := ⟨0, by rw [World.drewN_zero]; exact hw4.symm⟩
              subst hn4'
              clear hw4

              obtain ⟨w5, hw5⟩ : ∃ x, x = w3'.drewN n4' := ⟨_, rfl⟩
              rw [← hw5]
              have h5 : RngI w5 R G3 rm q' := by rw [hw5]; exact H3.out.drewN n4'
              have x5 : RefR w5 X Y3 rm A3 cap3 q' := by rw [hw5]; exact X3.out.chg (Chg.drewN no _ n4') (fun h => h) (fun h => h)
              have hb5 : Below w.heap.size w w5 := by rw [hw5]; exact below_dn B3.out n4'
              have a0 : w5.cell? ⟨X, 0, none⟩ = some (.slice A3 m cap3) := by rw [hw5]; exact a0
              have a1 : w5.cell? ⟨X, 1, none⟩ = some (.int .i64 rm) := by rw [hw5]; exact a1
              have z6 : w.heap.size ≤ w5.heap.size := by rw [hw5]; exact z6
              have z7 : Y3 < w5.heap.size := by rw [hw5]; exact hYs3
              have cl : ∀ j, Calls Try.prog 13 #[.pointer (some ⟨R, 0, none⟩)] (w5.drewN j) fun e w' => e = .returned (.int .i64 m) ∧ w' = w5.drewN j := fun j => (elenI R G3 rm m q' _ (h5.drewN j) HM.out.symm).mono fun _ _ h => ⟨h.1, h.2.symm⟩
              have cr : ∀ j, Calls Try.prog 14 #[.pointer (some ⟨R, 0, none⟩)] (w5.drewN j) fun e w' => e = .returned (.int .i64 rm) ∧ w' = w5.drewN j := fun j => (eroomI R G3 rm q' _ (h5.drewN j)).mono fun _ _ h => ⟨h.1, h.2.symm⟩
              have CL := Lib.hid cl; have CR := Lib.hid cr; have H5 := Lib.hid h5; have X5 := Lib.hid x5; have B5 := Lib.hid hb5
              clear cl cr h5 x5 hb5 hYs3 hw5
              go_wp2
              go_quiet ((first | (go_at_call 13; exact Calls.quiet_of_same (CL.out _)) | (go_at_call 14; exact Calls.quiet_of_same (CR.out _))))
              clear a0 a1
              try clear hci
              go_wp2_with fail
              refine (elistI R G3 rm m q' _ (H5.out.drewN nq) HM.out.symm).mono ?_
              rintro e w6 ⟨rfl, hb6, hc6⟩
              have x6 : RefR w6 X Y3 rm A3 cap3 q' := (X5.out.chg (Chg.drewN no w5 nq) (fun h => h) (fun h => h)).chg hc6 (fun h => h) (fun h => h)
              have h6 : RngI w6 R G3 rm q' := (H5.out.drewN nq).chg hc6 (fun h => h) (fun h => h)
              have a6 : w6.cell? ⟨X, 0, none⟩ = some (.slice A3 m cap3) := by rw [HM.out]; exact x6.blk.cell 0
              have z8 : w5.heap.size ≤ w6.heap.size := hc6.size
              have b6 : Below w.heap.size w w6 := (below_dn B5.out nq).trans (no_below hc6 z6)
              have HB6 := Lib.hid hb6; have X6 := Lib.hid x6; have H6 := Lib.hid h6; have B6 := Lib.hid b6
              clear hb6 hc6 x6 h6 b6
              go_wp2_with fail
              refine (same_eq _ _ _ Y3 m m cap3 q' _ (.blk HB6.out) X6.out.rd HM.out.symm (by rw [HM.out]; exact hq1)).mono ?_
              rintro e w7 ⟨rfl, n7, rfl⟩
              clear a6
              go_wp2
              go_roundw
              case rel => exact ⟨k + 1, q', hlt, by omega, by omega, by go_num, G3, Y3, A3, cap3, H6.out.drewN n7, X6.out.chg (Chg.drewN no _ n7) (fun h => h) (fun h => h), Nat.lt_of_lt_of_le z7 z8, z1, z2, n3, z3, b1, b2, z4, z5, below_dn B6.out n7, Nat.le_trans z6 z8⟩
              case measure => simp [intOf]; omega
            · by_cases hbig : (m : Int) ≤ a
              · have hdf : decide (a < (m : Int)) = false := decide_eq_false (by omega)
                have cat := eatI_out R G3 rm m q' a w3' H3.out HM.out.symm (by omega)
                have CAT := Lib.hid cat
                clear cat
                go_wp2_with fail
                refine CAT.out.mono ?_
                rintro e w4 ⟨rfl, hw4⟩
                obtain ⟨n4', hn4'⟩ : ∃ j, w4 = w3'.drewN j := ⟨0, by rw [World.drewN_zero]; exact hw4.symm⟩
                subst hn4'
                clear hw4

                obtain ⟨w5, hw5⟩ : ∃ x, x = w3'.drewN n4' := ⟨_, rfl⟩
                rw [← hw5]
                have h5 : RngI w5 R G3 rm q' := by rw [hw5]; exact H3.out.drewN n4'
                have x5 : RefR w5 X Y3 rm A3 cap3 q' := by rw [hw5]; exact X3.out.chg (Chg.drewN no _ n4') (fun h => h) (fun h => h)
                have hb5 : Below w.heap.size w w5 := by rw [hw5]; exact below_dn B3.out n4'
                have a0 : w5.cell? ⟨X, 0, none⟩ = some (.slice A3 m cap3) := by rw [hw5]; exact a0
                have a1 : w5.cell? ⟨X, 1, none⟩ = some (.int .i64 rm) := by rw [hw5]; exact a1
                have z6 : w.heap.size ≤ w5.heap.size := by rw [hw5]; exact z6
                have z7 : Y3 < w5.heap.size := by rw [hw5]; exact hYs3
                have cl : ∀ j, Calls Try.prog 13 #[.pointer (some ⟨R, 0, none⟩)] (w5.drewN j) fun e w' => e = .returned (.int .i64 m) ∧ w' = w5.drewN j := fun j => (elenI R G3 rm m q' _ (h5.drewN j) HM.out.symm).mono fun _ _ h => ⟨h.1, h.2.symm⟩
                have cr : ∀ j, Calls Try.prog 14 #[.pointer (some ⟨R, 0, none⟩)] (w5.drewN j) fun e w' => e = .returned (.int .i64 rm) ∧ w' = w5.drewN j := fun j => (eroomI R G3 rm q' _ (h5.drewN j)).mono fun _ _ h => ⟨h.1, h.2.symm⟩
                have CL := Lib.hid cl; have CR := Lib.hid cr; have H5 := Lib.hid h5; have X5 := Lib.hid x5; have B5 := Lib.hid hb5
                clear cl cr h5 x5 hb5 hYs3 hw5
                go_wp2
                go_quiet ((first | (go_at_call 13; exact Calls.quiet_of_same (CL.out _)) | (go_at_call 14; exact Calls.quiet_of_same (CR.out _))))
                clear a0 a1
                try clear hci
                go_wp2_with fail
                refine (elistI R G3 rm m q' _ (H5.out.drewN nq) HM.out.symm).mono ?_
                rintro e w6 ⟨rfl, hb6, hc6⟩
                have x6 : RefR w6 X Y3 rm A3 cap3 q' := (X5.out.chg (Chg.drewN no w5 nq) (fun h => h) (fun h => h)).chg hc6 (fun h => h) (fun h => h)
                have h6 : RngI w6 R G3 rm q' := (H5.out.drewN nq).chg hc6 (fun h => h) (fun h => h)
                have a6 : w6.cell? ⟨X, 0, none⟩ = some (.slice A3 m cap3) := by rw [HM.out]; exact x6.blk.cell 0
                have z8 : w5.heap.size ≤ w6.heap.size := hc6.size
                have b6 : Below w.heap.size w w6 := (below_dn B5.out nq).trans (no_below hc6 z6)
                have HB6 := Lib.hid hb6; have X6 := Lib.hid x6; have H6 := Lib.hid h6; have B6 := Lib.hid b6
                clear hb6 hc6 x6 h6 b6
                go_wp2_with fail
                refine (same_eq _ _ _ Y3 m m cap3 q' _ (.blk HB6.out) X6.out.rd HM.out.symm (by rw [HM.out]; exact hq1)).mono ?_
                rintro e w7 ⟨rfl, n7, rfl⟩
                clear a6
                go_wp2
                go_roundw
                case rel => exact ⟨k + 1, q', hlt, by omega, by omega, by go_num, G3, Y3, A3, cap3, H6.out.drewN n7, X6.out.chg (Chg.drewN no _ n7) (fun h => h) (fun h => h), Nat.lt_of_lt_of_le z7 z8, z1, z2, n3, z3, b1, b2, z4, z5, below_dn B6.out n7, Nat.le_trans z6 z8⟩
                case measure => simp [intOf]; omega
              · obtain ⟨i, rfl⟩ : ∃ i : Nat, a = i := ⟨a.toNat, by omega⟩
                have hiq : i < q'.length := by rw [← HM.out]; omega
                obtain ⟨off, hA3, -, hcl⟩ : ∃ off, A3 = some ⟨Y3, off, none⟩ ∧ Y3 < w3'.heap.size ∧ ∀ i (h : i < q'.length), w3'.cell? ⟨Y3, off + i, none⟩ = some (.int .i64 q'[i]) := by
                  rcases X3.out.rd with ⟨_, h⟩ | h
                  · rw [h] at hiq; exact absurd hiq (Nat.not_lt_zero _)
                  · exact h
                subst hA3
                have hci := hcl i hiq
                obtain ⟨v, hv⟩ : ∃ v, v = q'[i] := ⟨_, rfl⟩
                rw [← hv] at hci
                have cat := eatI_in R G3 rm i q' v w3' H3.out hiq hv.symm
                have CAT := Lib.hid cat
                have him : (i : Int) < (m : Int) := by omega
                clear hcl hv cat hiq
                go_wp2_with fail
                refine CAT.out.mono ?_
                rintro e w4 ⟨rfl, n4', rfl⟩

                obtain ⟨w5, hw5⟩ : ∃ x, x = w3'.drewN n4' := ⟨_, rfl⟩
                rw [← hw5]
                have h5 : RngI w5 R G3 rm q' := by rw [hw5]; exact H3.out.drewN n4'
                have x5 : RefR w5 X Y3 rm (some ⟨Y3, off, none⟩) cap3 q' := by rw [hw5]; exact X3.out.chg (Chg.drewN no _ n4') (fun h => h) (fun h => h)
                have hb5 : Below w.heap.size w w5 := by rw [hw5]; exact below_dn B3.out n4'
                have a0 : w5.cell? ⟨X, 0, none⟩ = some (.slice (some ⟨Y3, off, none⟩) m cap3) := by rw [hw5]; exact a0
                have a1 : w5.cell? ⟨X, 1, none⟩ = some (.int .i64 rm) := by rw [hw5]; exact a1
                have hci : w5.cell? ⟨Y3, off + i, none⟩ = some (.int .i64 v) := by rw [hw5]; exact hci
                have z6 : w.heap.size ≤ w5.heap.size := by rw [hw5]; exact z6
                have z7 : Y3 < w5.heap.size := by rw [hw5]; exact hYs3
                have cl : ∀ j, Calls Try.prog 13 #[.pointer (some ⟨R, 0, none⟩)] (w5.drewN j) fun e w' => e = .returned (.int .i64 m) ∧ w' = w5.drewN j := fun j => (elenI R G3 rm m q' _ (h5.drewN j) HM.out.symm).mono fun _ _ h => ⟨h.1, h.2.symm⟩
                have cr : ∀ j, Calls Try.prog 14 #[.pointer (some ⟨R, 0, none⟩)] (w5.drewN j) fun e w' => e = .returned (.int .i64 rm) ∧ w' = w5.drewN j := fun j => (eroomI R G3 rm q' _ (h5.drewN j)).mono fun _ _ h => ⟨h.1, h.2.symm⟩
                have CL := Lib.hid cl; have CR := Lib.hid cr; have H5 := Lib.hid h5; have X5 := Lib.hid x5; have B5 := Lib.hid hb5
                clear cl cr h5 x5 hb5 hYs3 hw5
                go_wp2
                go_quiet ((first | (go_at_call 13; exact Calls.quiet_of_same (CL.out _)) | (go_at_call 14; exact Calls.quiet_of_same (CR.out _))))
                clear a0 a1
                try clear hci
                go_wp2_with fail
                refine (elistI R G3 rm m q' _ (H5.out.drewN nq) HM.out.symm).mono ?_
                rintro e w6 ⟨rfl, hb6, hc6⟩
                have x6 : RefR w6 X Y3 rm (some ⟨Y3, off, none⟩) cap3 q' := (X5.out.chg (Chg.drewN no w5 nq) (fun h => h) (fun h => h)).chg hc6 (fun h => h) (fun h => h)
                have h6 : RngI w6 R G3 rm q' := (H5.out.drewN nq).chg hc6 (fun h => h) (fun h => h)
                have a6 : w6.cell? ⟨X, 0, none⟩ = some (.slice (some ⟨Y3, off, none⟩) m cap3) := by rw [HM.out]; exact x6.blk.cell 0
                have z8 : w5.heap.size ≤ w6.heap.size := hc6.size
                have b6 : Below w.heap.size w w6 := (below_dn B5.out nq).trans (no_below hc6 z6)
                have HB6 := Lib.hid hb6; have X6 := Lib.hid x6; have H6 := Lib.hid h6; have B6 := Lib.hid b6
                clear hb6 hc6 x6 h6 b6
                go_wp2_with fail
                refine (same_eq _ _ _ Y3 m m cap3 q' _ (.blk HB6.out) X6.out.rd HM.out.symm (by rw [HM.out]; exact hq1)).mono ?_
                rintro e w7 ⟨rfl, n7, rfl⟩
                clear a6
                go_wp2
                go_roundw
                case rel => exact ⟨k + 1, q', hlt, by omega, by omega, by go_num, G3, Y3, (some ⟨Y3, off, none⟩), cap3, H6.out.drewN n7, X6.out.chg (Chg.drewN no _ n7) (fun h => h) (fun h => h), Nat.lt_of_lt_of_le z7 z8, z1, z2, n3, z3, b1, b2, z4, z5, below_dn B6.out n7, Nat.le_trans z6 z8⟩
                case measure => simp [intOf]; omega
    · have hkn : k = n := by omega
      subst hkn
      clear hbel
      go_wp2_with fail
      refine (popI_nil _).mono ?_
      rintro e w' ⟨rfl, rfl⟩
      go_wp2_with fail
      refine (atI_nil 0 _).mono ?_
      rintro e w' ⟨rfl, rfl⟩
      go_wp2_with fail
      refine (pushI_nil 1 _).mono ?_
      rintro e w' ⟨rfl, rfl⟩
      go_wp2_with fail
      refine (lenI_nil _).mono ?_
      rintro e w' ⟨rfl, rfl⟩
      go_wp2_with fail
      refine (roomI_nil _).mono ?_
      rintro e w' ⟨rfl, rfl⟩
      go_wp2_with fail
      refine (listI_nil _).mono ?_
      rintro e w9 ⟨⟨A9, rfl⟩, hc9⟩
      have C9 := Lib.hid hc9; clear hc9
      go_wp2
      go_ret
      exact ⟨rfl, HBEL.out.trans (no_below C9.out hbs)⟩
end Go.Proofs.Yteepofehjofeaaa
