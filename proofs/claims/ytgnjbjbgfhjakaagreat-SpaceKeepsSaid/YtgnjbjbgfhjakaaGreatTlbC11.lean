/-
  What tlb.Fence answers and leaves in memory: contracts over the translation. Each says its own conditions.
-/
import Derived.Test.YtgnjbjbgfhjakaaGreatTlbL11
namespace Go.Proofs.YtgnjbjbgfhjakaaGreat
open Go.RowKit
set_option linter.unusedVariables false
set_option linter.unusedSimpArgs false
attribute [local go_sem] setCell_drewN alloc_drewN

/-- a list of none or one, apart from these blocks -/
def LsX (w : World) (k : IntKind) (F : Nat → Prop) (v : Value) : Option Int → Prop
  | none => ∃ A c, v = .slice A 0 c
  | some x => ∃ q p n c, v = .slice (some ⟨q, p, none⟩) n c ∧ 0 < n ∧ w.cell? ⟨q, p, none⟩ = some (.int k x) ∧ ¬ F q
theorem LsX.ls {w : World} {k : IntKind} {F : Nat → Prop} {v : Value} {o : Option Int} (h : LsX w k F v o) : LsN w k v o := by
  obtain _ | x := o
  · exact h
  · obtain ⟨q, p, n, c, h1, h2, h3, h4⟩ := h
    exact ⟨q, p, n, c, h1, h2, h3⟩
theorem LsX.chg {w w' : World} {k : IntKind} {F : Nat → Prop} {v : Value} {o : Option Int} (h : LsX w k F v o) (hc : Chg F w w') : LsX w' k F v o := by
  obtain _ | x := o
  · exact h
  · obtain ⟨q, p, n, c, h1, h2, h3, h4⟩ := h
    refine ⟨q, p, n, c, h1, h2, ?_, h4⟩
    have hlt : q < w.heap.size := by
      rcases Nat.lt_or_ge q w.heap.size with hlt | hge
      · exact hlt
      · simp [World.cell?, Array.getElem?_eq_none hge] at h3
    exact (World.cell?_of_block (w := w) (a := ⟨q, p, none⟩) (hc.block q hlt h4)).trans h3
theorem rowC_congr {f f' : Nat → Wy} : ∀ n, (∀ j, j < n → f j = f' j) → rowC f n = rowC f' n
  | 0, _ => rfl
  | n + 1, h => by rw [rowC, rowC, rowC_congr n (fun j hj => h j (by omega)), h n (by omega)]
theorem Buf.congr {w : World} {b sp n m : Nat} {g : Nat → Nat} {R Q : Nat → Nat → Wy} (h : Buf w b sp g n m R) (e : ∀ i j, i < n → j < m → R i j = Q i j) : Buf w b sp g n m Q :=
  ⟨h.blk, h.sets, fun i hi => by rw [← rowC_congr m (fun j hj => e i j hi hj)]; exact h.row i hi, h.n0, h.n1, h.m0, h.m1, h.ne, h.gb, h.gi, fun i j hi hj => by rw [← e i j hi hj]; exact h.lv i j hi hj⟩
/-- a fence under way: k sets are done, of the next one j ways -/
def stF (P : Nat → Nat → Bool) (R : Nat → Nat → Wy) (k j : Nat) : Nat → Nat → Wy := fun i l => if (i < k ∨ (i = k ∧ l < j)) ∧ P i l = true then zw else R i l
theorem stF_zero (P : Nat → Nat → Bool) (R : Nat → Nat → Wy) : stF P R 0 0 = R := by
  funext i l; unfold stF; rw [if_neg (by omega)]
theorem stF_here (P : Nat → Nat → Bool) (R : Nat → Nat → Wy) (k j : Nat) : stF P R k j k j = R k j := by
  unfold stF; rw [if_neg (by omega)]
theorem stF_no {P : Nat → Nat → Bool} (R : Nat → Nat → Wy) {k j : Nat} (h : P k j = false) : stF P R k (j + 1) = stF P R k j := by
  funext i l
  unfold stF
  by_cases e : i = k ∧ l = j
  · obtain ⟨rfl, rfl⟩ := e
    rw [if_neg (by simp [h]), if_neg (by simp [h])]
  · congr 1
    rw [eq_iff_iff]
    constructor
    · rintro ⟨h1, h2⟩; exact ⟨by omega, h2⟩
    · rintro ⟨h1, h2⟩; exact ⟨by omega, h2⟩
theorem stF_yes {P : Nat → Nat → Bool} (R : Nat → Nat → Wy) {k j : Nat} (h : P k j = true) : stF P R k (j + 1) = updB (stF P R k j) k j zw := by
  funext i l
  unfold updB updW
  by_cases e : i = k
  · subst e
    rw [if_pos rfl]
    by_cases e2 : l = j
    · subst e2
      rw [if_pos rfl]
      unfold stF
      rw [if_pos ⟨by omega, h⟩]
    · rw [if_neg e2]
      unfold stF
      congr 1
      rw [eq_iff_iff]
      constructor
      · rintro ⟨h1, h2⟩; exact ⟨by omega, h2⟩
      · rintro ⟨h1, h2⟩; exact ⟨by omega, h2⟩
  · rw [if_neg e]
    unfold stF
    congr 1
    rw [eq_iff_iff]
    constructor
    · rintro ⟨h1, h2⟩; exact ⟨by omega, h2⟩
    · rintro ⟨h1, h2⟩; exact ⟨by omega, h2⟩
theorem stF_next (P : Nat → Nat → Bool) (R : Nat → Nat → Wy) {k m : Nat} : ∀ i j, j < m → stF P R k m i j = stF P R (k + 1) 0 i j := by
  intro i j hj
  unfold stF
  congr 1
  rw [eq_iff_iff]
  constructor
  · rintro ⟨h1, h2⟩; exact ⟨by omega, h2⟩
  · rintro ⟨h1, h2⟩; exact ⟨by omega, h2⟩
set_option maxHeartbeats 8000000 in
theorem fence_any (b sp : Nat) (g : Nat → Nat) (n m : Nat) (R : Nat → Nat → Wy) (va : Option Nat) (a : Option Int) (v1 v2 : Value) (w : World) (h : Buf w b sp g n m R) (hv : ∀ k, va = some k → k < 18446744073709551616)
    (hl1 : LsX w .u64 (FpT b sp g n) v1 (va.map (fun k => (k : Int)))) (hl2 : LsX w .i64 (FpT b sp g n) v2 a) :
    Calls Tryz.prog 77 #[.pointer (some ⟨b, 0, none⟩), v1, v2] w fun r w' => r = .returned (.int .i64 (cnt2 (fun i j => goes (R i j) va a) m n : Nat)) ∧ Buf w' b sp g n m (fenT R va a) ∧ Chg (FpT b sp g n) w w' := by
  have h1 := none_at h
  have n1 := h.n1
  have m1 := h.m1
  obtain ⟨P, hP⟩ : ∃ P : Nat → Nat → Bool, P = fun i j => goes (R i j) va a := ⟨_, rfl⟩
  have hfin : ∀ i j, i < n → j < m → stF P R n 0 i j = fenT R va a i j := by
    intro i j hi hj
    unfold stF fenT
    subst hP
    dsimp only
    congr 1
    rw [eq_iff_iff]
    constructor
    · rintro ⟨h1, h2⟩; exact h2
    · intro h2; exact ⟨by omega, h2⟩
  have hP2 : ∀ i j, P i j = goes (R i j) va a := fun i j => by rw [hP]
  rw [← hP]
  clear hP
  have c0 : w.cell? ⟨b, 0, none⟩ = some (.slice (some ⟨sp, 0, none⟩) n n) := h.blk.cell 0
  obtain ⟨X, hX⟩ : ∃ X, X = fenT R va a := ⟨_, rfl⟩
  rw [← hX] at hfin ⊢
  have hz : zw.l.lv < 3 := by decide
  have H := Lib.hid h; have H1 := Lib.hid h1; have L1 := Lib.hid hl1; have L2 := Lib.hid hl2; have HV := Lib.hid hv; have HP := Lib.hid hP2; have HF := Lib.hid hfin; have HZ := Lib.hid hz
  clear h h1 hl1 hl2 hv hP2 hfin hX hz
  go_enter Tryz.func77, Tryz.ntmps77
  go_wp2_with fail
  refine (H1.out).mono ?_
  rintro e wx ⟨rfl, rfl⟩
  go_wp2
  clear c0
  go_loopw [7, 18] (fun s i wr => ∃ k : Nat, k ≤ n ∧ i = .int .i64 k ∧ s = .int .i64 (cnt2 P m k : Nat) ∧ Buf wr b sp g n m (stF P R k 0) ∧ Chg (FpT b sp g n) w wr) (fun _ i _ => n - (intOf i).toNat)
  case atStart => exact ⟨0, Nat.zero_le _, rfl, rfl, (by rw [stF_zero]; exact H.out), Chg.refl _ _⟩
  case round =>
    obtain ⟨k, hk, rfl, rfl, hb, hc⟩ := hrel
    by_cases hlt : k < n
    · have hki : (k : Int) < (n : Int) := by omega
      have cs := hb.set_at hlt
      have HB := Lib.hid hb; have HC := Lib.hid hc; clear hb hc
      go_wp2
      clear cs
      go_loopw [7, 24] (fun s i wq => ∃ j : Nat, j ≤ m ∧ i = .int .i64 j ∧ s = .int .i64 (cnt2 P m k + cnt1 (P k) j : Nat) ∧ Buf wq b sp g n m (stF P R k j) ∧ Chg (FpT b sp g n) w wq) (fun _ i _ => m - (intOf i).toNat)
      case atStart => exact ⟨0, Nat.zero_le _, rfl, rfl, HB.out, HC.out⟩
      case round =>
        obtain ⟨j, hj, rfl, rfl, hb, hc⟩ := hrel
        by_cases hlt2 : j < m
        · have hji : (j : Int) < (m : Int) := by omega
          have hr := hb.row k hlt
          have hw := hr.wy hlt2
          rw [stF_here] at hw
          have hfe := fenced_any (R k j) (g k) (j * 15) va a v1 v2 wr hw (by have := H.out.lv k j hlt hlt2; exact this) HV.out (L1.out.chg hc).ls (L2.out.chg hc).ls
          have hpe := HP.out k j
          unfold goes at hpe
          have c0 : wr.cell? ⟨g k, j * 15, none⟩ = some (.bool (R k j).full) := hw 0 _ rfl
          generalize (R k j).full = U at c0 hpe
          generalize fenW (R k j) va a = E at hfe hpe
          obtain ⟨C, hC⟩ : ∃ C, C = cnt2 P m k + cnt1 (P k) j := ⟨_, rfl⟩
          have hC2 : C ≤ 512 := by
            have q1 := cnt2_le P m k
            have q2 := cnt1_le (P k) j
            have q3 : k * m ≤ 63 * 8 := Nat.mul_le_mul (by omega) m1
            omega
          have s0 : P k j = false → cnt2 P m k + cnt1 (P k) (j + 1) = C := fun hp => by rw [cnt1, hp, hC]; simp
          have s1 : P k j = true → cnt2 P m k + cnt1 (P k) (j + 1) = C + 1 := fun hp => by rw [cnt1, hp, hC, if_pos rfl]; omega
          rw [← hC]
          have hwc : IntKind.i64.wrap ((C : Int) + 1) = (C : Int) + 1 := by simp [IntKind.wrap, IntKind.bits, IntKind.signed]; omega
          have HB2 := Lib.hid hb; have HC2 := Lib.hid hc; have HR := Lib.hid hr; have HW := Lib.hid hw; have HFE := Lib.hid hfe; have HPE := Lib.hid hpe; have S0 := Lib.hid s0; have S1 := Lib.hid s1
          clear hb hc hr hw hfe hpe s0 s1 hC hC2
          cases U
          · go_wp2
            exact ⟨⟨j + 1, hlt2, by go_num, (by rw [S0.out HPE.out]), (by rw [stF_no R HPE.out]; exact HB2.out), HC2.out⟩, by simp [intOf]; omega⟩
          · go_wp2_with fail
            refine (HFE.out).mono ?_
            rintro e wx ⟨rfl, kd, rfl⟩
            cases E
            · go_wp2
              exact ⟨⟨j + 1, hlt2, by go_num, (by rw [S0.out HPE.out]), (by rw [stF_no R HPE.out]; exact HB2.out.drewN kd), HC2.out.trans (Chg.drewN _ _ _)⟩, by simp [intOf]; omega⟩
            · obtain ⟨D, hD⟩ : ∃ x, x = wr.drewN kd := ⟨_, rfl⟩
              rw [← hD]
              have hB9 := HB2.out.drewN kd
              have hC9 := HC2.out.trans (Chg.drewN (FpT b sp g n) wr kd)
              rw [← hD] at hB9 hC9
              clear hD
              have hr9 := hB9.row k hlt
              have hw9 := hr9.wy hlt2
              have mf : ∀ o, D.frozen? ⟨g k, o, none⟩ = false := fun o => hr9.free o
              have cw0 : D.cell? ⟨g k, j * 15, none⟩ = some _ := hw9 0 _ rfl
              have cw1 : D.cell? ⟨g k, j * 15 + 1, none⟩ = some _ := hw9 1 _ rfl
              have cw2 : D.cell? ⟨g k, j * 15 + 2, none⟩ = some _ := hw9 2 _ rfl
              have cw3 : D.cell? ⟨g k, j * 15 + 3, none⟩ = some _ := hw9 3 _ rfl
              have cw4 : D.cell? ⟨g k, j * 15 + 4, none⟩ = some _ := hw9 4 _ rfl
              have cw5 : D.cell? ⟨g k, j * 15 + 5, none⟩ = some _ := hw9 5 _ rfl
              have cw6 : D.cell? ⟨g k, j * 15 + 6, none⟩ = some _ := hw9 6 _ rfl
              have cw7 : D.cell? ⟨g k, j * 15 + 7, none⟩ = some _ := hw9 7 _ rfl
              have cw8 : D.cell? ⟨g k, j * 15 + 8, none⟩ = some _ := hw9 8 _ rfl
              have cw9 : D.cell? ⟨g k, j * 15 + 9, none⟩ = some _ := hw9 9 _ rfl
              have cw10 : D.cell? ⟨g k, j * 15 + 10, none⟩ = some _ := hw9 10 _ rfl
              have cw11 : D.cell? ⟨g k, j * 15 + 11, none⟩ = some _ := hw9 11 _ rfl
              have cw12 : D.cell? ⟨g k, j * 15 + 12, none⟩ = some _ := hw9 12 _ rfl
              have cw13 : D.cell? ⟨g k, j * 15 + 13, none⟩ = some _ := hw9 13 _ rfl
              have cw14 : D.cell? ⟨g k, j * 15 + 14, none⟩ = some _ := hw9 14 _ rfl
              have HB9 := Lib.hid hB9; have HC9 := Lib.hid hC9; have HR9 := Lib.hid hr9
              clear hB9 hC9 hr9 hw9
              go_wp2
              clear mf cw0 cw1 cw2 cw3 cw4 cw5 cw6 cw7 cw8 cw9 cw10 cw11 cw12 cw13 cw14
              obtain ⟨WZ, hW⟩ : ∃ W9, W9 = (((((((((((((((D.setCell ⟨g k, j * 15, none⟩ (.bool false)).setCell ⟨g k, j * 15 + 1, none⟩ (.int .i64 0)).setCell ⟨g k, j * 15 + 2, none⟩ (.int .u64 0)).setCell ⟨g k, j * 15 + 3, none⟩ (.bool false)).setCell ⟨g k, j * 15 + 4, none⟩ (.bool false)).setCell ⟨g k, j * 15 + 5, none⟩ (.bool false)).setCell ⟨g k, j * 15 + 6, none⟩ (.bool false)).setCell ⟨g k, j * 15 + 7, none⟩ (.bool false)).setCell ⟨g k, j * 15 + 8, none⟩ (.bool false)).setCell ⟨g k, j * 15 + 9, none⟩ (.bool false)).setCell ⟨g k, j * 15 + 10, none⟩ (.bool false)).setCell ⟨g k, j * 15 + 11, none⟩ (.int .i64 0)).setCell ⟨g k, j * 15 + 12, none⟩ (.int .u64 0)).setCell ⟨g k, j * 15 + 13, none⟩ (.int .i64 0)).setCell ⟨g k, j * 15 + 14, none⟩ (.int .u64 0)) := ⟨_, rfl⟩
              try rw [← hW]
              have hcz : Chg (fun c => c = g k) D WZ := hW ▸ ((((((((((((((((Chg.refl (fun c => c = g k) D).setc ⟨g k, j * 15, none⟩ (.bool false) (.inl rfl)).setc ⟨g k, j * 15 + 1, none⟩ (.int .i64 0) (.inl rfl)).setc ⟨g k, j * 15 + 2, none⟩ (.int .u64 0) (.inl rfl)).setc ⟨g k, j * 15 + 3, none⟩ (.bool false) (.inl rfl)).setc ⟨g k, j * 15 + 4, none⟩ (.bool false) (.inl rfl)).setc ⟨g k, j * 15 + 5, none⟩ (.bool false) (.inl rfl)).setc ⟨g k, j * 15 + 6, none⟩ (.bool false) (.inl rfl)).setc ⟨g k, j * 15 + 7, none⟩ (.bool false) (.inl rfl)).setc ⟨g k, j * 15 + 8, none⟩ (.bool false) (.inl rfl)).setc ⟨g k, j * 15 + 9, none⟩ (.bool false) (.inl rfl)).setc ⟨g k, j * 15 + 10, none⟩ (.bool false) (.inl rfl)).setc ⟨g k, j * 15 + 11, none⟩ (.int .i64 0) (.inl rfl)).setc ⟨g k, j * 15 + 12, none⟩ (.int .u64 0) (.inl rfl)).setc ⟨g k, j * 15 + 13, none⟩ (.int .i64 0) (.inl rfl)).setc ⟨g k, j * 15 + 14, none⟩ (.int .u64 0) (.inl rfl))
              have hrz : Blk WZ (g k) (setL (rowC (stF P R k j k) m) (j * 15) (wyC zw)) 161 := hW ▸ (((((((((((((((HR9.out.set (j * 15) (.bool false)).set (j * 15 + 1) (.int .i64 0)).set (j * 15 + 2) (.int .u64 0)).set (j * 15 + 3) (.bool false)).set (j * 15 + 4) (.bool false)).set (j * 15 + 5) (.bool false)).set (j * 15 + 6) (.bool false)).set (j * 15 + 7) (.bool false)).set (j * 15 + 8) (.bool false)).set (j * 15 + 9) (.bool false)).set (j * 15 + 10) (.bool false)).set (j * 15 + 11) (.int .i64 0)).set (j * 15 + 12) (.int .u64 0)).set (j * 15 + 13) (.int .i64 0)).set (j * 15 + 14) (.int .u64 0))
              rw [rowC_setL _ _ _ _ hlt2] at hrz
              have hbuf := HB9.out.fill hlt hlt2 HZ.out hcz hrz
              rw [← stF_yes R HPE.out] at hbuf
              have hfin := HC9.out.trans (hcz.mono (F' := FpT b sp g n) (fun c _ e => .inr (.inr ⟨k, hlt, e⟩)))
              clear hW
              exact ⟨⟨j + 1, hlt2, by go_num, (by rw [S1.out HPE.out]; go_num), hbuf, hfin⟩, by simp [intOf]; omega⟩
        · obtain rfl : j = m := by omega
          have hfn := @stF_next P R k j
          have HB2 := Lib.hid hb; have HC2 := Lib.hid hc; have HFN := Lib.hid hfn
          clear hb hc hfn
          go_wp2
          exact ⟨⟨k + 1, hlt, by go_num, rfl, HB2.out.congr (fun i l _ hl => HFN.out i l hl), HC2.out⟩, by simp [intOf]; omega⟩
    · obtain rfl : k = n := by omega
      have HB := Lib.hid hb; have HC := Lib.hid hc; clear hb hc
      go_wp2
      go_ret
      exact ⟨rfl, HB.out.congr HF.out, HC.out⟩
end Go.Proofs.YtgnjbjbgfhjakaaGreat
