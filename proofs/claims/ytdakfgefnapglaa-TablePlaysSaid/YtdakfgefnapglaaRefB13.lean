/-
  What page, Holds, take and May of package runrigref13 answer: contracts over the translation. Each says its own conditions.
-/
import Derived.Test.YtdakfgefnapglaaRefA13
namespace Go.Proofs.Ytdakfgefnapglaa
open Go.RowKit
set_option linter.unusedVariables false
set_option linter.unusedSimpArgs false
attribute [local go_sem] setCell_drewN alloc_drewN

/-- an index as the document's program has it: -1 where there is none -/
def oI : Option Nat → Int
  | none => -1
  | some k => k
theorem oI_neg (o : Option Nat) : oI o < 0 ↔ o = none := by
  cases o with
  | none => exact ⟨fun _ => rfl, fun _ => by show (-1 : Int) < 0; decide⟩
  | some k => exact ⟨fun h => by have h : (k : Int) < 0 := h; omega, fun h => by cases h⟩
theorem rpage_any (rp va l : Nat) (vL vT : Value) (S : Tt) (first n fs : Nat) (w : World) (h : RfT w rp vL vT S first n fs) (hl : l < 3) (hv : va < 18446744073709551616) :
    Calls Try.prog 34 #[.pointer (some ⟨rp, 0, none⟩), .int .u64 va, .int .i64 l] w fun e w' => e = .returned (.int .i64 (oI (pagI S.L va l))) ∧ Chg no w w' := by
  obtain ⟨A, cap, rfl, hn, hm, hcell⟩ := h.liesL
  obtain ⟨L, hL⟩ : ∃ L, L = S.L := ⟨_, rfl⟩
  rw [← hL] at hn hcell h ⊢
  obtain ⟨len, hlen⟩ : ∃ k, k = L.length := ⟨_, rfl⟩
  have h1 : w.cell? ⟨rp, 0, none⟩ = some (.slice A len cap) := by rw [hlen]; exact h.blk.cell 0
  rw [← hlen] at hn
  have hb : ∀ w, Calls Try.prog 36 #[.int .u64 va, .int .i64 (l : Int)] w fun e w' => e = .returned (.int .u64 (bas va l : Nat)) ∧ w = w' := fun w => base_any va l w (by omega) hv
  unfold maxLen at hm
  have HC := Lib.hid hcell; have HN := Lib.hid hlen; have HB := Lib.hid hb
  clear h hcell hlen hL hb
  go_enter Try.func34, Try.ntmps34
  go_wp2
  go_loopw [14] (fun i wr => ∃ k : Nat, k ≤ len ∧ i = .int .i64 k ∧ (∀ j, j < k → ∀ h : j < L.length, isP va l L[j] = false) ∧ Chg no w wr) (fun i _ => len - (intOf i).toNat)
  case atStart => exact ⟨0, Nat.zero_le _, rfl, fun j hj => absurd hj (Nat.not_lt_zero j), Chg.refl _ _⟩
  case round =>
    obtain ⟨k, hk, rfl, he, hc⟩ := hrel
    by_cases hlt : k < len
    · have hkl : k < L.length := by rw [← HN.out]; exact hlt
      obtain ⟨g, rfl, hcl⟩ := HC.out (by have := HN.out; omega)
      have hyes : isP va l L[k] = true → pagI L va l = some k := fun ht => List.findIdx?_eq_some_iff_getElem.2 ⟨hkl, ht, fun j hj => by rw [he j hj]; simp⟩
      have hno : isP va l L[k] = false → ∀ j, j < k + 1 → ∀ h : j < L.length, isP va l L[j] = false := fun ht j hj h => by
        rcases Nat.lt_or_ge j k with h2 | h2
        · exact he j h2 h
        · obtain rfl : j = k := by omega
          exact ht
      have e0 := hcl k hkl 0 (by omega)
      have e1 := hcl k hkl 1 (by omega)
      have e2 := hcl k hkl 2 (by omega)
      have e3 := hcl k hkl 3 (by omega)
      have e4 := hcl k hkl 4 (by omega)
      have e5 := hcl k hkl 5 (by omega)
      have e6 := hcl k hkl 6 (by omega)
      have e7 := hcl k hkl 7 (by omega)
      have e8 := hcl k hkl 8 (by omega)
      have e9 := hcl k hkl 9 (by omega)
      have e10 := hcl k hkl 10 (by omega)
      have e11 := hcl k hkl 11 (by omega)
      generalize L[k] = m at hyes hno e0 e1 e2 e3 e4 e5 e6 e7 e8 e9 e10 e11
      obtain ⟨xv, xl, ev, er, ew, ex, eu, eg, ea, ed, rs, pp⟩ := m
      have f0 : wr.cell? ⟨g, k * 12, none⟩ = some (.int .u64 (xv : Int)) := (World.cell?_of_block (w := w) (a := ⟨g, k * 12, none⟩) (hc.block g (cell_lt e0) (fun h => h))).trans e0
      have f1 : wr.cell? ⟨g, k * 12 + 1, none⟩ = some (.int .i64 (xl : Int)) := (World.cell?_of_block (w := w) (a := ⟨g, k * 12 + 1, none⟩) (hc.block g (cell_lt e1) (fun h => h))).trans e1
      have f2 : wr.cell? ⟨g, k * 12 + 2, none⟩ = some (.bool ev) := (World.cell?_of_block (w := w) (a := ⟨g, k * 12 + 2, none⟩) (hc.block g (cell_lt e2) (fun h => h))).trans e2
      have f3 : wr.cell? ⟨g, k * 12 + 3, none⟩ = some (.bool er) := (World.cell?_of_block (w := w) (a := ⟨g, k * 12 + 3, none⟩) (hc.block g (cell_lt e3) (fun h => h))).trans e3
      have f4 : wr.cell? ⟨g, k * 12 + 4, none⟩ = some (.bool ew) := (World.cell?_of_block (w := w) (a := ⟨g, k * 12 + 4, none⟩) (hc.block g (cell_lt e4) (fun h => h))).trans e4
      have f5 : wr.cell? ⟨g, k * 12 + 5, none⟩ = some (.bool ex) := (World.cell?_of_block (w := w) (a := ⟨g, k * 12 + 5, none⟩) (hc.block g (cell_lt e5) (fun h => h))).trans e5
      have f6 : wr.cell? ⟨g, k * 12 + 6, none⟩ = some (.bool eu) := (World.cell?_of_block (w := w) (a := ⟨g, k * 12 + 6, none⟩) (hc.block g (cell_lt e6) (fun h => h))).trans e6
      have f7 : wr.cell? ⟨g, k * 12 + 7, none⟩ = some (.bool eg) := (World.cell?_of_block (w := w) (a := ⟨g, k * 12 + 7, none⟩) (hc.block g (cell_lt e7) (fun h => h))).trans e7
      have f8 : wr.cell? ⟨g, k * 12 + 8, none⟩ = some (.bool ea) := (World.cell?_of_block (w := w) (a := ⟨g, k * 12 + 8, none⟩) (hc.block g (cell_lt e8) (fun h => h))).trans e8
      have f9 : wr.cell? ⟨g, k * 12 + 9, none⟩ = some (.bool ed) := (World.cell?_of_block (w := w) (a := ⟨g, k * 12 + 9, none⟩) (hc.block g (cell_lt e9) (fun h => h))).trans e9
      have f10 : wr.cell? ⟨g, k * 12 + 10, none⟩ = some (.int .i64 rs) := (World.cell?_of_block (w := w) (a := ⟨g, k * 12 + 10, none⟩) (hc.block g (cell_lt e10) (fun h => h))).trans e10
      have f11 : wr.cell? ⟨g, k * 12 + 11, none⟩ = some (.int .u64 (pp : Int)) := (World.cell?_of_block (w := w) (a := ⟨g, k * 12 + 11, none⟩) (hc.block g (cell_lt e11) (fun h => h))).trans e11
      have HY := Lib.hid hyes; have HNO := Lib.hid hno; have HCH := Lib.hid hc
      clear hyes hno he hc hcl e0 e1 e2 e3 e4 e5 e6 e7 e8 e9 e10 e11
      by_cases hxl : xl = l
      · subst hxl
        go_wp2_with fail
        go_quiet ((go_at_call 36; exact quiet_same (HB.out _)))
        by_cases hxv : xv = bas va xl
        · have hxv' : ((xv : Int) == ((bas va xl : Nat) : Int)) = true := by simp [hxv]
          have ht := HY.out (isP_iff.2 ⟨rfl, hxv⟩)
          have HT := Lib.hid ht
          clear ht hxv
          go_wp2
          go_ret
          exact ⟨ret_int (by rw [HT.out]; rfl), (HCH.out.thenAlloc _).trans (Chg.drewN _ _ _)⟩
        · have hxv' : ((xv : Int) == ((bas va xl : Nat) : Int)) = false := by simp; omega
          have ht : isP va xl ⟨xv, xl, ev, er, ew, ex, eu, eg, ea, ed, rs, pp⟩ = false := by
            cases hh : isP va xl ⟨xv, xl, ev, er, ew, ex, eu, eg, ea, ed, rs, pp⟩ with
            | false => rfl
            | true => exact absurd (isP_iff.1 hh).2 hxv
          have HT := Lib.hid ht
          clear ht hxv
          go_wp2
          go_roundw
          case rel => exact ⟨k + 1, hlt, by go_num, HNO.out HT.out, (HCH.out.thenAlloc _).trans (Chg.drewN _ _ _)⟩
          case measure => simp [intOf]; omega
      · have hxl' : ((xl : Int) == (l : Int)) = false := by simp; omega
        have ht : isP va l ⟨xv, xl, ev, er, ew, ex, eu, eg, ea, ed, rs, pp⟩ = false := by
          cases hh : isP va l ⟨xv, xl, ev, er, ew, ex, eu, eg, ea, ed, rs, pp⟩ with
          | false => rfl
          | true => exact absurd (isP_iff.1 hh).1 hxl
        have HT := Lib.hid ht
        clear ht
        go_wp2_with fail
        go_quiet (fail)
        go_wp2
        go_roundw
        case rel => exact ⟨k + 1, hlt, by go_num, HNO.out HT.out, (HCH.out.thenAlloc _).trans (Chg.drewN _ _ _)⟩
        case measure => simp [intOf]; omega
    · obtain rfl : k = len := by omega
      have h0 : pagI L va l = none := List.findIdx?_eq_none_iff.2 fun m hm => by
        obtain ⟨j, hj, rfl⟩ := List.getElem_of_mem hm
        exact he j (by have := HN.out; omega) hj
      have H0 := Lib.hid h0
      clear he h0
      go_wp2
      go_ret
      exact ⟨ret_int (by rw [H0.out]; rfl), hc⟩
/-- the levels that are asked in their order, from one on -/
def holdF (L : List Pg) (va : Nat) (k : Nat) : Option Nat := if canN va then (if k < 1 then pagI L va 0 else none).or ((if k < 2 then pagI L va 1 else none).or (if k < 3 then pagI L va 2 else none)) else none
theorem holds_any (rp va : Nat) (vL vT : Value) (S : Tt) (first n fs : Nat) (w : World) (h : RfT w rp vL vT S first n fs) (hv : va < 18446744073709551616) :
    Calls Try.prog 20 #[.pointer (some ⟨rp, 0, none⟩), .int .u64 va] w fun e w' => e = .returned (.int .i64 (oI (hold S.L va))) ∧ Chg no w w' := by
  have hpg : ∀ (l : Nat) w', l < 3 → Chg no w w' → Calls Try.prog 34 #[.pointer (some ⟨rp, 0, none⟩), .int .u64 va, .int .i64 (l : Int)] w' fun e w'' => e = .returned (.int .i64 (oI (pagI S.L va l))) ∧ Chg no w' w'' :=
    fun l w' hl hc => rpage_any rp va l vL vT S first n fs w' (h.any hc) hl hv
  have hcan := fun w => rcan_any va w hv
  have HP := Lib.hid hpg; have HCAN := Lib.hid hcan
  clear h hpg hcan
  go_enter Try.func20, Try.ntmps20
  go_wp2
  go_loopw [5] (fun i wr => ∃ k : Nat, k ≤ 3 ∧ i = .int .i64 k ∧ hold S.L va = holdF S.L va k ∧ Chg no w wr) (fun i _ => 3 - (intOf i).toNat)
  case atStart => exact ⟨0, Nat.zero_le _, rfl, rfl, Chg.refl _ _⟩
  case round =>
    obtain ⟨k, hk, rfl, he, hc⟩ := hrel
    by_cases hlt : k < 3
    · have hcall := HP.out k wr hlt hc
      have hstep : holdF S.L va k = if canN va then (pagI S.L va k).or (holdF S.L va (k + 1)) else none := by
        unfold holdF
        split
        · rcases (show k = 0 ∨ k = 1 ∨ k = 2 from by omega) with rfl | rfl | rfl
          · rfl
          · rfl
          · simp
        · rfl
      rw [hstep] at he
      have hr := oI_neg (pagI S.L va k)
      obtain ⟨r, hrd⟩ : ∃ r, r = oI (pagI S.L va k) := ⟨_, rfl⟩
      rw [← hrd] at hcall hr
      have HE := Lib.hid he; have HCH := Lib.hid hc; have HCALL := Lib.hid hcall; have HR := Lib.hid hrd; have HNEG := Lib.hid hr
      clear he hc hcall hstep hrd hr
      go_wp2_with fail
      refine HCALL.out.mono ?_
      rintro e w2 ⟨rfl, hc2⟩
      have hc2' := HCH.out.trans hc2
      have HC2 := Lib.hid hc2'
      clear hc2 hc2'
      by_cases hneg : r < 0
      · have hno := HNEG.out.1 hneg
        have hge : ¬ (0 : Int) ≤ r := by omega
        have HNO := Lib.hid hno; clear hno
        go_wp2
        go_roundw
        case rel => exact ⟨k + 1, hlt, by go_num, (by rw [HE.out, HNO.out, Option.none_or]; unfold holdF; split <;> rfl), HC2.out⟩
        case measure => simp [intOf]; omega
      · have hge : (0 : Int) ≤ r := by omega
        obtain ⟨i, hi⟩ : ∃ i, pagI S.L va k = some i := by
          cases hp : pagI S.L va k with
          | none => exact absurd (HNEG.out.2 hp) hneg
          | some i => exact ⟨i, rfl⟩
        have HI := Lib.hid hi; clear hi
        go_wp2_with fail
        refine (HCAN.out _).mono ?_
        rintro e w3 ⟨rfl, nq, rfl⟩
        cases hcn : canN va with
        | true =>
          have HCN := Lib.hid hcn; clear hcn
          go_wp2
          go_ret
          exact ⟨ret_int (by rw [HE.out, HCN.out, if_pos rfl, HR.out, HI.out]; rfl), HC2.out.trans (Chg.drewN _ _ _)⟩
        | false =>
          have HCN := Lib.hid hcn; clear hcn
          go_wp2
          go_roundw
          case rel => exact ⟨k + 1, hlt, by go_num, (by rw [HE.out, HCN.out, if_neg (by decide)]; unfold holdF; rw [HCN.out]; rfl), HC2.out.trans (Chg.drewN _ _ _)⟩
          case measure => simp [intOf]; omega
    · obtain rfl : k = 3 := by omega
      have h0 : hold S.L va = none := by
        rw [he]; unfold holdF; split <;> rfl
      have H0 := Lib.hid h0
      clear he h0
      go_wp2
      go_ret
      exact ⟨ret_int (by rw [H0.out]; rfl), hc⟩
/-- a frame is taken: the error, and how many are taken behind it -/
def takE (first n fs used : Nat) : Int := if used = n then 50 else if fs ≤ first + used then 61 else 0
theorem rtake_full (rp : Nat) (vL vT : Value) (S : Tt) (first n fs : Nat) (w : World) (h : RfT w rp vL vT S first n fs) (h1 : first ≤ 1048576) (h2 : n ≤ 1048576) (h3 : fs ≤ 1048576) (h4 : S.used ≤ 1048576) (e1 : S.used = n) :
    Calls Try.prog 25 #[.pointer (some ⟨rp, 0, none⟩)] w fun e w' => e = .returned (.int .i64 50) ∧ Chg no w w' := by
  have c2 : w.cell? ⟨rp, 2, none⟩ = some (.int .i64 (first : Int)) := h.blk.cell 2
  have c3 : w.cell? ⟨rp, 3, none⟩ = some (.int .i64 (n : Int)) := h.blk.cell 3
  have c4 : w.cell? ⟨rp, 4, none⟩ = some (.int .i64 (fs : Int)) := h.blk.cell 4
  have c5 : w.cell? ⟨rp, 5, none⟩ = some (.int .i64 (S.used : Int)) := h.blk.cell 5
  have hlt := h.blk.lt
  have hfz := h.blk.free 5
  rw [e1] at c5
  clear h
  go_enter Try.func25, Try.ntmps25
  go_wp2
  go_quiet (fail)
  go_wp2
  go_ret
  exact ⟨rfl, Chg.drewN _ _ _⟩
theorem rtake_bound (rp : Nat) (vL vT : Value) (S : Tt) (first n fs : Nat) (w : World) (h : RfT w rp vL vT S first n fs) (h1 : first ≤ 1048576) (h2 : n ≤ 1048576) (h3 : fs ≤ 1048576) (h4 : S.used ≤ 1048576) (e1 : ¬ S.used = n) (e2 : fs ≤ first + S.used) :
    Calls Try.prog 25 #[.pointer (some ⟨rp, 0, none⟩)] w fun e w' => e = .returned (.int .i64 61) ∧ Chg no w w' := by
  have c2 : w.cell? ⟨rp, 2, none⟩ = some (.int .i64 (first : Int)) := h.blk.cell 2
  have c3 : w.cell? ⟨rp, 3, none⟩ = some (.int .i64 (n : Int)) := h.blk.cell 3
  have c4 : w.cell? ⟨rp, 4, none⟩ = some (.int .i64 (fs : Int)) := h.blk.cell 4
  have c5 : w.cell? ⟨rp, 5, none⟩ = some (.int .i64 (S.used : Int)) := h.blk.cell 5
  have hlt := h.blk.lt
  have hfz := h.blk.free 5
  obtain ⟨u, hu⟩ : ∃ u, u = S.used := ⟨_, rfl⟩
  rw [← hu] at c5 h4 e1 e2
  have e1' : ((u : Int) == (n : Int)) = false := by simp; omega
  have e2' : (fs : Int) ≤ (first : Int) + (u : Int) := by omega
  have wr : IntKind.i64.wrap ((first : Int) + (u : Int)) = (first : Int) + (u : Int) := by simp [IntKind.wrap, IntKind.bits, IntKind.signed]; omega
  have wr1 : IntKind.i64.wrap ((u : Int) + 1) = (u : Int) + 1 := by simp [IntKind.wrap, IntKind.bits, IntKind.signed]; omega
  clear h hu
  go_enter Try.func25, Try.ntmps25
  go_wp2
  go_quiet (fail)
  go_wp2
  go_quiet (fail)
  go_wp2
  go_ret
  exact ⟨rfl, (Chg.drewN _ _ _).trans (Chg.drewN _ _ _)⟩
theorem rtake_yes (rp : Nat) (vL vT : Value) (S : Tt) (first n fs : Nat) (w : World) (h : RfT w rp vL vT S first n fs) (h1 : first ≤ 1048576) (h2 : n ≤ 1048576) (h3 : fs ≤ 1048576) (h4 : S.used ≤ 1048576) (e1 : ¬ S.used = n) (e2 : ¬ fs ≤ first + S.used) :
    Calls Try.prog 25 #[.pointer (some ⟨rp, 0, none⟩)] w fun e w' => e = .returned (.int .i64 0) ∧ RfT w' rp vL vT ⟨S.L, S.T, S.used + 1⟩ first n fs ∧ Chg (fun k => k = rp) w w' := by
  have c2 : w.cell? ⟨rp, 2, none⟩ = some (.int .i64 (first : Int)) := h.blk.cell 2
  have c3 : w.cell? ⟨rp, 3, none⟩ = some (.int .i64 (n : Int)) := h.blk.cell 3
  have c4 : w.cell? ⟨rp, 4, none⟩ = some (.int .i64 (fs : Int)) := h.blk.cell 4
  have c5 : w.cell? ⟨rp, 5, none⟩ = some (.int .i64 (S.used : Int)) := h.blk.cell 5
  have hlt := h.blk.lt
  have hfz := h.blk.free 5
  have hend : ∀ j, RfT ((w.drewN j).setCell ⟨rp, 5, none⟩ (.int .i64 ((S.used : Int) + 1))) rp vL vT ⟨S.L, S.T, S.used + 1⟩ first n fs := by
    intro j
    have hb := (h.blk.drewN j).set 5 (.int .i64 ((S.used : Int) + 1))
    have hc : Chg (fun k => k = rp) w ((w.drewN j).setCell ⟨rp, 5, none⟩ (.int .i64 ((S.used : Int) + 1))) := (Chg.drewN _ w j).setc _ _ (.inl rfl)
    exact ⟨hb, own_chgG h.ownL hc (fun k hk e => h.neL (e ▸ hk)), own_chgG h.ownT hc (fun k hk e => h.neT (e ▸ hk)), h.neL, h.neT⟩
  obtain ⟨u, hu⟩ : ∃ u, u = S.used := ⟨_, rfl⟩
  rw [← hu] at c5 h4 e1 e2 hend ⊢
  have HE := Lib.hid hend
  have e1' : ((u : Int) == (n : Int)) = false := by simp; omega
  have e2' : ¬ (fs : Int) ≤ (first : Int) + (u : Int) := by omega
  have wr : IntKind.i64.wrap ((first : Int) + (u : Int)) = (first : Int) + (u : Int) := by simp [IntKind.wrap, IntKind.bits, IntKind.signed]; omega
  have wr1 : IntKind.i64.wrap ((u : Int) + 1) = (u : Int) + 1 := by simp [IntKind.wrap, IntKind.bits, IntKind.signed]; omega
  clear h hu hend
  go_enter Try.func25, Try.ntmps25
  go_wp2
  go_quiet (fail)
  go_wp2
  go_quiet (fail)
  go_wp2
  go_ret
  exact ⟨rfl, HE.out _, (Chg.drewN _ w _).setc _ _ (.inl rfl)⟩
end Go.Proofs.Ytdakfgefnapglaa
