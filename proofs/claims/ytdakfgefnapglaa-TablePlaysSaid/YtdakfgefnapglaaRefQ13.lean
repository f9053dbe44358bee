/-
  What Pages of package runrigref13 answers: a contract over the translation, which says its own conditions.
-/
import Derived.Test.YtdakfgefnapglaaSort13
import Derived.Test.YtdakfgefnapglaaRefU13
namespace Go.Proofs.Ytdakfgefnapglaa
open Go.RowKit
set_option linter.unusedVariables false
set_option linter.unusedSimpArgs false
attribute [local go_sem] setCell_drewN alloc_drewN

/-- a struct's twelve cells, stored -/
def set12 (w : World) (g o : Nat) (m : Pg) : World := ((((((((((((w.setCell ⟨g, o, none⟩ (.int .u64 (m.va : Int))).setCell ⟨g, o + 1, none⟩ (.int .i64 (m.lv : Int))).setCell ⟨g, o + 2, none⟩ (.bool m.e.v)).setCell ⟨g, o + 3, none⟩ (.bool m.e.r)).setCell ⟨g, o + 4, none⟩ (.bool m.e.w)).setCell ⟨g, o + 5, none⟩ (.bool m.e.x)).setCell ⟨g, o + 6, none⟩ (.bool m.e.u)).setCell ⟨g, o + 7, none⟩ (.bool m.e.g)).setCell ⟨g, o + 8, none⟩ (.bool m.e.a)).setCell ⟨g, o + 9, none⟩ (.bool m.e.d)).setCell ⟨g, o + 10, none⟩ (.int .i64 m.e.rsw)).setCell ⟨g, o + 11, none⟩ (.int .u64 (m.e.ppn : Int)))
theorem set12_own {w : World} {B g cap n i : Nat} {L : List Pg} {m : Pg} (h : w.ownsRow B 60 12 (.slice (some ⟨g, 0, none⟩) n cap) n (rowS pgC L)) (hn : n = L.length) (hi : i < L.length) :
    (set12 w g (i * 12) m).ownsRow B 60 12 (.slice (some ⟨g, 0, none⟩) n cap) n (rowS pgC (L.set i m)) := by
  subst hn
  have hA : ((L.take i).flatMap pgC).length = i * 12 := by
    have := rowS_len pgC_len (L.take i)
    unfold rowS at this
    rw [this, List.length_take, Nat.min_eq_left (by omega)]
  have e1 := row_mid pgC L i hi
  have e2 := row_set pgC L i m hi
  generalize (L.take i).flatMap pgC = A at hA e1 e2
  generalize (L.drop (i + 1)).flatMap pgC = C at e1 e2
  unfold rowS at h ⊢
  rw [e2]
  rw [e1] at h
  generalize L[i] = m0 at h ⊢
  have hb : i * 12 + 12 ≤ L.length * 12 := by
    have := Nat.mul_le_mul_right 12 hi
    rw [Nat.succ_mul] at this; exact this
  unfold set12
  dsimp only [pgC] at h ⊢
  have h := own_set h (i * 12) (by omega) (.int .u64 (m.va : Int))
  rw [show i * 12 = i * 12 + 0 from rfl, mid_set A _ C (i * 12) 0 _ hA (by simp)] at h
  simp only [List.set_cons_succ, List.set_cons_zero, Nat.add_zero] at h
  have h := own_set h (i * 12 + 1) (by omega) (.int .i64 (m.lv : Int))
  rw [mid_set A _ C (i * 12) 1 _ hA (by simp)] at h
  simp only [List.set_cons_succ, List.set_cons_zero] at h
  have h := own_set h (i * 12 + 2) (by omega) (.bool m.e.v)
  rw [mid_set A _ C (i * 12) 2 _ hA (by simp)] at h
  simp only [List.set_cons_succ, List.set_cons_zero] at h
  have h := own_set h (i * 12 + 3) (by omega) (.bool m.e.r)
  rw [mid_set A _ C (i * 12) 3 _ hA (by simp)] at h
  simp only [List.set_cons_succ, List.set_cons_zero] at h
  have h := own_set h (i * 12 + 4) (by omega) (.bool m.e.w)
  rw [mid_set A _ C (i * 12) 4 _ hA (by simp)] at h
  simp only [List.set_cons_succ, List.set_cons_zero] at h
  have h := own_set h (i * 12 + 5) (by omega) (.bool m.e.x)
  rw [mid_set A _ C (i * 12) 5 _ hA (by simp)] at h
  simp only [List.set_cons_succ, List.set_cons_zero] at h
  have h := own_set h (i * 12 + 6) (by omega) (.bool m.e.u)
  rw [mid_set A _ C (i * 12) 6 _ hA (by simp)] at h
  simp only [List.set_cons_succ, List.set_cons_zero] at h
  have h := own_set h (i * 12 + 7) (by omega) (.bool m.e.g)
  rw [mid_set A _ C (i * 12) 7 _ hA (by simp)] at h
  simp only [List.set_cons_succ, List.set_cons_zero] at h
  have h := own_set h (i * 12 + 8) (by omega) (.bool m.e.a)
  rw [mid_set A _ C (i * 12) 8 _ hA (by simp)] at h
  simp only [List.set_cons_succ, List.set_cons_zero] at h
  have h := own_set h (i * 12 + 9) (by omega) (.bool m.e.d)
  rw [mid_set A _ C (i * 12) 9 _ hA (by simp)] at h
  simp only [List.set_cons_succ, List.set_cons_zero] at h
  have h := own_set h (i * 12 + 10) (by omega) (.int .i64 m.e.rsw)
  rw [mid_set A _ C (i * 12) 10 _ hA (by simp)] at h
  simp only [List.set_cons_succ, List.set_cons_zero] at h
  have h := own_set h (i * 12 + 11) (by omega) (.int .u64 (m.e.ppn : Int))
  rw [mid_set A _ C (i * 12) 11 _ hA (by simp)] at h
  simp only [List.set_cons_succ, List.set_cons_zero] at h
  exact h
theorem set12_chg (w : World) (g o : Nat) (m : Pg) : Chg (fun k => k = g) w (set12 w g o m) := by
  unfold set12
  iterate 12 refine Chg.setc ?_ _ _ (.inl rfl)
  exact Chg.refl _ w
theorem wpList_append_M1 {w : World} {ops : Array Oper} {rest : List Oper} {o : Oper} {a : Act} {Q : Exit → Act → World → Prop} (hgd : o.guard = none) (s x : Operand)
    (ho : o.op = .call { callee := .builtin .append, args := #[s, x], argTypes := #[49, 49] })
    (base : Nat) (v : Value) (n : Nat) (xs : List Value) (hs : a.eval s = v) (hown : w.ownsRow base 60 12 v n xs)
    (b : Nat) (m : Pg) (hx : a.eval x = .slice (some ⟨b, 0, none⟩) 1 1) (hb : Blk w b (pgC m) 60) (h63 : n ≤ 100000) (hbase : base ≤ w.heap.size) (H : Nat) (hH : w.heap.size = H)
    (h : ∀ g cap w', w'.ownsRow base 60 12 (.slice (some ⟨g, 0, none⟩) (n + 1) cap) (n + 1) (xs ++ pgC m) → w.grownBy w' v.ownBlock → (v.ownBlock = some g ∨ g = H) → g < w'.heap.size → wpList Try.prog ops Q rest (a.put o.dst (.slice (some ⟨g, 0, none⟩) (n + 1) cap)) w') : wpList Try.prog ops Q (o :: rest) a w := by
  obtain ⟨i0, hi, hz0, hz1, hz2⟩ := info_parts infoM
  exact wpList_append_lies w hgd s x 49 ho base 60 i0 (pgv ⟨0, 0, zeE⟩) 12 40 Try.underlying49 hi hz0 hz1 hz2 rfl (by decide) v n xs hs hown ⟨b, 0, none⟩ 1 1 (pgC m) hx rfl (World.news_of_block hb) (pgC_one m) (by decide) (by unfold maxLen; omega) (by omega) hbase H hH h
/-- the cells of a row -/
theorem row_cells {w : World} {B g n cap i : Nat} {L : List Pg} (h : w.ownsRow B 60 12 (.slice (some ⟨g, 0, none⟩) n cap) n (rowS pgC L)) (hn : n = L.length) (hi : i < L.length) : ∀ j, j < 12 → w.cell? ⟨g, i * 12 + j, none⟩ = (pgC L[i])[j]? := by
  subst hn
  obtain ⟨A, c, hv, _, _, hc⟩ := lies_own (f := pgC) (L := L) (k := 12) pgC_len h
  obtain ⟨g2, hA, hc⟩ := hc (by omega)
  rw [hA] at hv
  injection hv with h1 _ _
  injection h1 with h1
  injection h1 with h1
  subst h1
  exact fun j hj => hc i hi j hj
set_option maxHeartbeats 64000000 in
theorem rpages_any (rp : Nat) (vL vT : Value) (S : Tt) (first n fs : Nat) (w : World) (h : RfT w rp vL vT S first n fs) (hlen : S.L.length ≤ 1000) :
    Calls Try.prog 23 #[.pointer (some ⟨rp, 0, none⟩)] w fun e w' => ∃ y, e = .returned y ∧ w'.ownsRow w.heap.size 60 12 y S.L.length (rowS pgC (sortP S.L)) ∧ Chg no w w' := by
  obtain ⟨A, cap0, rfl, hn, hm, hcell⟩ := h.liesL
  obtain ⟨L, hL⟩ : ∃ L, L = S.L := ⟨_, rfl⟩
  rw [← hL] at hn hcell h hlen ⊢
  obtain ⟨len, hle⟩ : ∃ k, k = L.length := ⟨_, rfl⟩
  have h1 : w.cell? ⟨rp, 0, none⟩ = some (.slice A len cap0) := by rw [hle]; exact h.blk.cell 0
  rw [← hle] at hn hlen
  unfold maxLen at hm
  have HC := Lib.hid hcell; have HN := Lib.hid hle
  clear h hcell hle hL
  go_enter Try.func23, Try.ntmps23
  go_wp2
  go_loopw [3, 13] (fun s i wr => ∃ (k : Nat) (y : Value), k ≤ len ∧ i = .int .i64 (k : Int) ∧ y = s ∧ wr.ownsRow w.heap.size 60 12 y k (rowS pgC (sortP (L.take k))) ∧ Chg no w wr) (fun _ i _ => len - (intOf i).toNat)
  case atStart => exact ⟨0, _, Nat.zero_le _, rfl, rfl, World.ownsRow_nil _ _ _ _, Chg.refl _ _⟩
  case round =>
    obtain ⟨k, y, hk, rfl, rfl, hown, hc⟩ := hrel
    by_cases hlt : k < len
    · have hkl : k < L.length := by rw [← HN.out]; exact hlt
      obtain ⟨g0, rfl, hcl⟩ := HC.out (by have := HN.out; omega)
      replace hcl := hcl k hkl
      have hsn : sortP (L.take (k + 1)) = insP (sortP (L.take k)) L[k] := by rw [List.take_succ_eq_append_getElem hkl, sortP_snoc]
      have hol : k = (sortP (L.take k)).length := by rw [sortP_len, List.length_take]; omega
      generalize L[k] = m at hcl hsn
      obtain ⟨xv, xl, ev, er, ew, ex, eu, eg, ea, ed, rs, pp⟩ := m
      have hg0 : g0 < w.heap.size := cell_lt (hcl 0 (by omega))
      have f0 : wr.cell? ⟨g0, k * 12, none⟩ = some (.int .u64 (xv : Int)) := (World.cell?_of_block (w := w) (a := ⟨g0, k * 12, none⟩) (hc.block g0 hg0 (fun h => h))).trans (hcl 0 (by omega))
      have f1 : wr.cell? ⟨g0, k * 12 + 1, none⟩ = some (.int .i64 (xl : Int)) := (World.cell?_of_block (w := w) (a := ⟨g0, k * 12 + 1, none⟩) (hc.block g0 hg0 (fun h => h))).trans (hcl 1 (by omega))
      have f2 : wr.cell? ⟨g0, k * 12 + 2, none⟩ = some (.bool ev) := (World.cell?_of_block (w := w) (a := ⟨g0, k * 12 + 2, none⟩) (hc.block g0 hg0 (fun h => h))).trans (hcl 2 (by omega))
      have f3 : wr.cell? ⟨g0, k * 12 + 3, none⟩ = some (.bool er) := (World.cell?_of_block (w := w) (a := ⟨g0, k * 12 + 3, none⟩) (hc.block g0 hg0 (fun h => h))).trans (hcl 3 (by omega))
      have f4 : wr.cell? ⟨g0, k * 12 + 4, none⟩ = some (.bool ew) := (World.cell?_of_block (w := w) (a := ⟨g0, k * 12 + 4, none⟩) (hc.block g0 hg0 (fun h => h))).trans (hcl 4 (by omega))
      have f5 : wr.cell? ⟨g0, k * 12 + 5, none⟩ = some (.bool ex) := (World.cell?_of_block (w := w) (a := ⟨g0, k * 12 + 5, none⟩) (hc.block g0 hg0 (fun h => h))).trans (hcl 5 (by omega))
      have f6 : wr.cell? ⟨g0, k * 12 + 6, none⟩ = some (.bool eu) := (World.cell?_of_block (w := w) (a := ⟨g0, k * 12 + 6, none⟩) (hc.block g0 hg0 (fun h => h))).trans (hcl 6 (by omega))
      have f7 : wr.cell? ⟨g0, k * 12 + 7, none⟩ = some (.bool eg) := (World.cell?_of_block (w := w) (a := ⟨g0, k * 12 + 7, none⟩) (hc.block g0 hg0 (fun h => h))).trans (hcl 7 (by omega))
      have f8 : wr.cell? ⟨g0, k * 12 + 8, none⟩ = some (.bool ea) := (World.cell?_of_block (w := w) (a := ⟨g0, k * 12 + 8, none⟩) (hc.block g0 hg0 (fun h => h))).trans (hcl 8 (by omega))
      have f9 : wr.cell? ⟨g0, k * 12 + 9, none⟩ = some (.bool ed) := (World.cell?_of_block (w := w) (a := ⟨g0, k * 12 + 9, none⟩) (hc.block g0 hg0 (fun h => h))).trans (hcl 9 (by omega))
      have f10 : wr.cell? ⟨g0, k * 12 + 10, none⟩ = some (.int .i64 rs) := (World.cell?_of_block (w := w) (a := ⟨g0, k * 12 + 10, none⟩) (hc.block g0 hg0 (fun h => h))).trans (hcl 10 (by omega))
      have f11 : wr.cell? ⟨g0, k * 12 + 11, none⟩ = some (.int .u64 (pp : Int)) := (World.cell?_of_block (w := w) (a := ⟨g0, k * 12 + 11, none⟩) (hc.block g0 hg0 (fun h => h))).trans (hcl 11 (by omega))
      obtain ⟨O, hO⟩ : ∃ O, O = sortP (L.take k) := ⟨_, rfl⟩
      rw [← hO] at hown hsn hol
      obtain ⟨Ay, cy, rfl⟩ := own_sliceG hown
      have HSN0 := Lib.hid hsn; have HOL := Lib.hid hol; have HOW := Lib.hid hown; have HCH := Lib.hid hc
      clear hsn hol hown hc hcl hO
      go_wp2
      have hkB := Blk.new wr (pgC (Pg.mk xv xl ⟨ev, er, ew, ex, eu, eg, ea, ed, rs, pp⟩)) 60
      have hown1 := HOW.out.alloc (.cells (pgC (Pg.mk xv xl ⟨ev, er, ew, ex, eu, eg, ea, ed, rs, pp⟩)).toArray 60)
      have hc1 := HCH.out.thenAlloc (.cells (pgC (Pg.mk xv xl ⟨ev, er, ew, ex, eu, eg, ea, ed, rs, pp⟩)).toArray 60)
      obtain ⟨B1, hB1⟩ : ∃ B, B = wr.heap.size := ⟨_, rfl⟩
      obtain ⟨W1, hW1⟩ : ∃ W, W = wr.alloc (.cells (pgC (Pg.mk xv xl ⟨ev, er, ew, ex, eu, eg, ea, ed, rs, pp⟩)).toArray 60) := ⟨_, rfl⟩
      rw [← hW1] at hkB hown1 hc1
      rw [← hB1] at hkB
      have hW1' : W1 = wr.alloc (.cells #[.int .u64 (xv : Int), .int .i64 (xl : Int), .bool ev, .bool er, .bool ew, .bool ex, .bool eu, .bool eg, .bool ea, .bool ed, .int .i64 rs, .int .u64 (pp : Int)] 60) := hW1
      rw [← hW1', ← hB1]
      have HO1 := Lib.hid HOW.out; have HK1 := Lib.hid hkB; have HC1 := Lib.hid hc1; have HOX := Lib.hid hown1; have HB1 := Lib.hid hB1
      clear hkB hown1 hc1 hW1 hW1' hB1
      go_loopw [6] (fun i wr => ∃ (j : Nat), j ≤ k ∧ i = .int .i64 (j : Int) ∧ plc O (Pg.mk xv xl ⟨ev, er, ew, ex, eu, eg, ea, ed, rs, pp⟩) k = plc O (Pg.mk xv xl ⟨ev, er, ew, ex, eu, eg, ea, ed, rs, pp⟩) j ∧ wr.ownsRow w.heap.size 60 12 (.slice Ay k cy) k (rowS pgC O) ∧ Blk wr B1 (pgC (Pg.mk xv xl ⟨ev, er, ew, ex, eu, eg, ea, ed, rs, pp⟩)) 60 ∧ Chg no w wr) (fun i _ => (intOf i).toNat)
      case atStart => exact ⟨k, Nat.le_refl _, by go_num, rfl, HOX.out, HK1.out, HC1.out⟩
      case round =>
        obtain ⟨j, hjk, rfl, hplc, how2, hbx2, hch2⟩ := hrel
        have HOW2 := Lib.hid how2; have HBX2 := Lib.hid hbx2; have HCH2 := Lib.hid hch2; have HPL := Lib.hid hplc
        clear how2 hbx2 hch2 hplc HK1 HC1 HOX
        by_cases hj0 : 0 < j
        · obtain ⟨j', rfl⟩ : ∃ j', j = j' + 1 := ⟨j - 1, by omega⟩
          have hjl : j' < O.length := by have := HOL.out; omega
          obtain ⟨gy, cy2, hvy, hgy1, hgy2⟩ := HOW2.out.form (by omega)
          injection hvy with hv1 _ hv2
          subst hv1 hv2
          have hcv := row_cells HOW2.out HOL.out hjl 0 (by omega)
          replace hcv : wr.cell? ⟨gy, j' * 12, none⟩ = some (.int .u64 (O[j'].va : Int)) := hcv
          have hbv : wr.cell? ⟨B1, 0, none⟩ = some (.int .u64 (xv : Int)) := HBX2.out.cell 0
          have hge : (O[j']?).getD zPg = O[j'] := by simp [hjl]
          obtain ⟨ov, hov⟩ : ∃ v, v = O[j'].va := ⟨_, rfl⟩
          rw [← hov] at hcv
          have w1 : IntKind.i64.wrap (((j' : Int) + 1) - 1) = (j' : Int) := by simp [IntKind.wrap, IntKind.bits, IntKind.signed]; omega
          have b1 : (0 : Int) < (j' : Int) + 1 := by omega
          have b2 : (j' : Int) < (k : Int) := by omega
          have b3 : j' < k := by omega
          have b4 : ¬ (j' : Int) < 0 := by omega
          by_cases hv : xv < ov
          · have hpl2 : plc O (Pg.mk xv xl ⟨ev, er, ew, ex, eu, eg, ea, ed, rs, pp⟩) (j' + 1) = plc O (Pg.mk xv xl ⟨ev, er, ew, ex, eu, eg, ea, ed, rs, pp⟩) j' := by
              rw [plc, hge, ← hov, if_pos (show xv < ov from hv)]
            have hv' : (xv : Int) < (ov : Int) := by omega
            have HPL2 := Lib.hid hpl2
            clear hpl2 hge hov hv
            go_wp2_with fail
            go_quiet (fail)
            go_wp2
            go_roundw
            case rel => exact ⟨j', by omega, (by first | rfl | go_num), by rw [HPL.out, HPL2.out], own_chgG HOW2.out (Chg.drewN no wr nq) (fun _ _ h => h), HBX2.out.drewN nq, HCH2.out.trans (Chg.drewN no wr nq)⟩
            case measure => first | (simp [intOf]; done) | (simp [intOf]; omega)
          · have hpl2 : plc O (Pg.mk xv xl ⟨ev, er, ew, ex, eu, eg, ea, ed, rs, pp⟩) (j' + 1) = j' + 1 := by
              rw [plc, hge, ← hov, if_neg (show ¬ xv < ov from hv)]
            have hv' : ¬ (xv : Int) < (ov : Int) := by omega
            have hv2 : decide (xv < ov) = false := decide_eq_false hv
            have hv3 : decide ((xv : Int) < (ov : Int)) = false := decide_eq_false hv'
            have HPL2 := Lib.hid hpl2
            clear hpl2 hge hov
            go_wp2_with fail
            go_quiet (fail)
            have hO2 := own_chgG HOW2.out (Chg.drewN no wr nq) (fun _ _ h => h)
            have hK2 := HBX2.out.drewN nq
            have hC2 := HCH2.out.trans (Chg.drewN no wr nq)
            have hpe : O.take (j' + 1) ++ (Pg.mk xv xl ⟨ev, er, ew, ex, eu, eg, ea, ed, rs, pp⟩) :: O.drop (j' + 1) = insP O (Pg.mk xv xl ⟨ev, er, ew, ex, eu, eg, ea, ed, rs, pp⟩) := by
              unfold insP
              rw [← HOL.out, HPL.out, HPL2.out]
            have hpk : (j' + 1) ≤ k := by omega
            obtain ⟨p, hp⟩ : ∃ p, p = (j' + 1) := ⟨_, rfl⟩
            generalize wr.drewN nq = W3 at hO2 hK2 hC2 ⊢
            clear HOW2 HBX2 HCH2
            obtain ⟨W2, hW2⟩ : ∃ W, W = W3 := ⟨_, rfl⟩
            rw [← hW2] at hO2 hK2 hC2 ⊢
            rw [← hp] at hpk hpe
            have hpi : ((((j' + 1) : Nat) : Int)) = (p : Int) := by rw [hp]
            try simp only [Int.natCast_add, Int.natCast_one, Int.cast_ofNat_Int] at hpi
            try rw [hpi]
            have HO2 := Lib.hid hO2; have HK2 := Lib.hid hK2; have HC2 := Lib.hid hC2; have HPE := Lib.hid hpe; have HSN := HSN0
            clear hO2 hK2 hC2 hpe hp hpi hW2
            have c0x : W2.cell? ⟨B1, 0, none⟩ = some (.int .u64 (xv : Int)) := HK2.out.cell 0
            have c1x : W2.cell? ⟨B1, 1, none⟩ = some (.int .i64 (xl : Int)) := HK2.out.cell 1
            have c2x : W2.cell? ⟨B1, 2, none⟩ = some (.bool ev) := HK2.out.cell 2
            have c3x : W2.cell? ⟨B1, 3, none⟩ = some (.bool er) := HK2.out.cell 3
            have c4x : W2.cell? ⟨B1, 4, none⟩ = some (.bool ew) := HK2.out.cell 4
            have c5x : W2.cell? ⟨B1, 5, none⟩ = some (.bool ex) := HK2.out.cell 5
            have c6x : W2.cell? ⟨B1, 6, none⟩ = some (.bool eu) := HK2.out.cell 6
            have c7x : W2.cell? ⟨B1, 7, none⟩ = some (.bool eg) := HK2.out.cell 7
            have c8x : W2.cell? ⟨B1, 8, none⟩ = some (.bool ea) := HK2.out.cell 8
            have c9x : W2.cell? ⟨B1, 9, none⟩ = some (.bool ed) := HK2.out.cell 9
            have c10x : W2.cell? ⟨B1, 10, none⟩ = some (.int .i64 rs) := HK2.out.cell 10
            have c11x : W2.cell? ⟨B1, 11, none⟩ = some (.int .u64 (pp : Int)) := HK2.out.cell 11
            have clt := HK2.out.lt
            go_wp2_with (at_builtin; refine wpList_append_M1 rfl _ _ rfl w.heap.size _ k _ rfl (HO2.out.alloc _) W2.heap.size (Pg.mk xv xl ⟨ev, er, ew, ex, eu, eg, ea, ed, rs, pp⟩) rfl (Blk.new W2 (pgC (Pg.mk xv xl ⟨ev, er, ew, ex, eu, eg, ea, ed, rs, pp⟩)) 60) ?q1 ?q2 (W2.heap.size + 1) ?q3 ?_)
            case q1 => omega
            case q2 => have := HC2.out.size; simp; omega
            case q3 => simp
            intro g cap W3 hown3 hgr3 hg3 hg3l
            clear clt c0x c1x c2x c3x c4x c5x c6x c7x c8x c9x c10x c11x
            have hgB : g ≠ B1 := by
              have hB1 := HB1.out
              rcases hg3 with h | h
              · have := (HO1.out.lt g h).2; omega
              · have h2 := HK2.out.lt; omega
            have hc3 : Chg no w W3 := (HC2.out.thenAlloc _).newerB (grown_chg hgr3 (fun k hk => (HO2.out.lt k hk).1)) (Nat.le_refl _)
            have hk3 : Blk W3 B1 (pgC (Pg.mk xv xl ⟨ev, er, ew, ex, eu, eg, ea, ed, rs, pp⟩)) 60 := (HK2.out.alloc _).chg (Chg.grown (F := fun k => k ≠ B1) hgr3 (fun k hk _ => fun e => by have := (HO1.out.lt k hk).2; have hB1 := HB1.out; omega)) (fun h => h rfl)
            have hgw : w.heap.size ≤ g := (hown3.lt g rfl).1
            have hrow3 : W3.ownsRow w.heap.size 60 12 (.slice (some ⟨g, 0, none⟩) (k + 1) cap) (k + 1) (rowS pgC (O.take k ++ (Pg.mk xv xl ⟨ev, er, ew, ex, eu, eg, ea, ed, rs, pp⟩) :: O.drop k)) := by
              have e : O.take k ++ (Pg.mk xv xl ⟨ev, er, ew, ex, eu, eg, ea, ed, rs, pp⟩) :: O.drop k = O ++ [(Pg.mk xv xl ⟨ev, er, ew, ex, eu, eg, ea, ed, rs, pp⟩)] := by
                rw [HOL.out, List.take_length, List.drop_length]
              rw [e, rowS_app]; exact hown3
            have HO3 := Lib.hid hrow3; have HC3 := Lib.hid hc3; have HK3 := Lib.hid hk3
            have hw9 : IntKind.i64.wrap ((k : Int) + 1 - 1) = (k : Int) := by simp [IntKind.wrap, IntKind.bits, IntKind.signed]; omega
            clear hown3 hgr3 hg3 hc3 hk3 hrow3 hg3l
            go_wp2
            go_loopw [7] (fun i wr => ∃ (q : Nat) (x : Pg), p ≤ q ∧ q ≤ k ∧ i = .int .i64 (q : Int) ∧ wr.ownsRow w.heap.size 60 12 (.slice (some ⟨g, 0, none⟩) (k + 1) cap) (k + 1) (rowS pgC (O.take q ++ x :: O.drop q)) ∧ Blk wr B1 (pgC (Pg.mk xv xl ⟨ev, er, ew, ex, eu, eg, ea, ed, rs, pp⟩)) 60 ∧ Chg no w wr) (fun i _ => (intOf i).toNat)
            case atStart => exact ⟨k, _, hpk, Nat.le_refl _, by go_num, HO3.out, HK3.out, HC3.out⟩
            case round =>
              obtain ⟨q, x, hpq, hqk, rfl, hown4, hk4, hc4⟩ := hrel
              by_cases hlt4 : p < q
              · obtain ⟨q', rfl⟩ : ∃ q', q = q' + 1 := ⟨q - 1, by omega⟩
                obtain ⟨hq1, hq2⟩ := shift_at O x q' (by have := HOL.out; omega)
                have hcs := row_cells hown4 (by rw [shift_len O x (q' + 1) (by have := HOL.out; omega), ← HOL.out]) hq1
                have hcd := row_cells hown4 (by rw [shift_len O x (q' + 1) (by have := HOL.out; omega), ← HOL.out]) (i := q' + 1) (by rw [shift_len O x (q' + 1) (by have := HOL.out; omega)]; have := HOL.out; omega)
                rw [hq2] at hcs
                obtain ⟨s1, s2⟩ := shift_step O x q' (by have := HOL.out; omega)
                have hset := set12_own (i := q' + 1) (m := O[q']'(by have := HOL.out; omega)) hown4 (by rw [shift_len O x (q' + 1) (by have := HOL.out; omega), ← HOL.out]) (by rw [shift_len O x (q' + 1) (by have := HOL.out; omega)]; have := HOL.out; omega)
                rw [s1, s2] at hset
                have hsc := set12_chg wr g ((q' + 1) * 12) (O[q']'(by have := HOL.out; omega))
                generalize O[q']'(by have := HOL.out; omega) = yy at hcs hset hsc
                obtain ⟨yv, yl, zv, zr, zw, zx, zu, zg, za, zd, zs, zp⟩ := yy
                generalize (O.take (q' + 1) ++ x :: O.drop (q' + 1))[q' + 1]'(by rw [shift_len O x (q' + 1) (by have := HOL.out; omega)]; have := HOL.out; omega) = dd at hcd
                have d0 : wr.cell? ⟨g, q' * 12, none⟩ = some (.int .u64 (yv : Int)) := hcs 0 (by omega)
                have d1 : wr.cell? ⟨g, q' * 12 + 1, none⟩ = some (.int .i64 (yl : Int)) := hcs 1 (by omega)
                have d2 : wr.cell? ⟨g, q' * 12 + 2, none⟩ = some (.bool zv) := hcs 2 (by omega)
                have d3 : wr.cell? ⟨g, q' * 12 + 3, none⟩ = some (.bool zr) := hcs 3 (by omega)
                have d4 : wr.cell? ⟨g, q' * 12 + 4, none⟩ = some (.bool zw) := hcs 4 (by omega)
                have d5 : wr.cell? ⟨g, q' * 12 + 5, none⟩ = some (.bool zx) := hcs 5 (by omega)
                have d6 : wr.cell? ⟨g, q' * 12 + 6, none⟩ = some (.bool zu) := hcs 6 (by omega)
                have d7 : wr.cell? ⟨g, q' * 12 + 7, none⟩ = some (.bool zg) := hcs 7 (by omega)
                have d8 : wr.cell? ⟨g, q' * 12 + 8, none⟩ = some (.bool za) := hcs 8 (by omega)
                have d9 : wr.cell? ⟨g, q' * 12 + 9, none⟩ = some (.bool zd) := hcs 9 (by omega)
                have d10 : wr.cell? ⟨g, q' * 12 + 10, none⟩ = some (.int .i64 zs) := hcs 10 (by omega)
                have d11 : wr.cell? ⟨g, q' * 12 + 11, none⟩ = some (.int .u64 (zp : Int)) := hcs 11 (by omega)
                have e0 : ∃ u, wr.cell? ⟨g, (q' + 1) * 12, none⟩ = some u := ⟨_, (hcd 0 (by omega)).trans rfl⟩
                obtain ⟨u0, e0⟩ := e0
                have e1 : ∃ u, wr.cell? ⟨g, (q' + 1) * 12 + 1, none⟩ = some u := ⟨_, (hcd 1 (by omega)).trans rfl⟩
                obtain ⟨u1, e1⟩ := e1
                have e2 : ∃ u, wr.cell? ⟨g, (q' + 1) * 12 + 2, none⟩ = some u := ⟨_, (hcd 2 (by omega)).trans rfl⟩
                obtain ⟨u2, e2⟩ := e2
                have e3 : ∃ u, wr.cell? ⟨g, (q' + 1) * 12 + 3, none⟩ = some u := ⟨_, (hcd 3 (by omega)).trans rfl⟩
                obtain ⟨u3, e3⟩ := e3
                have e4 : ∃ u, wr.cell? ⟨g, (q' + 1) * 12 + 4, none⟩ = some u := ⟨_, (hcd 4 (by omega)).trans rfl⟩
                obtain ⟨u4, e4⟩ := e4
                have e5 : ∃ u, wr.cell? ⟨g, (q' + 1) * 12 + 5, none⟩ = some u := ⟨_, (hcd 5 (by omega)).trans rfl⟩
                obtain ⟨u5, e5⟩ := e5
                have e6 : ∃ u, wr.cell? ⟨g, (q' + 1) * 12 + 6, none⟩ = some u := ⟨_, (hcd 6 (by omega)).trans rfl⟩
                obtain ⟨u6, e6⟩ := e6
                have e7 : ∃ u, wr.cell? ⟨g, (q' + 1) * 12 + 7, none⟩ = some u := ⟨_, (hcd 7 (by omega)).trans rfl⟩
                obtain ⟨u7, e7⟩ := e7
                have e8 : ∃ u, wr.cell? ⟨g, (q' + 1) * 12 + 8, none⟩ = some u := ⟨_, (hcd 8 (by omega)).trans rfl⟩
                obtain ⟨u8, e8⟩ := e8
                have e9 : ∃ u, wr.cell? ⟨g, (q' + 1) * 12 + 9, none⟩ = some u := ⟨_, (hcd 9 (by omega)).trans rfl⟩
                obtain ⟨u9, e9⟩ := e9
                have e10 : ∃ u, wr.cell? ⟨g, (q' + 1) * 12 + 10, none⟩ = some u := ⟨_, (hcd 10 (by omega)).trans rfl⟩
                obtain ⟨u10, e10⟩ := e10
                have e11 : ∃ u, wr.cell? ⟨g, (q' + 1) * 12 + 11, none⟩ = some u := ⟨_, (hcd 11 (by omega)).trans rfl⟩
                obtain ⟨u11, e11⟩ := e11
                obtain ⟨cur, hcur, _, hn1, hm1, hcl1, _⟩ := own_blkG hown4
                have fz1 : ∀ o, wr.frozen? ⟨g, o, none⟩ = false := fun o => hcur.free o
                have hglt := hcur.lt
                unfold set12 at hset hsc
                dsimp only at hset hsc
                have hkn := hk4.chg hsc (fun h => hgB h.symm)
                have hcn := hc4.newerB (hsc.mono (F' := fun k => w.heap.size ≤ k) (fun k _ hk => by rw [hk]; exact hgw)) (Nat.le_refl _)
                obtain ⟨W9, hW9⟩ : ∃ W, W = ((((((((((((wr.setCell ⟨g, (q' + 1) * 12, none⟩ (.int .u64 (yv : Int))).setCell ⟨g, (q' + 1) * 12 + 1, none⟩ (.int .i64 (yl : Int))).setCell ⟨g, (q' + 1) * 12 + 2, none⟩ (.bool zv)).setCell ⟨g, (q' + 1) * 12 + 3, none⟩ (.bool zr)).setCell ⟨g, (q' + 1) * 12 + 4, none⟩ (.bool zw)).setCell ⟨g, (q' + 1) * 12 + 5, none⟩ (.bool zx)).setCell ⟨g, (q' + 1) * 12 + 6, none⟩ (.bool zu)).setCell ⟨g, (q' + 1) * 12 + 7, none⟩ (.bool zg)).setCell ⟨g, (q' + 1) * 12 + 8, none⟩ (.bool za)).setCell ⟨g, (q' + 1) * 12 + 9, none⟩ (.bool zd)).setCell ⟨g, (q' + 1) * 12 + 10, none⟩ (.int .i64 zs)).setCell ⟨g, (q' + 1) * 12 + 11, none⟩ (.int .u64 (zp : Int))) := ⟨_, rfl⟩
                rw [← hW9] at hset hkn hcn
                have HSET := Lib.hid hset; have HKN := Lib.hid hkn; have HCN := Lib.hid hcn; have HW9 := Lib.hid hW9
                have w1 : IntKind.i64.wrap (((q' : Int) + 1) - 1) = (q' : Int) := by simp [IntKind.wrap, IntKind.bits, IntKind.signed]; omega
                have b1 : (p : Int) < (q' : Int) + 1 := by omega
                have b2 : (q' : Int) + 1 < (k : Int) + 1 := by omega
                have b3 : q' + 1 < k + 1 := by omega
                have b4 : q' < k + 1 := by omega
                have b5 : (q' : Int) < (k : Int) + 1 := by omega
                unfold maxLen at hm1
                clear hset hkn hcn hW9 hown4 hk4 hc4 hcs hcd hsc s1 s2 hq2 hcur
                go_wp2
                try rw [← HW9.out]
                go_roundw
                case rel => exact ⟨q', _, by omega, by omega, by go_num, HSET.out, HKN.out, HCN.out⟩
                case measure => first | (simp [intOf]; done) | (simp [intOf]; omega)
              · obtain rfl : q = p := by omega
                have hcd := row_cells hown4 (by rw [shift_len O x q (by have := HOL.out; omega), ← HOL.out]) (i := q) (by rw [shift_len O x q (by have := HOL.out; omega)]; have := HOL.out; omega)
                have hset := set12_own (i := q) (m := (Pg.mk xv xl ⟨ev, er, ew, ex, eu, eg, ea, ed, rs, pp⟩)) hown4 (by rw [shift_len O x q (by have := HOL.out; omega), ← HOL.out]) (by rw [shift_len O x q (by have := HOL.out; omega)]; have := HOL.out; omega)
                rw [shift_end O x (Pg.mk xv xl ⟨ev, er, ew, ex, eu, eg, ea, ed, rs, pp⟩) q (by have := HOL.out; omega), HPE.out] at hset
                have hsc := set12_chg wr g (q * 12) (Pg.mk xv xl ⟨ev, er, ew, ex, eu, eg, ea, ed, rs, pp⟩)
                generalize (O.take q ++ x :: O.drop q)[q]'(by rw [shift_len O x q (by have := HOL.out; omega)]; have := HOL.out; omega) = dd at hcd
                have e0 : ∃ u, wr.cell? ⟨g, q * 12, none⟩ = some u := ⟨_, (hcd 0 (by omega)).trans rfl⟩
                obtain ⟨u0, e0⟩ := e0
                have c0x : wr.cell? ⟨B1, 0, none⟩ = some (.int .u64 (xv : Int)) := hk4.cell 0
                have e1 : ∃ u, wr.cell? ⟨g, q * 12 + 1, none⟩ = some u := ⟨_, (hcd 1 (by omega)).trans rfl⟩
                obtain ⟨u1, e1⟩ := e1
                have c1x : wr.cell? ⟨B1, 1, none⟩ = some (.int .i64 (xl : Int)) := hk4.cell 1
                have e2 : ∃ u, wr.cell? ⟨g, q * 12 + 2, none⟩ = some u := ⟨_, (hcd 2 (by omega)).trans rfl⟩
                obtain ⟨u2, e2⟩ := e2
                have c2x : wr.cell? ⟨B1, 2, none⟩ = some (.bool ev) := hk4.cell 2
                have e3 : ∃ u, wr.cell? ⟨g, q * 12 + 3, none⟩ = some u := ⟨_, (hcd 3 (by omega)).trans rfl⟩
                obtain ⟨u3, e3⟩ := e3
                have c3x : wr.cell? ⟨B1, 3, none⟩ = some (.bool er) := hk4.cell 3
                have e4 : ∃ u, wr.cell? ⟨g, q * 12 + 4, none⟩ = some u := ⟨_, (hcd 4 (by omega)).trans rfl⟩
                obtain ⟨u4, e4⟩ := e4
                have c4x : wr.cell? ⟨B1, 4, none⟩ = some (.bool ew) := hk4.cell 4
                have e5 : ∃ u, wr.cell? ⟨g, q * 12 + 5, none⟩ = some u := ⟨_, (hcd 5 (by omega)).trans rfl⟩
                obtain ⟨u5, e5⟩ := e5
                have c5x : wr.cell? ⟨B1, 5, none⟩ = some (.bool ex) := hk4.cell 5
                have e6 : ∃ u, wr.cell? ⟨g, q * 12 + 6, none⟩ = some u := ⟨_, (hcd 6 (by omega)).trans rfl⟩
                obtain ⟨u6, e6⟩ := e6
                have c6x : wr.cell? ⟨B1, 6, none⟩ = some (.bool eu) := hk4.cell 6
                have e7 : ∃ u, wr.cell? ⟨g, q * 12 + 7, none⟩ = some u := ⟨_, (hcd 7 (by omega)).trans rfl⟩
                obtain ⟨u7, e7⟩ := e7
                have c7x : wr.cell? ⟨B1, 7, none⟩ = some (.bool eg) := hk4.cell 7
                have e8 : ∃ u, wr.cell? ⟨g, q * 12 + 8, none⟩ = some u := ⟨_, (hcd 8 (by omega)).trans rfl⟩
                obtain ⟨u8, e8⟩ := e8
                have c8x : wr.cell? ⟨B1, 8, none⟩ = some (.bool ea) := hk4.cell 8
                have e9 : ∃ u, wr.cell? ⟨g, q * 12 + 9, none⟩ = some u := ⟨_, (hcd 9 (by omega)).trans rfl⟩
                obtain ⟨u9, e9⟩ := e9
                have c9x : wr.cell? ⟨B1, 9, none⟩ = some (.bool ed) := hk4.cell 9
                have e10 : ∃ u, wr.cell? ⟨g, q * 12 + 10, none⟩ = some u := ⟨_, (hcd 10 (by omega)).trans rfl⟩
                obtain ⟨u10, e10⟩ := e10
                have c10x : wr.cell? ⟨B1, 10, none⟩ = some (.int .i64 rs) := hk4.cell 10
                have e11 : ∃ u, wr.cell? ⟨g, q * 12 + 11, none⟩ = some u := ⟨_, (hcd 11 (by omega)).trans rfl⟩
                obtain ⟨u11, e11⟩ := e11
                have c11x : wr.cell? ⟨B1, 11, none⟩ = some (.int .u64 (pp : Int)) := hk4.cell 11
                have clt := hk4.lt
                obtain ⟨cur, hcur, _, hn1, hm1, hcl1, _⟩ := own_blkG hown4
                have fz1 : ∀ o, wr.frozen? ⟨g, o, none⟩ = false := fun o => hcur.free o
                have hglt := hcur.lt
                unfold set12 at hset hsc
                dsimp only at hset hsc
                have hcn := hc4.newerB (hsc.mono (F' := fun k => w.heap.size ≤ k) (fun k _ hk => by rw [hk]; exact hgw)) (Nat.le_refl _)
                obtain ⟨W9, hW9⟩ : ∃ W, W = ((((((((((((wr.setCell ⟨g, q * 12, none⟩ (.int .u64 (xv : Int))).setCell ⟨g, q * 12 + 1, none⟩ (.int .i64 (xl : Int))).setCell ⟨g, q * 12 + 2, none⟩ (.bool ev)).setCell ⟨g, q * 12 + 3, none⟩ (.bool er)).setCell ⟨g, q * 12 + 4, none⟩ (.bool ew)).setCell ⟨g, q * 12 + 5, none⟩ (.bool ex)).setCell ⟨g, q * 12 + 6, none⟩ (.bool eu)).setCell ⟨g, q * 12 + 7, none⟩ (.bool eg)).setCell ⟨g, q * 12 + 8, none⟩ (.bool ea)).setCell ⟨g, q * 12 + 9, none⟩ (.bool ed)).setCell ⟨g, q * 12 + 10, none⟩ (.int .i64 rs)).setCell ⟨g, q * 12 + 11, none⟩ (.int .u64 (pp : Int))) := ⟨_, rfl⟩
                rw [← hW9] at hset hcn
                have HSET := Lib.hid hset; have HCN := Lib.hid hcn; have HW9 := Lib.hid hW9
                have b1 : ¬ (q : Int) < (q : Int) := by omega
                have b2 : (q : Int) < (k : Int) + 1 := by omega
                have b3 : q < k + 1 := by omega
                unfold maxLen at hm1
                clear hset hcn hW9 hown4 hk4 hc4 hcd hsc hcur hlt4
                go_wp2
                try rw [← HW9.out]
                go_roundw
                case rel => exact ⟨k + 1, _, by omega, by go_num, rfl, (by rw [HSN.out]; exact HSET.out), HCN.out⟩
                case measure => first | (simp [intOf]; done) | (simp [intOf]; omega)
        · obtain rfl : j = 0 := by omega
          have b1 : ¬ (0 : Int) < ((0 : Nat) : Int) := by omega
          have HPL2 : Hid (plc O (Pg.mk xv xl ⟨ev, er, ew, ex, eu, eg, ea, ed, rs, pp⟩) 0 = 0) := Lib.hid (by unfold plc; rfl)
          go_wp2_with fail
          go_quiet (fail)
          have hO2 := own_chgG HOW2.out (Chg.drewN no wr nq) (fun _ _ h => h)
          have hK2 := HBX2.out.drewN nq
          have hC2 := HCH2.out.trans (Chg.drewN no wr nq)
          have hpe : O.take 0 ++ (Pg.mk xv xl ⟨ev, er, ew, ex, eu, eg, ea, ed, rs, pp⟩) :: O.drop 0 = insP O (Pg.mk xv xl ⟨ev, er, ew, ex, eu, eg, ea, ed, rs, pp⟩) := by
            unfold insP
            rw [← HOL.out, HPL.out, HPL2.out]
          have hpk : 0 ≤ k := by omega
          obtain ⟨p, hp⟩ : ∃ p, p = 0 := ⟨_, rfl⟩
          generalize wr.drewN nq = W3 at hO2 hK2 hC2 ⊢
          clear HOW2 HBX2 HCH2
          obtain ⟨W2, hW2⟩ : ∃ W, W = W3 := ⟨_, rfl⟩
          rw [← hW2] at hO2 hK2 hC2 ⊢
          rw [← hp] at hpk hpe
          have hpi : (((0 : Nat) : Int)) = (p : Int) := by rw [hp]
          try simp only [Int.natCast_add, Int.natCast_one, Int.cast_ofNat_Int] at hpi
          try rw [hpi]
          have HO2 := Lib.hid hO2; have HK2 := Lib.hid hK2; have HC2 := Lib.hid hC2; have HPE := Lib.hid hpe; have HSN := HSN0
          clear hO2 hK2 hC2 hpe hp hpi hW2
          have c0x : W2.cell? ⟨B1, 0, none⟩ = some (.int .u64 (xv : Int)) := HK2.out.cell 0
          have c1x : W2.cell? ⟨B1, 1, none⟩ = some (.int .i64 (xl : Int)) := HK2.out.cell 1
          have c2x : W2.cell? ⟨B1, 2, none⟩ = some (.bool ev) := HK2.out.cell 2
          have c3x : W2.cell? ⟨B1, 3, none⟩ = some (.bool er) := HK2.out.cell 3
          have c4x : W2.cell? ⟨B1, 4, none⟩ = some (.bool ew) := HK2.out.cell 4
          have c5x : W2.cell? ⟨B1, 5, none⟩ = some (.bool ex) := HK2.out.cell 5
          have c6x : W2.cell? ⟨B1, 6, none⟩ = some (.bool eu) := HK2.out.cell 6
          have c7x : W2.cell? ⟨B1, 7, none⟩ = some (.bool eg) := HK2.out.cell 7
          have c8x : W2.cell? ⟨B1, 8, none⟩ = some (.bool ea) := HK2.out.cell 8
          have c9x : W2.cell? ⟨B1, 9, none⟩ = some (.bool ed) := HK2.out.cell 9
          have c10x : W2.cell? ⟨B1, 10, none⟩ = some (.int .i64 rs) := HK2.out.cell 10
          have c11x : W2.cell? ⟨B1, 11, none⟩ = some (.int .u64 (pp : Int)) := HK2.out.cell 11
          have clt := HK2.out.lt
          go_wp2_with (at_builtin; refine wpList_append_M1 rfl _ _ rfl w.heap.size (.slice Ay k cy) k _ rfl (HO2.out.alloc _) W2.heap.size (Pg.mk xv xl ⟨ev, er, ew, ex, eu, eg, ea, ed, rs, pp⟩) rfl (Blk.new W2 (pgC (Pg.mk xv xl ⟨ev, er, ew, ex, eu, eg, ea, ed, rs, pp⟩)) 60) ?q1 ?q2 (W2.heap.size + 1) ?q3 ?_)
          case q1 => omega
          case q2 => have := HC2.out.size; simp; omega
          case q3 => simp
          intro g cap W3 hown3 hgr3 hg3 hg3l
          clear clt c0x c1x c2x c3x c4x c5x c6x c7x c8x c9x c10x c11x
          have hgB : g ≠ B1 := by
            have hB1 := HB1.out
            rcases hg3 with h | h
            · have := (HO1.out.lt g h).2; omega
            · have h2 := HK2.out.lt; omega
          have hc3 : Chg no w W3 := (HC2.out.thenAlloc _).newerB (grown_chg hgr3 (fun k hk => (HO2.out.lt k hk).1)) (Nat.le_refl _)
          have hk3 : Blk W3 B1 (pgC (Pg.mk xv xl ⟨ev, er, ew, ex, eu, eg, ea, ed, rs, pp⟩)) 60 := (HK2.out.alloc _).chg (Chg.grown (F := fun k => k ≠ B1) hgr3 (fun k hk _ => fun e => by have := (HO1.out.lt k hk).2; have hB1 := HB1.out; omega)) (fun h => h rfl)
          have hgw : w.heap.size ≤ g := (hown3.lt g rfl).1
          have hrow3 : W3.ownsRow w.heap.size 60 12 (.slice (some ⟨g, 0, none⟩) (k + 1) cap) (k + 1) (rowS pgC (O.take k ++ (Pg.mk xv xl ⟨ev, er, ew, ex, eu, eg, ea, ed, rs, pp⟩) :: O.drop k)) := by
            have e : O.take k ++ (Pg.mk xv xl ⟨ev, er, ew, ex, eu, eg, ea, ed, rs, pp⟩) :: O.drop k = O ++ [(Pg.mk xv xl ⟨ev, er, ew, ex, eu, eg, ea, ed, rs, pp⟩)] := by
              rw [HOL.out, List.take_length, List.drop_length]
            rw [e, rowS_app]; exact hown3
          have HO3 := Lib.hid hrow3; have HC3 := Lib.hid hc3; have HK3 := Lib.hid hk3
          have hw9 : IntKind.i64.wrap ((k : Int) + 1 - 1) = (k : Int) := by simp [IntKind.wrap, IntKind.bits, IntKind.signed]; omega
          clear hown3 hgr3 hg3 hc3 hk3 hrow3 hg3l
          go_wp2
          go_loopw [7] (fun i wr => ∃ (q : Nat) (x : Pg), p ≤ q ∧ q ≤ k ∧ i = .int .i64 (q : Int) ∧ wr.ownsRow w.heap.size 60 12 (.slice (some ⟨g, 0, none⟩) (k + 1) cap) (k + 1) (rowS pgC (O.take q ++ x :: O.drop q)) ∧ Blk wr B1 (pgC (Pg.mk xv xl ⟨ev, er, ew, ex, eu, eg, ea, ed, rs, pp⟩)) 60 ∧ Chg no w wr) (fun i _ => (intOf i).toNat)
          case atStart => exact ⟨k, _, hpk, Nat.le_refl _, by go_num, HO3.out, HK3.out, HC3.out⟩
          case round =>
            obtain ⟨q, x, hpq, hqk, rfl, hown4, hk4, hc4⟩ := hrel
            by_cases hlt4 : p < q
            · obtain ⟨q', rfl⟩ : ∃ q', q = q' + 1 := ⟨q - 1, by omega⟩
              obtain ⟨hq1, hq2⟩ := shift_at O x q' (by have := HOL.out; omega)
              have hcs := row_cells hown4 (by rw [shift_len O x (q' + 1) (by have := HOL.out; omega), ← HOL.out]) hq1
              have hcd := row_cells hown4 (by rw [shift_len O x (q' + 1) (by have := HOL.out; omega), ← HOL.out]) (i := q' + 1) (by rw [shift_len O x (q' + 1) (by have := HOL.out; omega)]; have := HOL.out; omega)
              rw [hq2] at hcs
              obtain ⟨s1, s2⟩ := shift_step O x q' (by have := HOL.out; omega)
              have hset := set12_own (i := q' + 1) (m := O[q']'(by have := HOL.out; omega)) hown4 (by rw [shift_len O x (q' + 1) (by have := HOL.out; omega), ← HOL.out]) (by rw [shift_len O x (q' + 1) (by have := HOL.out; omega)]; have := HOL.out; omega)
              rw [s1, s2] at hset
              have hsc := set12_chg wr g ((q' + 1) * 12) (O[q']'(by have := HOL.out; omega))
              generalize O[q']'(by have := HOL.out; omega) = yy at hcs hset hsc
              obtain ⟨yv, yl, zv, zr, zw, zx, zu, zg, za, zd, zs, zp⟩ := yy
              generalize (O.take (q' + 1) ++ x :: O.drop (q' + 1))[q' + 1]'(by rw [shift_len O x (q' + 1) (by have := HOL.out; omega)]; have := HOL.out; omega) = dd at hcd
              have d0 : wr.cell? ⟨g, q' * 12, none⟩ = some (.int .u64 (yv : Int)) := hcs 0 (by omega)
              have d1 : wr.cell? ⟨g, q' * 12 + 1, none⟩ = some (.int .i64 (yl : Int)) := hcs 1 (by omega)
              have d2 : wr.cell? ⟨g, q' * 12 + 2, none⟩ = some (.bool zv) := hcs 2 (by omega)
              have d3 : wr.cell? ⟨g, q' * 12 + 3, none⟩ = some (.bool zr) := hcs 3 (by omega)
              have d4 : wr.cell? ⟨g, q' * 12 + 4, none⟩ = some (.bool zw) := hcs 4 (by omega)
              have d5 : wr.cell? ⟨g, q' * 12 + 5, none⟩ = some (.bool zx) := hcs 5 (by omega)
              have d6 : wr.cell? ⟨g, q' * 12 + 6, none⟩ = some (.bool zu) := hcs 6 (by omega)
              have d7 : wr.cell? ⟨g, q' * 12 + 7, none⟩ = some (.bool zg) := hcs 7 (by omega)
              have d8 : wr.cell? ⟨g, q' * 12 + 8, none⟩ = some (.bool za) := hcs 8 (by omega)
              have d9 : wr.cell? ⟨g, q' * 12 + 9, none⟩ = some (.bool zd) := hcs 9 (by omega)
              have d10 : wr.cell? ⟨g, q' * 12 + 10, none⟩ = some (.int .i64 zs) := hcs 10 (by omega)
              have d11 : wr.cell? ⟨g, q' * 12 + 11, none⟩ = some (.int .u64 (zp : Int)) := hcs 11 (by omega)
              have e0 : ∃ u, wr.cell? ⟨g, (q' + 1) * 12, none⟩ = some u := ⟨_, (hcd 0 (by omega)).trans rfl⟩
              obtain ⟨u0, e0⟩ := e0
              have e1 : ∃ u, wr.cell? ⟨g, (q' + 1) * 12 + 1, none⟩ = some u := ⟨_, (hcd 1 (by omega)).trans rfl⟩
              obtain ⟨u1, e1⟩ := e1
              have e2 : ∃ u, wr.cell? ⟨g, (q' + 1) * 12 + 2, none⟩ = some u := ⟨_, (hcd 2 (by omega)).trans rfl⟩
              obtain ⟨u2, e2⟩ := e2
              have e3 : ∃ u, wr.cell? ⟨g, (q' + 1) * 12 + 3, none⟩ = some u := ⟨_, (hcd 3 (by omega)).trans rfl⟩
              obtain ⟨u3, e3⟩ := e3
              have e4 : ∃ u, wr.cell? ⟨g, (q' + 1) * 12 + 4, none⟩ = some u := ⟨_, (hcd 4 (by omega)).trans rfl⟩
              obtain ⟨u4, e4⟩ := e4
              have e5 : ∃ u, wr.cell? ⟨g, (q' + 1) * 12 + 5, none⟩ = some u := ⟨_, (hcd 5 (by omega)).trans rfl⟩
              obtain ⟨u5, e5⟩ := e5
              have e6 : ∃ u, wr.cell? ⟨g, (q' + 1) * 12 + 6, none⟩ = some u := ⟨_, (hcd 6 (by omega)).trans rfl⟩
              obtain ⟨u6, e6⟩ := e6
              have e7 : ∃ u, wr.cell? ⟨g, (q' + 1) * 12 + 7, none⟩ = some u := ⟨_, (hcd 7 (by omega)).trans rfl⟩
              obtain ⟨u7, e7⟩ := e7
              have e8 : ∃ u, wr.cell? ⟨g, (q' + 1) * 12 + 8, none⟩ = some u := ⟨_, (hcd 8 (by omega)).trans rfl⟩
              obtain ⟨u8, e8⟩ := e8
              have e9 : ∃ u, wr.cell? ⟨g, (q' + 1) * 12 + 9, none⟩ = some u := ⟨_, (hcd 9 (by omega)).trans rfl⟩
              obtain ⟨u9, e9⟩ := e9
              have e10 : ∃ u, wr.cell? ⟨g, (q' + 1) * 12 + 10, none⟩ = some u := ⟨_, (hcd 10 (by omega)).trans rfl⟩
              obtain ⟨u10, e10⟩ := e10
              have e11 : ∃ u, wr.cell? ⟨g, (q' + 1) * 12 + 11, none⟩ = some u := ⟨_, (hcd 11 (by omega)).trans rfl⟩
              obtain ⟨u11, e11⟩ := e11
              obtain ⟨cur, hcur, _, hn1, hm1, hcl1, _⟩ := own_blkG hown4
              have fz1 : ∀ o, wr.frozen? ⟨g, o, none⟩ = false := fun o => hcur.free o
              have hglt := hcur.lt
              unfold set12 at hset hsc
              dsimp only at hset hsc
              have hkn := hk4.chg hsc (fun h => hgB h.symm)
              have hcn := hc4.newerB (hsc.mono (F' := fun k => w.heap.size ≤ k) (fun k _ hk => by rw [hk]; exact hgw)) (Nat.le_refl _)
              obtain ⟨W9, hW9⟩ : ∃ W, W = ((((((((((((wr.setCell ⟨g, (q' + 1) * 12, none⟩ (.int .u64 (yv : Int))).setCell ⟨g, (q' + 1) * 12 + 1, none⟩ (.int .i64 (yl : Int))).setCell ⟨g, (q' + 1) * 12 + 2, none⟩ (.bool zv)).setCell ⟨g, (q' + 1) * 12 + 3, none⟩ (.bool zr)).setCell ⟨g, (q' + 1) * 12 + 4, none⟩ (.bool zw)).setCell ⟨g, (q' + 1) * 12 + 5, none⟩ (.bool zx)).setCell ⟨g, (q' + 1) * 12 + 6, none⟩ (.bool zu)).setCell ⟨g, (q' + 1) * 12 + 7, none⟩ (.bool zg)).setCell ⟨g, (q' + 1) * 12 + 8, none⟩ (.bool za)).setCell ⟨g, (q' + 1) * 12 + 9, none⟩ (.bool zd)).setCell ⟨g, (q' + 1) * 12 + 10, none⟩ (.int .i64 zs)).setCell ⟨g, (q' + 1) * 12 + 11, none⟩ (.int .u64 (zp : Int))) := ⟨_, rfl⟩
              rw [← hW9] at hset hkn hcn
              have HSET := Lib.hid hset; have HKN := Lib.hid hkn; have HCN := Lib.hid hcn; have HW9 := Lib.hid hW9
              have w1 : IntKind.i64.wrap (((q' : Int) + 1) - 1) = (q' : Int) := by simp [IntKind.wrap, IntKind.bits, IntKind.signed]; omega
              have b1 : (p : Int) < (q' : Int) + 1 := by omega
              have b2 : (q' : Int) + 1 < (k : Int) + 1 := by omega
              have b3 : q' + 1 < k + 1 := by omega
              have b4 : q' < k + 1 := by omega
              have b5 : (q' : Int) < (k : Int) + 1 := by omega
              unfold maxLen at hm1
              clear hset hkn hcn hW9 hown4 hk4 hc4 hcs hcd hsc s1 s2 hq2 hcur
              go_wp2
              try rw [← HW9.out]
              go_roundw
              case rel => exact ⟨q', _, by omega, by omega, by go_num, HSET.out, HKN.out, HCN.out⟩
              case measure => first | (simp [intOf]; done) | (simp [intOf]; omega)
            · obtain rfl : q = p := by omega
              have hcd := row_cells hown4 (by rw [shift_len O x q (by have := HOL.out; omega), ← HOL.out]) (i := q) (by rw [shift_len O x q (by have := HOL.out; omega)]; have := HOL.out; omega)
              have hset := set12_own (i := q) (m := (Pg.mk xv xl ⟨ev, er, ew, ex, eu, eg, ea, ed, rs, pp⟩)) hown4 (by rw [shift_len O x q (by have := HOL.out; omega), ← HOL.out]) (by rw [shift_len O x q (by have := HOL.out; omega)]; have := HOL.out; omega)
              rw [shift_end O x (Pg.mk xv xl ⟨ev, er, ew, ex, eu, eg, ea, ed, rs, pp⟩) q (by have := HOL.out; omega), HPE.out] at hset
              have hsc := set12_chg wr g (q * 12) (Pg.mk xv xl ⟨ev, er, ew, ex, eu, eg, ea, ed, rs, pp⟩)
              generalize (O.take q ++ x :: O.drop q)[q]'(by rw [shift_len O x q (by have := HOL.out; omega)]; have := HOL.out; omega) = dd at hcd
              have e0 : ∃ u, wr.cell? ⟨g, q * 12, none⟩ = some u := ⟨_, (hcd 0 (by omega)).trans rfl⟩
              obtain ⟨u0, e0⟩ := e0
              have c0x : wr.cell? ⟨B1, 0, none⟩ = some (.int .u64 (xv : Int)) := hk4.cell 0
              have e1 : ∃ u, wr.cell? ⟨g, q * 12 + 1, none⟩ = some u := ⟨_, (hcd 1 (by omega)).trans rfl⟩
              obtain ⟨u1, e1⟩ := e1
              have c1x : wr.cell? ⟨B1, 1, none⟩ = some (.int .i64 (xl : Int)) := hk4.cell 1
              have e2 : ∃ u, wr.cell? ⟨g, q * 12 + 2, none⟩ = some u := ⟨_, (hcd 2 (by omega)).trans rfl⟩
              obtain ⟨u2, e2⟩ := e2
              have c2x : wr.cell? ⟨B1, 2, none⟩ = some (.bool ev) := hk4.cell 2
              have e3 : ∃ u, wr.cell? ⟨g, q * 12 + 3, none⟩ = some u := ⟨_, (hcd 3 (by omega)).trans rfl⟩
              obtain ⟨u3, e3⟩ := e3
              have c3x : wr.cell? ⟨B1, 3, none⟩ = some (.bool er) := hk4.cell 3
              have e4 : ∃ u, wr.cell? ⟨g, q * 12 + 4, none⟩ = some u := ⟨_, (hcd 4 (by omega)).trans rfl⟩
              obtain ⟨u4, e4⟩ := e4
              have c4x : wr.cell? ⟨B1, 4, none⟩ = some (.bool ew) := hk4.cell 4
              have e5 : ∃ u, wr.cell? ⟨g, q * 12 + 5, none⟩ = some u := ⟨_, (hcd 5 (by omega)).trans rfl⟩
              obtain ⟨u5, e5⟩ := e5
              have c5x : wr.cell? ⟨B1, 5, none⟩ = some (.bool ex) := hk4.cell 5
              have e6 : ∃ u, wr.cell? ⟨g, q * 12 + 6, none⟩ = some u := ⟨_, (hcd 6 (by omega)).trans rfl⟩
              obtain ⟨u6, e6⟩ := e6
              have c6x : wr.cell? ⟨B1, 6, none⟩ = some (.bool eu) := hk4.cell 6
              have e7 : ∃ u, wr.cell? ⟨g, q * 12 + 7, none⟩ = some u := ⟨_, (hcd 7 (by omega)).trans rfl⟩
              obtain ⟨u7, e7⟩ := e7
              have c7x : wr.cell? ⟨B1, 7, none⟩ = some (.bool eg) := hk4.cell 7
              have e8 : ∃ u, wr.cell? ⟨g, q * 12 + 8, none⟩ = some u := ⟨_, (hcd 8 (by omega)).trans rfl⟩
              obtain ⟨u8, e8⟩ := e8
              have c8x : wr.cell? ⟨B1, 8, none⟩ = some (.bool ea) := hk4.cell 8
              have e9 : ∃ u, wr.cell? ⟨g, q * 12 + 9, none⟩ = some u := ⟨_, (hcd 9 (by omega)).trans rfl⟩
              obtain ⟨u9, e9⟩ := e9
              have c9x : wr.cell? ⟨B1, 9, none⟩ = some (.bool ed) := hk4.cell 9
              have e10 : ∃ u, wr.cell? ⟨g, q * 12 + 10, none⟩ = some u := ⟨_, (hcd 10 (by omega)).trans rfl⟩
              obtain ⟨u10, e10⟩ := e10
              have c10x : wr.cell? ⟨B1, 10, none⟩ = some (.int .i64 rs) := hk4.cell 10
              have e11 : ∃ u, wr.cell? ⟨g, q * 12 + 11, none⟩ = some u := ⟨_, (hcd 11 (by omega)).trans rfl⟩
              obtain ⟨u11, e11⟩ := e11
              have c11x : wr.cell? ⟨B1, 11, none⟩ = some (.int .u64 (pp : Int)) := hk4.cell 11
              have clt := hk4.lt
              obtain ⟨cur, hcur, _, hn1, hm1, hcl1, _⟩ := own_blkG hown4
              have fz1 : ∀ o, wr.frozen? ⟨g, o, none⟩ = false := fun o => hcur.free o
              have hglt := hcur.lt
              unfold set12 at hset hsc
              dsimp only at hset hsc
              have hcn := hc4.newerB (hsc.mono (F' := fun k => w.heap.size ≤ k) (fun k _ hk => by rw [hk]; exact hgw)) (Nat.le_refl _)
              obtain ⟨W9, hW9⟩ : ∃ W, W = ((((((((((((wr.setCell ⟨g, q * 12, none⟩ (.int .u64 (xv : Int))).setCell ⟨g, q * 12 + 1, none⟩ (.int .i64 (xl : Int))).setCell ⟨g, q * 12 + 2, none⟩ (.bool ev)).setCell ⟨g, q * 12 + 3, none⟩ (.bool er)).setCell ⟨g, q * 12 + 4, none⟩ (.bool ew)).setCell ⟨g, q * 12 + 5, none⟩ (.bool ex)).setCell ⟨g, q * 12 + 6, none⟩ (.bool eu)).setCell ⟨g, q * 12 + 7, none⟩ (.bool eg)).setCell ⟨g, q * 12 + 8, none⟩ (.bool ea)).setCell ⟨g, q * 12 + 9, none⟩ (.bool ed)).setCell ⟨g, q * 12 + 10, none⟩ (.int .i64 rs)).setCell ⟨g, q * 12 + 11, none⟩ (.int .u64 (pp : Int))) := ⟨_, rfl⟩
              rw [← hW9] at hset hcn
              have HSET := Lib.hid hset; have HCN := Lib.hid hcn; have HW9 := Lib.hid hW9
              have b1 : ¬ (q : Int) < (q : Int) := by omega
              have b2 : (q : Int) < (k : Int) + 1 := by omega
              have b3 : q < k + 1 := by omega
              unfold maxLen at hm1
              clear hset hcn hW9 hown4 hk4 hc4 hcd hsc hcur hlt4
              go_wp2
              try rw [← HW9.out]
              go_roundw
              case rel => exact ⟨k + 1, _, by omega, by go_num, rfl, (by rw [HSN.out]; exact HSET.out), HCN.out⟩
              case measure => first | (simp [intOf]; done) | (simp [intOf]; omega)
    · obtain rfl : k = len := by omega
      rw [HN.out, List.take_length] at hown
      have HOW := Lib.hid hown; have HCH := Lib.hid hc
      clear hown hc
      go_wp2
      go_ret
      exact ⟨_, rfl, by rw [HN.out]; exact HOW.out, HCH.out⟩
end Go.Proofs.Ytdakfgefnapglaa
