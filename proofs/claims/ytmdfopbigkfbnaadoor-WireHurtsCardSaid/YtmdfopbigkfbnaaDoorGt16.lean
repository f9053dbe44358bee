/-
  What Get of package wire answers: a contract over the translation. It says its own conditions.
-/
import Derived.Test.YtmdfopbigkfbnaaDoorRd16
import Derived.ScopeJumps
import Derived.WalkMore
namespace Go.Proofs.YtmdfopbigkfbnaaDoor
open Go.RowKit
set_option linter.unusedVariables false
set_option linter.unusedSimpArgs false
attribute [local go_sem] setCell_drewN alloc_drewN

theorem open_no16 (A : Option Addr) (n cap : Nat) (d : List Int) (w : World) (hd : Dat w A n cap d) (hT : Mv w) (h : ¬ Sld d) : Calls Tryd.prog 20 #[.slice A n cap] w fun e w' => e = .returned (.tuple #[.slice none 0 0, .bool false]) ∧ w = w' := open_no A n cap d w hd.rd hd.len hd.lc hT h
theorem own_datg {w : World} {B g m : Nat} {x : List Int} (h : w.ownsRow B 5 1 (.slice (some ⟨g, 0, none⟩) m m) m (x.map (Value.int .u8))) (hb : Byt x) (hl : x.length = m) : Dat w (some ⟨g, 0, none⟩) m m x := by
  subst hl
  obtain ⟨A, cap, e, hd⟩ := OwnV.dat (l := x) (v := .slice (some ⟨g, 0, none⟩) x.length x.length) h hb
  injection e with e1 e2 e3
  rw [e1, e3]
  have h3 := hd
  rw [← e1, ← e3] at h3
  rw [← e1, ← e3]
  exact h3
theorem open_yes16 (A : Option Addr) (n cap : Nat) (d : List Int) (w : World) (hd : Dat w A n cap d) (hT : Mv w) (h : Sld d) (hb : n ≤ 9000) : Calls Tryd.prog 20 #[.slice A n cap] w fun e w' => ∃ g, e = .returned (.tuple #[.slice (some ⟨g, 0, none⟩) (n - 4) (n - 4), .bool true]) ∧ Dat w' (some ⟨g, 0, none⟩) (n - 4) (n - 4) (d.take (n - 4)) ∧ (w.heap.size ≤ g ∧ g < w'.heap.size) ∧ Below w.heap.size w w' := by
  have h4 := h.1
  rw [hd.len] at h4
  obtain ⟨m, rfl⟩ : ∃ m, n = m + 4 := ⟨n - 4, by omega⟩
  refine (open_yes A m cap d w hd.rd hd.len hd.lc (by omega) hT h).mono ?_
  rintro e w' ⟨g, rfl, ho, hb⟩
  refine ⟨g, rfl, own_datg ho (hd.rd.1.take m) (by rw [List.length_take, hd.len]; omega), ho.lt g rfl, hb⟩
theorem num16_lt {d : List Int} (hb : Byt d) (i : Nat) : 0 ≤ num16 d i ∧ num16 d i < (256 ^ sz16 i : Nat) := by
  have h1 : Byt ((d.drop (of16 i)).take (sz16 i)) := (hb.drop _).take _
  refine ⟨le_nn _ h1, ?_⟩
  have h2 := le_lt _ h1
  have h3 : ((d.drop (of16 i)).take (sz16 i)).length ≤ sz16 i := by rw [List.length_take]; omega
  have h4 : (256 ^ ((d.drop (of16 i)).take (sz16 i)).length : Nat) ≤ 256 ^ sz16 i := Nat.pow_le_pow_right (by omega) h3
  unfold num16
  omega
set_option maxHeartbeats 8000000 in
theorem get_any (A : Option Addr) (n cap : Nat) (d : List Int) (w : World) (hd : Dat w A n cap d) (hS : Szs w) (hM : Mv w) (hb : n ≤ 9000) : Calls Tryd.prog 10 #[.slice A n cap] w fun e w' => (∃ A2 cap2, e = .returned (.tuple #[.agg #[.int .i64 (getF d).f, .int .i64 (getF d).t, .bool (getF d).b, .int .u64 (getF d).s, .int .u64 (getF d).a, .slice A2 (getF d).d.length cap2], .bool (isF d)]) ∧ Dat w' A2 (getF d).d.length cap2 (getF d).d) ∧ Below w.heap.size w w' := by
  have HD := Lib.hid hd; have HS := Lib.hid hS; have HM := Lib.hid hM
  have hlen := hd.len
  have zdat : ∀ w', Dat w' none ([] : List Int).length 0 [] := fun w' => ⟨⟨Byt.nil, by simp, fun h => by simp at h⟩, rfl, fun _ => rfl, Nat.le_refl _⟩
  have HZD := Lib.hid zdat
  have hgz : isF d = false → getF d = z16 := fun h => by unfold getF; rw [h]; rfl
  have HGZ := Lib.hid hgz; have HLN := Lib.hid hlen
  clear hd hS hM zdat hgz hlen
  go_enter Tryd.func10, Tryd.ntmps10
  go_wp2_with fail
  have nb0 : Blk (w.alloc (.cells #[.int .i64 0, .int .i64 0, .bool false, .int .u64 0, .int .u64 0, .slice none 0 0] 25)) (w.heap.size) [.int .i64 0, .int .i64 0, .bool false, .int .u64 0, .int .u64 0, .slice none 0 0] 25 := Blk.new w [.int .i64 0, .int .i64 0, .bool false, .int .u64 0, .int .u64 0, .slice none 0 0] 25
  have nls : Below w.heap.size w w := (Below.refl w.heap.size w)
  have nl0 := nls.alloc nls.size (.cells #[.int .i64 0, .int .i64 0, .bool false, .int .u64 0, .int .u64 0, .slice none 0 0] 25)
  have nl : Below w.heap.size w (w.alloc (.cells #[.int .i64 0, .int .i64 0, .bool false, .int .u64 0, .int .u64 0, .slice none 0 0] 25)) := nl0; clear nls nl0
  obtain ⟨B1, hB0⟩ : ∃ B, B = w.heap.size := ⟨_, rfl⟩
  obtain ⟨W1, hW⟩ : ∃ W, W = (w.alloc (.cells #[.int .i64 0, .int .i64 0, .bool false, .int .u64 0, .int .u64 0, .slice none 0 0] 25)) := ⟨_, rfl⟩
  rw [← hW] at nl nb0
  rw [← hB0] at nb0
  rw [← hW]
  try rw [← hB0]
  have K1_0 := Lib.hid nb0
  have G1 : Hid (w.heap.size ≤ B1) := Lib.hid (by have := (Nat.le_refl w.heap.size); omega)
  have L1 := Lib.hid nl
  clear nl hW nb0 hB0
  refine wp_scope_jumps 0 (fun a' w' => ∃ (u0 u1 u3 u4 u5 u6 u7 u8 u9 u10 u11 u12 u13 u14 u15 u16 u17 u18 u19 u20 u21 u22 u23 u24 u25 u26 u27 u28 u29 u30 u31 u32 u33 u34 u35 u36 u37 u38 u39 u40 u41 u42 u43 u44 u45 u46 u47 u48 v0 v1 v2 v3 v4 v5 : Value), a' = { tmps := #[u0, u1, .pointer (some ⟨B1, 0, none⟩), u3, u4, u5, u6, u7, u8, u9, u10, u11, u12, u13, u14, u15, u16, u17, u18, u19, u20, u21, u22, u23, u24, u25, u26, u27, u28, u29, u30, u31, u32, u33, u34, u35, u36, u37, u38, u39, u40, u41, u42, u43, u44, u45, u46, u47, u48], defers := [] } ∧ isF d = false ∧ Blk w' B1 [v0, v1, v2, v3, v4, v5] 25 ∧ Below w.heap.size w w') (fun _ _ => 0) rfl ?_ ?_
  · go_upto_region 2 with (fail)
    have nb0 : Blk (W1.alloc (.cells #[.int .u64 0, .int .u64 0, .int .u64 0, .int .u64 0, .int .u64 0, .int .u64 0, .int .u64 0] 40)) (W1.heap.size) [.int .u64 0, .int .u64 0, .int .u64 0, .int .u64 0, .int .u64 0, .int .u64 0, .int .u64 0] 40 := Blk.new W1 [.int .u64 0, .int .u64 0, .int .u64 0, .int .u64 0, .int .u64 0, .int .u64 0, .int .u64 0] 40
    have nls : Below w.heap.size w W1 := L1.out
    have nl0 := nls.alloc nls.size (.cells #[.int .u64 0, .int .u64 0, .int .u64 0, .int .u64 0, .int .u64 0, .int .u64 0, .int .u64 0] 40)
    have nl : Below w.heap.size w (W1.alloc (.cells #[.int .u64 0, .int .u64 0, .int .u64 0, .int .u64 0, .int .u64 0, .int .u64 0, .int .u64 0] 40)) := nl0; clear nls nl0
    have o0 : Blk (W1.alloc (.cells #[.int .u64 0, .int .u64 0, .int .u64 0, .int .u64 0, .int .u64 0, .int .u64 0, .int .u64 0] 40)) B1 [.int .i64 0, .int .i64 0, .bool false, .int .u64 0, .int .u64 0, .slice none 0 0] 25 := (K1_0.out.alloc (.cells #[.int .u64 0, .int .u64 0, .int .u64 0, .int .u64 0, .int .u64 0, .int .u64 0, .int .u64 0] 40))
    have d2_0 : B1 < W1.heap.size := K1_0.out.lt
    obtain ⟨B2, hB0⟩ : ∃ B, B = W1.heap.size := ⟨_, rfl⟩
    obtain ⟨W2, hW⟩ : ∃ W, W = (W1.alloc (.cells #[.int .u64 0, .int .u64 0, .int .u64 0, .int .u64 0, .int .u64 0, .int .u64 0, .int .u64 0] 40)) := ⟨_, rfl⟩
    rw [← hW] at nl nb0 o0
    rw [← hB0] at nb0
    rw [← hW]
    try rw [← hB0]
    have K2_0 := Lib.hid o0
    have K2_1 := Lib.hid nb0
    have G2 : Hid (w.heap.size ≤ B2) := Lib.hid (by have := L1.out.size; omega)
    have x2_0_0 : B1 ≠ B2 := by omega
    have X2_0_0 := Lib.hid x2_0_0; clear x2_0_0
    have L2 := Lib.hid nl
    clear nl hW nb0 hB0 o0 d2_0 K1_0
    by_cases hsl : Sld d
    · go_wp2_with fail
      have lt1 : B1 < W2.heap.size := K2_0.out.lt
      have lt2 : B2 < W2.heap.size := K2_1.out.lt
      have h4 : 4 ≤ n := by have := hsl.1; rw [HLN.out] at this; exact this
      refine (open_yes16 A n cap d _ (HD.out.below L2.out) (HM.out.below L2.out) hsl hb).mono ?_
      rintro e w3 ⟨g, rfl, hdx, ⟨hg1, hg2⟩, hb⟩
      have L3 := Lib.hid (L2.out.trans (hb.mono L2.out.size))
      have K3_0 := Lib.hid (K2_0.out.below hb K2_0.out.lt)
      have K3_1 := Lib.hid (K2_1.out.below hb K2_1.out.lt)
      clear hb K2_0 K2_1
      obtain ⟨m, hm⟩ : ∃ m, m = n - 4 := ⟨_, rfl⟩
      obtain ⟨x, hx⟩ : ∃ x, x = d.take (n - 4) := ⟨_, rfl⟩
      rw [← hx] at hdx
      rw [← hm] at hdx ⊢
      have neA : ∀ b o, (some ⟨g, 0, none⟩ : Option Addr) = some ⟨b, o, none⟩ → b ≠ B1 := fun b o e => by injection e with e; injection e with e; omega
      have neB : ∀ b o, (some ⟨g, 0, none⟩ : Option Addr) = some ⟨b, o, none⟩ → b ≠ B2 := fun b o e => by injection e with e; injection e with e; omega
      have NA := Lib.hid neA; have NB := Lib.hid neB; have T0 := Lib.hid hdx
      have hisf : isF d = isW x := by unfold isF; rw [decide_eq_true hsl, Bool.true_and, hx, HLN.out]
      have hgtf : isF d = true → getF d = mk16 x := fun h => by unfold getF; rw [h, if_pos rfl, hx, HLN.out]
      have hxl := hdx.len
      have hby := hdx.rd.1
      have hm9 : m ≤ 9000 := by omega
      have HIS := Lib.hid hisf; have HGT := Lib.hid hgtf; have HXL := Lib.hid hxl; have HBY := Lib.hid hby
      clear neA neB lt1 lt2 hg1 hg2 hdx hx hm hisf hgtf hxl hby h4 hsl
      go_wp2_with fail
      have hrd := read_any (some ⟨g, 0, none⟩) m m x _ T0.out (HS.out.below L3.out)
      by_cases h23 : 23 ≤ m
      · rw [decide_eq_true h23] at hrd
        have HRD := Lib.hid hrd; clear hrd
        refine (HRD.out).mono ?_
        rintro e w4 ⟨⟨c0, c1, c2, c3, c4, c5, c6, rfl, hc⟩, hb⟩
        have L4 := Lib.hid (L3.out.trans (hb.mono L3.out.size))
        have K4_0 := Lib.hid (K3_0.out.below hb K3_0.out.lt)
        have K4_1 := Lib.hid (K3_1.out.below hb K3_1.out.lt)
        have T4_0 := Lib.hid (T0.out.below hb)
        clear T0
        clear hb K3_0 K3_1
        replace hc := hc h23
        simp only [List.cons.injEq, and_true] at hc
        obtain ⟨e0, e1, e2, e3, e4, e5, e6⟩ := hc
        have q2 := num16_lt HBY.out 2; have q3 := num16_lt HBY.out 3; have q4 := num16_lt HBY.out 4; have q5 := num16_lt HBY.out 5
        simp only [sz16, Nat.reducePow] at q2 q3 q4 q5
        rw [e2] at q2
        rw [e3] at q3
        rw [e4] at q4
        rw [e5] at q5
        obtain ⟨bq, hbq⟩ : ∃ bq, bq = decide (c1 = 1) := ⟨_, rfl⟩
        have hmk : mk16 x = ⟨c2, c3, bq, c4, c5, x.drop 23⟩ := by unfold mk16; rw [e1, e2, e3, e4, e5, hbq]
        obtain ⟨RH, hRH⟩ : ∃ RH, RH = (decide (c0 = 21074) && (decide (c1 ≤ 1) && decide (c6 = ((m - 23 : Nat) : Int)))) := ⟨_, rfl⟩
        have hiw : isF d = (RH && rgt ⟨c2, c3, bq, c4, c5, x.drop 23⟩) := by
          rw [HIS.out]; unfold isW
          rw [HXL.out, decide_eq_true h23, e0, e1, e6, hmk, hRH, show ((m : Int) - 23) = ((m - 23 : Nat) : Int) by omega]; rfl
        have hgt2 : isF d = true → getF d = ⟨c2, c3, bq, c4, c5, x.drop 23⟩ := fun h => by rw [HGT.out h, hmk]
        have heq : (c1 == 1) = bq := by rw [hbq]; rfl
        have wm : IntKind.i64.wrap ((m : Int) - 23) = ((m - 23 : Nat) : Int) := by simp [IntKind.wrap, IntKind.signed, IntKind.bits]; omega
        have HIW := Lib.hid hiw; have HG2 := Lib.hid hgt2; have HRH := Lib.hid hRH; have HEQ := Lib.hid heq; have H23 := Lib.hid h23
        clear e0 e1 e2 e3 e4 e5 e6 hmk hiw hgt2 hRH hbq heq
        have m1_0 : w4.cell? ⟨B2, 0, none⟩ = some _ := K4_1.out.cell 0
        have m1_1 : w4.cell? ⟨B2, 1, none⟩ = some _ := K4_1.out.cell 1
        have m1_2 : w4.cell? ⟨B2, 2, none⟩ = some _ := K4_1.out.cell 2
        have m1_3 : w4.cell? ⟨B2, 3, none⟩ = some _ := K4_1.out.cell 3
        have m1_4 : w4.cell? ⟨B2, 4, none⟩ = some _ := K4_1.out.cell 4
        have m1_5 : w4.cell? ⟨B2, 5, none⟩ = some _ := K4_1.out.cell 5
        have m1_6 : w4.cell? ⟨B2, 6, none⟩ = some _ := K4_1.out.cell 6
        have mlt1 : B2 < w4.heap.size := K4_1.out.lt
        have mf1 : ∀ o, w4.frozen? ⟨B2, o, none⟩ = false := fun o => K4_1.out.free o
        go_upto_region 5 with (fail)
        clear m1_0 m1_1 m1_2 m1_3 m1_4 m1_5 m1_6 mlt1 mf1
        have dd0 : Dat (((((((w4.setCell ⟨B2, 0, none⟩ (.int .u64 c0)).setCell ⟨B2, 1, none⟩ (.int .u64 c1)).setCell ⟨B2, 2, none⟩ (.int .u64 c2)).setCell ⟨B2, 3, none⟩ (.int .u64 c3)).setCell ⟨B2, 4, none⟩ (.int .u64 c4)).setCell ⟨B2, 5, none⟩ (.int .u64 c5)).setCell ⟨B2, 6, none⟩ (.int .u64 c6)) (some ⟨g, 0, none⟩) m m x := (((((((T4_0.out.other ⟨B2, 0, none⟩ (.int .u64 c0) NB.out).other ⟨B2, 1, none⟩ (.int .u64 c1) NB.out).other ⟨B2, 2, none⟩ (.int .u64 c2) NB.out).other ⟨B2, 3, none⟩ (.int .u64 c3) NB.out).other ⟨B2, 4, none⟩ (.int .u64 c4) NB.out).other ⟨B2, 5, none⟩ (.int .u64 c5) NB.out).other ⟨B2, 6, none⟩ (.int .u64 c6) NB.out)
        obtain ⟨W5, hW⟩ : ∃ WX, WX = (((((((w4.setCell ⟨B2, 0, none⟩ (.int .u64 c0)).setCell ⟨B2, 1, none⟩ (.int .u64 c1)).setCell ⟨B2, 2, none⟩ (.int .u64 c2)).setCell ⟨B2, 3, none⟩ (.int .u64 c3)).setCell ⟨B2, 4, none⟩ (.int .u64 c4)).setCell ⟨B2, 5, none⟩ (.int .u64 c5)).setCell ⟨B2, 6, none⟩ (.int .u64 c6)) := ⟨_, rfl⟩
        rw [← hW] at dd0
        have T5_0 := Lib.hid dd0
        clear dd0 T4_0
        rw [← hW]
        have K5_0 := Lib.hid (show Blk W5 B1 [.int .i64 0, .int .i64 0, .bool false, .int .u64 0, .int .u64 0, .slice none 0 0] 25 from hW ▸ (((((((K4_0.out.other ⟨B2, 0, none⟩ (.int .u64 c0) X2_0_0.out).other ⟨B2, 1, none⟩ (.int .u64 c1) X2_0_0.out).other ⟨B2, 2, none⟩ (.int .u64 c2) X2_0_0.out).other ⟨B2, 3, none⟩ (.int .u64 c3) X2_0_0.out).other ⟨B2, 4, none⟩ (.int .u64 c4) X2_0_0.out).other ⟨B2, 5, none⟩ (.int .u64 c5) X2_0_0.out).other ⟨B2, 6, none⟩ (.int .u64 c6) X2_0_0.out))
        have K5_1 := Lib.hid (show Blk W5 B2 [.int .u64 c0, .int .u64 c1, .int .u64 c2, .int .u64 c3, .int .u64 c4, .int .u64 c5, .int .u64 c6] 40 from hW ▸ (((((((K4_1.out.set 0 (.int .u64 c0)).set 1 (.int .u64 c1)).set 2 (.int .u64 c2)).set 3 (.int .u64 c3)).set 4 (.int .u64 c4)).set 5 (.int .u64 c5)).set 6 (.int .u64 c6)))
        have L5 := Lib.hid (show Below w.heap.size w W5 from hW ▸ (Below.setCell (Below.setCell (Below.setCell (Below.setCell (Below.setCell (Below.setCell (Below.setCell L4.out G2.out _) G2.out _) G2.out _) G2.out _) G2.out _) G2.out _) G2.out _))
        clear hW K4_0 K4_1
        have m1_0 : W5.cell? ⟨B2, 0, none⟩ = some _ := K5_1.out.cell 0
        have m1_1 : W5.cell? ⟨B2, 1, none⟩ = some _ := K5_1.out.cell 1
        have m1_2 : W5.cell? ⟨B2, 2, none⟩ = some _ := K5_1.out.cell 2
        have m1_3 : W5.cell? ⟨B2, 3, none⟩ = some _ := K5_1.out.cell 3
        have m1_4 : W5.cell? ⟨B2, 4, none⟩ = some _ := K5_1.out.cell 4
        have m1_5 : W5.cell? ⟨B2, 5, none⟩ = some _ := K5_1.out.cell 5
        have m1_6 : W5.cell? ⟨B2, 6, none⟩ = some _ := K5_1.out.cell 6
        have mlt1 : B2 < W5.heap.size := K5_1.out.lt
        go_wp2_with fail
        clear m1_0 m1_1 m1_2 m1_3 m1_4 m1_5 m1_6 mlt1
        have hrh := rhead_any c0 c1 c2 c3 c4 c5 c6 (m - 23) W5 (by omega)
        rw [← HRH.out] at hrh
        have HR2 := Lib.hid hrh; clear hrh wm
        refine (HR2.out).mono ?_
        rintro e w6 ⟨rfl, hb⟩
        have L6 := Lib.hid (L5.out.trans (hb.mono L5.out.size))
        have K6_0 := Lib.hid (K5_0.out.below hb K5_0.out.lt)
        have K6_1 := Lib.hid (K5_1.out.below hb K5_1.out.lt)
        have T6_0 := Lib.hid (T5_0.out.below hb)
        clear T5_0
        clear hb K5_0 K5_1
        cases RH
        · have hnf : isF d = false := by rw [HIW.out]; rfl
          have HNF := Lib.hid hnf; clear hnf
          go_wp2
          try go_step3
          exact ⟨rfl, _, _, _, _, _, _, _, _, _, _, _, _, _, _, _, _, _, _, _, _, _, _, _, _, _, _, _, _, _, _, _, _, _, _, _, _, _, _, _, _, _, _, _, _, _, _, _, _, _, _, _, _, _, _, rfl, HNF.out, K6_0.out, L6.out⟩
        · go_upto_region 6 with (fail)
          have wi2 : IntKind.i64.wrap c2 = c2 := by simp [IntKind.wrap, IntKind.signed, IntKind.bits]; omega
          have wi3 : IntKind.i64.wrap c3 = c3 := by simp [IntKind.wrap, IntKind.signed, IntKind.bits]; omega
          have h23i : (23 : Int) ≤ m := by have := H23.out; omega
          have heq := HEQ.out
          refine wp_region_held_drew (S := fun w' => Blk w' B2 [.int .u64 c0, .int .u64 c1, .int .u64 c2, .int .u64 c3, .int .u64 c4, .int .u64 c5, .int .u64 c6] 40) (by kernel_rfl) K6_1.out (fun hHeld => ?_)
          clear hHeld
          have dd0 : Dat w6.drew (some ⟨g, 0, none⟩) m m x := T6_0.out.drew
          obtain ⟨D7, hD⟩ : ∃ x, x = w6.drew := ⟨_, rfl⟩
          rw [← hD] at dd0
          have T7_0 := Lib.hid dd0
          clear dd0 T6_0
          rw [← hD]
          have K7_0 := Lib.hid (show Blk D7 B1 [.int .i64 0, .int .i64 0, .bool false, .int .u64 0, .int .u64 0, .slice none 0 0] 25 from hD ▸ Blk.drewN K6_0.out 1)
          have K7_1 := Lib.hid (show Blk D7 B2 [.int .u64 c0, .int .u64 c1, .int .u64 c2, .int .u64 c3, .int .u64 c4, .int .u64 c5, .int .u64 c6] 40 from hD ▸ Blk.drewN K6_1.out 1)
          have L7 := Lib.hid (show Below w.heap.size w D7 from hD ▸ L6.out.drew)
          clear hD K6_0 K6_1
          have hSD7 : Blk D7 B2 [.int .u64 c0, .int .u64 c1, .int .u64 c2, .int .u64 c3, .int .u64 c4, .int .u64 c5, .int .u64 c6] 40 := K7_1.out
          simp only [List.size_toArray, List.length_cons, List.length_nil, Nat.reduceAdd]
          rw [show Array.replicate 17 false = [false, false, false, false, false, false, false, false, false, false, false, false, false, false, false, false, false].toArray from rfl]
          refine wpAnyH_take (i := 0) (v := ?_) rfl (by kernel_rfl) (by kernel_rfl) (by kernel_rfl) (fun _ _ _ h => h) (Or.inl ⟨by rfl, ?yldq⟩) (by assumption) ?_
          case yldq => (intro w hSw; (try dsimp only at hSw); go_simp; try with_reducible rfl)
          try simp only [Act.put, List.setIfInBounds_toArray, List.set_cons_zero, List.set_cons_succ, List.getElem_toArray, List.getElem_cons_succ, List.getElem_cons_zero]
          refine wpAnyH_take (i := 1) (v := _) rfl (by kernel_rfl) (by kernel_rfl) (by kernel_rfl) (fun _ _ _ h => h) (Or.inl ⟨by rfl, fun w hSw => yield_u16 _ _ _ rfl rfl (show w.cell? ⟨B2, 2, none⟩ = some (.int .u64 c2) from hSw.cell 2)⟩) (by assumption) ?_
          try simp only [Act.put, List.setIfInBounds_toArray, List.set_cons_zero, List.set_cons_succ, List.getElem_toArray, List.getElem_cons_succ, List.getElem_cons_zero]
          refine wpAnyH_take (i := 2) (v := ?_) rfl (by kernel_rfl) (by kernel_rfl) (by kernel_rfl) (fun _ _ _ h => h) (Or.inl ⟨by rfl, ?yldq⟩) (by assumption) ?_
          case yldq => (intro w hSw; (try dsimp only at hSw); go_simp; try with_reducible rfl)
          try simp only [Act.put, List.setIfInBounds_toArray, List.set_cons_zero, List.set_cons_succ, List.getElem_toArray, List.getElem_cons_succ, List.getElem_cons_zero]
          refine wpAnyH_take (i := 3) (v := ?_) rfl (by kernel_rfl) (by kernel_rfl) (by kernel_rfl) (fun _ _ _ h => h) (Or.inl ⟨by rfl, ?yldq⟩) (by assumption) ?_
          case yldq => (intro w hSw; (try dsimp only at hSw); go_simp; try with_reducible rfl)
          try simp only [Act.put, List.setIfInBounds_toArray, List.set_cons_zero, List.set_cons_succ, List.getElem_toArray, List.getElem_cons_succ, List.getElem_cons_zero]
          refine wpAnyH_take (i := 4) (v := _) rfl (by kernel_rfl) (by kernel_rfl) (by kernel_rfl) (fun _ _ _ h => h) (Or.inl ⟨by rfl, fun w hSw => yield_u16 _ _ _ rfl rfl (show w.cell? ⟨B2, 3, none⟩ = some (.int .u64 c3) from hSw.cell 3)⟩) (by assumption) ?_
          try simp only [Act.put, List.setIfInBounds_toArray, List.set_cons_zero, List.set_cons_succ, List.getElem_toArray, List.getElem_cons_succ, List.getElem_cons_zero]
          refine wpAnyH_take (i := 5) (v := ?_) rfl (by kernel_rfl) (by kernel_rfl) (by kernel_rfl) (fun _ _ _ h => h) (Or.inl ⟨by rfl, ?yldq⟩) (by assumption) ?_
          case yldq => (intro w hSw; (try dsimp only at hSw); go_simp; try with_reducible rfl)
          try simp only [Act.put, List.setIfInBounds_toArray, List.set_cons_zero, List.set_cons_succ, List.getElem_toArray, List.getElem_cons_succ, List.getElem_cons_zero]
          refine wpAnyH_take (i := 6) (v := ?_) rfl (by kernel_rfl) (by kernel_rfl) (by kernel_rfl) (fun _ _ _ h => h) (Or.inl ⟨by rfl, ?yldq⟩) (by assumption) ?_
          case yldq => (intro w hSw; (try dsimp only at hSw); go_simp; try with_reducible rfl)
          try simp only [Act.put, List.setIfInBounds_toArray, List.set_cons_zero, List.set_cons_succ, List.getElem_toArray, List.getElem_cons_succ, List.getElem_cons_zero]
          refine wpAnyH_take (i := 7) (v := _) rfl (by kernel_rfl) (by kernel_rfl) (by kernel_rfl) (fun _ _ _ h => h) (Or.inl ⟨by rfl, fun w hSw => yield_u16 _ _ _ rfl rfl (show w.cell? ⟨B2, 1, none⟩ = some (.int .u64 c1) from hSw.cell 1)⟩) (by assumption) ?_
          try simp only [Act.put, List.setIfInBounds_toArray, List.set_cons_zero, List.set_cons_succ, List.getElem_toArray, List.getElem_cons_succ, List.getElem_cons_zero]
          refine wpAnyH_take (i := 8) (v := ?_) rfl (by kernel_rfl) (by kernel_rfl) (by kernel_rfl) (fun _ _ _ h => h) (Or.inl ⟨by rfl, ?yldq⟩) (by assumption) ?_
          case yldq => (intro w hSw; (try dsimp only at hSw); go_simp; try with_reducible rfl)
          try simp only [Act.put, List.setIfInBounds_toArray, List.set_cons_zero, List.set_cons_succ, List.getElem_toArray, List.getElem_cons_succ, List.getElem_cons_zero]
          refine wpAnyH_take (i := 9) (v := ?_) rfl (by kernel_rfl) (by kernel_rfl) (by kernel_rfl) (fun _ _ _ h => h) (Or.inl ⟨by rfl, ?yldq⟩) (by assumption) ?_
          case yldq => (intro w hSw; (try dsimp only at hSw); go_simp; try with_reducible rfl)
          try simp only [Act.put, List.setIfInBounds_toArray, List.set_cons_zero, List.set_cons_succ, List.getElem_toArray, List.getElem_cons_succ, List.getElem_cons_zero]
          refine wpAnyH_take (i := 10) (v := _) rfl (by kernel_rfl) (by kernel_rfl) (by kernel_rfl) (fun _ _ _ h => h) (Or.inl ⟨by rfl, fun w hSw => yield_u16 _ _ _ rfl rfl (show w.cell? ⟨B2, 4, none⟩ = some (.int .u64 c4) from hSw.cell 4)⟩) (by assumption) ?_
          try simp only [Act.put, List.setIfInBounds_toArray, List.set_cons_zero, List.set_cons_succ, List.getElem_toArray, List.getElem_cons_succ, List.getElem_cons_zero]
          refine wpAnyH_take (i := 11) (v := ?_) rfl (by kernel_rfl) (by kernel_rfl) (by kernel_rfl) (fun _ _ _ h => h) (Or.inl ⟨by rfl, ?yldq⟩) (by assumption) ?_
          case yldq => (intro w hSw; (try dsimp only at hSw); go_simp; try with_reducible rfl)
          try simp only [Act.put, List.setIfInBounds_toArray, List.set_cons_zero, List.set_cons_succ, List.getElem_toArray, List.getElem_cons_succ, List.getElem_cons_zero]
          refine wpAnyH_take (i := 12) (v := _) rfl (by kernel_rfl) (by kernel_rfl) (by kernel_rfl) (fun _ _ _ h => h) (Or.inl ⟨by rfl, fun w hSw => yield_u16 _ _ _ rfl rfl (show w.cell? ⟨B2, 5, none⟩ = some (.int .u64 c5) from hSw.cell 5)⟩) (by assumption) ?_
          try simp only [Act.put, List.setIfInBounds_toArray, List.set_cons_zero, List.set_cons_succ, List.getElem_toArray, List.getElem_cons_succ, List.getElem_cons_zero]
          refine wpAnyH_take (i := 13) (v := ?_) rfl (by kernel_rfl) (by kernel_rfl) (by kernel_rfl) (fun _ _ _ h => h) (Or.inl ⟨by rfl, ?yldq⟩) (by assumption) ?_
          case yldq => (intro w hSw; (try dsimp only at hSw); go_simp; try with_reducible rfl)
          try simp only [Act.put, List.setIfInBounds_toArray, List.set_cons_zero, List.set_cons_succ, List.getElem_toArray, List.getElem_cons_succ, List.getElem_cons_zero]
          refine wpAnyH_take (i := 14) (v := ?_) rfl (by kernel_rfl) (by kernel_rfl) (by kernel_rfl) (fun _ _ _ h => h) (Or.inl ⟨by rfl, ?yldq⟩) (by assumption) ?_
          case yldq => (intro w hSw; (try dsimp only at hSw); go_simp; try with_reducible rfl)
          try simp only [Act.put, List.setIfInBounds_toArray, List.set_cons_zero, List.set_cons_succ, List.getElem_toArray, List.getElem_cons_succ, List.getElem_cons_zero]
          obtain ⟨AA, hAA⟩ : ∃ AA, AA = (if m = 23 then some (⟨g, 0, none⟩ : Addr) else some ⟨g, 0 + 23, none⟩) := ⟨_, rfl⟩
          try simp only [Nat.zero_add] at hAA
          rw [← hAA]
          have HAA := Lib.hid hAA; clear hAA
          refine wpAnyH_take (i := 15) (v := ?_) rfl (by kernel_rfl) (by kernel_rfl) (by kernel_rfl) (fun _ _ _ h => h) (Or.inl ⟨by rfl, ?yldq⟩) (by assumption) ?_
          case yldq => (intro w hSw; (try dsimp only at hSw); go_simp; try with_reducible rfl)
          try simp only [Act.put, List.setIfInBounds_toArray, List.set_cons_zero, List.set_cons_succ, List.getElem_toArray, List.getElem_cons_succ, List.getElem_cons_zero]
          refine wpAnyH_ready (rs := [16]) (by kernel_rfl) (by simp) ?_
          refine AllReadyH.cons rfl (fun K hK => ?_) AllReadyH.nil
          have m0_0 : D7.cell? ⟨B1, 0, none⟩ = some _ := K7_0.out.cell 0
          have m0_1 : D7.cell? ⟨B1, 1, none⟩ = some _ := K7_0.out.cell 1
          have m0_2 : D7.cell? ⟨B1, 2, none⟩ = some _ := K7_0.out.cell 2
          have m0_3 : D7.cell? ⟨B1, 3, none⟩ = some _ := K7_0.out.cell 3
          have m0_4 : D7.cell? ⟨B1, 4, none⟩ = some _ := K7_0.out.cell 4
          have m0_5 : D7.cell? ⟨B1, 5, none⟩ = some _ := K7_0.out.cell 5
          have mlt0 : B1 < D7.heap.size := K7_0.out.lt
          have mf0 : ∀ o, D7.frozen? ⟨B1, o, none⟩ = false := fun o => K7_0.out.free o
          go_simp
          clear m0_0 m0_1 m0_2 m0_3 m0_4 m0_5 mlt0 mf0
          have dd0 : Dat ((((((D7.setCell ⟨B1, 0, none⟩ (.int .i64 c2)).setCell ⟨B1, 1, none⟩ (.int .i64 c3)).setCell ⟨B1, 2, none⟩ (.bool bq)).setCell ⟨B1, 3, none⟩ (.int .u64 c4)).setCell ⟨B1, 4, none⟩ (.int .u64 c5)).setCell ⟨B1, 5, none⟩ (.slice AA (m - 23) (m - 23))) (some ⟨g, 0, none⟩) m m x := ((((((T7_0.out.other ⟨B1, 0, none⟩ (.int .i64 c2) NA.out).other ⟨B1, 1, none⟩ (.int .i64 c3) NA.out).other ⟨B1, 2, none⟩ (.bool bq) NA.out).other ⟨B1, 3, none⟩ (.int .u64 c4) NA.out).other ⟨B1, 4, none⟩ (.int .u64 c5) NA.out).other ⟨B1, 5, none⟩ (.slice AA (m - 23) (m - 23)) NA.out)
          obtain ⟨W8, hW⟩ : ∃ WX, WX = ((((((D7.setCell ⟨B1, 0, none⟩ (.int .i64 c2)).setCell ⟨B1, 1, none⟩ (.int .i64 c3)).setCell ⟨B1, 2, none⟩ (.bool bq)).setCell ⟨B1, 3, none⟩ (.int .u64 c4)).setCell ⟨B1, 4, none⟩ (.int .u64 c5)).setCell ⟨B1, 5, none⟩ (.slice AA (m - 23) (m - 23))) := ⟨_, rfl⟩
          rw [← hW] at dd0
          have T8_0 := Lib.hid dd0
          clear dd0 T7_0
          rw [← hW]
          have K8_0 := Lib.hid (show Blk W8 B1 [.int .i64 c2, .int .i64 c3, .bool bq, .int .u64 c4, .int .u64 c5, .slice AA (m - 23) (m - 23)] 25 from hW ▸ ((((((K7_0.out.set 0 (.int .i64 c2)).set 1 (.int .i64 c3)).set 2 (.bool bq)).set 3 (.int .u64 c4)).set 4 (.int .u64 c5)).set 5 (.slice AA (m - 23) (m - 23))))
          have K8_1 := Lib.hid (show Blk W8 B2 [.int .u64 c0, .int .u64 c1, .int .u64 c2, .int .u64 c3, .int .u64 c4, .int .u64 c5, .int .u64 c6] 40 from hW ▸ ((((((K7_1.out.other ⟨B1, 0, none⟩ (.int .i64 c2) (Ne.symm X2_0_0.out)).other ⟨B1, 1, none⟩ (.int .i64 c3) (Ne.symm X2_0_0.out)).other ⟨B1, 2, none⟩ (.bool bq) (Ne.symm X2_0_0.out)).other ⟨B1, 3, none⟩ (.int .u64 c4) (Ne.symm X2_0_0.out)).other ⟨B1, 4, none⟩ (.int .u64 c5) (Ne.symm X2_0_0.out)).other ⟨B1, 5, none⟩ (.slice AA (m - 23) (m - 23)) (Ne.symm X2_0_0.out)))
          have L8 := Lib.hid (show Below w.heap.size w W8 from hW ▸ (Below.setCell (Below.setCell (Below.setCell (Below.setCell (Below.setCell (Below.setCell L7.out G1.out _) G1.out _) G1.out _) G1.out _) G1.out _) G1.out _))
          clear hW K7_0 K7_1
          refine hK.out _ _ K8_1.out (fun hS16 => ?_)
          clear hK K
          refine wpAnyH_done (by kernel_rfl) ?_ _
          clear hS16 wi2 wi3 h23i heq
          have m0_0 : W8.cell? ⟨B1, 0, none⟩ = some _ := K8_0.out.cell 0
          have m0_1 : W8.cell? ⟨B1, 1, none⟩ = some _ := K8_0.out.cell 1
          have m0_2 : W8.cell? ⟨B1, 2, none⟩ = some _ := K8_0.out.cell 2
          have m0_3 : W8.cell? ⟨B1, 3, none⟩ = some _ := K8_0.out.cell 3
          have m0_4 : W8.cell? ⟨B1, 4, none⟩ = some _ := K8_0.out.cell 4
          have m0_5 : W8.cell? ⟨B1, 5, none⟩ = some _ := K8_0.out.cell 5
          have mlt0 : B1 < W8.heap.size := K8_0.out.lt
          go_wp2_with fail
          clear m0_0 m0_1 m0_2 m0_3 m0_4 m0_5 mlt0
          have hri := right_any c2 c3 c4 c5 bq AA (m - 23) (m - 23) W8 q4.1 (by omega)
          obtain ⟨RG, hRG⟩ : ∃ RG, RG = (nok c2 c3 && bok bq c4 (m - 23)) := ⟨_, rfl⟩
          rw [← hRG] at hri
          have hrg : rgt ⟨c2, c3, bq, c4, c5, x.drop 23⟩ = RG := by unfold rgt; dsimp only; rw [List.length_drop, HXL.out, hRG]
          have HRI := Lib.hid hri; have HRG := Lib.hid hrg; clear hri hrg hRG
          refine (HRI.out).mono ?_
          rintro e w9 ⟨rfl, hb⟩
          have L9 := Lib.hid (L8.out.trans (hb.mono L8.out.size))
          have K9_0 := Lib.hid (K8_0.out.below hb K8_0.out.lt)
          have K9_1 := Lib.hid (K8_1.out.below hb K8_1.out.lt)
          have T9_0 := Lib.hid (T8_0.out.below hb)
          clear T8_0
          clear hb K8_0 K8_1
          cases RG
          · have hnf : isF d = false := by rw [HIW.out, HRG.out]; rfl
            have HNF := Lib.hid hnf; clear hnf
            go_wp2
            try go_step3
            exact ⟨rfl, _, _, _, _, _, _, _, _, _, _, _, _, _, _, _, _, _, _, _, _, _, _, _, _, _, _, _, _, _, _, _, _, _, _, _, _, _, _, _, _, _, _, _, _, _, _, _, _, _, _, _, _, _, _, rfl, HNF.out, K9_0.out, L9.out⟩
          · have him : isF d = true := by rw [HIW.out, HRG.out]; rfl
            have hgm := HG2.out him
            have HNM := Lib.hid him; have HGM := Lib.hid hgm; clear him hgm
            have m0_0 : w9.cell? ⟨B1, 0, none⟩ = some _ := K9_0.out.cell 0
            have m0_1 : w9.cell? ⟨B1, 1, none⟩ = some _ := K9_0.out.cell 1
            have m0_2 : w9.cell? ⟨B1, 2, none⟩ = some _ := K9_0.out.cell 2
            have m0_3 : w9.cell? ⟨B1, 3, none⟩ = some _ := K9_0.out.cell 3
            have m0_4 : w9.cell? ⟨B1, 4, none⟩ = some _ := K9_0.out.cell 4
            have m0_5 : w9.cell? ⟨B1, 5, none⟩ = some _ := K9_0.out.cell 5
            have mlt0 : B1 < w9.heap.size := K9_0.out.lt
            have mf0 : ∀ o, w9.frozen? ⟨B1, o, none⟩ = false := fun o => K9_0.out.free o
            go_wp2
            clear m0_0 m0_1 m0_2 m0_3 m0_4 m0_5 mlt0 mf0
            try simp only [Exit.jump]
            have dd0 : Dat ((((((w9.setCell ⟨B1, 0, none⟩ (.int .i64 c2)).setCell ⟨B1, 1, none⟩ (.int .i64 c3)).setCell ⟨B1, 2, none⟩ (.bool bq)).setCell ⟨B1, 3, none⟩ (.int .u64 c4)).setCell ⟨B1, 4, none⟩ (.int .u64 c5)).setCell ⟨B1, 5, none⟩ (.slice AA (m - 23) (m - 23))) (some ⟨g, 0, none⟩) m m x := ((((((T9_0.out.other ⟨B1, 0, none⟩ (.int .i64 c2) NA.out).other ⟨B1, 1, none⟩ (.int .i64 c3) NA.out).other ⟨B1, 2, none⟩ (.bool bq) NA.out).other ⟨B1, 3, none⟩ (.int .u64 c4) NA.out).other ⟨B1, 4, none⟩ (.int .u64 c5) NA.out).other ⟨B1, 5, none⟩ (.slice AA (m - 23) (m - 23)) NA.out)
            obtain ⟨W10, hW⟩ : ∃ WX, WX = ((((((w9.setCell ⟨B1, 0, none⟩ (.int .i64 c2)).setCell ⟨B1, 1, none⟩ (.int .i64 c3)).setCell ⟨B1, 2, none⟩ (.bool bq)).setCell ⟨B1, 3, none⟩ (.int .u64 c4)).setCell ⟨B1, 4, none⟩ (.int .u64 c5)).setCell ⟨B1, 5, none⟩ (.slice AA (m - 23) (m - 23))) := ⟨_, rfl⟩
            rw [← hW] at dd0
            have T10_0 := Lib.hid dd0
            clear dd0 T9_0
            rw [← hW]
            have K10_0 := Lib.hid (show Blk W10 B1 [.int .i64 c2, .int .i64 c3, .bool bq, .int .u64 c4, .int .u64 c5, .slice AA (m - 23) (m - 23)] 25 from hW ▸ ((((((K9_0.out.set 0 (.int .i64 c2)).set 1 (.int .i64 c3)).set 2 (.bool bq)).set 3 (.int .u64 c4)).set 4 (.int .u64 c5)).set 5 (.slice AA (m - 23) (m - 23))))
            have K10_1 := Lib.hid (show Blk W10 B2 [.int .u64 c0, .int .u64 c1, .int .u64 c2, .int .u64 c3, .int .u64 c4, .int .u64 c5, .int .u64 c6] 40 from hW ▸ ((((((K9_1.out.other ⟨B1, 0, none⟩ (.int .i64 c2) (Ne.symm X2_0_0.out)).other ⟨B1, 1, none⟩ (.int .i64 c3) (Ne.symm X2_0_0.out)).other ⟨B1, 2, none⟩ (.bool bq) (Ne.symm X2_0_0.out)).other ⟨B1, 3, none⟩ (.int .u64 c4) (Ne.symm X2_0_0.out)).other ⟨B1, 4, none⟩ (.int .u64 c5) (Ne.symm X2_0_0.out)).other ⟨B1, 5, none⟩ (.slice AA (m - 23) (m - 23)) (Ne.symm X2_0_0.out)))
            have L10 := Lib.hid (show Below w.heap.size w W10 from hW ▸ (Below.setCell (Below.setCell (Below.setCell (Below.setCell (Below.setCell (Below.setCell L9.out G1.out _) G1.out _) G1.out _) G1.out _) G1.out _) G1.out _))
            clear hW K9_0 K9_1
            have hdd := T10_0.out.from2 23 H23.out
            try simp only [Nat.zero_add] at hdd
            rw [← HAA.out] at hdd
            have hl2 : (x.drop 23).length = m - 23 := by rw [List.length_drop, HXL.out]
            have HDD := Lib.hid hdd; have HL2 := Lib.hid hl2; clear hdd hl2
            have rr0 : W10.cell? ⟨B1, 0, none⟩ = some _ := K10_0.out.cell 0
            have rr1 : W10.cell? ⟨B1, 1, none⟩ = some _ := K10_0.out.cell 1
            have rr2 : W10.cell? ⟨B1, 2, none⟩ = some _ := K10_0.out.cell 2
            have rr3 : W10.cell? ⟨B1, 3, none⟩ = some _ := K10_0.out.cell 3
            have rr4 : W10.cell? ⟨B1, 4, none⟩ = some _ := K10_0.out.cell 4
            have rr5 : W10.cell? ⟨B1, 5, none⟩ = some _ := K10_0.out.cell 5
            refine bodyPost_ret (v := .tuple #[.agg #[.int .i64 c2, .int .i64 c3, .bool bq, .int .u64 c4, .int .u64 c5, .slice AA (m - 23) (m - 23)], .bool true]) (by simp [results, Tryd.results10, go_sem, rr0, rr1, rr2, rr3, rr4, rr5]) rfl (by rw [HGM.out, HNM.out]; exact ⟨⟨AA, m - 23, (by rw [HL2.out]), (by rw [HL2.out]; exact HDD.out)⟩, L10.out⟩)
      · rw [decide_eq_false h23] at hrd
        have HRD := Lib.hid hrd; clear hrd
        refine (HRD.out).mono ?_
        rintro e w4 ⟨⟨x0, x1, x2, x3, x4, x5, x6, rfl, -⟩, hb⟩
        have L4 := Lib.hid (L3.out.trans (hb.mono L3.out.size))
        have K4_0 := Lib.hid (K3_0.out.below hb K3_0.out.lt)
        have K4_1 := Lib.hid (K3_1.out.below hb K3_1.out.lt)
        have T4_0 := Lib.hid (T0.out.below hb)
        clear T0
        clear hb K3_0 K3_1
        have m1_0 : w4.cell? ⟨B2, 0, none⟩ = some _ := K4_1.out.cell 0
        have m1_1 : w4.cell? ⟨B2, 1, none⟩ = some _ := K4_1.out.cell 1
        have m1_2 : w4.cell? ⟨B2, 2, none⟩ = some _ := K4_1.out.cell 2
        have m1_3 : w4.cell? ⟨B2, 3, none⟩ = some _ := K4_1.out.cell 3
        have m1_4 : w4.cell? ⟨B2, 4, none⟩ = some _ := K4_1.out.cell 4
        have m1_5 : w4.cell? ⟨B2, 5, none⟩ = some _ := K4_1.out.cell 5
        have m1_6 : w4.cell? ⟨B2, 6, none⟩ = some _ := K4_1.out.cell 6
        have mlt1 : B2 < w4.heap.size := K4_1.out.lt
        have mf1 : ∀ o, w4.frozen? ⟨B2, o, none⟩ = false := fun o => K4_1.out.free o
        go_upto_region 5 with (fail)
        clear m1_0 m1_1 m1_2 m1_3 m1_4 m1_5 m1_6 mlt1 mf1
        have dd0 : Dat (((((((w4.setCell ⟨B2, 0, none⟩ (.int .u64 x0)).setCell ⟨B2, 1, none⟩ (.int .u64 x1)).setCell ⟨B2, 2, none⟩ (.int .u64 x2)).setCell ⟨B2, 3, none⟩ (.int .u64 x3)).setCell ⟨B2, 4, none⟩ (.int .u64 x4)).setCell ⟨B2, 5, none⟩ (.int .u64 x5)).setCell ⟨B2, 6, none⟩ (.int .u64 x6)) (some ⟨g, 0, none⟩) m m x := (((((((T4_0.out.other ⟨B2, 0, none⟩ (.int .u64 x0) NB.out).other ⟨B2, 1, none⟩ (.int .u64 x1) NB.out).other ⟨B2, 2, none⟩ (.int .u64 x2) NB.out).other ⟨B2, 3, none⟩ (.int .u64 x3) NB.out).other ⟨B2, 4, none⟩ (.int .u64 x4) NB.out).other ⟨B2, 5, none⟩ (.int .u64 x5) NB.out).other ⟨B2, 6, none⟩ (.int .u64 x6) NB.out)
        obtain ⟨W5, hW⟩ : ∃ WX, WX = (((((((w4.setCell ⟨B2, 0, none⟩ (.int .u64 x0)).setCell ⟨B2, 1, none⟩ (.int .u64 x1)).setCell ⟨B2, 2, none⟩ (.int .u64 x2)).setCell ⟨B2, 3, none⟩ (.int .u64 x3)).setCell ⟨B2, 4, none⟩ (.int .u64 x4)).setCell ⟨B2, 5, none⟩ (.int .u64 x5)).setCell ⟨B2, 6, none⟩ (.int .u64 x6)) := ⟨_, rfl⟩
        rw [← hW] at dd0
        have T5_0 := Lib.hid dd0
        clear dd0 T4_0
        rw [← hW]
        have K5_0 := Lib.hid (show Blk W5 B1 [.int .i64 0, .int .i64 0, .bool false, .int .u64 0, .int .u64 0, .slice none 0 0] 25 from hW ▸ (((((((K4_0.out.other ⟨B2, 0, none⟩ (.int .u64 x0) X2_0_0.out).other ⟨B2, 1, none⟩ (.int .u64 x1) X2_0_0.out).other ⟨B2, 2, none⟩ (.int .u64 x2) X2_0_0.out).other ⟨B2, 3, none⟩ (.int .u64 x3) X2_0_0.out).other ⟨B2, 4, none⟩ (.int .u64 x4) X2_0_0.out).other ⟨B2, 5, none⟩ (.int .u64 x5) X2_0_0.out).other ⟨B2, 6, none⟩ (.int .u64 x6) X2_0_0.out))
        have K5_1 := Lib.hid (show Blk W5 B2 [.int .u64 x0, .int .u64 x1, .int .u64 x2, .int .u64 x3, .int .u64 x4, .int .u64 x5, .int .u64 x6] 40 from hW ▸ (((((((K4_1.out.set 0 (.int .u64 x0)).set 1 (.int .u64 x1)).set 2 (.int .u64 x2)).set 3 (.int .u64 x3)).set 4 (.int .u64 x4)).set 5 (.int .u64 x5)).set 6 (.int .u64 x6)))
        have L5 := Lib.hid (show Below w.heap.size w W5 from hW ▸ (Below.setCell (Below.setCell (Below.setCell (Below.setCell (Below.setCell (Below.setCell (Below.setCell L4.out G2.out _) G2.out _) G2.out _) G2.out _) G2.out _) G2.out _) G2.out _))
        clear hW K4_0 K4_1
        have hnf : isF d = false := by rw [HIS.out]; unfold isW; rw [HXL.out, decide_eq_false h23]; rfl
        have HNF := Lib.hid hnf; clear hnf
        go_wp2
        try go_step3
        exact ⟨rfl, _, _, _, _, _, _, _, _, _, _, _, _, _, _, _, _, _, _, _, _, _, _, _, _, _, _, _, _, _, _, _, _, _, _, _, _, _, _, _, _, _, _, _, _, _, _, _, _, _, _, _, _, _, _, rfl, HNF.out, K5_0.out, L5.out⟩
    · go_wp2_with fail
      refine (open_no16 A n cap d _ (HD.out.below L2.out) (HM.out.below L2.out) hsl).mono ?_
      rintro e wx ⟨rfl, rfl⟩
      have hnf : isF d = false := by unfold isF; rw [decide_eq_false hsl]; rfl
      have HNF := Lib.hid hnf; clear hnf
      go_wp2
      try go_step3
      exact ⟨rfl, _, _, _, _, _, _, _, _, _, _, _, _, _, _, _, _, _, _, _, _, _, _, _, _, _, _, _, _, _, _, _, _, _, _, _, _, _, _, _, _, _, _, _, _, _, _, _, _, _, _, _, _, _, _, rfl, HNF.out, K2_0.out, L2.out⟩
  · rintro a9 w9 ⟨u0, u1, u3, u4, u5, u6, u7, u8, u9, u10, u11, u12, u13, u14, u15, u16, u17, u18, u19, u20, u21, u22, u23, u24, u25, u26, u27, u28, u29, u30, u31, u32, u33, u34, u35, u36, u37, u38, u39, u40, u41, u42, u43, u44, u45, u46, u47, u48, v0, v1, v2, v3, v4, v5, rfl, hnf, hb9, hl9⟩
    have K30 := Lib.hid hb9; have L30 := Lib.hid hl9; have HNF := Lib.hid hnf; have hgm := HGZ.out hnf; have HGM := Lib.hid hgm; clear hb9 hl9 hnf hgm
    have m0_0 : w9.cell? ⟨B1, 0, none⟩ = some _ := K30.out.cell 0
    have m0_1 : w9.cell? ⟨B1, 1, none⟩ = some _ := K30.out.cell 1
    have m0_2 : w9.cell? ⟨B1, 2, none⟩ = some _ := K30.out.cell 2
    have m0_3 : w9.cell? ⟨B1, 3, none⟩ = some _ := K30.out.cell 3
    have m0_4 : w9.cell? ⟨B1, 4, none⟩ = some _ := K30.out.cell 4
    have m0_5 : w9.cell? ⟨B1, 5, none⟩ = some _ := K30.out.cell 5
    have mlt0 : B1 < w9.heap.size := K30.out.lt
    have mf0 : ∀ o, w9.frozen? ⟨B1, o, none⟩ = false := fun o => K30.out.free o
    go_wp2
    clear m0_0 m0_1 m0_2 m0_3 m0_4 m0_5 mlt0 mf0
    try simp only [Exit.jump]
    obtain ⟨W31, hW⟩ : ∃ WX, WX = ((((((w9.setCell ⟨B1, 0, none⟩ (.int .i64 0)).setCell ⟨B1, 1, none⟩ (.int .i64 0)).setCell ⟨B1, 2, none⟩ (.bool false)).setCell ⟨B1, 3, none⟩ (.int .u64 0)).setCell ⟨B1, 4, none⟩ (.int .u64 0)).setCell ⟨B1, 5, none⟩ (.slice none 0 0)) := ⟨_, rfl⟩
    rw [← hW]
    have K31_0 := Lib.hid (show Blk W31 B1 [.int .i64 0, .int .i64 0, .bool false, .int .u64 0, .int .u64 0, .slice none 0 0] 25 from hW ▸ ((((((K30.out.set 0 (.int .i64 0)).set 1 (.int .i64 0)).set 2 (.bool false)).set 3 (.int .u64 0)).set 4 (.int .u64 0)).set 5 (.slice none 0 0)))
    have L31 := Lib.hid (show Below w.heap.size w W31 from hW ▸ (Below.setCell (Below.setCell (Below.setCell (Below.setCell (Below.setCell (Below.setCell L30.out G1.out _) G1.out _) G1.out _) G1.out _) G1.out _) G1.out _))
    clear hW K30
    have rr0 : W31.cell? ⟨B1, 0, none⟩ = some _ := K31_0.out.cell 0
    have rr1 : W31.cell? ⟨B1, 1, none⟩ = some _ := K31_0.out.cell 1
    have rr2 : W31.cell? ⟨B1, 2, none⟩ = some _ := K31_0.out.cell 2
    have rr3 : W31.cell? ⟨B1, 3, none⟩ = some _ := K31_0.out.cell 3
    have rr4 : W31.cell? ⟨B1, 4, none⟩ = some _ := K31_0.out.cell 4
    have rr5 : W31.cell? ⟨B1, 5, none⟩ = some _ := K31_0.out.cell 5
    refine bodyPost_ret (v := .tuple #[.agg #[.int .i64 0, .int .i64 0, .bool false, .int .u64 0, .int .u64 0, .slice none 0 0], .bool false]) (by simp [results, Tryd.results10, go_sem, rr0, rr1, rr2, rr3, rr4, rr5]) rfl (by rw [HGM.out, HNF.out]; exact ⟨⟨none, 0, rfl, HZD.out _⟩, L31.out⟩)
end Go.Proofs.YtmdfopbigkfbnaaDoor
