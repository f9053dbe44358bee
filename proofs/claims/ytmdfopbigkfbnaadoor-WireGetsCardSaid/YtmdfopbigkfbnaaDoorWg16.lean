/-
  The statement WireGets: its walk over the translation. Condition: the tables.
-/
import Derived.Test.YtmdfopbigkfbnaaDoorLw16
namespace Go.Proofs.YtmdfopbigkfbnaaDoor
open Go.RowKit
set_option linter.unusedVariables false
set_option linter.unusedSimpArgs false
attribute [local go_sem] setCell_drewN alloc_drewN

set_option maxHeartbeats 4000000 in
theorem gets_walk (A : Option Addr) (n cap : Nat) (d : List Int) (w : World) (hd : Dat w A n cap d) (hL : Lz w) : Calls Tryd.prog 4 #[.slice A n cap] w fun e w' => e = .returned (.bool true) ∧ Below w.heap.size w w' := by
  have HL := Lib.hid hL; have HD := Lib.hid hd
  have hle := hd.le
  clear hL hd
  by_cases hbig : 5000 < n
  · have hbi : (5000 : Int) < n := by omega
    go_enter Tryd.func4, Tryd.ntmps4
    go_wp2_with fail
    refine (first16_any _ HL.out).mono ?_
    rintro e w1 ⟨rfl, hb⟩
    have L1 := Lib.hid ((Below.refl w.heap.size w).trans (hb.mono (Nat.le_refl w.heap.size)))
    clear hb
    go_wp2
    go_ret
    exact ⟨rfl, L1.out⟩
  · have hbi : ¬ (5000 : Int) < n := by omega
    go_enter Tryd.func4, Tryd.ntmps4
    go_wp2_with fail
    refine (first16_any _ HL.out).mono ?_
    rintro e w2 ⟨rfl, hb⟩
    have L2 := Lib.hid ((Below.refl w.heap.size w).trans (hb.mono (Nat.le_refl w.heap.size)))
    clear hb
    go_wp2_with fail
    have h1 := get_any A n cap d _ (HD.out.below L2.out) (HL.out.below L2.out).s (HL.out.below L2.out).m (by omega)
    obtain ⟨m, hm⟩ : ∃ m, m = getF d := ⟨_, rfl⟩
    obtain ⟨y, hy⟩ : ∃ y, y = isF d := ⟨_, rfl⟩
    rw [← hm, ← hy] at h1
    have H1 := Lib.hid h1; have HMM := Lib.hid hm; have HYY := Lib.hid hy; clear h1 hm hy
    refine (H1.out).mono ?_
    rintro e w3 ⟨⟨A2, k2, rfl, hd2⟩, hb⟩
    have L3 := Lib.hid (L2.out.trans (hb.mono L2.out.size))
    clear hb
    have T0 := Lib.hid hd2; clear hd2
    go_upto_region 6 with (fail)
    have dd0 : Dat (w3.alloc (.cells #[.int .i64 m.f, .int .i64 m.t, .bool m.b, .int .u64 m.s, .int .u64 m.a, .slice A2 m.d.length k2] 25)) A2 m.d.length k2 m.d := (T0.out.below ((Below.refl _ _).alloc (Nat.le_refl _) _))
    have nb0 : Blk (w3.alloc (.cells #[.int .i64 m.f, .int .i64 m.t, .bool m.b, .int .u64 m.s, .int .u64 m.a, .slice A2 m.d.length k2] 25)) (w3.heap.size) [.int .i64 m.f, .int .i64 m.t, .bool m.b, .int .u64 m.s, .int .u64 m.a, .slice A2 m.d.length k2] 25 := Blk.new w3 [.int .i64 m.f, .int .i64 m.t, .bool m.b, .int .u64 m.s, .int .u64 m.a, .slice A2 m.d.length k2] 25
    have nls : Below w.heap.size w w3 := L3.out
    have nl0 := nls.alloc nls.size (.cells #[.int .i64 m.f, .int .i64 m.t, .bool m.b, .int .u64 m.s, .int .u64 m.a, .slice A2 m.d.length k2] 25)
    have nl : Below w.heap.size w (w3.alloc (.cells #[.int .i64 m.f, .int .i64 m.t, .bool m.b, .int .u64 m.s, .int .u64 m.a, .slice A2 m.d.length k2] 25)) := nl0; clear nls nl0
    obtain ⟨B4, hB0⟩ : ∃ B, B = w3.heap.size := ⟨_, rfl⟩
    obtain ⟨W4, hW⟩ : ∃ W, W = (w3.alloc (.cells #[.int .i64 m.f, .int .i64 m.t, .bool m.b, .int .u64 m.s, .int .u64 m.a, .slice A2 m.d.length k2] 25)) := ⟨_, rfl⟩
    rw [← hW] at dd0
    have T4_0 := Lib.hid dd0
    clear dd0 T0
    rw [← hW] at nl nb0
    rw [← hB0] at nb0
    rw [← hW]
    try rw [← hB0]
    have K4_0 := Lib.hid nb0
    have G4 : Hid (w.heap.size ≤ B4) := Lib.hid (by have := L3.out.size; omega)
    have L4 := Lib.hid nl
    clear nl hW nb0 hB0
    go_wp2_with fail
    have h1 := rget_any A n cap d _ (HD.out.below L4.out) (by omega)
    rw [← HMM.out, ← HYY.out] at h1
    have H2 := Lib.hid h1; clear h1
    refine (H2.out).mono ?_
    rintro e w5 ⟨⟨A3, k3, rfl, hd3⟩, hb⟩
    have L5 := Lib.hid (L4.out.trans (hb.mono L4.out.size))
    have K5_0 := Lib.hid (K4_0.out.below hb K4_0.out.lt)
    have T5_0 := Lib.hid (T4_0.out.below hb)
    clear T4_0
    clear hb K4_0
    have T1 := Lib.hid hd3; clear hd3
    go_upto_region 7 with (fail)
    have dd0 : Dat (w5.alloc (.cells #[.int .i64 m.f, .int .i64 m.t, .bool m.b, .int .u64 m.s, .int .u64 m.a, .slice A3 m.d.length k3] 25)) A2 m.d.length k2 m.d := (T5_0.out.below ((Below.refl _ _).alloc (Nat.le_refl _) _))
    have dd1 : Dat (w5.alloc (.cells #[.int .i64 m.f, .int .i64 m.t, .bool m.b, .int .u64 m.s, .int .u64 m.a, .slice A3 m.d.length k3] 25)) A3 m.d.length k3 m.d := (T1.out.below ((Below.refl _ _).alloc (Nat.le_refl _) _))
    have nb0 : Blk (w5.alloc (.cells #[.int .i64 m.f, .int .i64 m.t, .bool m.b, .int .u64 m.s, .int .u64 m.a, .slice A3 m.d.length k3] 25)) (w5.heap.size) [.int .i64 m.f, .int .i64 m.t, .bool m.b, .int .u64 m.s, .int .u64 m.a, .slice A3 m.d.length k3] 25 := Blk.new w5 [.int .i64 m.f, .int .i64 m.t, .bool m.b, .int .u64 m.s, .int .u64 m.a, .slice A3 m.d.length k3] 25
    have nls : Below w.heap.size w w5 := L5.out
    have nl0 := nls.alloc nls.size (.cells #[.int .i64 m.f, .int .i64 m.t, .bool m.b, .int .u64 m.s, .int .u64 m.a, .slice A3 m.d.length k3] 25)
    have nl : Below w.heap.size w (w5.alloc (.cells #[.int .i64 m.f, .int .i64 m.t, .bool m.b, .int .u64 m.s, .int .u64 m.a, .slice A3 m.d.length k3] 25)) := nl0; clear nls nl0
    have o0 : Blk (w5.alloc (.cells #[.int .i64 m.f, .int .i64 m.t, .bool m.b, .int .u64 m.s, .int .u64 m.a, .slice A3 m.d.length k3] 25)) B4 [.int .i64 m.f, .int .i64 m.t, .bool m.b, .int .u64 m.s, .int .u64 m.a, .slice A2 m.d.length k2] 25 := (K5_0.out.alloc (.cells #[.int .i64 m.f, .int .i64 m.t, .bool m.b, .int .u64 m.s, .int .u64 m.a, .slice A3 m.d.length k3] 25))
    have d6_0 : B4 < w5.heap.size := K5_0.out.lt
    obtain ⟨B6, hB0⟩ : ∃ B, B = w5.heap.size := ⟨_, rfl⟩
    obtain ⟨W6, hW⟩ : ∃ W, W = (w5.alloc (.cells #[.int .i64 m.f, .int .i64 m.t, .bool m.b, .int .u64 m.s, .int .u64 m.a, .slice A3 m.d.length k3] 25)) := ⟨_, rfl⟩
    rw [← hW] at dd0
    have T6_0 := Lib.hid dd0
    rw [← hW] at dd1
    have T6_1 := Lib.hid dd1
    clear dd0 dd1 T5_0 T1
    rw [← hW] at nl nb0 o0
    rw [← hB0] at nb0
    rw [← hW]
    try rw [← hB0]
    have K6_0 := Lib.hid o0
    have K6_1 := Lib.hid nb0
    have G6 : Hid (w.heap.size ≤ B6) := Lib.hid (by have := L5.out.size; omega)
    have x6_0_0 : B4 ≠ B6 := by omega
    have X6_0_0 := Lib.hid x6_0_0; clear x6_0_0
    have L6 := Lib.hid nl
    clear nl hW nb0 hB0 o0 d6_0 K5_0
    have h3 := rsame_any m.f m.t m.b m.s m.a m.f m.t m.b m.s m.a A2 A3 m.d.length k2 m.d.length k3 m.d m.d _ T6_0.out T6_1.out
    rw [sameF_refl] at h3
    have H3 := Lib.hid h3; clear h3
    have m0_0 : W6.cell? ⟨B4, 0, none⟩ = some _ := K6_0.out.cell 0
    have m0_1 : W6.cell? ⟨B4, 1, none⟩ = some _ := K6_0.out.cell 1
    have m0_2 : W6.cell? ⟨B4, 2, none⟩ = some _ := K6_0.out.cell 2
    have m0_3 : W6.cell? ⟨B4, 3, none⟩ = some _ := K6_0.out.cell 3
    have m0_4 : W6.cell? ⟨B4, 4, none⟩ = some _ := K6_0.out.cell 4
    have m0_5 : W6.cell? ⟨B4, 5, none⟩ = some _ := K6_0.out.cell 5
    have mlt0 : B4 < W6.heap.size := K6_0.out.lt
    have m1_0 : W6.cell? ⟨B6, 0, none⟩ = some _ := K6_1.out.cell 0
    have m1_1 : W6.cell? ⟨B6, 1, none⟩ = some _ := K6_1.out.cell 1
    have m1_2 : W6.cell? ⟨B6, 2, none⟩ = some _ := K6_1.out.cell 2
    have m1_3 : W6.cell? ⟨B6, 3, none⟩ = some _ := K6_1.out.cell 3
    have m1_4 : W6.cell? ⟨B6, 4, none⟩ = some _ := K6_1.out.cell 4
    have m1_5 : W6.cell? ⟨B6, 5, none⟩ = some _ := K6_1.out.cell 5
    have mlt1 : B6 < W6.heap.size := K6_1.out.lt
    go_wp2_with fail
    clear m0_0 m0_1 m0_2 m0_3 m0_4 m0_5 mlt0 m1_0 m1_1 m1_2 m1_3 m1_4 m1_5 mlt1
    refine (H3.out).mono ?_
    rintro e w7 ⟨rfl, hb⟩
    have L7 := Lib.hid (L6.out.trans (hb.mono L6.out.size))
    have K7_0 := Lib.hid (K6_0.out.below hb K6_0.out.lt)
    have K7_1 := Lib.hid (K6_1.out.below hb K6_1.out.lt)
    have T7_0 := Lib.hid (T6_0.out.below hb)
    have T7_1 := Lib.hid (T6_1.out.below hb)
    clear T6_0 T6_1
    clear hb K6_0 K6_1
    go_wp2
    go_ret
    exact ⟨by simp, L7.out⟩
end Go.Proofs.YtmdfopbigkfbnaaDoor
