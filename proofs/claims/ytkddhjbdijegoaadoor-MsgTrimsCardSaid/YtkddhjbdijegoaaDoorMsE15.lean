/-
  What Put of package runrigref15 answers of a right message: a contract over the translation. It says its own conditions.
-/
import Derived.Test.YtkddhjbdijegoaaDoorMsD15
namespace Go.Proofs.YtkddhjbdijegoaaDoor
open Go.RowKit
set_option linter.unusedVariables false
set_option linter.unusedSimpArgs false
attribute [local go_sem] setCell_drewN alloc_drewN

theorem rd_blk {w : World} {b t : Nat} {cs : List Int} (h : Blk w b (cs.map (Value.int .u8)) t) (hc : Byt cs) (hl : cs.length ≤ 9223372036854775807) : Rd w (some ⟨b, 0, none⟩) cs := by
  refine ⟨hc, hl, fun _ => ⟨b, 0, rfl, fun i hi => ?_⟩⟩
  rw [Nat.zero_add, h.cell i, List.getElem?_map, List.getD_eq_getElem?_getD, List.getElem?_eq_getElem hi]; rfl
set_option maxHeartbeats 4000000 in
theorem rput_yes15 (k p n h s : Nat) (A : Option Addr) (dl cap : Nat) (d : List Int) (w : World) (hd : Dat w A dl cap d) (hr : rgt ⟨k, p, n, h, s, d⟩ = true) (hs : s < 65536) : Calls Tryd.prog 12 #[.agg #[.int .i64 (k : Int), .int .i64 (p : Int), .int .i64 (n : Int), .int .i64 (h : Int), .int .u16 (s : Int), .slice A dl cap]] w fun e w' => e = .returned (.string (strOfNums (putM ⟨k, p, n, h, s, d⟩))) ∧ Below w.heap.size w w' := by
  obtain ⟨bk, bp, bn, bh, bl⟩ := rgt_parts hr
  dsimp only at bk bp bn bh bl
  rw [hd.len] at bl
  have HD := Lib.hid hd
  clear hd hr
  go_enter Tryd.func12, Tryd.ntmps12
  go_upto_region 1 with (fail)
  have nb0 : Blk (w.alloc (.cells #[.int .i64 (k : Int), .int .i64 (p : Int), .int .i64 (n : Int), .int .i64 (h : Int), .int .u16 (s : Int), .slice A dl cap] 26)) (w.heap.size) [.int .i64 (k : Int), .int .i64 (p : Int), .int .i64 (n : Int), .int .i64 (h : Int), .int .u16 (s : Int), .slice A dl cap] 26 := Blk.new w [.int .i64 (k : Int), .int .i64 (p : Int), .int .i64 (n : Int), .int .i64 (h : Int), .int .u16 (s : Int), .slice A dl cap] 26
  have nls : Below w.heap.size w w := (Below.refl w.heap.size w)
  have nl0 := nls.alloc nls.size (.cells #[.int .i64 (k : Int), .int .i64 (p : Int), .int .i64 (n : Int), .int .i64 (h : Int), .int .u16 (s : Int), .slice A dl cap] 26)
  have nl : Below w.heap.size w (w.alloc (.cells #[.int .i64 (k : Int), .int .i64 (p : Int), .int .i64 (n : Int), .int .i64 (h : Int), .int .u16 (s : Int), .slice A dl cap] 26)) := nl0; clear nls nl0
  obtain ⟨B1, hB0⟩ : ∃ B, B = w.heap.size := ⟨_, rfl⟩
  obtain ⟨W1, hW⟩ : ∃ W, W = (w.alloc (.cells #[.int .i64 (k : Int), .int .i64 (p : Int), .int .i64 (n : Int), .int .i64 (h : Int), .int .u16 (s : Int), .slice A dl cap] 26)) := ⟨_, rfl⟩
  rw [← hW] at nl nb0
  rw [← hB0] at nb0
  rw [← hW]
  try rw [← hB0]
  have K1_0 := Lib.hid nb0
  have G1 : Hid (w.heap.size ≤ B1) := Lib.hid (by have := (Nat.le_refl w.heap.size); omega)
  have L1 := Lib.hid nl
  clear nl hW nb0 hB0
  have m0_0 : W1.cell? ⟨B1, 0, none⟩ = some _ := K1_0.out.cell 0
  have m0_1 : W1.cell? ⟨B1, 1, none⟩ = some _ := K1_0.out.cell 1
  have m0_2 : W1.cell? ⟨B1, 2, none⟩ = some _ := K1_0.out.cell 2
  have m0_3 : W1.cell? ⟨B1, 3, none⟩ = some _ := K1_0.out.cell 3
  have m0_4 : W1.cell? ⟨B1, 4, none⟩ = some _ := K1_0.out.cell 4
  have m0_5 : W1.cell? ⟨B1, 5, none⟩ = some _ := K1_0.out.cell 5
  have mlt0 : B1 < W1.heap.size := K1_0.out.lt
  go_upto_region 3 with (fail)
  clear m0_0 m0_1 m0_2 m0_3 m0_4 m0_5 mlt0
  have nb0 : Blk (W1.alloc (.cells #[.int .u8 ((k : Int)), .int .u8 ((n : Int)), .int .u8 ((h : Int)), .int .u8 ((p : Int) % 256), .int .u8 ((p : Int) / 256), .int .u8 (0), .int .u8 (0), .int .u8 ((s : Int) % 256), .int .u8 ((s : Int) / 256), .int .u8 ((dl : Int) % 256), .int .u8 ((dl : Int) / 256)] 5)) (W1.heap.size) [.int .u8 ((k : Int)), .int .u8 ((n : Int)), .int .u8 ((h : Int)), .int .u8 ((p : Int) % 256), .int .u8 ((p : Int) / 256), .int .u8 (0), .int .u8 (0), .int .u8 ((s : Int) % 256), .int .u8 ((s : Int) / 256), .int .u8 ((dl : Int) % 256), .int .u8 ((dl : Int) / 256)] 5 := Blk.new W1 [.int .u8 ((k : Int)), .int .u8 ((n : Int)), .int .u8 ((h : Int)), .int .u8 ((p : Int) % 256), .int .u8 ((p : Int) / 256), .int .u8 (0), .int .u8 (0), .int .u8 ((s : Int) % 256), .int .u8 ((s : Int) / 256), .int .u8 ((dl : Int) % 256), .int .u8 ((dl : Int) / 256)] 5
  have nls : Below w.heap.size w W1 := L1.out
  have nl0 := nls.alloc nls.size (.cells #[.int .u8 ((k : Int)), .int .u8 ((n : Int)), .int .u8 ((h : Int)), .int .u8 ((p : Int) % 256), .int .u8 ((p : Int) / 256), .int .u8 (0), .int .u8 (0), .int .u8 ((s : Int) % 256), .int .u8 ((s : Int) / 256), .int .u8 ((dl : Int) % 256), .int .u8 ((dl : Int) / 256)] 5)
  have nl : Below w.heap.size w (W1.alloc (.cells #[.int .u8 ((k : Int)), .int .u8 ((n : Int)), .int .u8 ((h : Int)), .int .u8 ((p : Int) % 256), .int .u8 ((p : Int) / 256), .int .u8 (0), .int .u8 (0), .int .u8 ((s : Int) % 256), .int .u8 ((s : Int) / 256), .int .u8 ((dl : Int) % 256), .int .u8 ((dl : Int) / 256)] 5)) := nl0; clear nls nl0
  have o0 : Blk (W1.alloc (.cells #[.int .u8 ((k : Int)), .int .u8 ((n : Int)), .int .u8 ((h : Int)), .int .u8 ((p : Int) % 256), .int .u8 ((p : Int) / 256), .int .u8 (0), .int .u8 (0), .int .u8 ((s : Int) % 256), .int .u8 ((s : Int) / 256), .int .u8 ((dl : Int) % 256), .int .u8 ((dl : Int) / 256)] 5)) B1 [.int .i64 (k : Int), .int .i64 (p : Int), .int .i64 (n : Int), .int .i64 (h : Int), .int .u16 (s : Int), .slice A dl cap] 26 := (K1_0.out.alloc (.cells #[.int .u8 ((k : Int)), .int .u8 ((n : Int)), .int .u8 ((h : Int)), .int .u8 ((p : Int) % 256), .int .u8 ((p : Int) / 256), .int .u8 (0), .int .u8 (0), .int .u8 ((s : Int) % 256), .int .u8 ((s : Int) / 256), .int .u8 ((dl : Int) % 256), .int .u8 ((dl : Int) / 256)] 5))
  have d2_0 : B1 < W1.heap.size := K1_0.out.lt
  obtain ⟨B2, hB0⟩ : ∃ B, B = W1.heap.size := ⟨_, rfl⟩
  obtain ⟨W2, hW⟩ : ∃ W, W = (W1.alloc (.cells #[.int .u8 ((k : Int)), .int .u8 ((n : Int)), .int .u8 ((h : Int)), .int .u8 ((p : Int) % 256), .int .u8 ((p : Int) / 256), .int .u8 (0), .int .u8 (0), .int .u8 ((s : Int) % 256), .int .u8 ((s : Int) / 256), .int .u8 ((dl : Int) % 256), .int .u8 ((dl : Int) / 256)] 5)) := ⟨_, rfl⟩
  rw [← hW] at nl nb0 o0
  rw [← hB0] at nb0
  rw [← hW]
  try rw [← hB0]
  have K2_0 := Lib.hid o0
  have K2_1 := Lib.hid nb0
  have G2 : Hid (w.heap.size ≤ B2) := Lib.hid (by have := L1.out.size; omega)
  have x2_0_0 : B1 ≠ B2 := by omega
  have X2_0_0 := Lib.hid x2_0_0; clear x2_0_0
  have L2 := Lib.hid nl
  clear nl hW nb0 hB0 o0 d2_0 K1_0
  have hrd : Rd W2 (some ⟨B2, 0, none⟩) [(k : Int), (n : Int), (h : Int), (p : Int) % 256, (p : Int) / 256, 0, 0, (s : Int) % 256, (s : Int) / 256, (dl : Int) % 256, (dl : Int) / 256] := rd_blk (cs := [(k : Int), (n : Int), (h : Int), (p : Int) % 256, (p : Int) / 256, 0, 0, (s : Int) % 256, (s : Int) / 256, (dl : Int) % 256, (dl : Int) / 256]) K2_1.out (by intro x hx; simp at hx; omega) (by simp)
  have hq1 := hrd.conv 11 11 rfl
  have hq2 := (HD.out.below L2.out).rd.conv dl cap HD.out.len
  have hz1 : (strOfNums [(k : Int), (n : Int), (h : Int), (p : Int) % 256, (p : Int) / 256, 0, 0, (s : Int) % 256, (s : Int) / 256, (dl : Int) % 256, (dl : Int) / 256]).size = 11 := by rw [strOfNums_size]; rfl
  have hz2 : (strOfNums d).size = dl := by rw [strOfNums_size]; exact HD.out.len
  have hpm : strOfNums (putM ⟨k, p, n, h, s, d⟩) = strOfNums [(k : Int), (n : Int), (h : Int), (p : Int) % 256, (p : Int) / 256, 0, 0, (s : Int) % 256, (s : Int) / 256, (dl : Int) % 256, (dl : Int) / 256] ++ strOfNums d := by
    rw [← strOfNums_app]
    congr 1
    unfold putM
    dsimp only
    rw [HD.out.len]
    simp only [byt4, byt2, List.cons_append, List.nil_append]
    have e1 : (p : Int) / 256 % 256 = p / 256 := by omega
    have e2 : (p : Int) / 256 / 256 % 256 = 0 := by omega
    have e3 : (p : Int) / 256 / 256 / 256 % 256 = 0 := by omega
    have e4 : (s : Int) / 256 % 256 = s / 256 := by omega
    have e5 : (dl : Int) / 256 % 256 = dl / 256 := by omega
    rw [e1, e2, e3, e4, e5]
  have HPM := Lib.hid hpm
  clear hpm hrd
  generalize strOfNums [(k : Int), (n : Int), (h : Int), (p : Int) % 256, (p : Int) / 256, 0, 0, (s : Int) % 256, (s : Int) / 256, (dl : Int) % 256, (dl : Int) / 256] = S1 at hq1 hz1 HPM
  generalize strOfNums d = S2 at hq2 hz2 HPM
  have m0_0 : W2.cell? ⟨B1, 0, none⟩ = some _ := K2_0.out.cell 0
  have m0_1 : W2.cell? ⟨B1, 1, none⟩ = some _ := K2_0.out.cell 1
  have m0_2 : W2.cell? ⟨B1, 2, none⟩ = some _ := K2_0.out.cell 2
  have m0_3 : W2.cell? ⟨B1, 3, none⟩ = some _ := K2_0.out.cell 3
  have m0_4 : W2.cell? ⟨B1, 4, none⟩ = some _ := K2_0.out.cell 4
  have m0_5 : W2.cell? ⟨B1, 5, none⟩ = some _ := K2_0.out.cell 5
  have mlt0 : B1 < W2.heap.size := K2_0.out.lt
  go_wp2
  clear m0_0 m0_1 m0_2 m0_3 m0_4 m0_5 mlt0
  go_ret
  exact ⟨by rw [HPM.out]; rfl, L2.out⟩
end Go.Proofs.YtkddhjbdijegoaaDoor
