/-
  What perm.Flags answers: contracts over the translation. Each says its own conditions.
-/
import Derived.Test.YtgnjbjbgfhjakaaGreatText09
import Derived.Deep.RegionWith
import Derived.Deep.RegionHeld3
namespace Go.Proofs.YtgnjbjbgfhjakaaGreat
open Go.RowKit
set_option linter.unusedVariables false
set_option linter.unusedSimpArgs false
attribute [local go_sem] setCell_drewN alloc_drewN

/-- a flag's sign or the one that stands for none -/
def good (n c : Int) : Bool := n == c || n == 45
def goods (n0 n1 n2 n3 n4 n5 n6 n7 : Int) : List Bool := [good n0 118, good n1 114, good n2 119, good n3 120, good n4 117, good n5 103, good n6 97, good n7 100]
def setsN (n0 n1 n2 n3 n4 n5 n6 n7 : Int) : List Bool := [n0 == 118, n1 == 114, n2 == 119, n3 == 120, n4 == 117, n5 == 103, n6 == 97, n7 == 100]
def celN (n0 n1 n2 n3 n4 n5 n6 n7 : Int) (k : Nat) : List Value := ((setsN n0 n1 n2 n3 n4 n5 n6 n7).take k ++ List.replicate (8 - k) false).map Value.bool
def okN (n0 n1 n2 n3 n4 n5 n6 n7 : Int) : Bool := (goods n0 n1 n2 n3 n4 n5 n6 n7).all id
def entZ : Ent := ⟨false, false, false, false, false, false, false, false, 0, 0⟩
def entN (n0 n1 n2 n3 n4 n5 n6 n7 : Int) : Ent := ⟨n0 == 118, n1 == 114, n2 == 119, n3 == 120, n4 == 117, n5 == 103, n6 == 97, n7 == 100, 0, 0⟩
set_option maxHeartbeats 8000000 in
theorem flags_8 (n0 n1 n2 n3 n4 n5 n6 n7 : Int) (Z : ByteArray) (w : World) (h8 : Z.size = 8)
    (i0 : ∀ w, (Instr.index 9 (.string Z) (.int .i64 0)).run Tryz.prog w = .ok (.int .u8 n0) w)
    (i1 : ∀ w, (Instr.index 9 (.string Z) (.int .i64 1)).run Tryz.prog w = .ok (.int .u8 n1) w)
    (i2 : ∀ w, (Instr.index 9 (.string Z) (.int .i64 2)).run Tryz.prog w = .ok (.int .u8 n2) w)
    (i3 : ∀ w, (Instr.index 9 (.string Z) (.int .i64 3)).run Tryz.prog w = .ok (.int .u8 n3) w)
    (i4 : ∀ w, (Instr.index 9 (.string Z) (.int .i64 4)).run Tryz.prog w = .ok (.int .u8 n4) w)
    (i5 : ∀ w, (Instr.index 9 (.string Z) (.int .i64 5)).run Tryz.prog w = .ok (.int .u8 n5) w)
    (i6 : ∀ w, (Instr.index 9 (.string Z) (.int .i64 6)).run Tryz.prog w = .ok (.int .u8 n6) w)
    (i7 : ∀ w, (Instr.index 9 (.string Z) (.int .i64 7)).run Tryz.prog w = .ok (.int .u8 n7) w) :
    Calls Tryz.prog 100 #[.string Z] w fun r w' => r = .returned (.tuple #[pv (if okN n0 n1 n2 n3 n4 n5 n6 n7 then entN n0 n1 n2 n3 n4 n5 n6 n7 else entZ), .bool (okN n0 n1 n2 n3 n4 n5 n6 n7)]) ∧ Below w.heap.size w w' := by
  have hlen : ((Z.size : Int) != 8) = false := by simp [h8]
  obtain ⟨A, hA⟩ : ∃ A, A = Value.tuple #[pv (if okN n0 n1 n2 n3 n4 n5 n6 n7 then entN n0 n1 n2 n3 n4 n5 n6 n7 else entZ), .bool (okN n0 n1 n2 n3 n4 n5 n6 n7)] := ⟨_, rfl⟩
  rw [← hA]
  have HA := Lib.hid hA; have H8 := Lib.hid h8; clear hA h8
  have I0 := Lib.hid i0
  have I1 := Lib.hid i1
  have I2 := Lib.hid i2
  have I3 := Lib.hid i3
  have I4 := Lib.hid i4
  have I5 := Lib.hid i5
  have I6 := Lib.hid i6
  have I7 := Lib.hid i7
  clear i0 i1 i2 i3 i4 i5 i6 i7
  go_enter Tryz.func100, Tryz.ntmps100
  go_wp2_with fail
  have nb0 := Blk.new w [.bool false, .bool false, .bool false, .bool false, .bool false, .bool false, .bool false, .bool false, .int .i64 0, .int .u64 0] 39
  replace nb0 := nb0.alloc (.cells #[.bool false, .bool false, .bool false, .bool false, .bool false, .bool false, .bool false, .bool false] 197)
  have nb1 : Blk ((w.alloc (.cells #[.bool false, .bool false, .bool false, .bool false, .bool false, .bool false, .bool false, .bool false, .int .i64 0, .int .u64 0] 39)).alloc (.cells #[.bool false, .bool false, .bool false, .bool false, .bool false, .bool false, .bool false, .bool false] 197)) (w.heap.size + 1) [.bool false, .bool false, .bool false, .bool false, .bool false, .bool false, .bool false, .bool false] 197 := Blk.nextn (w.alloc (.cells #[.bool false, .bool false, .bool false, .bool false, .bool false, .bool false, .bool false, .bool false, .int .i64 0, .int .u64 0] 39)) (w.heap.size + 1) [.bool false, .bool false, .bool false, .bool false, .bool false, .bool false, .bool false, .bool false] 197 (by simp)
  have nl0 := (Below.refl w.heap.size w).alloc (Nat.le_refl w.heap.size) (.cells #[.bool false, .bool false, .bool false, .bool false, .bool false, .bool false, .bool false, .bool false, .int .i64 0, .int .u64 0] 39)
  have nl1 := nl0.alloc nl0.size (.cells #[.bool false, .bool false, .bool false, .bool false, .bool false, .bool false, .bool false, .bool false] 197)
  have nl := nl1; clear nl0 nl1
  obtain ⟨B1_1, hB1⟩ : ∃ B, B = w.heap.size + 1 := ⟨_, rfl⟩
  obtain ⟨B1_0, hB0⟩ : ∃ B, B = w.heap.size := ⟨_, rfl⟩
  obtain ⟨W1, hW⟩ : ∃ W, W = ((w.alloc (.cells #[.bool false, .bool false, .bool false, .bool false, .bool false, .bool false, .bool false, .bool false, .int .i64 0, .int .u64 0] 39)).alloc (.cells #[.bool false, .bool false, .bool false, .bool false, .bool false, .bool false, .bool false, .bool false] 197)) := ⟨_, rfl⟩
  rw [← hW] at nl nb0 nb1
  rw [← hB1] at nb1
  rw [← hB0] at nb0
  rw [← hW]
  try rw [← hB1]
  try rw [← hB0]
  have K1_0 := Lib.hid nb0
  have G1_0 : Hid (w.heap.size ≤ B1_0) := Lib.hid (by have := (Nat.le_refl w.heap.size); omega)
  have K1_1 := Lib.hid nb1
  have G1_1 : Hid (w.heap.size ≤ B1_1) := Lib.hid (by have := (Nat.le_refl w.heap.size); omega)
  have y1_0_1 : B1_0 ≠ B1_1 := by omega
  have Y1_0_1 := Lib.hid y1_0_1; clear y1_0_1
  have L1 := Lib.hid nl
  clear nl hW nb0 hB0 nb1 hB1
  go_loopw [10] (fun i wr => ∃ k : Nat, k ≤ 8 ∧ i = .int .i64 k ∧ (((goods n0 n1 n2 n3 n4 n5 n6 n7).take k).all id = true) ∧ Blk wr B1_0 [.bool false, .bool false, .bool false, .bool false, .bool false, .bool false, .bool false, .bool false, .int .i64 0, .int .u64 0] 39 ∧ Blk wr B1_1 (celN n0 n1 n2 n3 n4 n5 n6 n7 k) 197 ∧ Below w.heap.size w wr) (fun i _ => 8 - (intOf i).toNat)
  case atStart => exact ⟨0, Nat.zero_le _, rfl, rfl, K1_0.out, K1_1.out, L1.out⟩
  case round =>
    obtain ⟨k, hk, rfl, hgo, hop, ho, hb⟩ := hrel
    have hk' : k = 0 ∨ k = 1 ∨ k = 2 ∨ k = 3 ∨ k = 4 ∨ k = 5 ∨ k = 6 ∨ k = 7 ∨ k = 8 := by omega
    clear hk
    have HG := Lib.hid hgo; clear hgo
    have HP := Lib.hid hop; clear hop
    have HB := Lib.hid hb; clear hb
    rcases hk' with rfl | rfl | rfl | rfl | rfl | rfl | rfl | rfl | rfl
    · have hi := I0.out
      have hc : wr.cell? ⟨B1_1, 0, none⟩ = some (.bool false) := ho.cell 0
      have hf := ho.free 0
      have hlt := ho.lt
      have hx : ∀ w, (Instr.index 9 (.string ⟨#[118, 114, 119, 120, 117, 103, 97, 100]⟩) (.int .i64 0)).run Tryz.prog w = .ok (.int .u8 118) w := fun _ => by kernel_rfl
      have HO := Lib.hid ho; clear ho
      go_wp2
      refine wp_region_held_drew (S := fun _ => True) (by kernel_rfl) trivial (fun hHeld => ?_)
      simp only [List.size_toArray, List.length_cons, List.length_nil, Nat.reduceAdd]
      rw [show Array.replicate 9 false = [false, false, false, false, false, false, false, false, false].toArray from rfl]
      refine wpAnyH_take (i := 0) (v := ?_) rfl (by kernel_rfl) (by kernel_rfl) (by kernel_rfl) (fun _ _ _ h => h) (Or.inl ⟨by rfl, ?yldq⟩) (by assumption) ?_
      case yldq => (intro w hSw; (try dsimp only at hSw); go_simp; try with_reducible rfl)
      try simp only [Act.put, List.setIfInBounds_toArray, List.set_cons_zero, List.set_cons_succ, List.getElem_toArray, List.getElem_cons_succ, List.getElem_cons_zero]
      refine wpAnyH_take (i := 1) (v := ?_) rfl (by kernel_rfl) (by kernel_rfl) (by kernel_rfl) (fun _ _ _ h => h) (Or.inl ⟨by rfl, ?yldq⟩) (by assumption) ?_
      case yldq => (intro w hSw; (try dsimp only at hSw); go_simp; try with_reducible rfl)
      try simp only [Act.put, List.setIfInBounds_toArray, List.set_cons_zero, List.set_cons_succ, List.getElem_toArray, List.getElem_cons_succ, List.getElem_cons_zero]
      refine wpAnyH_take (i := 2) (v := ?_) rfl (by kernel_rfl) (by kernel_rfl) (by kernel_rfl) (fun _ _ _ h => h) (Or.inl ⟨by rfl, ?yldq⟩) (by assumption) ?_
      case yldq => (intro w hSw; (try dsimp only at hSw); go_simp; try with_reducible rfl)
      try simp only [Act.put, List.setIfInBounds_toArray, List.set_cons_zero, List.set_cons_succ, List.getElem_toArray, List.getElem_cons_succ, List.getElem_cons_zero]
      refine wpAnyH_take (i := 3) (v := ?_) rfl (by kernel_rfl) (by kernel_rfl) (by kernel_rfl) (fun _ _ _ h => h) (Or.inl ⟨by rfl, ?yldq⟩) (by assumption) ?_
      case yldq => (intro w hSw; (try dsimp only at hSw); go_simp; try with_reducible rfl)
      try simp only [Act.put, List.setIfInBounds_toArray, List.set_cons_zero, List.set_cons_succ, List.getElem_toArray, List.getElem_cons_succ, List.getElem_cons_zero]
      refine wpAnyH_take (i := 4) (v := ?_) rfl (by kernel_rfl) (by kernel_rfl) (by kernel_rfl) (fun _ _ _ h => h) (Or.inl ⟨by rfl, ?yldq⟩) (by assumption) ?_
      case yldq => (intro w hSw; (try dsimp only at hSw); go_simp; try with_reducible rfl)
      try simp only [Act.put, List.setIfInBounds_toArray, List.set_cons_zero, List.set_cons_succ, List.getElem_toArray, List.getElem_cons_succ, List.getElem_cons_zero]
      refine wpAnyH_take (i := 5) (v := ?_) rfl (by kernel_rfl) (by kernel_rfl) (by kernel_rfl) (fun _ _ _ h => h) (Or.inl ⟨by rfl, ?yldq⟩) (by assumption) ?_
      case yldq => (intro w hSw; (try dsimp only at hSw); go_simp; try with_reducible rfl)
      try simp only [Act.put, List.setIfInBounds_toArray, List.set_cons_zero, List.set_cons_succ, List.getElem_toArray, List.getElem_cons_succ, List.getElem_cons_zero]
      refine wpAnyH_take (i := 6) (v := ?_) rfl (by kernel_rfl) (by kernel_rfl) (by kernel_rfl) (fun _ _ _ h => h) (Or.inl ⟨by rfl, ?yldq⟩) (by assumption) ?_
      case yldq => (intro w hSw; (try dsimp only at hSw); go_simp; try with_reducible rfl)
      try simp only [Act.put, List.setIfInBounds_toArray, List.set_cons_zero, List.set_cons_succ, List.getElem_toArray, List.getElem_cons_succ, List.getElem_cons_zero]
      refine wpAnyH_take (i := 7) (v := ?_) rfl (by kernel_rfl) (by kernel_rfl) (by kernel_rfl) (fun _ _ _ h => h) (Or.inl ⟨by rfl, ?yldq⟩) (by assumption) ?_
      case yldq => (intro w hSw; (try dsimp only at hSw); go_simp; try with_reducible rfl)
      try simp only [Act.put, List.setIfInBounds_toArray, List.set_cons_zero, List.set_cons_succ, List.getElem_toArray, List.getElem_cons_succ, List.getElem_cons_zero]
      refine wpAnyH_ready (rs := [8]) (by kernel_rfl) (by simp) ?_
      refine AllReadyH.cons rfl (fun K hK => ?_) AllReadyH.nil
      go_simp
      obtain ⟨w2, hw2⟩ : ∃ x, x = (wr.setCell ⟨B1_1, 0, none⟩ (.bool (n0 == 118))).drew := ⟨_, rfl⟩
      rw [← hw2]
      refine hK.out _ _ trivial (fun _ => ?_)
      clear hK K
      refine wpAnyH_done (by kernel_rfl) ?_ _
      have b2 : Blk w2 B1_1 (celN n0 n1 n2 n3 n4 n5 n6 n7 1) 197 := hw2 ▸ (HO.out.set 0 (.bool (n0 == 118)))
      have pp : Blk w2 B1_0 [.bool false, .bool false, .bool false, .bool false, .bool false, .bool false, .bool false, .bool false, .int .i64 0, .int .u64 0] 39 := hw2 ▸ (HP.out.other ⟨B1_1, 0, none⟩ (.bool (n0 == 118)) Y1_0_1.out)
      have l2 : Below w.heap.size w w2 := by
        rw [hw2]
        exact (Below.setCell HB.out G1_1.out _).drew
      clear hw2 hc hf hlt hx HO HP HB hHeld
      have hc : w2.cell? ⟨B1_1, 0, none⟩ = some (.bool (n0 == 118)) := b2.cell 0
      have hlt := b2.lt
      have p0 : ∃ u, w2.cell? ⟨B1_0, 0, none⟩ = some u := ⟨_, pp.cell 0⟩
      obtain ⟨q0, p0⟩ := p0
      have p1 : ∃ u, w2.cell? ⟨B1_0, 1, none⟩ = some u := ⟨_, pp.cell 1⟩
      obtain ⟨q1, p1⟩ := p1
      have p2 : ∃ u, w2.cell? ⟨B1_0, 2, none⟩ = some u := ⟨_, pp.cell 2⟩
      obtain ⟨q2, p2⟩ := p2
      have p3 : ∃ u, w2.cell? ⟨B1_0, 3, none⟩ = some u := ⟨_, pp.cell 3⟩
      obtain ⟨q3, p3⟩ := p3
      have p4 : ∃ u, w2.cell? ⟨B1_0, 4, none⟩ = some u := ⟨_, pp.cell 4⟩
      obtain ⟨q4, p4⟩ := p4
      have p5 : ∃ u, w2.cell? ⟨B1_0, 5, none⟩ = some u := ⟨_, pp.cell 5⟩
      obtain ⟨q5, p5⟩ := p5
      have p6 : ∃ u, w2.cell? ⟨B1_0, 6, none⟩ = some u := ⟨_, pp.cell 6⟩
      obtain ⟨q6, p6⟩ := p6
      have p7 : ∃ u, w2.cell? ⟨B1_0, 7, none⟩ = some u := ⟨_, pp.cell 7⟩
      obtain ⟨q7, p7⟩ := p7
      have p8 : ∃ u, w2.cell? ⟨B1_0, 8, none⟩ = some u := ⟨_, pp.cell 8⟩
      obtain ⟨q8, p8⟩ := p8
      have p9 : ∃ u, w2.cell? ⟨B1_0, 9, none⟩ = some u := ⟨_, pp.cell 9⟩
      obtain ⟨q9, p9⟩ := p9
      have pf : ∀ o, w2.frozen? ⟨B1_0, o, none⟩ = false := fun o => pp.free o
      have hlp := pp.lt
      have B2 := Lib.hid b2; have P2 := Lib.hid pp; have L2 := Lib.hid l2; clear b2 pp l2
      by_cases e1 : n0 = 118
      · have f1 : (n0 == 118) = true := by simp [e1]
        rw [f1] at hc
        have E1 := Lib.hid e1; clear e1 f1
        go_wp2
        go_roundw
        case rel => exact ⟨1, by omega, rfl, by have := HG.out; simp [goods, good] at this ⊢; simp [this, E1.out], P2.out, B2.out, L2.out⟩
        case measure => simp [intOf]
      · have f1 : (n0 == 118) = false := by simp [e1]
        rw [f1] at hc
        by_cases e2 : n0 = 45
        · have f2 : (n0 != 45) = false := by simp [e2]
          have E2 := Lib.hid e2; clear e1 e2 f1
          go_wp2
          go_roundw
          case rel => exact ⟨1, by omega, rfl, by have := HG.out; simp [goods, good] at this ⊢; simp [this, E2.out], P2.out, B2.out, L2.out⟩
          case measure => simp [intOf]
        · have f2 : (n0 != 45) = true := by simp [e2]
          have E1 := Lib.hid e1; have E2 := Lib.hid e2; clear e1 e2 f1
          go_wp2
          obtain ⟨W3, hW3⟩ : ∃ x, x = ((((((((((w2.setCell ⟨B1_0, 0, none⟩ (.bool false)).setCell ⟨B1_0, 1, none⟩ (.bool false)).setCell ⟨B1_0, 2, none⟩ (.bool false)).setCell ⟨B1_0, 3, none⟩ (.bool false)).setCell ⟨B1_0, 4, none⟩ (.bool false)).setCell ⟨B1_0, 5, none⟩ (.bool false)).setCell ⟨B1_0, 6, none⟩ (.bool false)).setCell ⟨B1_0, 7, none⟩ (.bool false)).setCell ⟨B1_0, 8, none⟩ (.int .i64 0)).setCell ⟨B1_0, 9, none⟩ (.int .u64 0)) := ⟨_, rfl⟩
          rw [← hW3]
          have b3 : Blk W3 B1_0 [.bool false, .bool false, .bool false, .bool false, .bool false, .bool false, .bool false, .bool false, .int .i64 0, .int .u64 0] 39 := hW3 ▸ ((((((((((P2.out.set 0 (.bool false)).set 1 (.bool false)).set 2 (.bool false)).set 3 (.bool false)).set 4 (.bool false)).set 5 (.bool false)).set 6 (.bool false)).set 7 (.bool false)).set 8 (.int .i64 0)).set 9 (.int .u64 0))
          have l3 : Below w.heap.size w W3 := hW3 ▸ (Below.setCell (Below.setCell (Below.setCell (Below.setCell (Below.setCell (Below.setCell (Below.setCell (Below.setCell (Below.setCell (Below.setCell L2.out G1_0.out _) G1_0.out _) G1_0.out _) G1_0.out _) G1_0.out _) G1_0.out _) G1_0.out _) G1_0.out _) G1_0.out _) G1_0.out _)
          clear hW3
          have r0 := b3.c0
          have r1 := b3.c1
          have r2 := b3.c2
          have r3 := b3.c3
          have r4 := b3.c4
          have r5 := b3.c5
          have r6 := b3.c6
          have r7 := b3.c7
          have r8 := b3.c8
          have r9 := b3.c9
          have Q3 := Lib.hid b3; have QL := Lib.hid l3; clear b3 l3
          refine bodyPost_ret (v := .tuple #[.agg #[.bool false, .bool false, .bool false, .bool false, .bool false, .bool false, .bool false, .bool false, .int .i64 0, .int .u64 0], .bool false]) (by simp [results, Tryz.results100, go_sem, r0, r1, r2, r3, r4, r5, r6, r7, r8, r9]) rfl ⟨?_, QL.out⟩
          rw [HA.out, show okN n0 n1 n2 n3 n4 n5 n6 n7 = false by simp [okN, goods, good, E1.out, E2.out]]; rfl
    · have hi := I1.out
      have hc : wr.cell? ⟨B1_1, 1, none⟩ = some (.bool false) := ho.cell 1
      have hf := ho.free 1
      have hlt := ho.lt
      have hx : ∀ w, (Instr.index 9 (.string ⟨#[118, 114, 119, 120, 117, 103, 97, 100]⟩) (.int .i64 1)).run Tryz.prog w = .ok (.int .u8 114) w := fun _ => by kernel_rfl
      have HO := Lib.hid ho; clear ho
      go_wp2
      refine wp_region_held_drew (S := fun _ => True) (by kernel_rfl) trivial (fun hHeld => ?_)
      simp only [List.size_toArray, List.length_cons, List.length_nil, Nat.reduceAdd]
      rw [show Array.replicate 9 false = [false, false, false, false, false, false, false, false, false].toArray from rfl]
      refine wpAnyH_take (i := 0) (v := ?_) rfl (by kernel_rfl) (by kernel_rfl) (by kernel_rfl) (fun _ _ _ h => h) (Or.inl ⟨by rfl, ?yldq⟩) (by assumption) ?_
      case yldq => (intro w hSw; (try dsimp only at hSw); go_simp; try with_reducible rfl)
      try simp only [Act.put, List.setIfInBounds_toArray, List.set_cons_zero, List.set_cons_succ, List.getElem_toArray, List.getElem_cons_succ, List.getElem_cons_zero]
      refine wpAnyH_take (i := 1) (v := ?_) rfl (by kernel_rfl) (by kernel_rfl) (by kernel_rfl) (fun _ _ _ h => h) (Or.inl ⟨by rfl, ?yldq⟩) (by assumption) ?_
      case yldq => (intro w hSw; (try dsimp only at hSw); go_simp; try with_reducible rfl)
      try simp only [Act.put, List.setIfInBounds_toArray, List.set_cons_zero, List.set_cons_succ, List.getElem_toArray, List.getElem_cons_succ, List.getElem_cons_zero]
      refine wpAnyH_take (i := 2) (v := ?_) rfl (by kernel_rfl) (by kernel_rfl) (by kernel_rfl) (fun _ _ _ h => h) (Or.inl ⟨by rfl, ?yldq⟩) (by assumption) ?_
      case yldq => (intro w hSw; (try dsimp only at hSw); go_simp; try with_reducible rfl)
      try simp only [Act.put, List.setIfInBounds_toArray, List.set_cons_zero, List.set_cons_succ, List.getElem_toArray, List.getElem_cons_succ, List.getElem_cons_zero]
      refine wpAnyH_take (i := 3) (v := ?_) rfl (by kernel_rfl) (by kernel_rfl) (by kernel_rfl) (fun _ _ _ h => h) (Or.inl ⟨by rfl, ?yldq⟩) (by assumption) ?_
      case yldq => (intro w hSw; (try dsimp only at hSw); go_simp; try with_reducible rfl)
      try simp only [Act.put, List.setIfInBounds_toArray, List.set_cons_zero, List.set_cons_succ, List.getElem_toArray, List.getElem_cons_succ, List.getElem_cons_zero]
      refine wpAnyH_take (i := 4) (v := ?_) rfl (by kernel_rfl) (by kernel_rfl) (by kernel_rfl) (fun _ _ _ h => h) (Or.inl ⟨by rfl, ?yldq⟩) (by assumption) ?_
      case yldq => (intro w hSw; (try dsimp only at hSw); go_simp; try with_reducible rfl)
      try simp only [Act.put, List.setIfInBounds_toArray, List.set_cons_zero, List.set_cons_succ, List.getElem_toArray, List.getElem_cons_succ, List.getElem_cons_zero]
      refine wpAnyH_take (i := 5) (v := ?_) rfl (by kernel_rfl) (by kernel_rfl) (by kernel_rfl) (fun _ _ _ h => h) (Or.inl ⟨by rfl, ?yldq⟩) (by assumption) ?_
      case yldq => (intro w hSw; (try dsimp only at hSw); go_simp; try with_reducible rfl)
      try simp only [Act.put, List.setIfInBounds_toArray, List.set_cons_zero, List.set_cons_succ, List.getElem_toArray, List.getElem_cons_succ, List.getElem_cons_zero]
      refine wpAnyH_take (i := 6) (v := ?_) rfl (by kernel_rfl) (by kernel_rfl) (by kernel_rfl) (fun _ _ _ h => h) (Or.inl ⟨by rfl, ?yldq⟩) (by assumption) ?_
      case yldq => (intro w hSw; (try dsimp only at hSw); go_simp; try with_reducible rfl)
      try simp only [Act.put, List.setIfInBounds_toArray, List.set_cons_zero, List.set_cons_succ, List.getElem_toArray, List.getElem_cons_succ, List.getElem_cons_zero]
      refine wpAnyH_take (i := 7) (v := ?_) rfl (by kernel_rfl) (by kernel_rfl) (by kernel_rfl) (fun _ _ _ h => h) (Or.inl ⟨by rfl, ?yldq⟩) (by assumption) ?_
      case yldq => (intro w hSw; (try dsimp only at hSw); go_simp; try with_reducible rfl)
      try simp only [Act.put, List.setIfInBounds_toArray, List.set_cons_zero, List.set_cons_succ, List.getElem_toArray, List.getElem_cons_succ, List.getElem_cons_zero]
      refine wpAnyH_ready (rs := [8]) (by kernel_rfl) (by simp) ?_
      refine AllReadyH.cons rfl (fun K hK => ?_) AllReadyH.nil
      go_simp
      obtain ⟨w2, hw2⟩ : ∃ x, x = (wr.setCell ⟨B1_1, 1, none⟩ (.bool (n1 == 114))).drew := ⟨_, rfl⟩
      rw [← hw2]
      refine hK.out _ _ trivial (fun _ => ?_)
      clear hK K
      refine wpAnyH_done (by kernel_rfl) ?_ _
      have b2 : Blk w2 B1_1 (celN n0 n1 n2 n3 n4 n5 n6 n7 2) 197 := hw2 ▸ (HO.out.set 1 (.bool (n1 == 114)))
      have pp : Blk w2 B1_0 [.bool false, .bool false, .bool false, .bool false, .bool false, .bool false, .bool false, .bool false, .int .i64 0, .int .u64 0] 39 := hw2 ▸ (HP.out.other ⟨B1_1, 1, none⟩ (.bool (n1 == 114)) Y1_0_1.out)
      have l2 : Below w.heap.size w w2 := by
        rw [hw2]
        exact (Below.setCell HB.out G1_1.out _).drew
      clear hw2 hc hf hlt hx HO HP HB hHeld
      have hc : w2.cell? ⟨B1_1, 1, none⟩ = some (.bool (n1 == 114)) := b2.cell 1
      have hlt := b2.lt
      have p0 : ∃ u, w2.cell? ⟨B1_0, 0, none⟩ = some u := ⟨_, pp.cell 0⟩
      obtain ⟨q0, p0⟩ := p0
      have p1 : ∃ u, w2.cell? ⟨B1_0, 1, none⟩ = some u := ⟨_, pp.cell 1⟩
      obtain ⟨q1, p1⟩ := p1
      have p2 : ∃ u, w2.cell? ⟨B1_0, 2, none⟩ = some u := ⟨_, pp.cell 2⟩
      obtain ⟨q2, p2⟩ := p2
      have p3 : ∃ u, w2.cell? ⟨B1_0, 3, none⟩ = some u := ⟨_, pp.cell 3⟩
      obtain ⟨q3, p3⟩ := p3
      have p4 : ∃ u, w2.cell? ⟨B1_0, 4, none⟩ = some u := ⟨_, pp.cell 4⟩
      obtain ⟨q4, p4⟩ := p4
      have p5 : ∃ u, w2.cell? ⟨B1_0, 5, none⟩ = some u := ⟨_, pp.cell 5⟩
      obtain ⟨q5, p5⟩ := p5
      have p6 : ∃ u, w2.cell? ⟨B1_0, 6, none⟩ = some u := ⟨_, pp.cell 6⟩
      obtain ⟨q6, p6⟩ := p6
      have p7 : ∃ u, w2.cell? ⟨B1_0, 7, none⟩ = some u := ⟨_, pp.cell 7⟩
      obtain ⟨q7, p7⟩ := p7
      have p8 : ∃ u, w2.cell? ⟨B1_0, 8, none⟩ = some u := ⟨_, pp.cell 8⟩
      obtain ⟨q8, p8⟩ := p8
      have p9 : ∃ u, w2.cell? ⟨B1_0, 9, none⟩ = some u := ⟨_, pp.cell 9⟩
      obtain ⟨q9, p9⟩ := p9
      have pf : ∀ o, w2.frozen? ⟨B1_0, o, none⟩ = false := fun o => pp.free o
      have hlp := pp.lt
      have B2 := Lib.hid b2; have P2 := Lib.hid pp; have L2 := Lib.hid l2; clear b2 pp l2
      by_cases e1 : n1 = 114
      · have f1 : (n1 == 114) = true := by simp [e1]
        rw [f1] at hc
        have E1 := Lib.hid e1; clear e1 f1
        go_wp2
        go_roundw
        case rel => exact ⟨2, by omega, rfl, by have := HG.out; simp [goods, good] at this ⊢; simp [this, E1.out], P2.out, B2.out, L2.out⟩
        case measure => simp [intOf]
      · have f1 : (n1 == 114) = false := by simp [e1]
        rw [f1] at hc
        by_cases e2 : n1 = 45
        · have f2 : (n1 != 45) = false := by simp [e2]
          have E2 := Lib.hid e2; clear e1 e2 f1
          go_wp2
          go_roundw
          case rel => exact ⟨2, by omega, rfl, by have := HG.out; simp [goods, good] at this ⊢; simp [this, E2.out], P2.out, B2.out, L2.out⟩
          case measure => simp [intOf]
        · have f2 : (n1 != 45) = true := by simp [e2]
          have E1 := Lib.hid e1; have E2 := Lib.hid e2; clear e1 e2 f1
          go_wp2
          obtain ⟨W3, hW3⟩ : ∃ x, x = ((((((((((w2.setCell ⟨B1_0, 0, none⟩ (.bool false)).setCell ⟨B1_0, 1, none⟩ (.bool false)).setCell ⟨B1_0, 2, none⟩ (.bool false)).setCell ⟨B1_0, 3, none⟩ (.bool false)).setCell ⟨B1_0, 4, none⟩ (.bool false)).setCell ⟨B1_0, 5, none⟩ (.bool false)).setCell ⟨B1_0, 6, none⟩ (.bool false)).setCell ⟨B1_0, 7, none⟩ (.bool false)).setCell ⟨B1_0, 8, none⟩ (.int .i64 0)).setCell ⟨B1_0, 9, none⟩ (.int .u64 0)) := ⟨_, rfl⟩
          rw [← hW3]
          have b3 : Blk W3 B1_0 [.bool false, .bool false, .bool false, .bool false, .bool false, .bool false, .bool false, .bool false, .int .i64 0, .int .u64 0] 39 := hW3 ▸ ((((((((((P2.out.set 0 (.bool false)).set 1 (.bool false)).set 2 (.bool false)).set 3 (.bool false)).set 4 (.bool false)).set 5 (.bool false)).set 6 (.bool false)).set 7 (.bool false)).set 8 (.int .i64 0)).set 9 (.int .u64 0))
          have l3 : Below w.heap.size w W3 := hW3 ▸ (Below.setCell (Below.setCell (Below.setCell (Below.setCell (Below.setCell (Below.setCell (Below.setCell (Below.setCell (Below.setCell (Below.setCell L2.out G1_0.out _) G1_0.out _) G1_0.out _) G1_0.out _) G1_0.out _) G1_0.out _) G1_0.out _) G1_0.out _) G1_0.out _) G1_0.out _)
          clear hW3
          have r0 := b3.c0
          have r1 := b3.c1
          have r2 := b3.c2
          have r3 := b3.c3
          have r4 := b3.c4
          have r5 := b3.c5
          have r6 := b3.c6
          have r7 := b3.c7
          have r8 := b3.c8
          have r9 := b3.c9
          have Q3 := Lib.hid b3; have QL := Lib.hid l3; clear b3 l3
          refine bodyPost_ret (v := .tuple #[.agg #[.bool false, .bool false, .bool false, .bool false, .bool false, .bool false, .bool false, .bool false, .int .i64 0, .int .u64 0], .bool false]) (by simp [results, Tryz.results100, go_sem, r0, r1, r2, r3, r4, r5, r6, r7, r8, r9]) rfl ⟨?_, QL.out⟩
          rw [HA.out, show okN n0 n1 n2 n3 n4 n5 n6 n7 = false by simp [okN, goods, good, E1.out, E2.out]]; rfl
    · have hi := I2.out
      have hc : wr.cell? ⟨B1_1, 2, none⟩ = some (.bool false) := ho.cell 2
      have hf := ho.free 2
      have hlt := ho.lt
      have hx : ∀ w, (Instr.index 9 (.string ⟨#[118, 114, 119, 120, 117, 103, 97, 100]⟩) (.int .i64 2)).run Tryz.prog w = .ok (.int .u8 119) w := fun _ => by kernel_rfl
      have HO := Lib.hid ho; clear ho
      go_wp2
      refine wp_region_held_drew (S := fun _ => True) (by kernel_rfl) trivial (fun hHeld => ?_)
      simp only [List.size_toArray, List.length_cons, List.length_nil, Nat.reduceAdd]
      rw [show Array.replicate 9 false = [false, false, false, false, false, false, false, false, false].toArray from rfl]
      refine wpAnyH_take (i := 0) (v := ?_) rfl (by kernel_rfl) (by kernel_rfl) (by kernel_rfl) (fun _ _ _ h => h) (Or.inl ⟨by rfl, ?yldq⟩) (by assumption) ?_
      case yldq => (intro w hSw; (try dsimp only at hSw); go_simp; try with_reducible rfl)
      try simp only [Act.put, List.setIfInBounds_toArray, List.set_cons_zero, List.set_cons_succ, List.getElem_toArray, List.getElem_cons_succ, List.getElem_cons_zero]
      refine wpAnyH_take (i := 1) (v := ?_) rfl (by kernel_rfl) (by kernel_rfl) (by kernel_rfl) (fun _ _ _ h => h) (Or.inl ⟨by rfl, ?yldq⟩) (by assumption) ?_
      case yldq => (intro w hSw; (try dsimp only at hSw); go_simp; try with_reducible rfl)
      try simp only [Act.put, List.setIfInBounds_toArray, List.set_cons_zero, List.set_cons_succ, List.getElem_toArray, List.getElem_cons_succ, List.getElem_cons_zero]
      refine wpAnyH_take (i := 2) (v := ?_) rfl (by kernel_rfl) (by kernel_rfl) (by kernel_rfl) (fun _ _ _ h => h) (Or.inl ⟨by rfl, ?yldq⟩) (by assumption) ?_
      case yldq => (intro w hSw; (try dsimp only at hSw); go_simp; try with_reducible rfl)
      try simp only [Act.put, List.setIfInBounds_toArray, List.set_cons_zero, List.set_cons_succ, List.getElem_toArray, List.getElem_cons_succ, List.getElem_cons_zero]
      refine wpAnyH_take (i := 3) (v := ?_) rfl (by kernel_rfl) (by kernel_rfl) (by kernel_rfl) (fun _ _ _ h => h) (Or.inl ⟨by rfl, ?yldq⟩) (by assumption) ?_
      case yldq => (intro w hSw; (try dsimp only at hSw); go_simp; try with_reducible rfl)
      try simp only [Act.put, List.setIfInBounds_toArray, List.set_cons_zero, List.set_cons_succ, List.getElem_toArray, List.getElem_cons_succ, List.getElem_cons_zero]
      refine wpAnyH_take (i := 4) (v := ?_) rfl (by kernel_rfl) (by kernel_rfl) (by kernel_rfl) (fun _ _ _ h => h) (Or.inl ⟨by rfl, ?yldq⟩) (by assumption) ?_
      case yldq => (intro w hSw; (try dsimp only at hSw); go_simp; try with_reducible rfl)
      try simp only [Act.put, List.setIfInBounds_toArray, List.set_cons_zero, List.set_cons_succ, List.getElem_toArray, List.getElem_cons_succ, List.getElem_cons_zero]
      refine wpAnyH_take (i := 5) (v := ?_) rfl (by kernel_rfl) (by kernel_rfl) (by kernel_rfl) (fun _ _ _ h => h) (Or.inl ⟨by rfl, ?yldq⟩) (by assumption) ?_
      case yldq => (intro w hSw; (try dsimp only at hSw); go_simp; try with_reducible rfl)
      try simp only [Act.put, List.setIfInBounds_toArray, List.set_cons_zero, List.set_cons_succ, List.getElem_toArray, List.getElem_cons_succ, List.getElem_cons_zero]
      refine wpAnyH_take (i := 6) (v := ?_) rfl (by kernel_rfl) (by kernel_rfl) (by kernel_rfl) (fun _ _ _ h => h) (Or.inl ⟨by rfl, ?yldq⟩) (by assumption) ?_
      case yldq => (intro w hSw; (try dsimp only at hSw); go_simp; try with_reducible rfl)
      try simp only [Act.put, List.setIfInBounds_toArray, List.set_cons_zero, List.set_cons_succ, List.getElem_toArray, List.getElem_cons_succ, List.getElem_cons_zero]
      refine wpAnyH_take (i := 7) (v := ?_) rfl (by kernel_rfl) (by kernel_rfl) (by kernel_rfl) (fun _ _ _ h => h) (Or.inl ⟨by rfl, ?yldq⟩) (by assumption) ?_
      case yldq => (intro w hSw; (try dsimp only at hSw); go_simp; try with_reducible rfl)
      try simp only [Act.put, List.setIfInBounds_toArray, List.set_cons_zero, List.set_cons_succ, List.getElem_toArray, List.getElem_cons_succ, List.getElem_cons_zero]
      refine wpAnyH_ready (rs := [8]) (by kernel_rfl) (by simp) ?_
      refine AllReadyH.cons rfl (fun K hK => ?_) AllReadyH.nil
      go_simp
      obtain ⟨w2, hw2⟩ : ∃ x, x = (wr.setCell ⟨B1_1, 2, none⟩ (.bool (n2 == 119))).drew := ⟨_, rfl⟩
      rw [← hw2]
      refine hK.out _ _ trivial (fun _ => ?_)
      clear hK K
      refine wpAnyH_done (by kernel_rfl) ?_ _
      have b2 : Blk w2 B1_1 (celN n0 n1 n2 n3 n4 n5 n6 n7 3) 197 := hw2 ▸ (HO.out.set 2 (.bool (n2 == 119)))
      have pp : Blk w2 B1_0 [.bool false, .bool false, .bool false, .bool false, .bool false, .bool false, .bool false, .bool false, .int .i64 0, .int .u64 0] 39 := hw2 ▸ (HP.out.other ⟨B1_1, 2, none⟩ (.bool (n2 == 119)) Y1_0_1.out)
      have l2 : Below w.heap.size w w2 := by
        rw [hw2]
        exact (Below.setCell HB.out G1_1.out _).drew
      clear hw2 hc hf hlt hx HO HP HB hHeld
      have hc : w2.cell? ⟨B1_1, 2, none⟩ = some (.bool (n2 == 119)) := b2.cell 2
      have hlt := b2.lt
      have p0 : ∃ u, w2.cell? ⟨B1_0, 0, none⟩ = some u := ⟨_, pp.cell 0⟩
      obtain ⟨q0, p0⟩ := p0
      have p1 : ∃ u, w2.cell? ⟨B1_0, 1, none⟩ = some u := ⟨_, pp.cell 1⟩
      obtain ⟨q1, p1⟩ := p1
      have p2 : ∃ u, w2.cell? ⟨B1_0, 2, none⟩ = some u := ⟨_, pp.cell 2⟩
      obtain ⟨q2, p2⟩ := p2
      have p3 : ∃ u, w2.cell? ⟨B1_0, 3, none⟩ = some u := ⟨_, pp.cell 3⟩
      obtain ⟨q3, p3⟩ := p3
      have p4 : ∃ u, w2.cell? ⟨B1_0, 4, none⟩ = some u := ⟨_, pp.cell 4⟩
      obtain ⟨q4, p4⟩ := p4
      have p5 : ∃ u, w2.cell? ⟨B1_0, 5, none⟩ = some u := ⟨_, pp.cell 5⟩
      obtain ⟨q5, p5⟩ := p5
      have p6 : ∃ u, w2.cell? ⟨B1_0, 6, none⟩ = some u := ⟨_, pp.cell 6⟩
      obtain ⟨q6, p6⟩ := p6
      have p7 : ∃ u, w2.cell? ⟨B1_0, 7, none⟩ = some u := ⟨_, pp.cell 7⟩
      obtain ⟨q7, p7⟩ := p7
      have p8 : ∃ u, w2.cell? ⟨B1_0, 8, none⟩ = some u := ⟨_, pp.cell 8⟩
      obtain ⟨q8, p8⟩ := p8
      have p9 : ∃ u, w2.cell? ⟨B1_0, 9, none⟩ = some u := ⟨_, pp.cell 9⟩
      obtain ⟨q9, p9⟩ := p9
      have pf : ∀ o, w2.frozen? ⟨B1_0, o, none⟩ = false := fun o => pp.free o
      have hlp := pp.lt
      have B2 := Lib.hid b2; have P2 := Lib.hid pp; have L2 := Lib.hid l2; clear b2 pp l2
      by_cases e1 : n2 = 119
      · have f1 : (n2 == 119) = true := by simp [e1]
        rw [f1] at hc
        have E1 := Lib.hid e1; clear e1 f1
        go_wp2
        go_roundw
        case rel => exact ⟨3, by omega, rfl, by have := HG.out; simp [goods, good] at this ⊢; simp [this, E1.out], P2.out, B2.out, L2.out⟩
        case measure => simp [intOf]
      · have f1 : (n2 == 119) = false := by simp [e1]
        rw [f1] at hc
        by_cases e2 : n2 = 45
        · have f2 : (n2 != 45) = false := by simp [e2]
          have E2 := Lib.hid e2; clear e1 e2 f1
          go_wp2
          go_roundw
          case rel => exact ⟨3, by omega, rfl, by have := HG.out; simp [goods, good] at this ⊢; simp [this, E2.out], P2.out, B2.out, L2.out⟩
          case measure => simp [intOf]
        · have f2 : (n2 != 45) = true := by simp [e2]
          have E1 := Lib.hid e1; have E2 := Lib.hid e2; clear e1 e2 f1
          go_wp2
          obtain ⟨W3, hW3⟩ : ∃ x, x = ((((((((((w2.setCell ⟨B1_0, 0, none⟩ (.bool false)).setCell ⟨B1_0, 1, none⟩ (.bool false)).setCell ⟨B1_0, 2, none⟩ (.bool false)).setCell ⟨B1_0, 3, none⟩ (.bool false)).setCell ⟨B1_0, 4, none⟩ (.bool false)).setCell ⟨B1_0, 5, none⟩ (.bool false)).setCell ⟨B1_0, 6, none⟩ (.bool false)).setCell ⟨B1_0, 7, none⟩ (.bool false)).setCell ⟨B1_0, 8, none⟩ (.int .i64 0)).setCell ⟨B1_0, 9, none⟩ (.int .u64 0)) := ⟨_, rfl⟩
          rw [← hW3]
          have b3 : Blk W3 B1_0 [.bool false, .bool false, .bool false, .bool false, .bool false, .bool false, .bool false, .bool false, .int .i64 0, .int .u64 0] 39 := hW3 ▸ ((((((((((P2.out.set 0 (.bool false)).set 1 (.bool false)).set 2 (.bool false)).set 3 (.bool false)).set 4 (.bool false)).set 5 (.bool false)).set 6 (.bool false)).set 7 (.bool false)).set 8 (.int .i64 0)).set 9 (.int .u64 0))
          have l3 : Below w.heap.size w W3 := hW3 ▸ (Below.setCell (Below.setCell (Below.setCell (Below.setCell (Below.setCell (Below.setCell (Below.setCell (Below.setCell (Below.setCell (Below.setCell L2.out G1_0.out _) G1_0.out _) G1_0.out _) G1_0.out _) G1_0.out _) G1_0.out _) G1_0.out _) G1_0.out _) G1_0.out _) G1_0.out _)
          clear hW3
          have r0 := b3.c0
          have r1 := b3.c1
          have r2 := b3.c2
          have r3 := b3.c3
          have r4 := b3.c4
          have r5 := b3.c5
          have r6 := b3.c6
          have r7 := b3.c7
          have r8 := b3.c8
          have r9 := b3.c9
          have Q3 := Lib.hid b3; have QL := Lib.hid l3; clear b3 l3
          refine bodyPost_ret (v := .tuple #[.agg #[.bool false, .bool false, .bool false, .bool false, .bool false, .bool false, .bool false, .bool false, .int .i64 0, .int .u64 0], .bool false]) (by simp [results, Tryz.results100, go_sem, r0, r1, r2, r3, r4, r5, r6, r7, r8, r9]) rfl ⟨?_, QL.out⟩
          rw [HA.out, show okN n0 n1 n2 n3 n4 n5 n6 n7 = false by simp [okN, goods, good, E1.out, E2.out]]; rfl
    · have hi := I3.out
      have hc : wr.cell? ⟨B1_1, 3, none⟩ = some (.bool false) := ho.cell 3
      have hf := ho.free 3
      have hlt := ho.lt
      have hx : ∀ w, (Instr.index 9 (.string ⟨#[118, 114, 119, 120, 117, 103, 97, 100]⟩) (.int .i64 3)).run Tryz.prog w = .ok (.int .u8 120) w := fun _ => by kernel_rfl
      have HO := Lib.hid ho; clear ho
      go_wp2
      refine wp_region_held_drew (S := fun _ => True) (by kernel_rfl) trivial (fun hHeld => ?_)
      simp only [List.size_toArray, List.length_cons, List.length_nil, Nat.reduceAdd]
      rw [show Array.replicate 9 false = [false, false, false, false, false, false, false, false, false].toArray from rfl]
      refine wpAnyH_take (i := 0) (v := ?_) rfl (by kernel_rfl) (by kernel_rfl) (by kernel_rfl) (fun _ _ _ h => h) (Or.inl ⟨by rfl, ?yldq⟩) (by assumption) ?_
      case yldq => (intro w hSw; (try dsimp only at hSw); go_simp; try with_reducible rfl)
      try simp only [Act.put, List.setIfInBounds_toArray, List.set_cons_zero, List.set_cons_succ, List.getElem_toArray, List.getElem_cons_succ, List.getElem_cons_zero]
      refine wpAnyH_take (i := 1) (v := ?_) rfl (by kernel_rfl) (by kernel_rfl) (by kernel_rfl) (fun _ _ _ h => h) (Or.inl ⟨by rfl, ?yldq⟩) (by assumption) ?_
      case yldq => (intro w hSw; (try dsimp only at hSw); go_simp; try with_reducible rfl)
      try simp only [Act.put, List.setIfInBounds_toArray, List.set_cons_zero, List.set_cons_succ, List.getElem_toArray, List.getElem_cons_succ, List.getElem_cons_zero]
      refine wpAnyH_take (i := 2) (v := ?_) rfl (by kernel_rfl) (by kernel_rfl) (by kernel_rfl) (fun _ _ _ h => h) (Or.inl ⟨by rfl, ?yldq⟩) (by assumption) ?_
      case yldq => (intro w hSw; (try dsimp only at hSw); go_simp; try with_reducible rfl)
      try simp only [Act.put, List.setIfInBounds_toArray, List.set_cons_zero, List.set_cons_succ, List.getElem_toArray, List.getElem_cons_succ, List.getElem_cons_zero]
      refine wpAnyH_take (i := 3) (v := ?_) rfl (by kernel_rfl) (by kernel_rfl) (by kernel_rfl) (fun _ _ _ h => h) (Or.inl ⟨by rfl, ?yldq⟩) (by assumption) ?_
      case yldq => (intro w hSw; (try dsimp only at hSw); go_simp; try with_reducible rfl)
      try simp only [Act.put, List.setIfInBounds_toArray, List.set_cons_zero, List.set_cons_succ, List.getElem_toArray, List.getElem_cons_succ, List.getElem_cons_zero]
      refine wpAnyH_take (i := 4) (v := ?_) rfl (by kernel_rfl) (by kernel_rfl) (by kernel_rfl) (fun _ _ _ h => h) (Or.inl ⟨by rfl, ?yldq⟩) (by assumption) ?_
      case yldq => (intro w hSw; (try dsimp only at hSw); go_simp; try with_reducible rfl)
      try simp only [Act.put, List.setIfInBounds_toArray, List.set_cons_zero, List.set_cons_succ, List.getElem_toArray, List.getElem_cons_succ, List.getElem_cons_zero]
      refine wpAnyH_take (i := 5) (v := ?_) rfl (by kernel_rfl) (by kernel_rfl) (by kernel_rfl) (fun _ _ _ h => h) (Or.inl ⟨by rfl, ?yldq⟩) (by assumption) ?_
      case yldq => (intro w hSw; (try dsimp only at hSw); go_simp; try with_reducible rfl)
      try simp only [Act.put, List.setIfInBounds_toArray, List.set_cons_zero, List.set_cons_succ, List.getElem_toArray, List.getElem_cons_succ, List.getElem_cons_zero]
      refine wpAnyH_take (i := 6) (v := ?_) rfl (by kernel_rfl) (by kernel_rfl) (by kernel_rfl) (fun _ _ _ h => h) (Or.inl ⟨by rfl, ?yldq⟩) (by assumption) ?_
      case yldq => (intro w hSw; (try dsimp only at hSw); go_simp; try with_reducible rfl)
      try simp only [Act.put, List.setIfInBounds_toArray, List.set_cons_zero, List.set_cons_succ, List.getElem_toArray, List.getElem_cons_succ, List.getElem_cons_zero]
      refine wpAnyH_take (i := 7) (v := ?_) rfl (by kernel_rfl) (by kernel_rfl) (by kernel_rfl) (fun _ _ _ h => h) (Or.inl ⟨by rfl, ?yldq⟩) (by assumption) ?_
      case yldq => (intro w hSw; (try dsimp only at hSw); go_simp; try with_reducible rfl)
      try simp only [Act.put, List.setIfInBounds_toArray, List.set_cons_zero, List.set_cons_succ, List.getElem_toArray, List.getElem_cons_succ, List.getElem_cons_zero]
      refine wpAnyH_ready (rs := [8]) (by kernel_rfl) (by simp) ?_
      refine AllReadyH.cons rfl (fun K hK => ?_) AllReadyH.nil
      go_simp
      obtain ⟨w2, hw2⟩ : ∃ x, x = (wr.setCell ⟨B1_1, 3, none⟩ (.bool (n3 == 120))).drew := ⟨_, rfl⟩
      rw [← hw2]
      refine hK.out _ _ trivial (fun _ => ?_)
      clear hK K
      refine wpAnyH_done (by kernel_rfl) ?_ _
      have b2 : Blk w2 B1_1 (celN n0 n1 n2 n3 n4 n5 n6 n7 4) 197 := hw2 ▸ (HO.out.set 3 (.bool (n3 == 120)))
      have pp : Blk w2 B1_0 [.bool false, .bool false, .bool false, .bool false, .bool false, .bool false, .bool false, .bool false, .int .i64 0, .int .u64 0] 39 := hw2 ▸ (HP.out.other ⟨B1_1, 3, none⟩ (.bool (n3 == 120)) Y1_0_1.out)
      have l2 : Below w.heap.size w w2 := by
        rw [hw2]
        exact (Below.setCell HB.out G1_1.out _).drew
      clear hw2 hc hf hlt hx HO HP HB hHeld
      have hc : w2.cell? ⟨B1_1, 3, none⟩ = some (.bool (n3 == 120)) := b2.cell 3
      have hlt := b2.lt
      have p0 : ∃ u, w2.cell? ⟨B1_0, 0, none⟩ = some u := ⟨_, pp.cell 0⟩
      obtain ⟨q0, p0⟩ := p0
      have p1 : ∃ u, w2.cell? ⟨B1_0, 1, none⟩ = some u := ⟨_, pp.cell 1⟩
      obtain ⟨q1, p1⟩ := p1
      have p2 : ∃ u, w2.cell? ⟨B1_0, 2, none⟩ = some u := ⟨_, pp.cell 2⟩
      obtain ⟨q2, p2⟩ := p2
      have p3 : ∃ u, w2.cell? ⟨B1_0, 3, none⟩ = some u := ⟨_, pp.cell 3⟩
      obtain ⟨q3, p3⟩ := p3
      have p4 : ∃ u, w2.cell? ⟨B1_0, 4, none⟩ = some u := ⟨_, pp.cell 4⟩
      obtain ⟨q4, p4⟩ := p4
      have p5 : ∃ u, w2.cell? ⟨B1_0, 5, none⟩ = some u := ⟨_, pp.cell 5⟩
      obtain ⟨q5, p5⟩ := p5
      have p6 : ∃ u, w2.cell? ⟨B1_0, 6, none⟩ = some u := ⟨_, pp.cell 6⟩
      obtain ⟨q6, p6⟩ := p6
      have p7 : ∃ u, w2.cell? ⟨B1_0, 7, none⟩ = some u := ⟨_, pp.cell 7⟩
      obtain ⟨q7, p7⟩ := p7
      have p8 : ∃ u, w2.cell? ⟨B1_0, 8, none⟩ = some u := ⟨_, pp.cell 8⟩
      obtain ⟨q8, p8⟩ := p8
      have p9 : ∃ u, w2.cell? ⟨B1_0, 9, none⟩ = some u := ⟨_, pp.cell 9⟩
      obtain ⟨q9, p9⟩ := p9
      have pf : ∀ o, w2.frozen? ⟨B1_0, o, none⟩ = false := fun o => pp.free o
      have hlp := pp.lt
      have B2 := Lib.hid b2; have P2 := Lib.hid pp; have L2 := Lib.hid l2; clear b2 pp l2
      by_cases e1 : n3 = 120
      · have f1 : (n3 == 120) = true := by simp [e1]
        rw [f1] at hc
        have E1 := Lib.hid e1; clear e1 f1
        go_wp2
        go_roundw
        case rel => exact ⟨4, by omega, rfl, by have := HG.out; simp [goods, good] at this ⊢; simp [this, E1.out], P2.out, B2.out, L2.out⟩
        case measure => simp [intOf]
      · have f1 : (n3 == 120) = false := by simp [e1]
        rw [f1] at hc
        by_cases e2 : n3 = 45
        · have f2 : (n3 != 45) = false := by simp [e2]
          have E2 := Lib.hid e2; clear e1 e2 f1
          go_wp2
          go_roundw
          case rel => exact ⟨4, by omega, rfl, by have := HG.out; simp [goods, good] at this ⊢; simp [this, E2.out], P2.out, B2.out, L2.out⟩
          case measure => simp [intOf]
        · have f2 : (n3 != 45) = true := by simp [e2]
          have E1 := Lib.hid e1; have E2 := Lib.hid e2; clear e1 e2 f1
          go_wp2
          obtain ⟨W3, hW3⟩ : ∃ x, x = ((((((((((w2.setCell ⟨B1_0, 0, none⟩ (.bool false)).setCell ⟨B1_0, 1, none⟩ (.bool false)).setCell ⟨B1_0, 2, none⟩ (.bool false)).setCell ⟨B1_0, 3, none⟩ (.bool false)).setCell ⟨B1_0, 4, none⟩ (.bool false)).setCell ⟨B1_0, 5, none⟩ (.bool false)).setCell ⟨B1_0, 6, none⟩ (.bool false)).setCell ⟨B1_0, 7, none⟩ (.bool false)).setCell ⟨B1_0, 8, none⟩ (.int .i64 0)).setCell ⟨B1_0, 9, none⟩ (.int .u64 0)) := ⟨_, rfl⟩
          rw [← hW3]
          have b3 : Blk W3 B1_0 [.bool false, .bool false, .bool false, .bool false, .bool false, .bool false, .bool false, .bool false, .int .i64 0, .int .u64 0] 39 := hW3 ▸ ((((((((((P2.out.set 0 (.bool false)).set 1 (.bool false)).set 2 (.bool false)).set 3 (.bool false)).set 4 (.bool false)).set 5 (.bool false)).set 6 (.bool false)).set 7 (.bool false)).set 8 (.int .i64 0)).set 9 (.int .u64 0))
          have l3 : Below w.heap.size w W3 := hW3 ▸ (Below.setCell (Below.setCell (Below.setCell (Below.setCell (Below.setCell (Below.setCell (Below.setCell (Below.setCell (Below.setCell (Below.setCell L2.out G1_0.out _) G1_0.out _) G1_0.out _) G1_0.out _) G1_0.out _) G1_0.out _) G1_0.out _) G1_0.out _) G1_0.out _) G1_0.out _)
          clear hW3
          have r0 := b3.c0
          have r1 := b3.c1
          have r2 := b3.c2
          have r3 := b3.c3
          have r4 := b3.c4
          have r5 := b3.c5
          have r6 := b3.c6
          have r7 := b3.c7
          have r8 := b3.c8
          have r9 := b3.c9
          have Q3 := Lib.hid b3; have QL := Lib.hid l3; clear b3 l3
          refine bodyPost_ret (v := .tuple #[.agg #[.bool false, .bool false, .bool false, .bool false, .bool false, .bool false, .bool false, .bool false, .int .i64 0, .int .u64 0], .bool false]) (by simp [results, Tryz.results100, go_sem, r0, r1, r2, r3, r4, r5, r6, r7, r8, r9]) rfl ⟨?_, QL.out⟩
          rw [HA.out, show okN n0 n1 n2 n3 n4 n5 n6 n7 = false by simp [okN, goods, good, E1.out, E2.out]]; rfl
    · have hi := I4.out
      have hc : wr.cell? ⟨B1_1, 4, none⟩ = some (.bool false) := ho.cell 4
      have hf := ho.free 4
      have hlt := ho.lt
      have hx : ∀ w, (Instr.index 9 (.string ⟨#[118, 114, 119, 120, 117, 103, 97, 100]⟩) (.int .i64 4)).run Tryz.prog w = .ok (.int .u8 117) w := fun _ => by kernel_rfl
      have HO := Lib.hid ho; clear ho
      go_wp2
      refine wp_region_held_drew (S := fun _ => True) (by kernel_rfl) trivial (fun hHeld => ?_)
      simp only [List.size_toArray, List.length_cons, List.length_nil, Nat.reduceAdd]
      rw [show Array.replicate 9 false = [false, false, false, false, false, false, false, false, false].toArray from rfl]
      refine wpAnyH_take (i := 0) (v := ?_) rfl (by kernel_rfl) (by kernel_rfl) (by kernel_rfl) (fun _ _ _ h => h) (Or.inl ⟨by rfl, ?yldq⟩) (by assumption) ?_
      case yldq => (intro w hSw; (try dsimp only at hSw); go_simp; try with_reducible rfl)
      try simp only [Act.put, List.setIfInBounds_toArray, List.set_cons_zero, List.set_cons_succ, List.getElem_toArray, List.getElem_cons_succ, List.getElem_cons_zero]
      refine wpAnyH_take (i := 1) (v := ?_) rfl (by kernel_rfl) (by kernel_rfl) (by kernel_rfl) (fun _ _ _ h => h) (Or.inl ⟨by rfl, ?yldq⟩) (by assumption) ?_
      case yldq => (intro w hSw; (try dsimp only at hSw); go_simp; try with_reducible rfl)
      try simp only [Act.put, List.setIfInBounds_toArray, List.set_cons_zero, List.set_cons_succ, List.getElem_toArray, List.getElem_cons_succ, List.getElem_cons_zero]
      refine wpAnyH_take (i := 2) (v := ?_) rfl (by kernel_rfl) (by kernel_rfl) (by kernel_rfl) (fun _ _ _ h => h) (Or.inl ⟨by rfl, ?yldq⟩) (by assumption) ?_
      case yldq => (intro w hSw; (try dsimp only at hSw); go_simp; try with_reducible rfl)
      try simp only [Act.put, List.setIfInBounds_toArray, List.set_cons_zero, List.set_cons_succ, List.getElem_toArray, List.getElem_cons_succ, List.getElem_cons_zero]
      refine wpAnyH_take (i := 3) (v := ?_) rfl (by kernel_rfl) (by kernel_rfl) (by kernel_rfl) (fun _ _ _ h => h) (Or.inl ⟨by rfl, ?yldq⟩) (by assumption) ?_
      case yldq => (intro w hSw; (try dsimp only at hSw); go_simp; try with_reducible rfl)
      try simp only [Act.put, List.setIfInBounds_toArray, List.set_cons_zero, List.set_cons_succ, List.getElem_toArray, List.getElem_cons_succ, List.getElem_cons_zero]
      refine wpAnyH_take (i := 4) (v := ?_) rfl (by kernel_rfl) (by kernel_rfl) (by kernel_rfl) (fun _ _ _ h => h) (Or.inl ⟨by rfl, ?yldq⟩) (by assumption) ?_
      case yldq => (intro w hSw; (try dsimp only at hSw); go_simp; try with_reducible rfl)
      try simp only [Act.put, List.setIfInBounds_toArray, List.set_cons_zero, List.set_cons_succ, List.getElem_toArray, List.getElem_cons_succ, List.getElem_cons_zero]
      refine wpAnyH_take (i := 5) (v := ?_) rfl (by kernel_rfl) (by kernel_rfl) (by kernel_rfl) (fun _ _ _ h => h) (Or.inl ⟨by rfl, ?yldq⟩) (by assumption) ?_
      case yldq => (intro w hSw; (try dsimp only at hSw); go_simp; try with_reducible rfl)
      try simp only [Act.put, List.setIfInBounds_toArray, List.set_cons_zero, List.set_cons_succ, List.getElem_toArray, List.getElem_cons_succ, List.getElem_cons_zero]
      refine wpAnyH_take (i := 6) (v := ?_) rfl (by kernel_rfl) (by kernel_rfl) (by kernel_rfl) (fun _ _ _ h => h) (Or.inl ⟨by rfl, ?yldq⟩) (by assumption) ?_
      case yldq => (intro w hSw; (try dsimp only at hSw); go_simp; try with_reducible rfl)
      try simp only [Act.put, List.setIfInBounds_toArray, List.set_cons_zero, List.set_cons_succ, List.getElem_toArray, List.getElem_cons_succ, List.getElem_cons_zero]
      refine wpAnyH_take (i := 7) (v := ?_) rfl (by kernel_rfl) (by kernel_rfl) (by kernel_rfl) (fun _ _ _ h => h) (Or.inl ⟨by rfl, ?yldq⟩) (by assumption) ?_
      case yldq => (intro w hSw; (try dsimp only at hSw); go_simp; try with_reducible rfl)
      try simp only [Act.put, List.setIfInBounds_toArray, List.set_cons_zero, List.set_cons_succ, List.getElem_toArray, List.getElem_cons_succ, List.getElem_cons_zero]
      refine wpAnyH_ready (rs := [8]) (by kernel_rfl) (by simp) ?_
      refine AllReadyH.cons rfl (fun K hK => ?_) AllReadyH.nil
      go_simp
      obtain ⟨w2, hw2⟩ : ∃ x, x = (wr.setCell ⟨B1_1, 4, none⟩ (.bool (n4 == 117))).drew := ⟨_, rfl⟩
      rw [← hw2]
      refine hK.out _ _ trivial (fun _ => ?_)
      clear hK K
      refine wpAnyH_done (by kernel_rfl) ?_ _
      have b2 : Blk w2 B1_1 (celN n0 n1 n2 n3 n4 n5 n6 n7 5) 197 := hw2 ▸ (HO.out.set 4 (.bool (n4 == 117)))
      have pp : Blk w2 B1_0 [.bool false, .bool false, .bool false, .bool false, .bool false, .bool false, .bool false, .bool false, .int .i64 0, .int .u64 0] 39 := hw2 ▸ (HP.out.other ⟨B1_1, 4, none⟩ (.bool (n4 == 117)) Y1_0_1.out)
      have l2 : Below w.heap.size w w2 := by
        rw [hw2]
        exact (Below.setCell HB.out G1_1.out _).drew
      clear hw2 hc hf hlt hx HO HP HB hHeld
      have hc : w2.cell? ⟨B1_1, 4, none⟩ = some (.bool (n4 == 117)) := b2.cell 4
      have hlt := b2.lt
      have p0 : ∃ u, w2.cell? ⟨B1_0, 0, none⟩ = some u := ⟨_, pp.cell 0⟩
      obtain ⟨q0, p0⟩ := p0
      have p1 : ∃ u, w2.cell? ⟨B1_0, 1, none⟩ = some u := ⟨_, pp.cell 1⟩
      obtain ⟨q1, p1⟩ := p1
      have p2 : ∃ u, w2.cell? ⟨B1_0, 2, none⟩ = some u := ⟨_, pp.cell 2⟩
      obtain ⟨q2, p2⟩ := p2
      have p3 : ∃ u, w2.cell? ⟨B1_0, 3, none⟩ = some u := ⟨_, pp.cell 3⟩
      obtain ⟨q3, p3⟩ := p3
      have p4 : ∃ u, w2.cell? ⟨B1_0, 4, none⟩ = some u := ⟨_, pp.cell 4⟩
      obtain ⟨q4, p4⟩ := p4
      have p5 : ∃ u, w2.cell? ⟨B1_0, 5, none⟩ = some u := ⟨_, pp.cell 5⟩
      obtain ⟨q5, p5⟩ := p5
      have p6 : ∃ u, w2.cell? ⟨B1_0, 6, none⟩ = some u := ⟨_, pp.cell 6⟩
      obtain ⟨q6, p6⟩ := p6
      have p7 : ∃ u, w2.cell? ⟨B1_0, 7, none⟩ = some u := ⟨_, pp.cell 7⟩
      obtain ⟨q7, p7⟩ := p7
      have p8 : ∃ u, w2.cell? ⟨B1_0, 8, none⟩ = some u := ⟨_, pp.cell 8⟩
      obtain ⟨q8, p8⟩ := p8
      have p9 : ∃ u, w2.cell? ⟨B1_0, 9, none⟩ = some u := ⟨_, pp.cell 9⟩
      obtain ⟨q9, p9⟩ := p9
      have pf : ∀ o, w2.frozen? ⟨B1_0, o, none⟩ = false := fun o => pp.free o
      have hlp := pp.lt
      have B2 := Lib.hid b2; have P2 := Lib.hid pp; have L2 := Lib.hid l2; clear b2 pp l2
      by_cases e1 : n4 = 117
      · have f1 : (n4 == 117) = true := by simp [e1]
        rw [f1] at hc
        have E1 := Lib.hid e1; clear e1 f1
        go_wp2
        go_roundw
        case rel => exact ⟨5, by omega, rfl, by have := HG.out; simp [goods, good] at this ⊢; simp [this, E1.out], P2.out, B2.out, L2.out⟩
        case measure => simp [intOf]
      · have f1 : (n4 == 117) = false := by simp [e1]
        rw [f1] at hc
        by_cases e2 : n4 = 45
        · have f2 : (n4 != 45) = false := by simp [e2]
          have E2 := Lib.hid e2; clear e1 e2 f1
          go_wp2
          go_roundw
          case rel => exact ⟨5, by omega, rfl, by have := HG.out; simp [goods, good] at this ⊢; simp [this, E2.out], P2.out, B2.out, L2.out⟩
          case measure => simp [intOf]
        · have f2 : (n4 != 45) = true := by simp [e2]
          have E1 := Lib.hid e1; have E2 := Lib.hid e2; clear e1 e2 f1
          go_wp2
          obtain ⟨W3, hW3⟩ : ∃ x, x = ((((((((((w2.setCell ⟨B1_0, 0, none⟩ (.bool false)).setCell ⟨B1_0, 1, none⟩ (.bool false)).setCell ⟨B1_0, 2, none⟩ (.bool false)).setCell ⟨B1_0, 3, none⟩ (.bool false)).setCell ⟨B1_0, 4, none⟩ (.bool false)).setCell ⟨B1_0, 5, none⟩ (.bool false)).setCell ⟨B1_0, 6, none⟩ (.bool false)).setCell ⟨B1_0, 7, none⟩ (.bool false)).setCell ⟨B1_0, 8, none⟩ (.int .i64 0)).setCell ⟨B1_0, 9, none⟩ (.int .u64 0)) := ⟨_, rfl⟩
          rw [← hW3]
          have b3 : Blk W3 B1_0 [.bool false, .bool false, .bool false, .bool false, .bool false, .bool false, .bool false, .bool false, .int .i64 0, .int .u64 0] 39 := hW3 ▸ ((((((((((P2.out.set 0 (.bool false)).set 1 (.bool false)).set 2 (.bool false)).set 3 (.bool false)).set 4 (.bool false)).set 5 (.bool false)).set 6 (.bool false)).set 7 (.bool false)).set 8 (.int .i64 0)).set 9 (.int .u64 0))
          have l3 : Below w.heap.size w W3 := hW3 ▸ (Below.setCell (Below.setCell (Below.setCell (Below.setCell (Below.setCell (Below.setCell (Below.setCell (Below.setCell (Below.setCell (Below.setCell L2.out G1_0.out _) G1_0.out _) G1_0.out _) G1_0.out _) G1_0.out _) G1_0.out _) G1_0.out _) G1_0.out _) G1_0.out _) G1_0.out _)
          clear hW3
          have r0 := b3.c0
          have r1 := b3.c1
          have r2 := b3.c2
          have r3 := b3.c3
          have r4 := b3.c4
          have r5 := b3.c5
          have r6 := b3.c6
          have r7 := b3.c7
          have r8 := b3.c8
          have r9 := b3.c9
          have Q3 := Lib.hid b3; have QL := Lib.hid l3; clear b3 l3
          refine bodyPost_ret (v := .tuple #[.agg #[.bool false, .bool false, .bool false, .bool false, .bool false, .bool false, .bool false, .bool false, .int .i64 0, .int .u64 0], .bool false]) (by simp [results, Tryz.results100, go_sem, r0, r1, r2, r3, r4, r5, r6, r7, r8, r9]) rfl ⟨?_, QL.out⟩
          rw [HA.out, show okN n0 n1 n2 n3 n4 n5 n6 n7 = false by simp [okN, goods, good, E1.out, E2.out]]; rfl
    · have hi := I5.out
      have hc : wr.cell? ⟨B1_1, 5, none⟩ = some (.bool false) := ho.cell 5
      have hf := ho.free 5
      have hlt := ho.lt
      have hx : ∀ w, (Instr.index 9 (.string ⟨#[118, 114, 119, 120, 117, 103, 97, 100]⟩) (.int .i64 5)).run Tryz.prog w = .ok (.int .u8 103) w := fun _ => by kernel_rfl
      have HO := Lib.hid ho; clear ho
      go_wp2
      refine wp_region_held_drew (S := fun _ => True) (by kernel_rfl) trivial (fun hHeld => ?_)
      simp only [List.size_toArray, List.length_cons, List.length_nil, Nat.reduceAdd]
      rw [show Array.replicate 9 false = [false, false, false, false, false, false, false, false, false].toArray from rfl]
      refine wpAnyH_take (i := 0) (v := ?_) rfl (by kernel_rfl) (by kernel_rfl) (by kernel_rfl) (fun _ _ _ h => h) (Or.inl ⟨by rfl, ?yldq⟩) (by assumption) ?_
      case yldq => (intro w hSw; (try dsimp only at hSw); go_simp; try with_reducible rfl)
      try simp only [Act.put, List.setIfInBounds_toArray, List.set_cons_zero, List.set_cons_succ, List.getElem_toArray, List.getElem_cons_succ, List.getElem_cons_zero]
      refine wpAnyH_take (i := 1) (v := ?_) rfl (by kernel_rfl) (by kernel_rfl) (by kernel_rfl) (fun _ _ _ h => h) (Or.inl ⟨by rfl, ?yldq⟩) (by assumption) ?_
      case yldq => (intro w hSw; (try dsimp only at hSw); go_simp; try with_reducible rfl)
      try simp only [Act.put, List.setIfInBounds_toArray, List.set_cons_zero, List.set_cons_succ, List.getElem_toArray, List.getElem_cons_succ, List.getElem_cons_zero]
      refine wpAnyH_take (i := 2) (v := ?_) rfl (by kernel_rfl) (by kernel_rfl) (by kernel_rfl) (fun _ _ _ h => h) (Or.inl ⟨by rfl, ?yldq⟩) (by assumption) ?_
      case yldq => (intro w hSw; (try dsimp only at hSw); go_simp; try with_reducible rfl)
      try simp only [Act.put, List.setIfInBounds_toArray, List.set_cons_zero, List.set_cons_succ, List.getElem_toArray, List.getElem_cons_succ, List.getElem_cons_zero]
      refine wpAnyH_take (i := 3) (v := ?_) rfl (by kernel_rfl) (by kernel_rfl) (by kernel_rfl) (fun _ _ _ h => h) (Or.inl ⟨by rfl, ?yldq⟩) (by assumption) ?_
      case yldq => (intro w hSw; (try dsimp only at hSw); go_simp; try with_reducible rfl)
      try simp only [Act.put, List.setIfInBounds_toArray, List.set_cons_zero, List.set_cons_succ, List.getElem_toArray, List.getElem_cons_succ, List.getElem_cons_zero]
      refine wpAnyH_take (i := 4) (v := ?_) rfl (by kernel_rfl) (by kernel_rfl) (by kernel_rfl) (fun _ _ _ h => h) (Or.inl ⟨by rfl, ?yldq⟩) (by assumption) ?_
      case yldq => (intro w hSw; (try dsimp only at hSw); go_simp; try with_reducible rfl)
      try simp only [Act.put, List.setIfInBounds_toArray, List.set_cons_zero, List.set_cons_succ, List.getElem_toArray, List.getElem_cons_succ, List.getElem_cons_zero]
      refine wpAnyH_take (i := 5) (v := ?_) rfl (by kernel_rfl) (by kernel_rfl) (by kernel_rfl) (fun _ _ _ h => h) (Or.inl ⟨by rfl, ?yldq⟩) (by assumption) ?_
      case yldq => (intro w hSw; (try dsimp only at hSw); go_simp; try with_reducible rfl)
      try simp only [Act.put, List.setIfInBounds_toArray, List.set_cons_zero, List.set_cons_succ, List.getElem_toArray, List.getElem_cons_succ, List.getElem_cons_zero]
      refine wpAnyH_take (i := 6) (v := ?_) rfl (by kernel_rfl) (by kernel_rfl) (by kernel_rfl) (fun _ _ _ h => h) (Or.inl ⟨by rfl, ?yldq⟩) (by assumption) ?_
      case yldq => (intro w hSw; (try dsimp only at hSw); go_simp; try with_reducible rfl)
      try simp only [Act.put, List.setIfInBounds_toArray, List.set_cons_zero, List.set_cons_succ, List.getElem_toArray, List.getElem_cons_succ, List.getElem_cons_zero]
      refine wpAnyH_take (i := 7) (v := ?_) rfl (by kernel_rfl) (by kernel_rfl) (by kernel_rfl) (fun _ _ _ h => h) (Or.inl ⟨by rfl, ?yldq⟩) (by assumption) ?_
      case yldq => (intro w hSw; (try dsimp only at hSw); go_simp; try with_reducible rfl)
      try simp only [Act.put, List.setIfInBounds_toArray, List.set_cons_zero, List.set_cons_succ, List.getElem_toArray, List.getElem_cons_succ, List.getElem_cons_zero]
      refine wpAnyH_ready (rs := [8]) (by kernel_rfl) (by simp) ?_
      refine AllReadyH.cons rfl (fun K hK => ?_) AllReadyH.nil
      go_simp
      obtain ⟨w2, hw2⟩ : ∃ x, x = (wr.setCell ⟨B1_1, 5, none⟩ (.bool (n5 == 103))).drew := ⟨_, rfl⟩
      rw [← hw2]
      refine hK.out _ _ trivial (fun _ => ?_)
      clear hK K
      refine wpAnyH_done (by kernel_rfl) ?_ _
      have b2 : Blk w2 B1_1 (celN n0 n1 n2 n3 n4 n5 n6 n7 6) 197 := hw2 ▸ (HO.out.set 5 (.bool (n5 == 103)))
      have pp : Blk w2 B1_0 [.bool false, .bool false, .bool false, .bool false, .bool false, .bool false, .bool false, .bool false, .int .i64 0, .int .u64 0] 39 := hw2 ▸ (HP.out.other ⟨B1_1, 5, none⟩ (.bool (n5 == 103)) Y1_0_1.out)
      have l2 : Below w.heap.size w w2 := by
        rw [hw2]
        exact (Below.setCell HB.out G1_1.out _).drew
      clear hw2 hc hf hlt hx HO HP HB hHeld
      have hc : w2.cell? ⟨B1_1, 5, none⟩ = some (.bool (n5 == 103)) := b2.cell 5
      have hlt := b2.lt
      have p0 : ∃ u, w2.cell? ⟨B1_0, 0, none⟩ = some u := ⟨_, pp.cell 0⟩
      obtain ⟨q0, p0⟩ := p0
      have p1 : ∃ u, w2.cell? ⟨B1_0, 1, none⟩ = some u := ⟨_, pp.cell 1⟩
      obtain ⟨q1, p1⟩ := p1
      have p2 : ∃ u, w2.cell? ⟨B1_0, 2, none⟩ = some u := ⟨_, pp.cell 2⟩
      obtain ⟨q2, p2⟩ := p2
      have p3 : ∃ u, w2.cell? ⟨B1_0, 3, none⟩ = some u := ⟨_, pp.cell 3⟩
      obtain ⟨q3, p3⟩ := p3
      have p4 : ∃ u, w2.cell? ⟨B1_0, 4, none⟩ = some u := ⟨_, pp.cell 4⟩
      obtain ⟨q4, p4⟩ := p4
      have p5 : ∃ u, w2.cell? ⟨B1_0, 5, none⟩ = some u := ⟨_, pp.cell 5⟩
      obtain ⟨q5, p5⟩ := p5
      have p6 : ∃ u, w2.cell? ⟨B1_0, 6, none⟩ = some u := ⟨_, pp.cell 6⟩
      obtain ⟨q6, p6⟩ := p6
      have p7 : ∃ u, w2.cell? ⟨B1_0, 7, none⟩ = some u := ⟨_, pp.cell 7⟩
      obtain ⟨q7, p7⟩ := p7
      have p8 : ∃ u, w2.cell? ⟨B1_0, 8, none⟩ = some u := ⟨_, pp.cell 8⟩
      obtain ⟨q8, p8⟩ := p8
      have p9 : ∃ u, w2.cell? ⟨B1_0, 9, none⟩ = some u := ⟨_, pp.cell 9⟩
      obtain ⟨q9, p9⟩ := p9
      have pf : ∀ o, w2.frozen? ⟨B1_0, o, none⟩ = false := fun o => pp.free o
      have hlp := pp.lt
      have B2 := Lib.hid b2; have P2 := Lib.hid pp; have L2 := Lib.hid l2; clear b2 pp l2
      by_cases e1 : n5 = 103
      · have f1 : (n5 == 103) = true := by simp [e1]
        rw [f1] at hc
        have E1 := Lib.hid e1; clear e1 f1
        go_wp2
        go_roundw
        case rel => exact ⟨6, by omega, rfl, by have := HG.out; simp [goods, good] at this ⊢; simp [this, E1.out], P2.out, B2.out, L2.out⟩
        case measure => simp [intOf]
      · have f1 : (n5 == 103) = false := by simp [e1]
        rw [f1] at hc
        by_cases e2 : n5 = 45
        · have f2 : (n5 != 45) = false := by simp [e2]
          have E2 := Lib.hid e2; clear e1 e2 f1
          go_wp2
          go_roundw
          case rel => exact ⟨6, by omega, rfl, by have := HG.out; simp [goods, good] at this ⊢; simp [this, E2.out], P2.out, B2.out, L2.out⟩
          case measure => simp [intOf]
        · have f2 : (n5 != 45) = true := by simp [e2]
          have E1 := Lib.hid e1; have E2 := Lib.hid e2; clear e1 e2 f1
          go_wp2
          obtain ⟨W3, hW3⟩ : ∃ x, x = ((((((((((w2.setCell ⟨B1_0, 0, none⟩ (.bool false)).setCell ⟨B1_0, 1, none⟩ (.bool false)).setCell ⟨B1_0, 2, none⟩ (.bool false)).setCell ⟨B1_0, 3, none⟩ (.bool false)).setCell ⟨B1_0, 4, none⟩ (.bool false)).setCell ⟨B1_0, 5, none⟩ (.bool false)).setCell ⟨B1_0, 6, none⟩ (.bool false)).setCell ⟨B1_0, 7, none⟩ (.bool false)).setCell ⟨B1_0, 8, none⟩ (.int .i64 0)).setCell ⟨B1_0, 9, none⟩ (.int .u64 0)) := ⟨_, rfl⟩
          rw [← hW3]
          have b3 : Blk W3 B1_0 [.bool false, .bool false, .bool false, .bool false, .bool false, .bool false, .bool false, .bool false, .int .i64 0, .int .u64 0] 39 := hW3 ▸ ((((((((((P2.out.set 0 (.bool false)).set 1 (.bool false)).set 2 (.bool false)).set 3 (.bool false)).set 4 (.bool false)).set 5 (.bool false)).set 6 (.bool false)).set 7 (.bool false)).set 8 (.int .i64 0)).set 9 (.int .u64 0))
          have l3 : Below w.heap.size w W3 := hW3 ▸ (Below.setCell (Below.setCell (Below.setCell (Below.setCell (Below.setCell (Below.setCell (Below.setCell (Below.setCell (Below.setCell (Below.setCell L2.out G1_0.out _) G1_0.out _) G1_0.out _) G1_0.out _) G1_0.out _) G1_0.out _) G1_0.out _) G1_0.out _) G1_0.out _) G1_0.out _)
          clear hW3
          have r0 := b3.c0
          have r1 := b3.c1
          have r2 := b3.c2
          have r3 := b3.c3
          have r4 := b3.c4
          have r5 := b3.c5
          have r6 := b3.c6
          have r7 := b3.c7
          have r8 := b3.c8
          have r9 := b3.c9
          have Q3 := Lib.hid b3; have QL := Lib.hid l3; clear b3 l3
          refine bodyPost_ret (v := .tuple #[.agg #[.bool false, .bool false, .bool false, .bool false, .bool false, .bool false, .bool false, .bool false, .int .i64 0, .int .u64 0], .bool false]) (by simp [results, Tryz.results100, go_sem, r0, r1, r2, r3, r4, r5, r6, r7, r8, r9]) rfl ⟨?_, QL.out⟩
          rw [HA.out, show okN n0 n1 n2 n3 n4 n5 n6 n7 = false by simp [okN, goods, good, E1.out, E2.out]]; rfl
    · have hi := I6.out
      have hc : wr.cell? ⟨B1_1, 6, none⟩ = some (.bool false) := ho.cell 6
      have hf := ho.free 6
      have hlt := ho.lt
      have hx : ∀ w, (Instr.index 9 (.string ⟨#[118, 114, 119, 120, 117, 103, 97, 100]⟩) (.int .i64 6)).run Tryz.prog w = .ok (.int .u8 97) w := fun _ => by kernel_rfl
      have HO := Lib.hid ho; clear ho
      go_wp2
      refine wp_region_held_drew (S := fun _ => True) (by kernel_rfl) trivial (fun hHeld => ?_)
      simp only [List.size_toArray, List.length_cons, List.length_nil, Nat.reduceAdd]
      rw [show Array.replicate 9 false = [false, false, false, false, false, false, false, false, false].toArray from rfl]
      refine wpAnyH_take (i := 0) (v := ?_) rfl (by kernel_rfl) (by kernel_rfl) (by kernel_rfl) (fun _ _ _ h => h) (Or.inl ⟨by rfl, ?yldq⟩) (by assumption) ?_
      case yldq => (intro w hSw; (try dsimp only at hSw); go_simp; try with_reducible rfl)
      try simp only [Act.put, List.setIfInBounds_toArray, List.set_cons_zero, List.set_cons_succ, List.getElem_toArray, List.getElem_cons_succ, List.getElem_cons_zero]
      refine wpAnyH_take (i := 1) (v := ?_) rfl (by kernel_rfl) (by kernel_rfl) (by kernel_rfl) (fun _ _ _ h => h) (Or.inl ⟨by rfl, ?yldq⟩) (by assumption) ?_
      case yldq => (intro w hSw; (try dsimp only at hSw); go_simp; try with_reducible rfl)
      try simp only [Act.put, List.setIfInBounds_toArray, List.set_cons_zero, List.set_cons_succ, List.getElem_toArray, List.getElem_cons_succ, List.getElem_cons_zero]
      refine wpAnyH_take (i := 2) (v := ?_) rfl (by kernel_rfl) (by kernel_rfl) (by kernel_rfl) (fun _ _ _ h => h) (Or.inl ⟨by rfl, ?yldq⟩) (by assumption) ?_
      case yldq => (intro w hSw; (try dsimp only at hSw); go_simp; try with_reducible rfl)
      try simp only [Act.put, List.setIfInBounds_toArray, List.set_cons_zero, List.set_cons_succ, List.getElem_toArray, List.getElem_cons_succ, List.getElem_cons_zero]
      refine wpAnyH_take (i := 3) (v := ?_) rfl (by kernel_rfl) (by kernel_rfl) (by kernel_rfl) (fun _ _ _ h => h) (Or.inl ⟨by rfl, ?yldq⟩) (by assumption) ?_
      case yldq => (intro w hSw; (try dsimp only at hSw); go_simp; try with_reducible rfl)
      try simp only [Act.put, List.setIfInBounds_toArray, List.set_cons_zero, List.set_cons_succ, List.getElem_toArray, List.getElem_cons_succ, List.getElem_cons_zero]
      refine wpAnyH_take (i := 4) (v := ?_) rfl (by kernel_rfl) (by kernel_rfl) (by kernel_rfl) (fun _ _ _ h => h) (Or.inl ⟨by rfl, ?yldq⟩) (by assumption) ?_
      case yldq => (intro w hSw; (try dsimp only at hSw); go_simp; try with_reducible rfl)
      try simp only [Act.put, List.setIfInBounds_toArray, List.set_cons_zero, List.set_cons_succ, List.getElem_toArray, List.getElem_cons_succ, List.getElem_cons_zero]
      refine wpAnyH_take (i := 5) (v := ?_) rfl (by kernel_rfl) (by kernel_rfl) (by kernel_rfl) (fun _ _ _ h => h) (Or.inl ⟨by rfl, ?yldq⟩) (by assumption) ?_
      case yldq => (intro w hSw; (try dsimp only at hSw); go_simp; try with_reducible rfl)
      try simp only [Act.put, List.setIfInBounds_toArray, List.set_cons_zero, List.set_cons_succ, List.getElem_toArray, List.getElem_cons_succ, List.getElem_cons_zero]
      refine wpAnyH_take (i := 6) (v := ?_) rfl (by kernel_rfl) (by kernel_rfl) (by kernel_rfl) (fun _ _ _ h => h) (Or.inl ⟨by rfl, ?yldq⟩) (by assumption) ?_
      case yldq => (intro w hSw; (try dsimp only at hSw); go_simp; try with_reducible rfl)
      try simp only [Act.put, List.setIfInBounds_toArray, List.set_cons_zero, List.set_cons_succ, List.getElem_toArray, List.getElem_cons_succ, List.getElem_cons_zero]
      refine wpAnyH_take (i := 7) (v := ?_) rfl (by kernel_rfl) (by kernel_rfl) (by kernel_rfl) (fun _ _ _ h => h) (Or.inl ⟨by rfl, ?yldq⟩) (by assumption) ?_
      case yldq => (intro w hSw; (try dsimp only at hSw); go_simp; try with_reducible rfl)
      try simp only [Act.put, List.setIfInBounds_toArray, List.set_cons_zero, List.set_cons_succ, List.getElem_toArray, List.getElem_cons_succ, List.getElem_cons_zero]
      refine wpAnyH_ready (rs := [8]) (by kernel_rfl) (by simp) ?_
      refine AllReadyH.cons rfl (fun K hK => ?_) AllReadyH.nil
      go_simp
      obtain ⟨w2, hw2⟩ : ∃ x, x = (wr.setCell ⟨B1_1, 6, none⟩ (.bool (n6 == 97))).drew := ⟨_, rfl⟩
      rw [← hw2]
      refine hK.out _ _ trivial (fun _ => ?_)
      clear hK K
      refine wpAnyH_done (by kernel_rfl) ?_ _
      have b2 : Blk w2 B1_1 (celN n0 n1 n2 n3 n4 n5 n6 n7 7) 197 := hw2 ▸ (HO.out.set 6 (.bool (n6 == 97)))
      have pp : Blk w2 B1_0 [.bool false, .bool false, .bool false, .bool false, .bool false, .bool false, .bool false, .bool false, .int .i64 0, .int .u64 0] 39 := hw2 ▸ (HP.out.other ⟨B1_1, 6, none⟩ (.bool (n6 == 97)) Y1_0_1.out)
      have l2 : Below w.heap.size w w2 := by
        rw [hw2]
        exact (Below.setCell HB.out G1_1.out _).drew
      clear hw2 hc hf hlt hx HO HP HB hHeld
      have hc : w2.cell? ⟨B1_1, 6, none⟩ = some (.bool (n6 == 97)) := b2.cell 6
      have hlt := b2.lt
      have p0 : ∃ u, w2.cell? ⟨B1_0, 0, none⟩ = some u := ⟨_, pp.cell 0⟩
      obtain ⟨q0, p0⟩ := p0
      have p1 : ∃ u, w2.cell? ⟨B1_0, 1, none⟩ = some u := ⟨_, pp.cell 1⟩
      obtain ⟨q1, p1⟩ := p1
      have p2 : ∃ u, w2.cell? ⟨B1_0, 2, none⟩ = some u := ⟨_, pp.cell 2⟩
      obtain ⟨q2, p2⟩ := p2
      have p3 : ∃ u, w2.cell? ⟨B1_0, 3, none⟩ = some u := ⟨_, pp.cell 3⟩
      obtain ⟨q3, p3⟩ := p3
      have p4 : ∃ u, w2.cell? ⟨B1_0, 4, none⟩ = some u := ⟨_, pp.cell 4⟩
      obtain ⟨q4, p4⟩ := p4
      have p5 : ∃ u, w2.cell? ⟨B1_0, 5, none⟩ = some u := ⟨_, pp.cell 5⟩
      obtain ⟨q5, p5⟩ := p5
      have p6 : ∃ u, w2.cell? ⟨B1_0, 6, none⟩ = some u := ⟨_, pp.cell 6⟩
      obtain ⟨q6, p6⟩ := p6
      have p7 : ∃ u, w2.cell? ⟨B1_0, 7, none⟩ = some u := ⟨_, pp.cell 7⟩
      obtain ⟨q7, p7⟩ := p7
      have p8 : ∃ u, w2.cell? ⟨B1_0, 8, none⟩ = some u := ⟨_, pp.cell 8⟩
      obtain ⟨q8, p8⟩ := p8
      have p9 : ∃ u, w2.cell? ⟨B1_0, 9, none⟩ = some u := ⟨_, pp.cell 9⟩
      obtain ⟨q9, p9⟩ := p9
      have pf : ∀ o, w2.frozen? ⟨B1_0, o, none⟩ = false := fun o => pp.free o
      have hlp := pp.lt
      have B2 := Lib.hid b2; have P2 := Lib.hid pp; have L2 := Lib.hid l2; clear b2 pp l2
      by_cases e1 : n6 = 97
      · have f1 : (n6 == 97) = true := by simp [e1]
        rw [f1] at hc
        have E1 := Lib.hid e1; clear e1 f1
        go_wp2
        go_roundw
        case rel => exact ⟨7, by omega, rfl, by have := HG.out; simp [goods, good] at this ⊢; simp [this, E1.out], P2.out, B2.out, L2.out⟩
        case measure => simp [intOf]
      · have f1 : (n6 == 97) = false := by simp [e1]
        rw [f1] at hc
        by_cases e2 : n6 = 45
        · have f2 : (n6 != 45) = false := by simp [e2]
          have E2 := Lib.hid e2; clear e1 e2 f1
          go_wp2
          go_roundw
          case rel => exact ⟨7, by omega, rfl, by have := HG.out; simp [goods, good] at this ⊢; simp [this, E2.out], P2.out, B2.out, L2.out⟩
          case measure => simp [intOf]
        · have f2 : (n6 != 45) = true := by simp [e2]
          have E1 := Lib.hid e1; have E2 := Lib.hid e2; clear e1 e2 f1
          go_wp2
          obtain ⟨W3, hW3⟩ : ∃ x, x = ((((((((((w2.setCell ⟨B1_0, 0, none⟩ (.bool false)).setCell ⟨B1_0, 1, none⟩ (.bool false)).setCell ⟨B1_0, 2, none⟩ (.bool false)).setCell ⟨B1_0, 3, none⟩ (.bool false)).setCell ⟨B1_0, 4, none⟩ (.bool false)).setCell ⟨B1_0, 5, none⟩ (.bool false)).setCell ⟨B1_0, 6, none⟩ (.bool false)).setCell ⟨B1_0, 7, none⟩ (.bool false)).setCell ⟨B1_0, 8, none⟩ (.int .i64 0)).setCell ⟨B1_0, 9, none⟩ (.int .u64 0)) := ⟨_, rfl⟩
          rw [← hW3]
          have b3 : Blk W3 B1_0 [.bool false, .bool false, .bool false, .bool false, .bool false, .bool false, .bool false, .bool false, .int .i64 0, .int .u64 0] 39 := hW3 ▸ ((((((((((P2.out.set 0 (.bool false)).set 1 (.bool false)).set 2 (.bool false)).set 3 (.bool false)).set 4 (.bool false)).set 5 (.bool false)).set 6 (.bool false)).set 7 (.bool false)).set 8 (.int .i64 0)).set 9 (.int .u64 0))
          have l3 : Below w.heap.size w W3 := hW3 ▸ (Below.setCell (Below.setCell (Below.setCell (Below.setCell (Below.setCell (Below.setCell (Below.setCell (Below.setCell (Below.setCell (Below.setCell L2.out G1_0.out _) G1_0.out _) G1_0.out _) G1_0.out _) G1_0.out _) G1_0.out _) G1_0.out _) G1_0.out _) G1_0.out _) G1_0.out _)
          clear hW3
          have r0 := b3.c0
          have r1 := b3.c1
          have r2 := b3.c2
          have r3 := b3.c3
          have r4 := b3.c4
          have r5 := b3.c5
          have r6 := b3.c6
          have r7 := b3.c7
          have r8 := b3.c8
          have r9 := b3.c9
          have Q3 := Lib.hid b3; have QL := Lib.hid l3; clear b3 l3
          refine bodyPost_ret (v := .tuple #[.agg #[.bool false, .bool false, .bool false, .bool false, .bool false, .bool false, .bool false, .bool false, .int .i64 0, .int .u64 0], .bool false]) (by simp [results, Tryz.results100, go_sem, r0, r1, r2, r3, r4, r5, r6, r7, r8, r9]) rfl ⟨?_, QL.out⟩
          rw [HA.out, show okN n0 n1 n2 n3 n4 n5 n6 n7 = false by simp [okN, goods, good, E1.out, E2.out]]; rfl
    · have hi := I7.out
      have hc : wr.cell? ⟨B1_1, 7, none⟩ = some (.bool false) := ho.cell 7
      have hf := ho.free 7
      have hlt := ho.lt
      have hx : ∀ w, (Instr.index 9 (.string ⟨#[118, 114, 119, 120, 117, 103, 97, 100]⟩) (.int .i64 7)).run Tryz.prog w = .ok (.int .u8 100) w := fun _ => by kernel_rfl
      have HO := Lib.hid ho; clear ho
      go_wp2
      refine wp_region_held_drew (S := fun _ => True) (by kernel_rfl) trivial (fun hHeld => ?_)
      simp only [List.size_toArray, List.length_cons, List.length_nil, Nat.reduceAdd]
      rw [show Array.replicate 9 false = [false, false, false, false, false, false, false, false, false].toArray from rfl]
      refine wpAnyH_take (i := 0) (v := ?_) rfl (by kernel_rfl) (by kernel_rfl) (by kernel_rfl) (fun _ _ _ h => h) (Or.inl ⟨by rfl, ?yldq⟩) (by assumption) ?_
      case yldq => (intro w hSw; (try dsimp only at hSw); go_simp; try with_reducible rfl)
      try simp only [Act.put, List.setIfInBounds_toArray, List.set_cons_zero, List.set_cons_succ, List.getElem_toArray, List.getElem_cons_succ, List.getElem_cons_zero]
      refine wpAnyH_take (i := 1) (v := ?_) rfl (by kernel_rfl) (by kernel_rfl) (by kernel_rfl) (fun _ _ _ h => h) (Or.inl ⟨by rfl, ?yldq⟩) (by assumption) ?_
      case yldq => (intro w hSw; (try dsimp only at hSw); go_simp; try with_reducible rfl)
      try simp only [Act.put, List.setIfInBounds_toArray, List.set_cons_zero, List.set_cons_succ, List.getElem_toArray, List.getElem_cons_succ, List.getElem_cons_zero]
      refine wpAnyH_take (i := 2) (v := ?_) rfl (by kernel_rfl) (by kernel_rfl) (by kernel_rfl) (fun _ _ _ h => h) (Or.inl ⟨by rfl, ?yldq⟩) (by assumption) ?_
      case yldq => (intro w hSw; (try dsimp only at hSw); go_simp; try with_reducible rfl)
      try simp only [Act.put, List.setIfInBounds_toArray, List.set_cons_zero, List.set_cons_succ, List.getElem_toArray, List.getElem_cons_succ, List.getElem_cons_zero]
      refine wpAnyH_take (i := 3) (v := ?_) rfl (by kernel_rfl) (by kernel_rfl) (by kernel_rfl) (fun _ _ _ h => h) (Or.inl ⟨by rfl, ?yldq⟩) (by assumption) ?_
      case yldq => (intro w hSw; (try dsimp only at hSw); go_simp; try with_reducible rfl)
      try simp only [Act.put, List.setIfInBounds_toArray, List.set_cons_zero, List.set_cons_succ, List.getElem_toArray, List.getElem_cons_succ, List.getElem_cons_zero]
      refine wpAnyH_take (i := 4) (v := ?_) rfl (by kernel_rfl) (by kernel_rfl) (by kernel_rfl) (fun _ _ _ h => h) (Or.inl ⟨by rfl, ?yldq⟩) (by assumption) ?_
      case yldq => (intro w hSw; (try dsimp only at hSw); go_simp; try with_reducible rfl)
      try simp only [Act.put, List.setIfInBounds_toArray, List.set_cons_zero, List.set_cons_succ, List.getElem_toArray, List.getElem_cons_succ, List.getElem_cons_zero]
      refine wpAnyH_take (i := 5) (v := ?_) rfl (by kernel_rfl) (by kernel_rfl) (by kernel_rfl) (fun _ _ _ h => h) (Or.inl ⟨by rfl, ?yldq⟩) (by assumption) ?_
      case yldq => (intro w hSw; (try dsimp only at hSw); go_simp; try with_reducible rfl)
      try simp only [Act.put, List.setIfInBounds_toArray, List.set_cons_zero, List.set_cons_succ, List.getElem_toArray, List.getElem_cons_succ, List.getElem_cons_zero]
      refine wpAnyH_take (i := 6) (v := ?_) rfl (by kernel_rfl) (by kernel_rfl) (by kernel_rfl) (fun _ _ _ h => h) (Or.inl ⟨by rfl, ?yldq⟩) (by assumption) ?_
      case yldq => (intro w hSw; (try dsimp only at hSw); go_simp; try with_reducible rfl)
      try simp only [Act.put, List.setIfInBounds_toArray, List.set_cons_zero, List.set_cons_succ, List.getElem_toArray, List.getElem_cons_succ, List.getElem_cons_zero]
      refine wpAnyH_take (i := 7) (v := ?_) rfl (by kernel_rfl) (by kernel_rfl) (by kernel_rfl) (fun _ _ _ h => h) (Or.inl ⟨by rfl, ?yldq⟩) (by assumption) ?_
      case yldq => (intro w hSw; (try dsimp only at hSw); go_simp; try with_reducible rfl)
      try simp only [Act.put, List.setIfInBounds_toArray, List.set_cons_zero, List.set_cons_succ, List.getElem_toArray, List.getElem_cons_succ, List.getElem_cons_zero]
      refine wpAnyH_ready (rs := [8]) (by kernel_rfl) (by simp) ?_
      refine AllReadyH.cons rfl (fun K hK => ?_) AllReadyH.nil
      go_simp
      obtain ⟨w2, hw2⟩ : ∃ x, x = (wr.setCell ⟨B1_1, 7, none⟩ (.bool (n7 == 100))).drew := ⟨_, rfl⟩
      rw [← hw2]
      refine hK.out _ _ trivial (fun _ => ?_)
      clear hK K
      refine wpAnyH_done (by kernel_rfl) ?_ _
      have b2 : Blk w2 B1_1 (celN n0 n1 n2 n3 n4 n5 n6 n7 8) 197 := hw2 ▸ (HO.out.set 7 (.bool (n7 == 100)))
      have pp : Blk w2 B1_0 [.bool false, .bool false, .bool false, .bool false, .bool false, .bool false, .bool false, .bool false, .int .i64 0, .int .u64 0] 39 := hw2 ▸ (HP.out.other ⟨B1_1, 7, none⟩ (.bool (n7 == 100)) Y1_0_1.out)
      have l2 : Below w.heap.size w w2 := by
        rw [hw2]
        exact (Below.setCell HB.out G1_1.out _).drew
      clear hw2 hc hf hlt hx HO HP HB hHeld
      have hc : w2.cell? ⟨B1_1, 7, none⟩ = some (.bool (n7 == 100)) := b2.cell 7
      have hlt := b2.lt
      have p0 : ∃ u, w2.cell? ⟨B1_0, 0, none⟩ = some u := ⟨_, pp.cell 0⟩
      obtain ⟨q0, p0⟩ := p0
      have p1 : ∃ u, w2.cell? ⟨B1_0, 1, none⟩ = some u := ⟨_, pp.cell 1⟩
      obtain ⟨q1, p1⟩ := p1
      have p2 : ∃ u, w2.cell? ⟨B1_0, 2, none⟩ = some u := ⟨_, pp.cell 2⟩
      obtain ⟨q2, p2⟩ := p2
      have p3 : ∃ u, w2.cell? ⟨B1_0, 3, none⟩ = some u := ⟨_, pp.cell 3⟩
      obtain ⟨q3, p3⟩ := p3
      have p4 : ∃ u, w2.cell? ⟨B1_0, 4, none⟩ = some u := ⟨_, pp.cell 4⟩
      obtain ⟨q4, p4⟩ := p4
      have p5 : ∃ u, w2.cell? ⟨B1_0, 5, none⟩ = some u := ⟨_, pp.cell 5⟩
      obtain ⟨q5, p5⟩ := p5
      have p6 : ∃ u, w2.cell? ⟨B1_0, 6, none⟩ = some u := ⟨_, pp.cell 6⟩
      obtain ⟨q6, p6⟩ := p6
      have p7 : ∃ u, w2.cell? ⟨B1_0, 7, none⟩ = some u := ⟨_, pp.cell 7⟩
      obtain ⟨q7, p7⟩ := p7
      have p8 : ∃ u, w2.cell? ⟨B1_0, 8, none⟩ = some u := ⟨_, pp.cell 8⟩
      obtain ⟨q8, p8⟩ := p8
      have p9 : ∃ u, w2.cell? ⟨B1_0, 9, none⟩ = some u := ⟨_, pp.cell 9⟩
      obtain ⟨q9, p9⟩ := p9
      have pf : ∀ o, w2.frozen? ⟨B1_0, o, none⟩ = false := fun o => pp.free o
      have hlp := pp.lt
      have B2 := Lib.hid b2; have P2 := Lib.hid pp; have L2 := Lib.hid l2; clear b2 pp l2
      by_cases e1 : n7 = 100
      · have f1 : (n7 == 100) = true := by simp [e1]
        rw [f1] at hc
        have E1 := Lib.hid e1; clear e1 f1
        go_wp2
        go_roundw
        case rel => exact ⟨8, by omega, rfl, by have := HG.out; simp [goods, good] at this ⊢; simp [this, E1.out], P2.out, B2.out, L2.out⟩
        case measure => simp [intOf]
      · have f1 : (n7 == 100) = false := by simp [e1]
        rw [f1] at hc
        by_cases e2 : n7 = 45
        · have f2 : (n7 != 45) = false := by simp [e2]
          have E2 := Lib.hid e2; clear e1 e2 f1
          go_wp2
          go_roundw
          case rel => exact ⟨8, by omega, rfl, by have := HG.out; simp [goods, good] at this ⊢; simp [this, E2.out], P2.out, B2.out, L2.out⟩
          case measure => simp [intOf]
        · have f2 : (n7 != 45) = true := by simp [e2]
          have E1 := Lib.hid e1; have E2 := Lib.hid e2; clear e1 e2 f1
          go_wp2
          obtain ⟨W3, hW3⟩ : ∃ x, x = ((((((((((w2.setCell ⟨B1_0, 0, none⟩ (.bool false)).setCell ⟨B1_0, 1, none⟩ (.bool false)).setCell ⟨B1_0, 2, none⟩ (.bool false)).setCell ⟨B1_0, 3, none⟩ (.bool false)).setCell ⟨B1_0, 4, none⟩ (.bool false)).setCell ⟨B1_0, 5, none⟩ (.bool false)).setCell ⟨B1_0, 6, none⟩ (.bool false)).setCell ⟨B1_0, 7, none⟩ (.bool false)).setCell ⟨B1_0, 8, none⟩ (.int .i64 0)).setCell ⟨B1_0, 9, none⟩ (.int .u64 0)) := ⟨_, rfl⟩
          rw [← hW3]
          have b3 : Blk W3 B1_0 [.bool false, .bool false, .bool false, .bool false, .bool false, .bool false, .bool false, .bool false, .int .i64 0, .int .u64 0] 39 := hW3 ▸ ((((((((((P2.out.set 0 (.bool false)).set 1 (.bool false)).set 2 (.bool false)).set 3 (.bool false)).set 4 (.bool false)).set 5 (.bool false)).set 6 (.bool false)).set 7 (.bool false)).set 8 (.int .i64 0)).set 9 (.int .u64 0))
          have l3 : Below w.heap.size w W3 := hW3 ▸ (Below.setCell (Below.setCell (Below.setCell (Below.setCell (Below.setCell (Below.setCell (Below.setCell (Below.setCell (Below.setCell (Below.setCell L2.out G1_0.out _) G1_0.out _) G1_0.out _) G1_0.out _) G1_0.out _) G1_0.out _) G1_0.out _) G1_0.out _) G1_0.out _) G1_0.out _)
          clear hW3
          have r0 := b3.c0
          have r1 := b3.c1
          have r2 := b3.c2
          have r3 := b3.c3
          have r4 := b3.c4
          have r5 := b3.c5
          have r6 := b3.c6
          have r7 := b3.c7
          have r8 := b3.c8
          have r9 := b3.c9
          have Q3 := Lib.hid b3; have QL := Lib.hid l3; clear b3 l3
          refine bodyPost_ret (v := .tuple #[.agg #[.bool false, .bool false, .bool false, .bool false, .bool false, .bool false, .bool false, .bool false, .int .i64 0, .int .u64 0], .bool false]) (by simp [results, Tryz.results100, go_sem, r0, r1, r2, r3, r4, r5, r6, r7, r8, r9]) rfl ⟨?_, QL.out⟩
          rw [HA.out, show okN n0 n1 n2 n3 n4 n5 n6 n7 = false by simp [okN, goods, good, E1.out, E2.out]]; rfl
    · have hok : okN n0 n1 n2 n3 n4 n5 n6 n7 = true := HG.out
      have hc : ∀ k, wr.cell? ⟨B1_1, k, none⟩ = (celN n0 n1 n2 n3 n4 n5 n6 n7 8)[k]? := fun k => ho.cell k
      have hlt := ho.lt
      have pp := HP.out
      have c0 : wr.cell? ⟨B1_1, 0, none⟩ = some (.bool (n0 == 118)) := ho.cell 0
      have c1 : wr.cell? ⟨B1_1, 1, none⟩ = some (.bool (n1 == 114)) := ho.cell 1
      have c2 : wr.cell? ⟨B1_1, 2, none⟩ = some (.bool (n2 == 119)) := ho.cell 2
      have c3 : wr.cell? ⟨B1_1, 3, none⟩ = some (.bool (n3 == 120)) := ho.cell 3
      have c4 : wr.cell? ⟨B1_1, 4, none⟩ = some (.bool (n4 == 117)) := ho.cell 4
      have c5 : wr.cell? ⟨B1_1, 5, none⟩ = some (.bool (n5 == 103)) := ho.cell 5
      have c6 : wr.cell? ⟨B1_1, 6, none⟩ = some (.bool (n6 == 97)) := ho.cell 6
      have c7 : wr.cell? ⟨B1_1, 7, none⟩ = some (.bool (n7 == 100)) := ho.cell 7
      have p0 : ∃ u, wr.cell? ⟨B1_0, 0, none⟩ = some u := ⟨_, pp.cell 0⟩
      obtain ⟨q0, p0⟩ := p0
      have p1 : ∃ u, wr.cell? ⟨B1_0, 1, none⟩ = some u := ⟨_, pp.cell 1⟩
      obtain ⟨q1, p1⟩ := p1
      have p2 : ∃ u, wr.cell? ⟨B1_0, 2, none⟩ = some u := ⟨_, pp.cell 2⟩
      obtain ⟨q2, p2⟩ := p2
      have p3 : ∃ u, wr.cell? ⟨B1_0, 3, none⟩ = some u := ⟨_, pp.cell 3⟩
      obtain ⟨q3, p3⟩ := p3
      have p4 : ∃ u, wr.cell? ⟨B1_0, 4, none⟩ = some u := ⟨_, pp.cell 4⟩
      obtain ⟨q4, p4⟩ := p4
      have p5 : ∃ u, wr.cell? ⟨B1_0, 5, none⟩ = some u := ⟨_, pp.cell 5⟩
      obtain ⟨q5, p5⟩ := p5
      have p6 : ∃ u, wr.cell? ⟨B1_0, 6, none⟩ = some u := ⟨_, pp.cell 6⟩
      obtain ⟨q6, p6⟩ := p6
      have p7 : ∃ u, wr.cell? ⟨B1_0, 7, none⟩ = some u := ⟨_, pp.cell 7⟩
      obtain ⟨q7, p7⟩ := p7
      have p8 : ∃ u, wr.cell? ⟨B1_0, 8, none⟩ = some u := ⟨_, pp.cell 8⟩
      obtain ⟨q8, p8⟩ := p8
      have p9 : ∃ u, wr.cell? ⟨B1_0, 9, none⟩ = some u := ⟨_, pp.cell 9⟩
      obtain ⟨q9, p9⟩ := p9
      obtain ⟨v0, hv0⟩ : ∃ v, v = (n0 == 118) := ⟨_, rfl⟩
      rw [← hv0] at c0
      have V0 := Lib.hid hv0; clear hv0
      obtain ⟨v1, hv1⟩ : ∃ v, v = (n1 == 114) := ⟨_, rfl⟩
      rw [← hv1] at c1
      have V1 := Lib.hid hv1; clear hv1
      obtain ⟨v2, hv2⟩ : ∃ v, v = (n2 == 119) := ⟨_, rfl⟩
      rw [← hv2] at c2
      have V2 := Lib.hid hv2; clear hv2
      obtain ⟨v3, hv3⟩ : ∃ v, v = (n3 == 120) := ⟨_, rfl⟩
      rw [← hv3] at c3
      have V3 := Lib.hid hv3; clear hv3
      obtain ⟨v4, hv4⟩ : ∃ v, v = (n4 == 117) := ⟨_, rfl⟩
      rw [← hv4] at c4
      have V4 := Lib.hid hv4; clear hv4
      obtain ⟨v5, hv5⟩ : ∃ v, v = (n5 == 103) := ⟨_, rfl⟩
      rw [← hv5] at c5
      have V5 := Lib.hid hv5; clear hv5
      obtain ⟨v6, hv6⟩ : ∃ v, v = (n6 == 97) := ⟨_, rfl⟩
      rw [← hv6] at c6
      have V6 := Lib.hid hv6; clear hv6
      obtain ⟨v7, hv7⟩ : ∃ v, v = (n7 == 100) := ⟨_, rfl⟩
      rw [← hv7] at c7
      have V7 := Lib.hid hv7; clear hv7
      have pf : ∀ o, wr.frozen? ⟨B1_0, o, none⟩ = false := fun o => pp.free o
      have hlp := pp.lt
      have OK := Lib.hid hok
      clear hok hc pp ho
      go_wp2
      obtain ⟨W3, hW3⟩ : ∃ x, x = ((((((((((wr.setCell ⟨B1_0, 0, none⟩ (.bool v0)).setCell ⟨B1_0, 1, none⟩ (.bool v1)).setCell ⟨B1_0, 2, none⟩ (.bool v2)).setCell ⟨B1_0, 3, none⟩ (.bool v3)).setCell ⟨B1_0, 4, none⟩ (.bool v4)).setCell ⟨B1_0, 5, none⟩ (.bool v5)).setCell ⟨B1_0, 6, none⟩ (.bool v6)).setCell ⟨B1_0, 7, none⟩ (.bool v7)).setCell ⟨B1_0, 8, none⟩ (.int .i64 0)).setCell ⟨B1_0, 9, none⟩ (.int .u64 0)) := ⟨_, rfl⟩
      rw [← hW3]
      have b3 : Blk W3 B1_0 [.bool v0, .bool v1, .bool v2, .bool v3, .bool v4, .bool v5, .bool v6, .bool v7, .int .i64 0, .int .u64 0] 39 := hW3 ▸ ((((((((((HP.out.set 0 (.bool v0)).set 1 (.bool v1)).set 2 (.bool v2)).set 3 (.bool v3)).set 4 (.bool v4)).set 5 (.bool v5)).set 6 (.bool v6)).set 7 (.bool v7)).set 8 (.int .i64 0)).set 9 (.int .u64 0))
      have l3 : Below w.heap.size w W3 := hW3 ▸ (Below.setCell (Below.setCell (Below.setCell (Below.setCell (Below.setCell (Below.setCell (Below.setCell (Below.setCell (Below.setCell (Below.setCell HB.out G1_0.out _) G1_0.out _) G1_0.out _) G1_0.out _) G1_0.out _) G1_0.out _) G1_0.out _) G1_0.out _) G1_0.out _) G1_0.out _)
      clear hW3
      have r0 := b3.c0
      have r1 := b3.c1
      have r2 := b3.c2
      have r3 := b3.c3
      have r4 := b3.c4
      have r5 := b3.c5
      have r6 := b3.c6
      have r7 := b3.c7
      have r8 := b3.c8
      have r9 := b3.c9
      have Q3 := Lib.hid b3; have QL := Lib.hid l3; clear b3 l3
      refine bodyPost_ret (v := .tuple #[.agg #[.bool v0, .bool v1, .bool v2, .bool v3, .bool v4, .bool v5, .bool v6, .bool v7, .int .i64 0, .int .u64 0], .bool true]) (by simp [results, Tryz.results100, go_sem, r0, r1, r2, r3, r4, r5, r6, r7, r8, r9]) rfl ⟨?_, QL.out⟩
      rw [HA.out, OK.out, V0.out, V1.out, V2.out, V3.out, V4.out, V5.out, V6.out, V7.out]; rfl
end Go.Proofs.YtgnjbjbgfhjakaaGreat
