/-
  What tlb.room and tlb.New answer: contracts over the translation. Each says its own conditions.
-/
import Derived.Test.YtgnjbjbgfhjakaaGreatTlbA11
namespace Go.Proofs.YtgnjbjbgfhjakaaGreat
open Go.RowKit
set_option linter.unusedVariables false
set_option linter.unusedSimpArgs false
attribute [local go_sem] setCell_drewN alloc_drewN

theorem load_way {w : World} {b : Nat} {c0 c1 c2 c3 c4 c5 c6 c7 c8 c9 c10 c11 c12 c13 c14 : Value} (h : Blk w b [c0, c1, c2, c3, c4, c5, c6, c7, c8, c9, c10, c11, c12, c13, c14] 161) :
    (Instr.loadAt 161 (.pointer (some ⟨b, 0, none⟩))).run Tryz.prog w = .ok (.agg #[c0, c1, c2, c3, c4, c5, c6, c7, c8, c9, c10, c11, c12, c13, c14]) w := by
  have h0 : w.cell? ⟨b, 0, none⟩ = some c0 := h.cell 0
  have h1 : w.cell? ⟨b, 1, none⟩ = some c1 := h.cell 1
  have h2 : w.cell? ⟨b, 2, none⟩ = some c2 := h.cell 2
  have h3 : w.cell? ⟨b, 3, none⟩ = some c3 := h.cell 3
  have h4 : w.cell? ⟨b, 4, none⟩ = some c4 := h.cell 4
  have h5 : w.cell? ⟨b, 5, none⟩ = some c5 := h.cell 5
  have h6 : w.cell? ⟨b, 6, none⟩ = some c6 := h.cell 6
  have h7 : w.cell? ⟨b, 7, none⟩ = some c7 := h.cell 7
  have h8 : w.cell? ⟨b, 8, none⟩ = some c8 := h.cell 8
  have h9 : w.cell? ⟨b, 9, none⟩ = some c9 := h.cell 9
  have h10 : w.cell? ⟨b, 10, none⟩ = some c10 := h.cell 10
  have h11 : w.cell? ⟨b, 11, none⟩ = some c11 := h.cell 11
  have h12 : w.cell? ⟨b, 12, none⟩ = some c12 := h.cell 12
  have h13 : w.cell? ⟨b, 13, none⟩ = some c13 := h.cell 13
  have h14 : w.cell? ⟨b, 14, none⟩ = some c14 := h.cell 14
  clear h
  go_simp
theorem yield_way {w : World} {b : Nat} {c0 c1 c2 c3 c4 c5 c6 c7 c8 c9 c10 c11 c12 c13 c14 : Value} (a : Act) (o : Oper) (x : Operand) (ho : o.op = .load 161 x) (hx : a.eval x = .pointer (some ⟨b, 0, none⟩)) (h : Blk w b [c0, c1, c2, c3, c4, c5, c6, c7, c8, c9, c10, c11, c12, c13, c14] 161) :
    (execOp a.eval o).run Tryz.prog w = .ok (.value (.agg #[c0, c1, c2, c3, c4, c5, c6, c7, c8, c9, c10, c11, c12, c13, c14])) w := by
  have e := load_way h
  obtain ⟨op, _, _, _, _, _⟩ := o
  dsimp only at ho
  subst ho
  unfold execOp
  simp only [hx]
  simp [e]
set_option maxHeartbeats 4000000 in
theorem room_any (f : Nat → Wy) (m q : Nat) (y : Wy) (pk : Int) (w : World) (h : Blk w q (rowC f m) 161) (m0 : 0 < m) (m1 : m ≤ 8) (hp : -9223372036854775808 ≤ pk ∧ pk < 9223372036854775808) :
    Calls Tryz.prog 137 #[.slice (some ⟨q, 0, none⟩) m m, wyv y, .int .i64 pk] w fun r w' => r = .returned (.int .i64 (roomW f m y pk : Nat)) ∧ Below w.heap.size w w' := by
  have h1 := fun k (hk : k < m) w' (hb : Below w.heap.size w w') => same_any (f k) y q (k * 15) w' (((h.below hb h.lt).wy hk))
  have h2 : ∀ k, k < m → ∀ w', Below w.heap.size w w' → w'.cell? ⟨q, k * 15, none⟩ = some (.bool (f k).full) := fun k hk w' hb => ((h.below hb h.lt).wy hk) 0 _ rfl
  have hq := h.lt
  obtain ⟨Z, hZ⟩ : ∃ Z, Z = roomW f m y pk := ⟨_, rfl⟩
  rw [← hZ]
  have z1 : ∀ k, k < m → sameW (f k) y = true → (∀ j, j < k → sameW (f j) y = false) → Z = k := fun k hk hs hb => by
    have e := fst1_yes (p := fun i => sameW (f i) y) hk hs hb
    rw [hZ, roomW, if_pos (by rw [e]; exact hk), e]
  have z2 : (∀ j, j < m → sameW (f j) y = false) → ∀ k, k < m → (f k).full = false → (∀ j, j < k → (f j).full = true) → Z = k := fun hn k hk hs hb => by
    have e0 := fst1_no (p := fun i => sameW (f i) y) hn
    have e := fst1_yes (p := fun i => !(f i).full) hk (by simp [hs]) (fun i hi => by simp [hb i hi])
    rw [hZ, roomW, if_neg (by rw [e0]; omega), if_pos (by rw [e]; exact hk), e]
  have z3 : (∀ j, j < m → sameW (f j) y = false) → (∀ j, j < m → (f j).full = true) → (Z : Int) = (if pk < 0 then -1 - pk else pk) % m := fun hn hb => by
    have e0 := fst1_no (p := fun i => sameW (f i) y) hn
    have e := fst1_no (p := fun i => !(f i).full) (n := m) (fun i hi => by simp [hb i hi])
    rw [hZ, roomW, if_neg (by rw [e0]; omega), if_neg (by rw [e]; omega)]
    have h1 := Int.emod_nonneg (if pk < 0 then -1 - pk else pk) (show (m : Int) ≠ 0 by omega)
    omega
  clear hZ h
  obtain ⟨yf, ya, yp, ⟨⟨v, r, x1, x, u, g, a, d, rsw, ppn⟩, lv, pl⟩⟩ := y
  obtain ⟨S, hS⟩ : ∃ S : Nat → Bool, ∀ k, S k = sameW (f k) ⟨yf, ya, yp, ⟨⟨v, r, x1, x, u, g, a, d, rsw, ppn⟩, lv, pl⟩⟩ := ⟨_, fun _ => rfl⟩
  simp only [← hS] at h1 z1 z2 z3
  clear hS
  obtain ⟨U, hU⟩ : ∃ U : Nat → Bool, ∀ k, U k = (f k).full := ⟨_, fun _ => rfl⟩
  simp only [← hU] at h2 z2 z3
  clear hU
  unfold wyv at *
  dsimp only at *
  have H1 := Lib.hid h1; have H2 := Lib.hid h2; have Z1 := Lib.hid z1; have Z2 := Lib.hid z2; have Z3 := Lib.hid z3; clear h1 h2 z1 z2 z3
  go_enter Tryz.func137, Tryz.ntmps137
  go_upto_region 1 with (fail)
  have nb0 := Blk.new w [.bool yf, .int .i64 ya, .int .u64 (yp : Int), .bool v, .bool r, .bool x1, .bool x, .bool u, .bool g, .bool a, .bool d, .int .i64 rsw, .int .u64 (ppn : Int), .int .i64 (lv : Int), .int .u64 (pl : Int)] 161
  have nls : Below w.heap.size w w := (Below.refl w.heap.size w)
  have nl0 := nls.alloc nls.size (.cells #[.bool yf, .int .i64 ya, .int .u64 (yp : Int), .bool v, .bool r, .bool x1, .bool x, .bool u, .bool g, .bool a, .bool d, .int .i64 rsw, .int .u64 (ppn : Int), .int .i64 (lv : Int), .int .u64 (pl : Int)] 161)
  have nl : Below w.heap.size w (w.alloc (.cells #[.bool yf, .int .i64 ya, .int .u64 (yp : Int), .bool v, .bool r, .bool x1, .bool x, .bool u, .bool g, .bool a, .bool d, .int .i64 rsw, .int .u64 (ppn : Int), .int .i64 (lv : Int), .int .u64 (pl : Int)] 161)) := nl0; clear nls nl0
  obtain ⟨B1, hB0⟩ : ∃ B, B = w.heap.size := ⟨_, rfl⟩
  obtain ⟨W1, hW⟩ : ∃ W, W = (w.alloc (.cells #[.bool yf, .int .i64 ya, .int .u64 (yp : Int), .bool v, .bool r, .bool x1, .bool x, .bool u, .bool g, .bool a, .bool d, .int .i64 rsw, .int .u64 (ppn : Int), .int .i64 (lv : Int), .int .u64 (pl : Int)] 161)) := ⟨_, rfl⟩
  rw [← hW] at nl nb0
  rw [← hB0] at nb0
  rw [← hW]
  try rw [← hB0]
  have K1_0 := Lib.hid nb0
  have G1 : Hid (w.heap.size ≤ B1) := Lib.hid (by have := (Nat.le_refl w.heap.size); omega)
  have L1 := Lib.hid nl
  clear nl hW nb0 hB0
  go_wp2_with fail
  go_loopw [11] (fun i wr => ∃ k : Nat, k ≤ m ∧ i = .int .i64 k ∧ (∀ j, j < k → S j = false) ∧ Blk wr B1 [.bool yf, .int .i64 ya, .int .u64 (yp : Int), .bool v, .bool r, .bool x1, .bool x, .bool u, .bool g, .bool a, .bool d, .int .i64 rsw, .int .u64 (ppn : Int), .int .i64 (lv : Int), .int .u64 (pl : Int)] 161 ∧ Below w.heap.size w wr) (fun i _ => m - (intOf i).toNat)
  case atStart => exact ⟨0, Nat.zero_le _, rfl, (fun j hj => by omega), K1_0.out, L1.out⟩
  case round =>
    obtain ⟨k, hk, rfl, hno, hx, hb⟩ := hrel
    have HX := Lib.hid hx; have HB := Lib.hid hb; have HNO := Lib.hid hno
    clear hx hb hno
    by_cases hlt : k < m
    · have hs := H1.out k hlt
      generalize hSk : S k = Q at hs
      have hki : (k : Int) < (m : Int) := by omega
      have HSK := Lib.hid hSk; have HS := Lib.hid hs; clear hSk hs
      go_wp2_with fail
      refine wp_region_held_drew (S := fun w' => Blk w' B1 [.bool yf, .int .i64 ya, .int .u64 (yp : Int), .bool v, .bool r, .bool x1, .bool x, .bool u, .bool g, .bool a, .bool d, .int .i64 rsw, .int .u64 (ppn : Int), .int .i64 (lv : Int), .int .u64 (pl : Int)] 161) (by kernel_rfl) HX.out (fun hHeld => ?_)
      simp only [List.size_toArray, List.length_cons, List.length_nil, Nat.reduceAdd]
      rw [show Array.replicate 5 false = [false, false, false, false, false].toArray from rfl]
      refine wpAnyH_take (i := 0) (v := ?_) rfl (by kernel_rfl) (by kernel_rfl) (by kernel_rfl) (fun _ _ _ h => h) (Or.inl ⟨by rfl, ?yldq⟩) (by assumption) ?_
      case yldq => (intro w hSw; (try dsimp only at hSw); go_simp; try with_reducible rfl)
      try simp only [Act.put, List.setIfInBounds_toArray, List.set_cons_zero, List.set_cons_succ, List.getElem_toArray, List.getElem_cons_succ, List.getElem_cons_zero]
      refine wpAnyH_take (i := 1) (v := ?_) rfl (by kernel_rfl) (by kernel_rfl) (by kernel_rfl) (fun _ _ _ h => h) (Or.inl ⟨by rfl, ?yldq⟩) (by assumption) ?_
      case yldq => (intro w hSw; (try dsimp only at hSw); go_simp; try with_reducible rfl)
      try simp only [Act.put, List.setIfInBounds_toArray, List.set_cons_zero, List.set_cons_succ, List.getElem_toArray, List.getElem_cons_succ, List.getElem_cons_zero]
      refine wpAnyH_take (i := 2) (v := ?_) rfl (by kernel_rfl) (by kernel_rfl) (by kernel_rfl) (fun _ _ _ h => h) (Or.inl ⟨by rfl, ?yldq⟩) (by assumption) ?_
      case yldq => (intro w hSw; (try dsimp only at hSw); go_simp; try with_reducible rfl)
      try simp only [Act.put, List.setIfInBounds_toArray, List.set_cons_zero, List.set_cons_succ, List.getElem_toArray, List.getElem_cons_succ, List.getElem_cons_zero]
      refine wpAnyH_take (i := 3) (v := _) rfl (by kernel_rfl) (by kernel_rfl) (by kernel_rfl) (fun _ _ _ h => h) (Or.inl ⟨by rfl, fun w hSw => yield_way _ _ _ rfl rfl hSw⟩) (by assumption) ?_
      try simp only [Act.put, List.setIfInBounds_toArray, List.set_cons_zero, List.set_cons_succ, List.getElem_toArray, List.getElem_cons_succ, List.getElem_cons_zero]
      refine wpAnyH_ready (rs := [4]) (by kernel_rfl) (by simp) ?_
      refine AllReadyH.cons rfl (fun K hK => ?_) AllReadyH.nil
      go_simp
      refine (HS.out _ (HB.out.drew)).mono ?_
      rintro e w1 ⟨rfl, hb⟩
      have L1 := Lib.hid ((HB.out.drew).trans (hb.mono HB.out.size))
      have K1_0 := Lib.hid ((Blk.drewN HX.out 1).below hb HX.out.lt)
      clear hb HX
      refine hK.out _ _ K1_0.out (fun hS4 => ?_)
      clear hK K
      refine wpAnyH_done (by kernel_rfl) ?_ _
      cases Q
      · go_wp2
        exact ⟨⟨k + 1, hlt, by go_num, (fun j hj => by rcases Nat.lt_or_ge j k with h | h; exact HNO.out j h; obtain rfl : j = k := (by omega); exact HSK.out), K1_0.out, L1.out⟩, by simp [intOf]; omega⟩
      · go_wp2
        go_ret
        exact ⟨ret_int (by rw [Z1.out k hlt HSK.out HNO.out]), L1.out⟩
    · obtain rfl : k = m := by omega
      go_wp2
      go_loopw [23] (fun i wq => ∃ j : Nat, j ≤ k ∧ i = .int .i64 j ∧ (∀ i, i < j → U i = true) ∧ Below w.heap.size w wq) (fun i _ => k - (intOf i).toNat)
      case atStart => exact ⟨0, Nat.zero_le _, rfl, (fun j hj => by omega), HB.out⟩
      case round =>
        obtain ⟨j, hj, rfl, hfull, hb⟩ := hrel
        have HB2 := Lib.hid hb; have HF := Lib.hid hfull; clear hfull hb
        by_cases hlt2 : j < k
        · have c0 := H2.out j hlt2 _ HB2.out
          generalize hU : U j = Q at c0
          have HU := Lib.hid hU; clear hU
          have hji : (j : Int) < (k : Int) := by omega
          cases Q
          · go_wp2
            go_ret
            exact ⟨ret_int (by rw [Z2.out HNO.out j hlt2 HU.out HF.out]), HB2.out⟩
          · go_wp2
            exact ⟨⟨j + 1, hlt2, by go_num, (fun i hi => by rcases Nat.lt_or_ge i j with h | h; exact HF.out i h; obtain rfl : i = j := (by omega); exact HU.out), HB2.out⟩, by simp [intOf]; omega⟩
        · obtain rfl : j = k := by omega
          have hz := Z3.out HNO.out HF.out
          by_cases hneg : pk < 0
          · rw [if_pos hneg] at hz
            have hw : IntKind.i64.wrap (-1 - pk) = -1 - pk := by simp [IntKind.wrap, IntKind.bits, IntKind.signed]; omega
            have ht : (-1 - pk).tmod (j : Int) = (Z : Int) := by rw [hz, Int.tmod_eq_emod_of_nonneg (by omega)]
            have HT := Lib.hid ht; clear hz
            go_wp2
            go_ret
            exact ⟨ret_int (by first | exact HT.out | simp_all), HB2.out⟩
          · rw [if_neg hneg] at hz
            have ht : pk.tmod (j : Int) = (Z : Int) := by rw [hz, Int.tmod_eq_emod_of_nonneg (by omega)]
            have hn0 : 0 ≤ pk := by omega
            have HT := Lib.hid ht; clear hz
            go_wp2
            go_ret
            exact ⟨ret_int (by first | exact HT.out | simp_all), HB2.out⟩
end Go.Proofs.YtgnjbjbgfhjakaaGreat
