/-
  What read of package msg answers: the numbers that bytes begin with. A contract over the translation; it says its own conditions.
-/
import Derived.BigRegionIn
import Derived.Test.YtkddhjbdijegoaaDoorMsF15
namespace Go.Proofs.YtkddhjbdijegoaaDoor
open Go.RowKit Go.Shelf
set_option linter.unusedVariables false
set_option linter.unusedSimpArgs false
attribute [local go_sem] Oper.semAt_some

/-- a row of six numbers, those that have come ahead -/
def hc15 (pre : List Int) : List Value := pre.map (Value.int .u64) ++ List.replicate (6 - pre.length) (.int .u64 0)
theorem hc15_at (pre : List Int) (h : pre.length < 6) : (hc15 pre)[pre.length]? = some (.int .u64 0) := by
  unfold hc15
  rw [List.getElem?_append_right (by simp), List.length_map, Nat.sub_self, List.getElem?_replicate, if_pos (by omega)]
theorem hc15_set (pre : List Int) (x : Int) (h : pre.length < 6) : (hc15 pre).set pre.length (.int .u64 x) = hc15 (pre ++ [x]) := by
  unfold hc15
  obtain ⟨r, hr⟩ : ∃ r, 6 - pre.length = r + 1 := ⟨6 - pre.length - 1, by omega⟩
  rw [List.set_append_right _ _ (by simp), List.length_map, Nat.sub_self, hr, List.replicate_succ, List.set_cons_zero, List.map_append, List.length_append, List.append_assoc]
  rw [show 6 - (pre.length + [x].length) = r from by simp; omega]
  rfl
theorem Blk.keptRow {W W' : World} {b t : Nat} {cs : List Value} {row : Option Nat} (h : Blk W b cs t) (hg : W.grownBy W' row) (hr : ∀ r, row = some r → ∃ o : Obj, W.heap[r]? = some o ∧ o.isCells = false) : Blk W' b cs t := by
  refine (hg.block b h.lt (fun e => ?_)).trans h
  obtain ⟨o, ho, hc⟩ := hr b e.symm
  unfold Blk at h
  rw [h] at ho
  injection ho with ho
  subst ho
  cases hc
theorem hc15_six (pre : List Int) (h : pre.length ≤ 6) : ∃ c0 c1 c2 c3 c4 c5, hc15 pre = [.int .u64 c0, .int .u64 c1, .int .u64 c2, .int .u64 c3, .int .u64 c4, .int .u64 c5] ∧ (pre.length = 6 → pre = [c0, c1, c2, c3, c4, c5]) := by
  have e : hc15 pre = (pre ++ List.replicate (6 - pre.length) 0).map (Value.int .u64) := by unfold hc15; simp
  have hl : (pre ++ List.replicate (6 - pre.length) (0 : Int)).length = 6 := by simp; omega
  have e2 : pre.length = 6 → pre = pre ++ List.replicate (6 - pre.length) (0 : Int) := fun h => by rw [h]; simp
  rw [e]
  generalize pre ++ List.replicate (6 - pre.length) (0 : Int) = q at hl e2
  match q, hl with
  | [c0, c1, c2, c3, c4, c5], _ => exact ⟨_, _, _, _, _, _, rfl, e2⟩
set_option maxRecDepth 100000 in
set_option maxHeartbeats 4000000 in
theorem read_any (A : Option Addr) (len cap : Nat) (d : List Int) (w : World) (hd : Dat w A len cap d) (hS : Szs w) : Calls Tryd.prog 22 #[.slice A len cap] w fun e w' =>
    (∃ c0 c1 c2 c3 c4 c5, e = .returned (.tuple #[.agg #[.int .u64 c0, .int .u64 c1, .int .u64 c2, .int .u64 c3, .int .u64 c4, .int .u64 c5], .bool (decide (11 ≤ len))]) ∧ (11 ≤ len → up15 d 6 = [c0, c1, c2, c3, c4, c5])) ∧ Below w.heap.size w w' := by
  have HD := Lib.hid hd; have HSZ := Lib.hid hS
  clear hd hS
  refine (callsIn_wide (n := 9)).1 ?_
  refine callsIn_of_wp_marks Tryd.func22 rfl trivial ?_ rfl
  simp only [Tryd.ntmps22, List.size_toArray, List.length_cons, List.length_nil, Nat.reduceAdd, Nat.reduceSub, Array.replicate_succ, Array.replicate_zero, List.push_toArray, List.append_toArray, List.nil_append, List.cons_append]
  gi_wp2
  refine ⟨trivial, ?_⟩
  obtain ⟨B, hB⟩ : ∃ B, B = w.heap.size := ⟨_, rfl⟩
  have kR := Blk.new w [.int .u64 0, .int .u64 0, .int .u64 0, .int .u64 0, .int .u64 0, .int .u64 0] 39
  have kH := Blk.nextn (w.alloc (.cells #[.int .u64 0, .int .u64 0, .int .u64 0, .int .u64 0, .int .u64 0, .int .u64 0] 39)) (w.heap.size + 1) [.int .u64 0, .int .u64 0, .int .u64 0, .int .u64 0, .int .u64 0, .int .u64 0] 39 (by simp)
  have kN := Blk.nextn ((w.alloc (.cells #[.int .u64 0, .int .u64 0, .int .u64 0, .int .u64 0, .int .u64 0, .int .u64 0] 39)).alloc (.cells #[.int .u64 0, .int .u64 0, .int .u64 0, .int .u64 0, .int .u64 0, .int .u64 0] 39)) (w.heap.size + 1 + 1) [.int .i64 0] 3 (by simp)
  replace kR := (kR.alloc (.cells #[.int .u64 0, .int .u64 0, .int .u64 0, .int .u64 0, .int .u64 0, .int .u64 0] 39)).alloc (.cells #[.int .i64 0] 3)
  replace kH := kH.alloc (.cells #[.int .i64 0] 3)
  have hb0 : Below w.heap.size w (((w.alloc (.cells #[.int .u64 0, .int .u64 0, .int .u64 0, .int .u64 0, .int .u64 0, .int .u64 0] 39)).alloc (.cells #[.int .u64 0, .int .u64 0, .int .u64 0, .int .u64 0, .int .u64 0, .int .u64 0] 39)).alloc (.cells #[.int .i64 0] 3)) :=
    (((Below.refl _ w).alloc (Nat.le_refl _) _).alloc (by simp) _).alloc (by simp; omega) _
  have hz0 : (((w.alloc (.cells #[.int .u64 0, .int .u64 0, .int .u64 0, .int .u64 0, .int .u64 0, .int .u64 0] 39)).alloc (.cells #[.int .u64 0, .int .u64 0, .int .u64 0, .int .u64 0, .int .u64 0, .int .u64 0] 39)).alloc (.cells #[.int .i64 0] 3)).heap.size = w.heap.size + 3 := by simp
  obtain ⟨W0, hW0⟩ : ∃ W0, W0 = (((w.alloc (.cells #[.int .u64 0, .int .u64 0, .int .u64 0, .int .u64 0, .int .u64 0, .int .u64 0] 39)).alloc (.cells #[.int .u64 0, .int .u64 0, .int .u64 0, .int .u64 0, .int .u64 0, .int .u64 0] 39)).alloc (.cells #[.int .i64 0] 3)) := ⟨_, rfl⟩
  rw [← hW0] at kR kH kN hb0 hz0 ⊢
  clear hW0
  refine (numbers_in (9 - 1) A len cap W0).mono ?_
  rintro e w' ⟨rfl, rfl⟩
  have kS := Blk.new W0 [.slice A len cap] 24
  replace kR := kR.alloc (.cells #[.slice A len cap] 24)
  replace kH := kH.alloc (.cells #[.slice A len cap] 24)
  replace kN := kN.alloc (.cells #[.slice A len cap] 24)
  have hb1 : Below w.heap.size w (W0.alloc (.cells #[.slice A len cap] 24)) := hb0.alloc (by omega) _
  have hz1 : (W0.alloc (.cells #[.slice A len cap] 24)).heap.size = w.heap.size + 4 := by simp; omega
  rw [hz0] at kS ⊢
  obtain ⟨W1, hW1⟩ : ∃ W1, W1 = (W0.alloc (.cells #[.slice A len cap] 24)) := ⟨_, rfl⟩
  rw [← hW1] at kR kH kN kS hb1 hz1 ⊢
  clear hW1 hb0 hz0
  rw [← hB] at kR kH kN kS hb1 hz1 ⊢
  have HKR := Lib.hid kR; have HKH := Lib.hid kH; have HKN := Lib.hid kN; have HKS := Lib.hid kS; have HB1 := Lib.hid hb1; have HZ1 := Lib.hid hz1; have HB := Lib.hid hB
  have HZ2 : Hid (B ≤ W1.heap.size) := Lib.hid (by have := HZ1.out; omega)
  clear kR kH kN kS hb1 hz1 hB
  gi_wp2
  refine wpIn_rangeFunc_ownG rfl (by omega) (gf := 39) (lb := #[.pointer (some ⟨B + 3, 0, none⟩)]) rfl trivial (enters_of Tryd.func39 (by kernel_rfl) rfl)
    (encs := fun x : Int => #[Value.int .u64 x]) (Kp := Kp15 B (B + 3)) (S := fun ys => ∃ k, k ≤ 6 ∧ ys = up15 d k ∧ (k = 6 ↔ 11 ≤ len)) (Sp := fun _ => True) (N := 6) (w0 := W1)
    (fun l J Jx W hW _ _ hY h0 => nums_in (9 - 1) (by omega) l (B + 3) B A len cap d J Jx hY W (fun W' hk => by
        have hb : Below B w W' := (HB1.out.trans (hW.mono HZ2.out)).trans hk.1
        refine ⟨?_, HD.out.below (HB.out ▸ hb)⟩
        have h1 : Blk W (B + 3) [.slice A len cap] 24 := HKS.out.below hW HKS.out.lt
        exact Blk.cell (show Blk W' (B + 3) _ _ from hk.2.trans h1) 0) (HSZ.out.below (HB.out ▸ (HB1.out.trans (hW.mono HZ2.out)))) h0)
    (fun h k => h.trans k) (fun W l o o' => Kp15.put HZ2.out (by have := HZ1.out; omega) W l o o') (Below.refl _ _) (fun _ => rfl)
    (fun pre W => (pre.length ≤ 6 ∧ Blk W B [.int .u64 0, .int .u64 0, .int .u64 0, .int .u64 0, .int .u64 0, .int .u64 0] 39 ∧ Blk W (B + 1) (hc15 pre) 39 ∧ Blk W (B + 1 + 1) [.int .i64 (pre.length : Int)] 3) ∧ Below B w W)
    (fun _ _ _ => False)
    (OwnFrom.and (Own.from (fun s A B' row hs hg hr => ⟨hs.1, hs.2.1.keptRow hg hr, hs.2.2.1.keptRow hg hr, hs.2.2.2.keptRow hg hr⟩) _) (ownFrom_below (Nat.le_of_eq HB.out) HZ2.out))
    (fun _ _ _ _ _ hs _ _ => hs)
    ⟨⟨Nat.zero_le _, HKR.out, HKH.out, HKN.out⟩, HB1.out⟩
    (fun x => { tmps := #[Value.slice A len cap, undef, Value.pointer (some { block := B, off := 0 }), Value.bool false,
          Value.pointer (some { block := B + 1, off := 0 }), Value.pointer (some { block := B + 1 + 1, off := 0 }),
          .int .u64 x, Value.slice A len cap,
          Value.func (Fn.func 39) #[] #[Value.pointer (some { block := B + 3, off := 0 })], .int .u64 x, undef, undef, undef,
          undef, undef, undef, undef, undef], defers := [] }) ?assign ?body ?done ?stop
  case assign =>
    intro l x W K hK
    gi_wp2
    exact hK
  case body =>
    rintro l pre x W ⟨⟨hl, kR, kH, kN⟩, hB⟩ hlt
    have m1 : W.cell? ⟨B + 1 + 1, 0, none⟩ = some (.int .i64 (pre.length : Int)) := kN.cell 0
    have f1 : ∀ o, W.frozen? ⟨B + 1 + 1, o, none⟩ = false := fun o => kN.free o
    have m2 : W.cell? ⟨B + 1, pre.length, none⟩ = some (.int .u64 0) := (kH.cell _).trans (hc15_at _ hlt)
    have f2 : ∀ o, W.frozen? ⟨B + 1, o, none⟩ = false := fun o => kH.free o
    have m3 : ∀ v, (W.setCell ⟨B + 1, pre.length, none⟩ v).cell? ⟨B + 1 + 1, 0, none⟩ = some (.int .i64 (pre.length : Int)) := fun v => (kN.other ⟨B + 1, pre.length, none⟩ v (by show B + 1 + 1 ≠ B + 1; omega)).cell 0
    have f3 : ∀ v o, (W.setCell ⟨B + 1, pre.length, none⟩ v).frozen? ⟨B + 1 + 1, o, none⟩ = false := fun v o => (kN.other ⟨B + 1, pre.length, none⟩ v (by show B + 1 + 1 ≠ B + 1; omega)).free o
    have hw : IntKind.i64.wrap ((pre.length : Int) + 1) = ((pre.length + 1 : Nat) : Int) := by simp [IntKind.wrap, IntKind.signed, IntKind.bits]; omega
    have hlI : (pre.length : Int) < 6 := by omega
    have hset := hc15_set pre x hlt
    have hl2 : (pre ++ [x]).length = pre.length + 1 := by simp
    generalize hc15 pre = X at *
    generalize hN : pre.length = N at *
    have KR := Lib.hid kR; have KH := Lib.hid kH; have KN := Lib.hid kN; have HBX := Lib.hid hB; have HSET := Lib.hid hset; have HL2 := Lib.hid hl2
    clear kR kH kN hB hset hl2 hN
    gi_wp2
    have o1 : ∀ (b : Nat) (cs : List Value) t, Blk W b cs t → b ≠ B + 1 → b ≠ B + 1 + 1 → ∀ u v, Blk ((W.setCell ⟨B + 1, N, none⟩ u).setCell ⟨B + 1 + 1, 0, none⟩ v) b cs t := fun b cs t h h1 h2 u v => (h.other ⟨B + 1, N, none⟩ u h1).other ⟨B + 1 + 1, 0, none⟩ v h2
    refine ⟨((KeepsOthers.setCell _ _ _).trans (KeepsOthers.setCell _ _ _)).from _, ⟨((Below.refl B W).setCell (p := ⟨B + 1, N, none⟩) (by show B ≤ B + 1; omega) _).setCell (p := ⟨B + 1 + 1, 0, none⟩) (by show B ≤ B + 1 + 1; omega) _, ?_⟩, ⟨?_, o1 _ _ _ KR.out (by omega) (by omega) _ _, ?_, ?_⟩, (HBX.out.setCell (p := ⟨B + 1, N, none⟩) (by show B ≤ B + 1; omega) _).setCell (p := ⟨B + 1 + 1, 0, none⟩) (by show B ≤ B + 1 + 1; omega) _⟩
    · exact (Below.heap_setCell _ _ _ _ (by show B + 3 ≠ B + 1 + 1; omega)).trans (Below.heap_setCell _ _ _ _ (by show B + 3 ≠ B + 1; omega))
    · rw [HL2.out]; omega
    · rw [← HSET.out]; exact (KH.out.set N _).other ⟨B + 1 + 1, 0, none⟩ _ (by show B + 1 ≠ B + 1 + 1; omega)
    · rw [HL2.out]; exact (KN.out.other ⟨B + 1, N, none⟩ _ (by show B + 1 + 1 ≠ B + 1; omega)).set 0 _
  case done =>
    rintro D ys W hD ⟨k, hk, rfl, hiff⟩ ⟨⟨hl, kR, kH, kN⟩, hB⟩ hK
    rw [up15_len] at kN
    obtain ⟨c0, c1, c2, c3, c4, c5, hcs, hc6⟩ := hc15_six (up15 d k) hl
    rw [up15_len] at hc6
    have HC6 := Lib.hid hc6; clear hc6
    rw [hcs] at kH
    have n0 : W.cell? ⟨B + 1 + 1, 0, none⟩ = some (.int .i64 (k : Int)) := kN.cell 0
    have m0 : W.cell? ⟨B + 1, 0, none⟩ = some (.int .u64 c0) := kH.cell 0
    have m1 : W.cell? ⟨B + 1, 1, none⟩ = some (.int .u64 c1) := kH.cell 1
    have m2 : W.cell? ⟨B + 1, 2, none⟩ = some (.int .u64 c2) := kH.cell 2
    have m3 : W.cell? ⟨B + 1, 3, none⟩ = some (.int .u64 c3) := kH.cell 3
    have m4 : W.cell? ⟨B + 1, 4, none⟩ = some (.int .u64 c4) := kH.cell 4
    have m5 : W.cell? ⟨B + 1, 5, none⟩ = some (.int .u64 c5) := kH.cell 5
    have r0 : W.cell? ⟨B, 0, none⟩ = some (.int .u64 0) := kR.cell 0
    have r1 : W.cell? ⟨B, 1, none⟩ = some (.int .u64 0) := kR.cell 1
    have r2 : W.cell? ⟨B, 2, none⟩ = some (.int .u64 0) := kR.cell 2
    have r3 : W.cell? ⟨B, 3, none⟩ = some (.int .u64 0) := kR.cell 3
    have r4 : W.cell? ⟨B, 4, none⟩ = some (.int .u64 0) := kR.cell 4
    have r5 : W.cell? ⟨B, 5, none⟩ = some (.int .u64 0) := kR.cell 5
    have rf : ∀ o, W.frozen? ⟨B, o, none⟩ = false := fun o => kR.free o
    have KR := Lib.hid kR; have KH := Lib.hid kH; have HBX := Lib.hid hB; have HCS := Lib.hid hcs; have HIFF := Lib.hid hiff; have HK := Lib.hid hK
    clear kR kH kN hB hcs hiff hl hK
    gi_wp2
    gi_region
    have hDB : D ≠ B := by have := HZ1.out; omega
    have p0 : ∀ (X : World) (cs : List Value) (o : Nat) (v : Value), Blk X B cs 39 ∧ Below B w X ∧ X.heap[D]? = some (.deferred (some [])) → Blk (X.setCell ⟨B, o, none⟩ v) B (cs.set o v) 39 ∧ Below B w (X.setCell ⟨B, o, none⟩ v) ∧ (X.setCell ⟨B, o, none⟩ v).heap[D]? = some (.deferred (some [])) :=
      fun X cs o v h => ⟨h.1.set o v, h.2.1.setCell (p := ⟨B, o, none⟩) (Nat.le_refl _) v, (Below.heap_setCell X ⟨B, o, none⟩ v D hDB).trans h.2.2⟩
    have p1 := p0 _ _ 5 (.int .u64 c5) (p0 _ _ 4 (.int .u64 c4) (p0 _ _ 3 (.int .u64 c3) (p0 _ _ 2 (.int .u64 c2) (p0 _ _ 1 (.int .u64 c1) (p0 _ _ 0 (.int .u64 c0) ⟨KR.out, HBX.out, HK.out⟩)))))
    obtain ⟨W4, hW4⟩ : ∃ W4, W4 = ((((((W.setCell ⟨B, 0, none⟩ (.int .u64 c0)).setCell ⟨B, 1, none⟩ (.int .u64 c1)).setCell ⟨B, 2, none⟩ (.int .u64 c2)).setCell ⟨B, 3, none⟩ (.int .u64 c3)).setCell ⟨B, 4, none⟩ (.int .u64 c4)).setCell ⟨B, 5, none⟩ (.int .u64 c5)) := ⟨_, rfl⟩
    rw [← hW4] at p1 ⊢
    clear hW4
    obtain ⟨k4, b4, d4⟩ := p1
    have k5 : Blk W4.drew B [.int .u64 c0, .int .u64 c1, .int .u64 c2, .int .u64 c3, .int .u64 c4, .int .u64 c5] 39 := k4
    have b5 : Below B w W4.drew := b4.drew
    have d5 : W4.drew.heap[D]? = some (.deferred (some [])) := d4
    clear k4 b4 d4 p0
    obtain ⟨W5, hW5⟩ : ∃ W5, W5 = W4.drew := ⟨_, rfl⟩
    rw [← hW5] at k5 b5 d5 ⊢
    clear hW5 r0 r1 r2 r3 r4 r5 rf n0 m0 m1 m2 m3 m4 m5 KR KH HBX HK
    have hbf : Below B w (W5.putObj D (.deferred none)) := b5.trans (belowK_b (w := W1) HZ2.out W5 D _ _ hD d5 rfl rfl)
    have kf : Blk (W5.putObj D (.deferred none)) B [.int .u64 c0, .int .u64 c1, .int .u64 c2, .int .u64 c3, .int .u64 c4, .int .u64 c5] 39 := (World.putObj_heap_other (Ne.symm hDB)).trans k5
    have HBF := Lib.hid hbf; have HKF := Lib.hid kf; have D5 := Lib.hid d5
    clear hbf kf k5 b5 d5
    gi_wp2
    refine ⟨by simp, .inl ⟨_, _, rfl, run_takeDeferred D5.out, ?_⟩⟩
    have q0 := HKF.out.cell 0
    have q1 := HKF.out.cell 1
    have q2 := HKF.out.cell 2
    have q3 := HKF.out.cell 3
    have q4 := HKF.out.cell 4
    have q5 := HKF.out.cell 5
    refine ⟨.tuple #[.agg #[.int .u64 c0, .int .u64 c1, .int .u64 c2, .int .u64 c3, .int .u64 c4, .int .u64 c5], .bool ((k : Int) == 6)], ?_, ⟨c0, c1, c2, c3, c4, c5, ?_, ?_⟩, HB.out ▸ HBF.out⟩
    · simp [results, Tryd.results22, go_sem, q0, q1, q2, q3, q4, q5]
    · have : ((k : Int) == 6) = decide (11 ≤ len) := by
        apply Bool.eq_iff_iff.2
        rw [decide_eq_true_eq, ← HIFF.out, beq_iff_eq]; omega
      rw [this]
    · intro h11
      have := HIFF.out.2 h11
      subst this
      exact HC6.out rfl
  case stop =>
    rintro D c pre W _ _ h _
    exact h.elim
end Go.Proofs.YtkddhjbdijegoaaDoor
