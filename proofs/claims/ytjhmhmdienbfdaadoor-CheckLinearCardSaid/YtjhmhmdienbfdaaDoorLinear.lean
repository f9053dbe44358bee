/-
  CheckLinear's walk: for every two slices of bytes it returns true and changes nothing that was there.
-/
import Derived.Test.YtjhmhmdienbfdaaDoorLaw03
namespace Go.Proofs.YtjhmhmdienbfdaaDoor
open Go.RowKit
set_option linter.unusedVariables false
set_option linter.unusedSimpArgs false

theorem over_byt : ∀ {l m : List Int}, Byt l → Byt m → Byt (over l m)
  | [], _, _, _ => by unfold over; rw [List.zipWith_nil_left]; exact Byt.nil
  | _ :: _, [], _, _ => by unfold over; rw [List.zipWith_nil_right]; exact Byt.nil
  | a :: l, b :: m, hl, hm => by
    have e : over (a :: l) (b :: m) = ((a.toNat ^^^ b.toNat : Nat) : Int) :: over l m := rfl
    have h1 := hl a (by simp)
    have h2 := hm b (by simp)
    have h3 : a.toNat ^^^ b.toNat < 2 ^ 8 := Nat.xor_lt_two_pow (by omega) (by omega)
    intro x hx
    rw [e] at hx
    rcases List.mem_cons.1 hx with rfl | hx
    · omega
    · exact over_byt hl.tail hm.tail x hx
theorem over_at (l m : List Int) (k : Nat) (hk : k < l.length) (hkm : k < m.length) : (over l m).getD k 0 = (((l.getD k 0).toNat ^^^ (m.getD k 0).toNat : Nat) : Int) := by
  unfold over
  simp only [List.getD_eq_getElem?_getD, List.getElem?_zipWith, List.getElem?_eq_getElem hk, List.getElem?_eq_getElem hkm]; rfl
/-- the row that is filled: k bytes are laid -/
def fill (o : List Int) (k : Nat) : List Int := o.take k ++ List.replicate (o.length - k) 0
theorem fill_len (o : List Int) (k : Nat) (h : k ≤ o.length) : (fill o k).length = o.length := by
  unfold fill; rw [List.length_append, List.length_take, List.length_replicate]; omega
theorem fill_zero (o : List Int) : fill o 0 = List.replicate o.length 0 := by unfold fill; simp
theorem fill_all (o : List Int) : fill o o.length = o := by unfold fill; simp
theorem fill_set (o : List Int) (k : Nat) (h : k < o.length) : (fill o k).set k (o.getD k 0) = fill o (k + 1) := by
  unfold fill
  rw [List.set_append_right _ _ (by rw [List.length_take]; omega), List.length_take, Nat.min_eq_left (by omega), Nat.sub_self]
  rw [show o.length - k = (o.length - (k + 1)) + 1 from by omega, List.replicate_succ, List.set_cons_zero]
  rw [List.take_succ_eq_append_getElem h, List.append_assoc, List.getD_eq_getElem?_getD, List.getElem?_eq_getElem h]; rfl
set_option maxHeartbeats 2000000 in
theorem linear_one (A B : Option Addr) (ca m cb k : Nat) (l r : List Int) (w : World) (hl : Rd w A l) (hln : l.length = k) (hr : Rd w B r) (hrm : r.length = m) (hk1 : k ≤ 1000) (hle : k ≤ m) (hm1 : m ≤ 1000) (hca : k ≤ ca) (hcb : m ≤ cb) (hT : Mv w) :
    Calls Tryd.prog 6 #[.slice A k ca, .slice B m cb] w fun e w' => e = .returned (.bool true) ∧ Below w.heap.size w w' := by
  obtain ⟨i0, hi, hz0, hz1, hz2⟩ := info_parts info_u8
  have hcmp : ¬ (m : Int) < (k : Int) := by omega
  have hn : k ≤ 1000 := by omega
  have hm : m ≤ 1000 := by omega
  have hkn : k ≤ k := by omega
  have hkm : k ≤ m := by omega
  have hkca : k ≤ ca := by omega
  have hkcb : k ≤ cb := by omega
  have HT := Lib.hid hT; have HL := Lib.hid hl; have HLN := Lib.hid hln; have HR := Lib.hid hr; have HRM := Lib.hid hrm; clear hT hl hln hr hrm
  obtain ⟨o, hO⟩ : ∃ o, o = over (l.take k) (r.take k) := ⟨_, rfl⟩
  have hob : Byt o := by rw [hO]; exact over_byt (HL.out.1.take k) (HR.out.1.take k)
  have hlk : (l.take k).length = k := by rw [List.length_take, HLN.out]; omega
  have hrk : (r.take k).length = k := by rw [List.length_take, HRM.out]; omega
  have hol : o.length = k := by rw [hO, over_len _ _ (hlk.trans hrk.symm), hlk]
  have hsm := sm_over (l.take k) (r.take k) (hlk.trans hrk.symm)
  rw [← hO, hlk] at hsm
  have HO := Lib.hid hO; have HOB := Lib.hid hob; have HLK := Lib.hid hlk; have HRK := Lib.hid hrk; have HOL := Lib.hid hol; have HSM := Lib.hid hsm
  clear hO hob hlk hrk hol hsm
  go_enter Tryd.func6, Tryd.ntmps6
  go_wp2_with fail
  refine (first_any _ HT.out).mono ?_
  rintro e w1 ⟨rfl, hb1⟩
  have HB1 := Lib.hid hb1; clear hb1
  go_wp2_with (at_make; refine wpList_make_full _ rfl _ _ 22 rfl w.heap.size 5 i0 (.int .u8 0) 1 Tryd.underlying22 hi hz0 hz1 .i64 .i64 _ _ k rfl rfl ?c1 ?c2 ?c3 ?c4 HB1.out.size ?_)
  case c1 => rfl
  case c2 => rfl
  case c3 => rw [hz2]; omega
  case c4 => unfold maxLen; omega
  intro w2 hown hgr
  rw [toList_madeCells_one] at hown
  have hx0 : w2.ownsRow w.heap.size 5 1 (.slice (some ⟨w1.heap.size, 0, none⟩) k k) k ((fill o 0).map (Value.int .u8)) := by
    rw [fill_zero, HOL.out, List.map_replicate]; exact hown
  have HB2 := Lib.hid (HB1.out.grown hgr HB1.out.size (fun j hj => by cases hj))
  have HX0 := Lib.hid hx0
  obtain ⟨g, hg⟩ : ∃ g, g = w1.heap.size := ⟨_, rfl⟩
  rw [← hg] at HX0 ⊢
  clear hown hgr hx0 hg
  go_wp2
  go_loopw [27] (fun c wr => ∃ j : Nat, j ≤ k ∧ c = .int .i64 j ∧ wr.ownsRow w.heap.size 5 1 (.slice (some ⟨g, 0, none⟩) k k) k ((fill o j).map (Value.int .u8)) ∧ Below w.heap.size w wr) (fun c _ => k - (intOf c).toNat)
  case atStart => exact ⟨0, Nat.zero_le _, rfl, HX0.out, HB2.out⟩
  case round =>
    obtain ⟨j, hj, rfl, hx, hb⟩ := hrel
    have HX := Lib.hid hx; have HB := Lib.hid hb; clear hx hb
    by_cases hlt : j < k
    · have hla := HL.out.below HB.out
      have hra := HR.out.below HB.out
      obtain ⟨ba, oa, hA, hca'⟩ := hla.2.2 (by rw [HLN.out]; omega)
      obtain ⟨bb, ob, hBB, hcb'⟩ := hra.2.2 (by rw [HRM.out]; omega)
      have ha := hca' j (by rw [HLN.out]; omega)
      have hb := hcb' j (by rw [HRM.out]; omega)
      obtain ⟨x, hX⟩ : ∃ x : Nat, (x : Int) = l.getD j 0 := ⟨(l.getD j 0).toNat, by have := HL.out.1.getD j; omega⟩
      obtain ⟨y, hY⟩ : ∃ y : Nat, (y : Int) = r.getD j 0 := ⟨(r.getD j 0).toNat, by have := HR.out.1.getD j; omega⟩
      have hx8 : x < 256 := by have := HL.out.1.getD j; omega
      have hy8 : y < 256 := by have := HR.out.1.getD j; omega
      have hz : o.getD j 0 = ((x ^^^ y : Nat) : Int) := by
        rw [HO.out, over_at _ _ j (by rw [HLK.out]; exact hlt) (by rw [HRK.out]; exact hlt)]
        rw [List.getD_eq_getElem?_getD, List.getElem?_take_of_lt hlt, ← List.getD_eq_getElem?_getD, ← hX]
        rw [List.getD_eq_getElem?_getD, List.getElem?_take_of_lt hlt, ← List.getD_eq_getElem?_getD, ← hY]
        rfl
      rw [← hX] at ha
      rw [← hY] at hb
      have hxy := u8_xor_nat x y hx8 hy8
      generalize hzz : x ^^^ y = z at hz hxy
      have hf := HX.out.frozenAt j
      have hfl : (fill o j).length = k := by rw [fill_len _ _ (by rw [HOL.out]; omega), HOL.out]
      obtain ⟨v0, hv0⟩ : ∃ v0, v0 = (fill o j).getD j 0 := ⟨_, rfl⟩
      have hc : wr.cell? ⟨g, j, none⟩ = some (.int .u8 v0) := by
        rw [HX.out.cellAt j (by omega), List.getElem?_map, hv0, List.getD_eq_getElem?_getD, List.getElem?_eq_getElem (by omega)]; rfl
      clear hfl hv0
      have hjm : (j : Int) < (m : Int) := by omega
      have hjn : (j : Int) < (k : Int) := by omega
      have HZ := Lib.hid hz
      clear hla hra hca' hcb' hz hX hY hx8 hy8 hzz
      subst hA; subst hBB
      go_wp2
      go_region
      have ho3 := (HX.out.stored j (.int .u8 (z : Int))).1
      have hb3 := HB.out.setCell (p := ⟨g, j, none⟩) (HX.out.lt g rfl).1 (.int .u8 (z : Int))
      rw [← List.map_set, ← HZ.out, fill_set _ _ (by rw [HOL.out]; exact hlt), HZ.out] at ho3
      have ho4 := World.ownsRow.kept ho3 (grown_of_below (Below.refl _ _).drew) (Classical.em _)
      have HO4 := Lib.hid ho4; have HB4 := Lib.hid hb3.drew; clear ho3 hb3 ho4 ha hb hc hf
      go_wp2
      go_roundw
      case rel => exact ⟨j + 1, by omega, by go_num, HO4.out, HB4.out⟩
      case measure => simp [intOf]; omega
    · obtain rfl : k = j := by omega
      have hxk := HX.out
      rw [show fill o k = o from by rw [← HOL.out, fill_all]] at hxk
      obtain ⟨hrx, -⟩ := own_rd hxk HOB.out (by omega)
      have b5 : Below wr.heap.size wr wr.drew := (Below.refl _ _).drew
      obtain ⟨w5, hw5⟩ : ∃ x, x = wr.drew := ⟨_, rfl⟩
      rw [← hw5] at b5
      have hb5 := HB.out.trans (b5.mono HB.out.size)
      have hx5 := hrx.below b5
      have hl5 := HL.out.below hb5
      have hr5 := HR.out.below hb5
      have ht5 := HT.out.below hb5
      have s1 := sm_lt (HL.out.1.take k)
      have s2 := sm_lt (HR.out.1.take k)
      have s3 := sm_lt HOB.out
      have e1 : ∀ w', Below w5.heap.size w5 w' → Calls Tryd.prog 8 #[.slice A k ca] w' fun e w'' => e = .returned (.int .u32 (sm (l.take k) : Nat)) ∧ w' = w'' := fun w' h => sum_any A k ca _ w' ((hl5.below h).upto k) HLK.out (ht5.below h)
      have e2 : ∀ w', Below w5.heap.size w5 w' → Calls Tryd.prog 8 #[.slice B k cb] w' fun e w'' => e = .returned (.int .u32 (sm (r.take k) : Nat)) ∧ w' = w'' := fun w' h => sum_any B k cb _ w' ((hr5.below h).upto k) HRK.out (ht5.below h)
      have e3 : ∀ w', Below w5.heap.size w5 w' → Calls Tryd.prog 8 #[.slice (some ⟨g, 0, none⟩) k k] w' fun e w'' => e = .returned (.int .u32 (sm o : Nat)) ∧ w' = w'' := fun w' h => sum_any _ k k _ w' (hx5.below h) HOL.out (ht5.below h)
      have hsm := HSM.out
      generalize sm (l.take k) = S1 at s1 e1 hsm
      generalize sm (r.take k) = S2 at s2 e2 hsm
      generalize sm o = S3 at s3 e3 hsm
      have s4 := xor_lt32 s1 s2
      have x1 := u32_xor_nat S1 S2 s1 s2
      generalize S1 ^^^ S2 = S4 at s4 x1 hsm
      have x2 := u32_xor_nat S4 S3 s4 s3
      generalize S4 ^^^ S3 = S5 at x2 hsm
      obtain ⟨w7, hrun, hown7, hgr7⟩ := run_make_full (P := Tryd.prog) w5 w5.heap.size 22 5 i0 (.int .u8 0) 1 Tryd.underlying22 hi hz0 hz1 .i64 .i64 k (by rw [hz2]; omega) (by unfold maxLen; omega) (Nat.le_refl _)
      rw [Nat.mul_one, show (Value.int .u8 0).cells = #[.int .u8 0] from rfl, toList_madeCells_one] at hown7
      have hb7 : Below w5.heap.size w5 w7 := (Below.refl _ _).grown hgr7 (Nat.le_refl _) (fun j hj => by cases hj)
      have hz7 : Byt (List.replicate k 0) := fun n hn => by rw [List.eq_of_mem_replicate hn]; omega
      rw [show List.replicate k (Value.int .u8 0) = (List.replicate k (0 : Int)).map (Value.int .u8) from by rw [List.map_replicate]] at hown7
      obtain ⟨hr7, -⟩ := own_rd hown7 hz7 (by omega)
      have e4 : Calls Tryd.prog 8 #[.slice (some ⟨w5.heap.size, 0, none⟩) k k] w7 fun e w'' => e = .returned (.int .u32 (S5 : Nat)) ∧ w7 = w'' := by
        rw [hsm]; exact sum_any _ k k _ w7 hr7 (by simp) (ht5.below hb7)
      have E1 := Lib.hid e1; have E2 := Lib.hid e2; have E3 := Lib.hid e3; have E4 := Lib.hid e4; have HB5 := Lib.hid hb5; have HB7 := Lib.hid hb7; have X1 := Lib.hid x1; have X2 := Lib.hid x2; have HRUN := Lib.hid hrun
      clear hxk hrx b5 hb5 hx5 hl5 hr5 ht5 s1 s2 s3 s4 e1 e2 e3 e4 hsm hown7 hgr7 hb7 hz7 hr7 hrun x1 x2
      go_wp2_with fail
      refine wp_region_held_drew (S := fun w' => Below w5.heap.size w5 w') (by kernel_rfl) (by rw [hw5]; exact Below.refl _ _) (fun hHeld => ?_)
      rw [← hw5] at hHeld ⊢
      clear hw5
      simp only [List.size_toArray, List.length_cons, List.length_nil, Nat.reduceAdd]
      rw [show Array.replicate 17 false = [false, false, false, false, false, false, false, false, false, false, false, false, false, false, false, false, false].toArray from rfl]
      refine wpAnyH_take (i := 0) (v := ?_) rfl (by kernel_rfl) (by kernel_rfl) (by kernel_rfl) (fun _ _ _ h => h) (Or.inl ⟨by rfl, ?yldq⟩) (by assumption) ?_
      case yldq => (intro w hSw; (try dsimp only at hSw); go_simp; try with_reducible rfl)
      try simp only [Act.put, List.setIfInBounds_toArray, List.set_cons_zero, List.set_cons_succ, List.getElem_toArray, List.getElem_cons_succ, List.getElem_cons_zero]
      refine wpAnyH_take (i := 1) (v := ?_) rfl (by kernel_rfl) (by kernel_rfl) (by kernel_rfl) (fun _ _ _ h => h) (Or.inl ⟨by rfl, ?yldq⟩) (by assumption) ?_
      case yldq => (intro w hSw; (try dsimp only at hSw); go_simp; try with_reducible rfl)
      try simp only [Act.put, List.setIfInBounds_toArray, List.set_cons_zero, List.set_cons_succ, List.getElem_toArray, List.getElem_cons_succ, List.getElem_cons_zero]
      refine wpAnyH_take (i := 2) (v := ?_) rfl (by kernel_rfl) (by kernel_rfl) (by kernel_rfl) (fun _ _ _ h => h) (Or.inl ⟨by rfl, ?yldq⟩) (by assumption) ?_
      case yldq => (intro w hSw; (try dsimp only at hSw); go_simp; try with_reducible rfl)
      try simp only [Act.put, List.setIfInBounds_toArray, List.set_cons_zero, List.set_cons_succ, List.getElem_toArray, List.getElem_cons_succ, List.getElem_cons_zero]
      refine wpAnyH_take (i := 4) (v := ?_) rfl (by kernel_rfl) (by kernel_rfl) (by kernel_rfl) (fun _ _ _ h => h) (Or.inl ⟨by rfl, ?yldq⟩) (by assumption) ?_
      case yldq => (intro w hSw; (try dsimp only at hSw); go_simp; try with_reducible rfl)
      try simp only [Act.put, List.setIfInBounds_toArray, List.set_cons_zero, List.set_cons_succ, List.getElem_toArray, List.getElem_cons_succ, List.getElem_cons_zero]
      refine wpAnyH_take (i := 5) (v := ?_) rfl (by kernel_rfl) (by kernel_rfl) (by kernel_rfl) (fun _ _ _ h => h) (Or.inl ⟨by rfl, ?yldq⟩) (by assumption) ?_
      case yldq => (intro w hSw; (try dsimp only at hSw); go_simp; try with_reducible rfl)
      try simp only [Act.put, List.setIfInBounds_toArray, List.set_cons_zero, List.set_cons_succ, List.getElem_toArray, List.getElem_cons_succ, List.getElem_cons_zero]
      refine wpAnyH_take (i := 6) (v := ?_) rfl (by kernel_rfl) (by kernel_rfl) (by kernel_rfl) (fun _ _ _ h => h) (Or.inl ⟨by rfl, ?yldq⟩) (by assumption) ?_
      case yldq => (intro w hSw; (try dsimp only at hSw); go_simp; try with_reducible rfl)
      try simp only [Act.put, List.setIfInBounds_toArray, List.set_cons_zero, List.set_cons_succ, List.getElem_toArray, List.getElem_cons_succ, List.getElem_cons_zero]
      refine wpAnyH_take (i := 9) (v := ?_) rfl (by kernel_rfl) (by kernel_rfl) (by kernel_rfl) (fun _ _ _ h => h) (Or.inl ⟨by rfl, ?yldq⟩) (by assumption) ?_
      case yldq => (intro w hSw; (try dsimp only at hSw); go_simp; try with_reducible rfl)
      try simp only [Act.put, List.setIfInBounds_toArray, List.set_cons_zero, List.set_cons_succ, List.getElem_toArray, List.getElem_cons_succ, List.getElem_cons_zero]
      refine wpAnyH_take (i := 12) (v := ?_) rfl (by kernel_rfl) (by kernel_rfl) (by kernel_rfl) (fun _ _ _ h => h) (Or.inl ⟨by rfl, ?yldq⟩) (by assumption) ?_
      case yldq => (intro w hSw; (try dsimp only at hSw); go_simp; try with_reducible rfl)
      try simp only [Act.put, List.setIfInBounds_toArray, List.set_cons_zero, List.set_cons_succ, List.getElem_toArray, List.getElem_cons_succ, List.getElem_cons_zero]
      refine wpAnyH_enter (i := 3) (v := _) rfl (by kernel_rfl) (by kernel_rfl) (by kernel_rfl) (fun _ _ _ h => h) ⟨by rfl, fun w hSw => ⟨_, _, ?yldr, E1.out w hSw⟩⟩ (by assumption) ?_
      case yldr => (go_simp; try with_reducible rfl)
      try simp only [Act.put, List.setIfInBounds_toArray, List.set_cons_zero, List.set_cons_succ, List.getElem_toArray, List.getElem_cons_succ, List.getElem_cons_zero]
      refine wpAnyH_enter (i := 7) (v := _) rfl (by kernel_rfl) (by kernel_rfl) (by kernel_rfl) (fun _ _ _ h => h) ⟨by rfl, fun w hSw => ⟨_, _, ?yldr, E2.out w hSw⟩⟩ (by assumption) ?_
      case yldr => (go_simp; try with_reducible rfl)
      try simp only [Act.put, List.setIfInBounds_toArray, List.set_cons_zero, List.set_cons_succ, List.getElem_toArray, List.getElem_cons_succ, List.getElem_cons_zero]
      refine wpAnyH_enter (i := 10) (v := _) rfl (by kernel_rfl) (by kernel_rfl) (by kernel_rfl) (fun _ _ _ h => h) ⟨by rfl, fun w hSw => ⟨_, _, ?yldr, E3.out w hSw⟩⟩ (by assumption) ?_
      case yldr => (go_simp; try with_reducible rfl)
      try simp only [Act.put, List.setIfInBounds_toArray, List.set_cons_zero, List.set_cons_succ, List.getElem_toArray, List.getElem_cons_succ, List.getElem_cons_zero]
      have x1 := X1.out; have x2 := X2.out; have hrun := HRUN.out
      refine wpAnyH_take (i := 8) (v := ?_) rfl (by kernel_rfl) (by kernel_rfl) (by kernel_rfl) (fun _ _ _ h => h) (Or.inl ⟨by rfl, ?yldq⟩) (by assumption) ?_
      case yldq => (intro w hSw; (try dsimp only at hSw); go_simp; try with_reducible rfl)
      try simp only [Act.put, List.setIfInBounds_toArray, List.set_cons_zero, List.set_cons_succ, List.getElem_toArray, List.getElem_cons_succ, List.getElem_cons_zero]
      refine wpAnyH_take (i := 11) (v := ?_) rfl (by kernel_rfl) (by kernel_rfl) (by kernel_rfl) (fun _ _ _ h => h) (Or.inl ⟨by rfl, ?yldq⟩) (by assumption) ?_
      case yldq => (intro w hSw; (try dsimp only at hSw); go_simp; try with_reducible rfl)
      try simp only [Act.put, List.setIfInBounds_toArray, List.set_cons_zero, List.set_cons_succ, List.getElem_toArray, List.getElem_cons_succ, List.getElem_cons_zero]
      refine wpAnyH_ready (rs := [13]) (by kernel_rfl) (by simp) ?_
      refine AllReadyH.cons rfl (fun K hK => ?_) AllReadyH.nil
      go_simp
      refine hK.out _ _ HB7.out (fun _ => ?_)
      clear hK K
      refine wpAnyH_ready (rs := [14]) (by kernel_rfl) (by simp) ?_
      refine AllReadyH.cons rfl (fun K hK => ?_) AllReadyH.nil
      go_simp
      refine E4.out.mono ?_
      rintro e w8 ⟨rfl, rfl⟩
      refine hK.out _ _ (by assumption) (fun _ => ?_)
      clear hK K hrun x1 x2
      refine wpAnyH_take (i := 15) (v := ?_) rfl (by kernel_rfl) (by kernel_rfl) (by kernel_rfl) (fun _ _ _ h => h) (Or.inl ⟨by rfl, ?yldq⟩) (by assumption) ?_
      case yldq => (intro w hSw; (try dsimp only at hSw); go_simp; try with_reducible rfl)
      try simp only [Act.put, List.setIfInBounds_toArray, List.set_cons_zero, List.set_cons_succ, List.getElem_toArray, List.getElem_cons_succ, List.getElem_cons_zero]
      refine wpAnyH_take (i := 16) (v := ?_) rfl (by kernel_rfl) (by kernel_rfl) (by kernel_rfl) (fun _ _ _ h => h) (Or.inl ⟨by rfl, ?yldq⟩) (by assumption) ?_
      case yldq => (intro w hSw; (try dsimp only at hSw); go_simp; try with_reducible rfl)
      try simp only [Act.put, List.setIfInBounds_toArray, List.set_cons_zero, List.set_cons_succ, List.getElem_toArray, List.getElem_cons_succ, List.getElem_cons_zero]
      refine wpAnyH_done (by kernel_rfl) ?_ _
      clear hHeld
      go_wp2
      go_ret
      exact ⟨rfl, HB5.out.trans (HB7.out.mono HB5.out.size)⟩
set_option maxHeartbeats 2000000 in
theorem linear_two (A B : Option Addr) (n ca cb k : Nat) (l r : List Int) (w : World) (hl : Rd w A l) (hln : l.length = n) (hr : Rd w B r) (hrm : r.length = k) (hk1 : k ≤ 1000) (hle : k < n) (hn1 : n ≤ 1000) (hca : n ≤ ca) (hcb : k ≤ cb) (hT : Mv w) :
    Calls Tryd.prog 6 #[.slice A n ca, .slice B k cb] w fun e w' => e = .returned (.bool true) ∧ Below w.heap.size w w' := by
  obtain ⟨i0, hi, hz0, hz1, hz2⟩ := info_parts info_u8
  have hcmp : (k : Int) < (n : Int) := by omega
  have hn : n ≤ 1000 := by omega
  have hm : k ≤ 1000 := by omega
  have hkn : k ≤ n := by omega
  have hkm : k ≤ k := by omega
  have hkca : k ≤ ca := by omega
  have hkcb : k ≤ cb := by omega
  have HT := Lib.hid hT; have HL := Lib.hid hl; have HLN := Lib.hid hln; have HR := Lib.hid hr; have HRM := Lib.hid hrm; clear hT hl hln hr hrm
  obtain ⟨o, hO⟩ : ∃ o, o = over (l.take k) (r.take k) := ⟨_, rfl⟩
  have hob : Byt o := by rw [hO]; exact over_byt (HL.out.1.take k) (HR.out.1.take k)
  have hlk : (l.take k).length = k := by rw [List.length_take, HLN.out]; omega
  have hrk : (r.take k).length = k := by rw [List.length_take, HRM.out]; omega
  have hol : o.length = k := by rw [hO, over_len _ _ (hlk.trans hrk.symm), hlk]
  have hsm := sm_over (l.take k) (r.take k) (hlk.trans hrk.symm)
  rw [← hO, hlk] at hsm
  have HO := Lib.hid hO; have HOB := Lib.hid hob; have HLK := Lib.hid hlk; have HRK := Lib.hid hrk; have HOL := Lib.hid hol; have HSM := Lib.hid hsm
  clear hO hob hlk hrk hol hsm
  go_enter Tryd.func6, Tryd.ntmps6
  go_wp2_with fail
  refine (first_any _ HT.out).mono ?_
  rintro e w1 ⟨rfl, hb1⟩
  have HB1 := Lib.hid hb1; clear hb1
  go_wp2_with (at_make; refine wpList_make_full _ rfl _ _ 22 rfl w.heap.size 5 i0 (.int .u8 0) 1 Tryd.underlying22 hi hz0 hz1 .i64 .i64 _ _ k rfl rfl ?c1 ?c2 ?c3 ?c4 HB1.out.size ?_)
  case c1 => rfl
  case c2 => rfl
  case c3 => rw [hz2]; omega
  case c4 => unfold maxLen; omega
  intro w2 hown hgr
  rw [toList_madeCells_one] at hown
  have hx0 : w2.ownsRow w.heap.size 5 1 (.slice (some ⟨w1.heap.size, 0, none⟩) k k) k ((fill o 0).map (Value.int .u8)) := by
    rw [fill_zero, HOL.out, List.map_replicate]; exact hown
  have HB2 := Lib.hid (HB1.out.grown hgr HB1.out.size (fun j hj => by cases hj))
  have HX0 := Lib.hid hx0
  obtain ⟨g, hg⟩ : ∃ g, g = w1.heap.size := ⟨_, rfl⟩
  rw [← hg] at HX0 ⊢
  clear hown hgr hx0 hg
  go_wp2
  go_loopw [27] (fun c wr => ∃ j : Nat, j ≤ k ∧ c = .int .i64 j ∧ wr.ownsRow w.heap.size 5 1 (.slice (some ⟨g, 0, none⟩) k k) k ((fill o j).map (Value.int .u8)) ∧ Below w.heap.size w wr) (fun c _ => k - (intOf c).toNat)
  case atStart => exact ⟨0, Nat.zero_le _, rfl, HX0.out, HB2.out⟩
  case round =>
    obtain ⟨j, hj, rfl, hx, hb⟩ := hrel
    have HX := Lib.hid hx; have HB := Lib.hid hb; clear hx hb
    by_cases hlt : j < k
    · have hla := HL.out.below HB.out
      have hra := HR.out.below HB.out
      obtain ⟨ba, oa, hA, hca'⟩ := hla.2.2 (by rw [HLN.out]; omega)
      obtain ⟨bb, ob, hBB, hcb'⟩ := hra.2.2 (by rw [HRM.out]; omega)
      have ha := hca' j (by rw [HLN.out]; omega)
      have hb := hcb' j (by rw [HRM.out]; omega)
      obtain ⟨x, hX⟩ : ∃ x : Nat, (x : Int) = l.getD j 0 := ⟨(l.getD j 0).toNat, by have := HL.out.1.getD j; omega⟩
      obtain ⟨y, hY⟩ : ∃ y : Nat, (y : Int) = r.getD j 0 := ⟨(r.getD j 0).toNat, by have := HR.out.1.getD j; omega⟩
      have hx8 : x < 256 := by have := HL.out.1.getD j; omega
      have hy8 : y < 256 := by have := HR.out.1.getD j; omega
      have hz : o.getD j 0 = ((x ^^^ y : Nat) : Int) := by
        rw [HO.out, over_at _ _ j (by rw [HLK.out]; exact hlt) (by rw [HRK.out]; exact hlt)]
        rw [List.getD_eq_getElem?_getD, List.getElem?_take_of_lt hlt, ← List.getD_eq_getElem?_getD, ← hX]
        rw [List.getD_eq_getElem?_getD, List.getElem?_take_of_lt hlt, ← List.getD_eq_getElem?_getD, ← hY]
        rfl
      rw [← hX] at ha
      rw [← hY] at hb
      have hxy := u8_xor_nat x y hx8 hy8
      generalize hzz : x ^^^ y = z at hz hxy
      have hf := HX.out.frozenAt j
      have hfl : (fill o j).length = k := by rw [fill_len _ _ (by rw [HOL.out]; omega), HOL.out]
      obtain ⟨v0, hv0⟩ : ∃ v0, v0 = (fill o j).getD j 0 := ⟨_, rfl⟩
      have hc : wr.cell? ⟨g, j, none⟩ = some (.int .u8 v0) := by
        rw [HX.out.cellAt j (by omega), List.getElem?_map, hv0, List.getD_eq_getElem?_getD, List.getElem?_eq_getElem (by omega)]; rfl
      clear hfl hv0
      have hjm : (j : Int) < (k : Int) := by omega
      have hjn : (j : Int) < (n : Int) := by omega
      have HZ := Lib.hid hz
      clear hla hra hca' hcb' hz hX hY hx8 hy8 hzz
      subst hA; subst hBB
      go_wp2
      go_region
      have ho3 := (HX.out.stored j (.int .u8 (z : Int))).1
      have hb3 := HB.out.setCell (p := ⟨g, j, none⟩) (HX.out.lt g rfl).1 (.int .u8 (z : Int))
      rw [← List.map_set, ← HZ.out, fill_set _ _ (by rw [HOL.out]; exact hlt), HZ.out] at ho3
      have ho4 := World.ownsRow.kept ho3 (grown_of_below (Below.refl _ _).drew) (Classical.em _)
      have HO4 := Lib.hid ho4; have HB4 := Lib.hid hb3.drew; clear ho3 hb3 ho4 ha hb hc hf
      go_wp2
      go_roundw
      case rel => exact ⟨j + 1, by omega, by go_num, HO4.out, HB4.out⟩
      case measure => simp [intOf]; omega
    · obtain rfl : k = j := by omega
      have hxk := HX.out
      rw [show fill o k = o from by rw [← HOL.out, fill_all]] at hxk
      obtain ⟨hrx, -⟩ := own_rd hxk HOB.out (by omega)
      have b5 : Below wr.heap.size wr wr.drew := (Below.refl _ _).drew
      obtain ⟨w5, hw5⟩ : ∃ x, x = wr.drew := ⟨_, rfl⟩
      rw [← hw5] at b5
      have hb5 := HB.out.trans (b5.mono HB.out.size)
      have hx5 := hrx.below b5
      have hl5 := HL.out.below hb5
      have hr5 := HR.out.below hb5
      have ht5 := HT.out.below hb5
      have s1 := sm_lt (HL.out.1.take k)
      have s2 := sm_lt (HR.out.1.take k)
      have s3 := sm_lt HOB.out
      have e1 : ∀ w', Below w5.heap.size w5 w' → Calls Tryd.prog 8 #[.slice A k ca] w' fun e w'' => e = .returned (.int .u32 (sm (l.take k) : Nat)) ∧ w' = w'' := fun w' h => sum_any A k ca _ w' ((hl5.below h).upto k) HLK.out (ht5.below h)
      have e2 : ∀ w', Below w5.heap.size w5 w' → Calls Tryd.prog 8 #[.slice B k cb] w' fun e w'' => e = .returned (.int .u32 (sm (r.take k) : Nat)) ∧ w' = w'' := fun w' h => sum_any B k cb _ w' ((hr5.below h).upto k) HRK.out (ht5.below h)
      have e3 : ∀ w', Below w5.heap.size w5 w' → Calls Tryd.prog 8 #[.slice (some ⟨g, 0, none⟩) k k] w' fun e w'' => e = .returned (.int .u32 (sm o : Nat)) ∧ w' = w'' := fun w' h => sum_any _ k k _ w' (hx5.below h) HOL.out (ht5.below h)
      have hsm := HSM.out
      generalize sm (l.take k) = S1 at s1 e1 hsm
      generalize sm (r.take k) = S2 at s2 e2 hsm
      generalize sm o = S3 at s3 e3 hsm
      have s4 := xor_lt32 s1 s2
      have x1 := u32_xor_nat S1 S2 s1 s2
      generalize S1 ^^^ S2 = S4 at s4 x1 hsm
      have x2 := u32_xor_nat S4 S3 s4 s3
      generalize S4 ^^^ S3 = S5 at x2 hsm
      obtain ⟨w7, hrun, hown7, hgr7⟩ := run_make_full (P := Tryd.prog) w5 w5.heap.size 22 5 i0 (.int .u8 0) 1 Tryd.underlying22 hi hz0 hz1 .i64 .i64 k (by rw [hz2]; omega) (by unfold maxLen; omega) (Nat.le_refl _)
      rw [Nat.mul_one, show (Value.int .u8 0).cells = #[.int .u8 0] from rfl, toList_madeCells_one] at hown7
      have hb7 : Below w5.heap.size w5 w7 := (Below.refl _ _).grown hgr7 (Nat.le_refl _) (fun j hj => by cases hj)
      have hz7 : Byt (List.replicate k 0) := fun n hn => by rw [List.eq_of_mem_replicate hn]; omega
      rw [show List.replicate k (Value.int .u8 0) = (List.replicate k (0 : Int)).map (Value.int .u8) from by rw [List.map_replicate]] at hown7
      obtain ⟨hr7, -⟩ := own_rd hown7 hz7 (by omega)
      have e4 : Calls Tryd.prog 8 #[.slice (some ⟨w5.heap.size, 0, none⟩) k k] w7 fun e w'' => e = .returned (.int .u32 (S5 : Nat)) ∧ w7 = w'' := by
        rw [hsm]; exact sum_any _ k k _ w7 hr7 (by simp) (ht5.below hb7)
      have E1 := Lib.hid e1; have E2 := Lib.hid e2; have E3 := Lib.hid e3; have E4 := Lib.hid e4; have HB5 := Lib.hid hb5; have HB7 := Lib.hid hb7; have X1 := Lib.hid x1; have X2 := Lib.hid x2; have HRUN := Lib.hid hrun
      clear hxk hrx b5 hb5 hx5 hl5 hr5 ht5 s1 s2 s3 s4 e1 e2 e3 e4 hsm hown7 hgr7 hb7 hz7 hr7 hrun x1 x2
      go_wp2_with fail
      refine wp_region_held_drew (S := fun w' => Below w5.heap.size w5 w') (by kernel_rfl) (by rw [hw5]; exact Below.refl _ _) (fun hHeld => ?_)
      rw [← hw5] at hHeld ⊢
      clear hw5
      simp only [List.size_toArray, List.length_cons, List.length_nil, Nat.reduceAdd]
      rw [show Array.replicate 17 false = [false, false, false, false, false, false, false, false, false, false, false, false, false, false, false, false, false].toArray from rfl]
      refine wpAnyH_take (i := 0) (v := ?_) rfl (by kernel_rfl) (by kernel_rfl) (by kernel_rfl) (fun _ _ _ h => h) (Or.inl ⟨by rfl, ?yldq⟩) (by assumption) ?_
      case yldq => (intro w hSw; (try dsimp only at hSw); go_simp; try with_reducible rfl)
      try simp only [Act.put, List.setIfInBounds_toArray, List.set_cons_zero, List.set_cons_succ, List.getElem_toArray, List.getElem_cons_succ, List.getElem_cons_zero]
      refine wpAnyH_take (i := 1) (v := ?_) rfl (by kernel_rfl) (by kernel_rfl) (by kernel_rfl) (fun _ _ _ h => h) (Or.inl ⟨by rfl, ?yldq⟩) (by assumption) ?_
      case yldq => (intro w hSw; (try dsimp only at hSw); go_simp; try with_reducible rfl)
      try simp only [Act.put, List.setIfInBounds_toArray, List.set_cons_zero, List.set_cons_succ, List.getElem_toArray, List.getElem_cons_succ, List.getElem_cons_zero]
      refine wpAnyH_take (i := 2) (v := ?_) rfl (by kernel_rfl) (by kernel_rfl) (by kernel_rfl) (fun _ _ _ h => h) (Or.inl ⟨by rfl, ?yldq⟩) (by assumption) ?_
      case yldq => (intro w hSw; (try dsimp only at hSw); go_simp; try with_reducible rfl)
      try simp only [Act.put, List.setIfInBounds_toArray, List.set_cons_zero, List.set_cons_succ, List.getElem_toArray, List.getElem_cons_succ, List.getElem_cons_zero]
      refine wpAnyH_take (i := 4) (v := ?_) rfl (by kernel_rfl) (by kernel_rfl) (by kernel_rfl) (fun _ _ _ h => h) (Or.inl ⟨by rfl, ?yldq⟩) (by assumption) ?_
      case yldq => (intro w hSw; (try dsimp only at hSw); go_simp; try with_reducible rfl)
      try simp only [Act.put, List.setIfInBounds_toArray, List.set_cons_zero, List.set_cons_succ, List.getElem_toArray, List.getElem_cons_succ, List.getElem_cons_zero]
      refine wpAnyH_take (i := 5) (v := ?_) rfl (by kernel_rfl) (by kernel_rfl) (by kernel_rfl) (fun _ _ _ h => h) (Or.inl ⟨by rfl, ?yldq⟩) (by assumption) ?_
      case yldq => (intro w hSw; (try dsimp only at hSw); go_simp; try with_reducible rfl)
      try simp only [Act.put, List.setIfInBounds_toArray, List.set_cons_zero, List.set_cons_succ, List.getElem_toArray, List.getElem_cons_succ, List.getElem_cons_zero]
      refine wpAnyH_take (i := 6) (v := ?_) rfl (by kernel_rfl) (by kernel_rfl) (by kernel_rfl) (fun _ _ _ h => h) (Or.inl ⟨by rfl, ?yldq⟩) (by assumption) ?_
      case yldq => (intro w hSw; (try dsimp only at hSw); go_simp; try with_reducible rfl)
      try simp only [Act.put, List.setIfInBounds_toArray, List.set_cons_zero, List.set_cons_succ, List.getElem_toArray, List.getElem_cons_succ, List.getElem_cons_zero]
      refine wpAnyH_take (i := 9) (v := ?_) rfl (by kernel_rfl) (by kernel_rfl) (by kernel_rfl) (fun _ _ _ h => h) (Or.inl ⟨by rfl, ?yldq⟩) (by assumption) ?_
      case yldq => (intro w hSw; (try dsimp only at hSw); go_simp; try with_reducible rfl)
      try simp only [Act.put, List.setIfInBounds_toArray, List.set_cons_zero, List.set_cons_succ, List.getElem_toArray, List.getElem_cons_succ, List.getElem_cons_zero]
      refine wpAnyH_take (i := 12) (v := ?_) rfl (by kernel_rfl) (by kernel_rfl) (by kernel_rfl) (fun _ _ _ h => h) (Or.inl ⟨by rfl, ?yldq⟩) (by assumption) ?_
      case yldq => (intro w hSw; (try dsimp only at hSw); go_simp; try with_reducible rfl)
      try simp only [Act.put, List.setIfInBounds_toArray, List.set_cons_zero, List.set_cons_succ, List.getElem_toArray, List.getElem_cons_succ, List.getElem_cons_zero]
      refine wpAnyH_enter (i := 3) (v := _) rfl (by kernel_rfl) (by kernel_rfl) (by kernel_rfl) (fun _ _ _ h => h) ⟨by rfl, fun w hSw => ⟨_, _, ?yldr, E1.out w hSw⟩⟩ (by assumption) ?_
      case yldr => (go_simp; try with_reducible rfl)
      try simp only [Act.put, List.setIfInBounds_toArray, List.set_cons_zero, List.set_cons_succ, List.getElem_toArray, List.getElem_cons_succ, List.getElem_cons_zero]
      refine wpAnyH_enter (i := 7) (v := _) rfl (by kernel_rfl) (by kernel_rfl) (by kernel_rfl) (fun _ _ _ h => h) ⟨by rfl, fun w hSw => ⟨_, _, ?yldr, E2.out w hSw⟩⟩ (by assumption) ?_
      case yldr => (go_simp; try with_reducible rfl)
      try simp only [Act.put, List.setIfInBounds_toArray, List.set_cons_zero, List.set_cons_succ, List.getElem_toArray, List.getElem_cons_succ, List.getElem_cons_zero]
      refine wpAnyH_enter (i := 10) (v := _) rfl (by kernel_rfl) (by kernel_rfl) (by kernel_rfl) (fun _ _ _ h => h) ⟨by rfl, fun w hSw => ⟨_, _, ?yldr, E3.out w hSw⟩⟩ (by assumption) ?_
      case yldr => (go_simp; try with_reducible rfl)
      try simp only [Act.put, List.setIfInBounds_toArray, List.set_cons_zero, List.set_cons_succ, List.getElem_toArray, List.getElem_cons_succ, List.getElem_cons_zero]
      have x1 := X1.out; have x2 := X2.out; have hrun := HRUN.out
      refine wpAnyH_take (i := 8) (v := ?_) rfl (by kernel_rfl) (by kernel_rfl) (by kernel_rfl) (fun _ _ _ h => h) (Or.inl ⟨by rfl, ?yldq⟩) (by assumption) ?_
      case yldq => (intro w hSw; (try dsimp only at hSw); go_simp; try with_reducible rfl)
      try simp only [Act.put, List.setIfInBounds_toArray, List.set_cons_zero, List.set_cons_succ, List.getElem_toArray, List.getElem_cons_succ, List.getElem_cons_zero]
      refine wpAnyH_take (i := 11) (v := ?_) rfl (by kernel_rfl) (by kernel_rfl) (by kernel_rfl) (fun _ _ _ h => h) (Or.inl ⟨by rfl, ?yldq⟩) (by assumption) ?_
      case yldq => (intro w hSw; (try dsimp only at hSw); go_simp; try with_reducible rfl)
      try simp only [Act.put, List.setIfInBounds_toArray, List.set_cons_zero, List.set_cons_succ, List.getElem_toArray, List.getElem_cons_succ, List.getElem_cons_zero]
      refine wpAnyH_ready (rs := [13]) (by kernel_rfl) (by simp) ?_
      refine AllReadyH.cons rfl (fun K hK => ?_) AllReadyH.nil
      go_simp
      refine hK.out _ _ HB7.out (fun _ => ?_)
      clear hK K
      refine wpAnyH_ready (rs := [14]) (by kernel_rfl) (by simp) ?_
      refine AllReadyH.cons rfl (fun K hK => ?_) AllReadyH.nil
      go_simp
      refine E4.out.mono ?_
      rintro e w8 ⟨rfl, rfl⟩
      refine hK.out _ _ (by assumption) (fun _ => ?_)
      clear hK K hrun x1 x2
      refine wpAnyH_take (i := 15) (v := ?_) rfl (by kernel_rfl) (by kernel_rfl) (by kernel_rfl) (fun _ _ _ h => h) (Or.inl ⟨by rfl, ?yldq⟩) (by assumption) ?_
      case yldq => (intro w hSw; (try dsimp only at hSw); go_simp; try with_reducible rfl)
      try simp only [Act.put, List.setIfInBounds_toArray, List.set_cons_zero, List.set_cons_succ, List.getElem_toArray, List.getElem_cons_succ, List.getElem_cons_zero]
      refine wpAnyH_take (i := 16) (v := ?_) rfl (by kernel_rfl) (by kernel_rfl) (by kernel_rfl) (fun _ _ _ h => h) (Or.inl ⟨by rfl, ?yldq⟩) (by assumption) ?_
      case yldq => (intro w hSw; (try dsimp only at hSw); go_simp; try with_reducible rfl)
      try simp only [Act.put, List.setIfInBounds_toArray, List.set_cons_zero, List.set_cons_succ, List.getElem_toArray, List.getElem_cons_succ, List.getElem_cons_zero]
      refine wpAnyH_done (by kernel_rfl) ?_ _
      clear hHeld
      go_wp2
      go_ret
      exact ⟨rfl, HB5.out.trans (HB7.out.mono HB5.out.size)⟩
theorem linear_walk (A B : Option Addr) (n ca m cb : Nat) (l r : List Int) (w : World) (hl : Rd w A l) (hln : l.length = n) (hr : Rd w B r) (hrm : r.length = m) (hca : n ≤ ca) (hcb : m ≤ cb) (hT : Mv w) :
    Calls Tryd.prog 6 #[.slice A n ca, .slice B m cb] w fun e w' => e = .returned (.bool true) ∧ Below w.heap.size w w' := by
  by_cases hn : n ≤ 1000
  · by_cases hm : m ≤ 1000
    · rcases Nat.lt_or_ge m n with h | h
      · exact linear_two A B n ca cb m l r w hl hln hr hrm hm h hn hca hcb hT
      · exact linear_one A B ca m cb n l r w hl hln hr hrm hn h hm hca hcb hT
    · have HT := Lib.hid hT; clear hT
      go_enter Tryd.func6, Tryd.ntmps6
      go_wp2_with fail
      refine (first_any _ HT.out).mono ?_
      rintro e w1 ⟨rfl, hb1⟩
      have HB1 := Lib.hid hb1; clear hb1
      go_wp2
      go_ret
      exact ⟨rfl, HB1.out⟩
  · have HT := Lib.hid hT; clear hT
    go_enter Tryd.func6, Tryd.ntmps6
    go_wp2_with fail
    refine (first_any _ HT.out).mono ?_
    rintro e w1 ⟨rfl, hb1⟩
    have HB1 := Lib.hid hb1; clear hb1
    go_wp2
    go_ret
    exact ⟨rfl, HB1.out⟩
end Go.Proofs.YtjhmhmdienbfdaaDoor
