/-
  Layer 14: SpaceKeeps' walk: a contract over the translation.
-/
import Derived.Test.YtgnjbjbgfhjakaaGreatMgZ14
import Derived.Test.YtgnjbjbgfhjakaaGreatGet14
namespace Go.Proofs.YtgnjbjbgfhjakaaGreat
open Go.RowKit
set_option linter.unusedVariables false
set_option linter.unusedSimpArgs false
attribute [local go_sem] setCell_drewN alloc_drewN

theorem infoU6 : (Tryz.prog.info? 37).map (fun i => (i.zero, i.size, i.bytes)) = some (some (.int .u64 0), 1, 8) := by kernel_rfl
theorem made_u6 (n : Nat) : (madeCells #[Value.int .u64 0] n).toList = List.replicate n (.int .u64 0) := toList_madeCells_one _ _
/-- what the law has seen -/
def hvS (H : List Int) (p r : Nat) (X : Int) : List Int := if r = 2 then H.set p X else H
theorem keep_step {s : Ss} {n p r : Nat} {X : Int} {H : List Int} (h : Fi s n) (hp : p < n) (hr : r ≤ 2) (h0 : 0 ≤ X) (h1 : X ≤ 18446744073709551615) (hl : H.length = n) (hH : ∀ q, q < n → w16 s q = H.getD q 0) :
    (setS s p r).2 = 0 ∧ rtS (setS s p r).1 p = r ∧ (accS (setS s p r).1 (1073741824 + 4096 * p + 16) 8 2).2 = (if r = 2 then -1 else 15) ∧ Fi (storS (setS s p r).1 (1073741824 + 4096 * p + 16) 8 X) n ∧
    (accS (storS (setS s p r).1 (1073741824 + 4096 * p + 16) 8 X) (1073741824 + 4096 * p + 16) 8 1).2 = (if r = 0 then 13 else -1) ∧ (r ≠ 0 → (accS (storS (setS s p r).1 (1073741824 + 4096 * p + 16) 8 X) (1073741824 + 4096 * p + 16) 8 1).1 = (hvS H p r X).getD p 0) ∧
    (∀ q, q < n → w16 (storS (setS s p r).1 (1073741824 + 4096 * p + 16) 8 X) q = (hvS H p r X).getD q 0) := by
  obtain ⟨a1, a2, a3, a4, a5⟩ := h.set hp hr
  generalize (setS s p r).1 = s1 at *
  obtain ⟨b1, b2⟩ := acc16 a2 hp 2 (.inr rfl)
  obtain ⟨c1, c2, c3⟩ := stor16 a2 hp X h0 h1
  have hw : ∀ q, q < n → w16 (storS s1 (1073741824 + 4096 * p + 16) 8 X) q = (hvS H p r X).getD q 0 := fun q hq => by
    rw [c3 q hq, a3]
    have e : w16 s1 q = w16 s q := by unfold w16; rw [a4]
    unfold hvS
    by_cases h2 : r = 2
    · rw [if_pos h2, getD_set]
      by_cases e2 : q = p
      · rw [if_pos ⟨h2, e2⟩, if_pos ⟨e2.symm, by omega⟩]
      · rw [if_neg (fun h => e2 h.2), if_neg (fun h => e2 h.1.symm), e, hH q hq]
    · rw [if_neg h2, if_neg (fun h => h2 h.1), e, hH q hq]
  obtain ⟨d1, d2⟩ := acc16 c1 hp 1 (.inl rfl)
  rw [c2, a3] at d1 d2
  rw [a3] at b1
  have hl2 := a2.len
  have hrt : rtS s1 p = r := by unfold rtS; rw [if_pos (by omega), Int.toNat_natCast, a3]
  refine ⟨a1, hrt, ?_, c1, ?_, fun hr0 => ?_, hw⟩
  · rw [b1]
    rcases (by omega : r = 0 ∨ r = 1 ∨ r = 2) with rfl | rfl | rfl <;> rfl
  · rw [d1]
    rcases (by omega : r = 0 ∨ r = 1 ∨ r = 2) with rfl | rfl | rfl <;> rfl
  · rw [d2 (by rcases (by omega : r = 1 ∨ r = 2) with rfl | rfl <;> rfl), hw p hp]
/-- what the loop keeps -/
structure KpL (nK nn : Nat) (w2 wr : World) (g xp up j : Nat) (s : Ss) (H : List Int) : Prop where
  os : OsL nK w2 wr (fun b => b = g) xp up s (321 + 6 * j)
  fi : Fi s nn
  blk : Blk wr g (H.map (Value.int .u64)) 37
  len : H.length = nn
  w16 : ∀ q, q < nn → w16 s q = H.getD q 0
set_option maxRecDepth 100000 in
set_option maxHeartbeats 16000000 in
theorem keeps_walk (pages : Nat) (A : Option Addr) (k cap : Nat) (l : List Int) (v : Int) (w : World) (hpg : pages ≤ 255) (hr : Rd w A l) (hk : l.length = k) (h0 : 0 ≤ v) (h1 : v ≤ 18446744073709551615) :
    Calls Tryz.prog 4 #[.int .u8 (pages : Int), .slice A k cap, .int .u64 v] w fun r w' => r = .returned (.bool true) ∧ Below w.heap.size w w' := by
  obtain ⟨i0, hi, hz0, hz1, hz2⟩ := info_parts infoU6
  obtain ⟨nn, hnn⟩ : ∃ nn, nn = 1 + pages % 6 := ⟨_, rfl⟩
  have hn6 : 1 ≤ nn ∧ nn ≤ 6 := by omega
  have a1 : (pages : Int).tmod 6 = ((nn - 1 : Nat) : Int) := by rw [Int.tmod_eq_emod_of_nonneg (by omega)]; omega
  have a2 : IntKind.i64.wrap ((nn - 1 : Nat) : Int) = ((nn - 1 : Nat) : Int) := by rw [wrapI (by omega) (by omega)]
  have a3 : IntKind.i64.wrap (1 + ((nn - 1 : Nat) : Int)) = (nn : Int) := by rw [wrapI (by omega) (by omega)]; omega
  have hsh : shP 1 0 nn = true := by unfold shP; exact decide_eq_true (by omega)
  have hnk : needK 1 0 nn = nn + 6 := by unfold needK; rw [if_neg (by omega)]; omega
  have f1 := fun w => first14_any w
  have f2 : ∀ w, Calls Tryz.prog 8 #[.agg #[.int .i64 1, .int .i64 0, .int .i64 (nn : Int)]] w fun r w' => r = .returned (.int .i64 ((nn + 6 : Nat) : Int)) ∧ Below w.heap.size w w' := fun w => by rw [← hnk]; exact sneed_yes 1 0 nn w hsh
  have hne : newE 1 0 (nn : Int) ((nn + 6 : Nat) : Int) 2 2 = 0 := by
    unfold newE
    rw [hsh, decide_eq_true (show 1 ≤ ((nn + 6 : Nat) : Int) ∧ ((nn + 6 : Nat) : Int) ≤ 1048576 by omega)]
    rw [if_pos (by rfl), if_neg (by omega)]
  have f3 := fun w => os_new 1 0 (nn : Int) ((nn + 6 : Nat) : Int) 2 2 w hne
  have hfi := Fi.new hn6
  rw [hnk] at hfi
  have F1 := Lib.hid f1; have F2 := Lib.hid f2; have F3 := Lib.hid f3; have FI := Lib.hid hfi; have HR := Lib.hid hr; have HK := Lib.hid hk; have HV := Lib.hid (⟨h0, h1⟩ : 0 ≤ v ∧ v ≤ 18446744073709551615)
  have HN6 := Lib.hid hn6; have HZ0 := Lib.hid hz0; have HZ1 := Lib.hid hz1; have HZ2 := Lib.hid hz2
  clear f1 f2 f3 hfi hr hk h0 h1 hn6 hz0 hz1 hz2 hsh hnk hne hnn hpg
  go_enter Tryz.func4, Tryz.ntmps4
  go_wp2_with fail
  refine (F1.out _).mono ?_
  rintro e w1 ⟨rfl, hb⟩
  have L1 := Lib.hid hb
  clear hb
  go_upto_region 5 with (fail)
  have nb0 := Blk.new w1 [.int .i64 1, .int .i64 0, .int .i64 (nn : Int)] 23
  have nls : Below w1.heap.size w1 w1 := (Below.refl w1.heap.size w1)
  have nl0 := nls.alloc nls.size (.cells #[.int .i64 1, .int .i64 0, .int .i64 (nn : Int)] 23)
  have nl : Below w1.heap.size w1 (w1.alloc (.cells #[.int .i64 1, .int .i64 0, .int .i64 (nn : Int)] 23)) := nl0; clear nls nl0
  obtain ⟨B4, hB0⟩ : ∃ B, B = w1.heap.size := ⟨_, rfl⟩
  obtain ⟨W4, hW⟩ : ∃ W, W = (w1.alloc (.cells #[.int .i64 1, .int .i64 0, .int .i64 (nn : Int)] 23)) := ⟨_, rfl⟩
  rw [← hW] at nl nb0
  rw [← hB0] at nb0
  rw [← hW]
  try rw [← hB0]
  have K4_0 := Lib.hid nb0
  have G4 : Hid (w1.heap.size ≤ B4) := Lib.hid (by have := (Nat.le_refl w1.heap.size); omega)
  have L4 := Lib.hid nl
  clear nl hW nb0 hB0
  refine wp_region_held_drew (S := fun w' => Blk w' B4 [.int .i64 1, .int .i64 0, .int .i64 (nn : Int)] 23) (by kernel_rfl) K4_0.out (fun hHeld => ?_)
  simp only [List.size_toArray, List.length_cons, List.length_nil, Nat.reduceAdd]
  rw [show Array.replicate 9 false = [false, false, false, false, false, false, false, false, false].toArray from rfl]
  refine wpAnyH_take (i := 0) (v := _) rfl (by kernel_rfl) (by kernel_rfl) (by kernel_rfl) (fun _ _ _ h => h) (Or.inl ⟨by rfl, fun w hSw => yield_shape _ _ _ rfl rfl hSw⟩) (by assumption) ?_
  try simp only [Act.put, List.setIfInBounds_toArray, List.set_cons_zero, List.set_cons_succ, List.getElem_toArray, List.getElem_cons_succ, List.getElem_cons_zero]
  refine wpAnyH_take (i := 1) (v := _) rfl (by kernel_rfl) (by kernel_rfl) (by kernel_rfl) (fun _ _ _ h => h) (Or.inl ⟨by rfl, fun w hSw => yield_shape _ _ _ rfl rfl hSw⟩) (by assumption) ?_
  try simp only [Act.put, List.setIfInBounds_toArray, List.set_cons_zero, List.set_cons_succ, List.getElem_toArray, List.getElem_cons_succ, List.getElem_cons_zero]
  refine wpAnyH_ready (rs := [2]) (by kernel_rfl) (by simp) ?_
  refine AllReadyH.cons rfl (fun K hK => ?_) AllReadyH.nil
  go_simp
  refine (F2.out _).mono ?_
  rintro e w2 ⟨rfl, hb⟩
  have hb2 : Below w1.heap.size w1 w2 := L4.out.drew.trans (hb.mono L4.out.size)
  have L2 := Lib.hid (L1.out.trans (hb2.mono L1.out.size))
  have hk2 := (Blk.drewN K4_0.out 1).below hb K4_0.out.lt
  have K2 := Lib.hid hk2
  refine hK.out _ _ K2.out (fun hS2 => ?_)
  clear hK K hb hb2 hk2 hHeld
  refine wpAnyH_ready (rs := [3]) (by kernel_rfl) (by simp) ?_
  refine AllReadyH.cons rfl (fun K hK => ?_) AllReadyH.nil
  go_simp
  refine (F3.out w2).mono ?_
  rintro e w3 ⟨xp, up, rfl, ho⟩
  have O3 : Hid (OsL (nn + 6) w2 w3 (fun _ => False) xp up (newS 1 0 nn (nn + 6)) 321) := Lib.hid ho
  refine hK.out _ _ (K2.out.chg O3.out.chg0 (fun h => h)) (fun hS3 => ?_)
  clear hK K ho
  refine wpAnyH_take (i := 4) (v := ?_) rfl (by kernel_rfl) (by kernel_rfl) (by kernel_rfl) (fun _ _ _ h => h) (Or.inl ⟨by rfl, ?yldq⟩) (by assumption) ?_
  case yldq => (intro w hSw; (try dsimp only at hSw); go_simp; try with_reducible rfl)
  try simp only [Act.put, List.setIfInBounds_toArray, List.set_cons_zero, List.set_cons_succ, List.getElem_toArray, List.getElem_cons_succ, List.getElem_cons_zero]
  refine wpAnyH_take (i := 5) (v := ?_) rfl (by kernel_rfl) (by kernel_rfl) (by kernel_rfl) (fun _ _ _ h => h) (Or.inl ⟨by rfl, ?yldq⟩) (by assumption) ?_
  case yldq => (intro w hSw; (try dsimp only at hSw); go_simp; try with_reducible rfl)
  try simp only [Act.put, List.setIfInBounds_toArray, List.set_cons_zero, List.set_cons_succ, List.getElem_toArray, List.getElem_cons_succ, List.getElem_cons_zero]
  refine wpAnyH_take (i := 6) (v := ?_) rfl (by kernel_rfl) (by kernel_rfl) (by kernel_rfl) (fun _ _ _ h => h) (Or.inl ⟨by rfl, ?yldq⟩) (by assumption) ?_
  case yldq => (intro w hSw; (try dsimp only at hSw); go_simp; try with_reducible rfl)
  try simp only [Act.put, List.setIfInBounds_toArray, List.set_cons_zero, List.set_cons_succ, List.getElem_toArray, List.getElem_cons_succ, List.getElem_cons_zero]
  refine wpAnyH_take (i := 7) (v := ?_) rfl (by kernel_rfl) (by kernel_rfl) (by kernel_rfl) (fun _ _ _ h => h) (Or.inl ⟨by rfl, ?yldq⟩) (by assumption) ?_
  case yldq => (intro w hSw; (try dsimp only at hSw); go_simp; try with_reducible rfl)
  try simp only [Act.put, List.setIfInBounds_toArray, List.set_cons_zero, List.set_cons_succ, List.getElem_toArray, List.getElem_cons_succ, List.getElem_cons_zero]
  refine wpAnyH_take (i := 8) (v := ?_) rfl (by kernel_rfl) (by kernel_rfl) (by kernel_rfl) (fun _ _ _ h => h) (Or.inl ⟨by rfl, ?yldq⟩) (by assumption) ?_
  case yldq => (intro w hSw; (try dsimp only at hSw); go_simp; try with_reducible rfl)
  try simp only [Act.put, List.setIfInBounds_toArray, List.set_cons_zero, List.set_cons_succ, List.getElem_toArray, List.getElem_cons_succ, List.getElem_cons_zero]
  refine wpAnyH_done (by kernel_rfl) ?_ _
  clear hS3 hS2 K2
  go_wp2_with (at_make; refine wpList_make_full _ rfl _ _ 73 rfl w3.heap.size 37 i0 (.int .u64 0) 1 Tryz.underlying73 hi HZ0.out HZ1.out .i64 .i64 _ _ nn rfl rfl rfl rfl ?c1 ?c2 (Nat.le_refl _) ?_)
  case c1 => rw [HZ2.out]; have := HN6.out; omega
  case c2 => have := HN6.out; unfold maxLen; omega
  intro w4 hown hgr
  rw [made_u6] at hown
  have hb := (own_blk hown).1
  have hcg : Chg no w3 w4 := Chg.grown hgr (fun j hj => by cases hj)
  have hb4 : Blk w4 w3.heap.size ((List.replicate nn (0 : Int)).map (Value.int .u64)) 37 := by rw [List.map_replicate]; exact hb
  have hl4 := hb4.lt
  obtain ⟨g, hg⟩ : ∃ g, g = w3.heap.size := ⟨_, rfl⟩
  rw [← hg] at hb4
  have hgw : w2.heap.size ≤ g := hg ▸ O3.out.chg0.size
  have hkp : KpL (nn + 6) nn w2 w4 g xp up 0 (newS 1 0 nn (nn + 6)) (List.replicate nn 0) := ⟨O3.out.more hcg.none (fun j hj => .inr (by have hj : j = g := hj; omega)), FI.out, hb4, List.length_replicate, fun q hq => by
    unfold w16
    rw [data_new _ _ _ _ _ hq, w16_zero, List.getD_eq_getElem?_getD, List.getElem?_replicate]
    split <;> rfl⟩
  rw [← hg]
  have KP := Lib.hid hkp; have HG := Lib.hid hgw
  clear hown hgr hb hcg hb4 hl4 hg hgw hkp O3 FI hi
  go_upto_region 10 with (fail)
  go_loopw [48] (fun ix wr => ∃ (j : Nat) (s : Ss) (H : List Int), j ≤ k ∧ j ≤ 100 ∧ ix = .int .i64 (j : Int) ∧ KpL (nn + 6) nn w2 wr g xp up j s H) (fun ix _ => k - (intOf ix).toNat)
  case atStart => exact ⟨0, _, _, Nat.zero_le _, Nat.zero_le _, rfl, KP.out⟩
  case round =>
    obtain ⟨j, s, H, hjk, hj1, rfl, hkp⟩ := hrel
    obtain ⟨wo, hwo⟩ : ∃ x : World, x = wr := ⟨_, rfl⟩
    subst hwo
    have KO := Lib.hid hkp
    clear hkp KP
    by_cases hlt : j < k
    rotate_left
    · have hn : ¬ ((j : Int) < (k : Int)) := by omega
      clear hlt hjk
      go_upto_region 31 with (fail)
      go_loopw [144] (fun ix wr => ∃ q : Nat, q ≤ nn ∧ ix = .int .i64 (q : Int) ∧ KpL (nn + 6) nn w2 wr g xp up j s H) (fun ix _ => nn - (intOf ix).toNat)
      case atStart => exact ⟨0, Nat.zero_le _, rfl, KO.out⟩
      case round =>
        obtain ⟨q, hq, rfl, hkp⟩ := hrel
        have KQ := Lib.hid hkp; clear hkp KO
        by_cases hlt3 : q < nn
        rotate_left
        · have hn3 : ¬ ((q : Int) < (nn : Int)) := by omega
          go_wp2
          go_ret
          exact ⟨rfl, L2.out.trans (KQ.out.os.chg0.none.mono L2.out.size)⟩
        have hqi : (q : Int) < (nn : Int) := by omega
        have hn6 := HN6.out
        have hk1 : IntKind.i64.wrap ((q : Int) + 1) = ((q + 1 : Nat) : Int) := by rw [wrapI (by omega) (by omega)]; omega
        have hcell : wr.cell? ⟨g, q, none⟩ = some (.int .u64 (H.getD q 0)) := by
          have hl := KQ.out.len
          rw [KQ.out.blk.cell q, List.getElem?_map, List.getD_eq_getElem?_getD, List.getElem?_eq_getElem (by omega)]
          rfl
        have hd4 : (dataS s (q : Int)).length = 4096 := by
          have hl := KQ.out.fi.len
          unfold dataS
          rw [if_pos (by omega), Int.toNat_natCast]
          split
          · exact ((KQ.out.fi.wf.sh q (by omega)).2.1 (by assumption)).1
          · exact zP_len
        have hw := KQ.out.w16 q hlt3
        have g1 := os_data KQ.out.os (q : Int)
        rw [hd4] at g1
        have g2 : ∀ (A3 : Option Addr) (cap3 : Nat) (wy : World), Rd wy A3 (dataS s (q : Int)) → Calls Tryz.prog 30 #[.slice A3 4096 cap3, .int .i64 16, .int .i64 8] wy fun e w' => e = .returned (.tuple #[.int .u64 (H.getD q 0), .bool true]) ∧ Below wy.heap.size wy w' := fun A3 cap3 wy hrd => by
          rw [← hw]
          exact rget_yes A3 4096 (dataS s (q : Int)) cap3 16 8 wy hrd hd4 ⟨sz8, by decide, by decide⟩
        have G1q := Lib.hid g1; have G2q := Lib.hid g2; have HK1q := Lib.hid hk1; have HLTq := Lib.hid hlt3
        generalize dataS s (q : Int) = D at *
        clear g1 g2 hd4 hw hn6 hlt3 hq
        clear hk1
        go_wp2_with fail
        refine G1q.out.mono ?_
        rintro e w31 ⟨⟨A3, cap3, rfl, hrd⟩, hb⟩
        have hbb := hb
        have G3q := Lib.hid (G2q.out A3 cap3 w31 hrd)
        have hb31 := Lib.hid hb
        clear hb hbb hrd
        go_wp2_with fail
        refine G3q.out.mono ?_
        rintro e w32 ⟨rfl, hb⟩
        have hkq : KpL (nn + 6) nn w2 w32 g xp up j s H := by
          have h1 := KQ.out
          have hbt := hb31.out.trans (hb.mono hb31.out.size)
          exact ⟨h1.os.below hbt, h1.fi, h1.blk.below hbt h1.blk.lt, h1.len, h1.w16⟩
        have KQ2 := Lib.hid hkq
        clear hkq hb hcell
        have hk1 := HK1q.out
        go_wp2
        refine ⟨⟨q + 1, HLTq.out, congrArg (Value.int .i64) (by first | rfl | omega), KQ2.out⟩, ?_⟩
        have := HLTq.out
        simp only [intOf]
        omega
    have hki : (j : Int) < (k : Int) := by omega
    have hk1 : IntKind.i64.wrap ((j : Int) + 1) = ((j + 1 : Nat) : Int) := by rw [wrapI (by omega) (by omega)]; omega
    obtain ⟨rn, hrn, hrl⟩ : ∃ rn : Nat, l.getD j 0 = (rn : Int) ∧ rn ≤ 255 := ⟨(l.getD j 0).toNat, by have := HR.out.1.getD j; omega, by have := HR.out.1.getD j; omega⟩
    obtain ⟨bA, off, rfl, hcA⟩ := HR.out.2.2 (by have := HK.out; omega)
    have hcj := hcA j (by have := HK.out; omega)
    rw [hrn] at hcj
    have hbw : Below w.heap.size w wo := L2.out.trans (KO.out.os.chg0.none.mono L2.out.size)
    have tj : wo.cell? ⟨bA, off + j, none⟩ = some (.int .u8 (rn : Int)) := (World.cell?_of_block (w := w) (a := ⟨bA, off + j, none⟩) (hbw.block bA (cell_lt hcj))).trans hcj
    clear hcj hcA hrn hbw
    by_cases hj2 : j < 100
    rotate_left
    · have hn2 : (100 : Int) ≤ (j : Int) := by omega
      clear hj2 hlt hjk hk1
      go_upto_region 31 with (fail)
      go_loopw [144] (fun ix wr => ∃ q : Nat, q ≤ nn ∧ ix = .int .i64 (q : Int) ∧ KpL (nn + 6) nn w2 wr g xp up j s H) (fun ix _ => nn - (intOf ix).toNat)
      case atStart => exact ⟨0, Nat.zero_le _, rfl, KO.out⟩
      case round =>
        obtain ⟨q, hq, rfl, hkp⟩ := hrel
        have KQ := Lib.hid hkp; clear hkp KO
        by_cases hlt3 : q < nn
        rotate_left
        · have hn3 : ¬ ((q : Int) < (nn : Int)) := by omega
          go_wp2
          go_ret
          exact ⟨rfl, L2.out.trans (KQ.out.os.chg0.none.mono L2.out.size)⟩
        have hqi : (q : Int) < (nn : Int) := by omega
        have hn6 := HN6.out
        have hk1 : IntKind.i64.wrap ((q : Int) + 1) = ((q + 1 : Nat) : Int) := by rw [wrapI (by omega) (by omega)]; omega
        have hcell : wr.cell? ⟨g, q, none⟩ = some (.int .u64 (H.getD q 0)) := by
          have hl := KQ.out.len
          rw [KQ.out.blk.cell q, List.getElem?_map, List.getD_eq_getElem?_getD, List.getElem?_eq_getElem (by omega)]
          rfl
        have hd4 : (dataS s (q : Int)).length = 4096 := by
          have hl := KQ.out.fi.len
          unfold dataS
          rw [if_pos (by omega), Int.toNat_natCast]
          split
          · exact ((KQ.out.fi.wf.sh q (by omega)).2.1 (by assumption)).1
          · exact zP_len
        have hw := KQ.out.w16 q hlt3
        have g1 := os_data KQ.out.os (q : Int)
        rw [hd4] at g1
        have g2 : ∀ (A3 : Option Addr) (cap3 : Nat) (wy : World), Rd wy A3 (dataS s (q : Int)) → Calls Tryz.prog 30 #[.slice A3 4096 cap3, .int .i64 16, .int .i64 8] wy fun e w' => e = .returned (.tuple #[.int .u64 (H.getD q 0), .bool true]) ∧ Below wy.heap.size wy w' := fun A3 cap3 wy hrd => by
          rw [← hw]
          exact rget_yes A3 4096 (dataS s (q : Int)) cap3 16 8 wy hrd hd4 ⟨sz8, by decide, by decide⟩
        have G1q := Lib.hid g1; have G2q := Lib.hid g2; have HK1q := Lib.hid hk1; have HLTq := Lib.hid hlt3
        generalize dataS s (q : Int) = D at *
        clear g1 g2 hd4 hw hn6 hlt3 hq
        clear hk1
        go_wp2_with fail
        refine G1q.out.mono ?_
        rintro e w31 ⟨⟨A3, cap3, rfl, hrd⟩, hb⟩
        have hbb := hb
        have G3q := Lib.hid (G2q.out A3 cap3 w31 hrd)
        have hb31 := Lib.hid hb
        clear hb hbb hrd
        go_wp2_with fail
        refine G3q.out.mono ?_
        rintro e w32 ⟨rfl, hb⟩
        have hkq : KpL (nn + 6) nn w2 w32 g xp up j s H := by
          have h1 := KQ.out
          have hbt := hb31.out.trans (hb.mono hb31.out.size)
          exact ⟨h1.os.below hbt, h1.fi, h1.blk.below hbt h1.blk.lt, h1.len, h1.w16⟩
        have KQ2 := Lib.hid hkq
        clear hkq hb hcell
        have hk1 := HK1q.out
        go_wp2
        refine ⟨⟨q + 1, HLTq.out, congrArg (Value.int .i64) (by first | rfl | omega), KQ2.out⟩, ?_⟩
        have := HLTq.out
        simp only [intOf]
        omega
    have hn2 : ¬ ((100 : Int) ≤ (j : Int)) := by omega
    have hme : k - (j + 1) < k - j := by omega
    have hj3 : j + 1 ≤ 100 := by omega
    have hnn0 : (nn : Int) ≠ 0 := by have := HN6.out; omega
    obtain ⟨p, hp⟩ : ∃ p, p = rn / 3 % nn := ⟨_, rfl⟩
    have hpn : p < nn := by rw [hp]; exact Nat.mod_lt _ (by have := HN6.out; omega)
    have hn6 := HN6.out
    have b9 : (rn : Int) / 3 % 256 % (nn : Int) = (p : Int) := by
      rw [show (rn : Int) / 3 % 256 = ((rn / 3 : Nat) : Int) by omega, hp]
      exact (Int.natCast_emod _ _).symm
    have b5 : IntKind.i64.wrap (p : Int) = (p : Int) := by rw [wrapI (by omega) (by omega)]
    obtain ⟨r, hr⟩ : ∃ r, r = rn % 3 := ⟨_, rfl⟩
    obtain ⟨RI, hRI⟩ : ∃ x : Int, x = (r : Int) := ⟨_, rfl⟩
    have b6 : (rn : Int).tmod 3 = RI := by rw [hRI, Int.tmod_eq_emod_of_nonneg (by omega), hr]; omega
    have hr3 : r = 0 ∨ r = 1 ∨ r = 2 := by omega
    have b8 : IntKind.i64.wrap (rn : Int) = (rn : Int) := by rw [wrapI (by omega) (by omega)]
    obtain ⟨VA, hVA⟩ : ∃ x, x = 1073741824 + 4096 * p + 16 := ⟨_, rfl⟩
    have d4 : IntKind.u64.wrap (IntKind.u64.wrap (1073741824 + 4096 * (p : Int)) + 16) = (VA : Int) := by rw [hVA, wrap_u64B, wrap_u64B]; omega
    have d1 : IntKind.u64.wrap (p : Int) = (p : Int) := wrapN p (by omega)
    have d2 : IntKind.u64.wrap (4096 * (p : Int)) = 4096 * (p : Int) := by rw [wrap_u64B]; omega
    have e1 : IntKind.u64.wrap (j : Int) = (j : Int) := wrapN j (by omega)
    obtain ⟨X, hX⟩ : ∃ X, X = IntKind.u64.wrap (v + (j : Int)) := ⟨_, rfl⟩
    have hXb : 0 ≤ X ∧ X ≤ 18446744073709551615 := by rw [hX, wrap_u64B]; omega
    have e2 : IntKind.u64.wrap (v + (j : Int)) = X := hX.symm
    have hva : VA < 18446744073709551616 := by omega
    obtain ⟨k1, k2, k3, k4, k5, k6, k7⟩ := keep_step KO.out.fi hpn (r := r) (X := X) (by omega) hXb.1 hXb.2 KO.out.len KO.out.w16
    rw [← hRI] at k1 k2 k3 k4 k5 k6 k7
    rw [← hVA] at k3 k4 k5 k6 k7
    obtain ⟨s1, hs1⟩ : ∃ x, x = (setS s p RI).1 := ⟨_, rfl⟩
    rw [← hs1] at k2 k3 k4 k5 k6 k7
    obtain ⟨s2, hs2⟩ : ∃ x, x = storS s1 VA 8 X := ⟨_, rfl⟩
    rw [← hs2] at k4 k5 k6 k7
    have g1 := os_set KO.out.os (p : Int) RI (by omega)
    rw [k1, ← hs1] at g1
    have g2 := fun wr (h : OsL (nn + 6) w2 wr (fun b => b = g) xp up s1 (321 + 6 * j + 5)) => os_right h (p : Int)
    rw [k2] at g2
    have g3 := fun wr (h : OsL (nn + 6) w2 wr (fun b => b = g) xp up s1 (321 + 6 * j + 5)) => os_unit h
    have g4 := fun wr (h : OsL (nn + 6) w2 wr (fun b => b = g) xp up s1 (321 + 6 * j + 5)) => os_store h VA 8 (rn : Int) X hva (by omega) hXb.1 hXb.2 (by omega)
    obtain ⟨cS, hcS⟩ : ∃ x : Int, x = if r = 2 then -1 else 15 := ⟨_, rfl⟩
    obtain ⟨cL, hcL⟩ : ∃ x : Int, x = if r = 0 then 13 else -1 := ⟨_, rfl⟩
    rw [k3, ← hs2, ← hcS] at g4
    have g5 := fun wr (h : OsL (nn + 6) w2 wr (fun b => b = g) xp up s2 (321 + 6 * j + 5 + 1)) => os_unit h
    have g6 := fun wr (h : OsL (nn + 6) w2 wr (fun b => b = g) xp up s2 (321 + 6 * j + 5 + 1)) => os_load h VA 8 (rn : Int) hva (by omega)
    rw [k5, ← hcL] at g6
    have g7 := fun wr (h : OsL (nn + 6) w2 wr (fun b => b = g) xp up s2 (321 + 6 * j + 5 + 1)) => os_used h
    have g8 := fun wr (h : OsL (nn + 6) w2 wr (fun b => b = g) xp up s2 (321 + 6 * j + 5 + 1)) => os_sound h (by omega)
    have hcn : ¬ ((nn : Int) < (countS s2 : Int)) := by have := k4.cnt; omega
    obtain ⟨Y, hY⟩ : ∃ Y, Y = (accS s2 VA 8 1).1 := ⟨_, rfl⟩
    rw [← hY] at g6 k6
    obtain ⟨Hn, hHn⟩ : ∃ x, x = hvS H p r X := ⟨_, rfl⟩
    rw [← hHn] at k6 k7
    have hHl : Hn.length = nn := by rw [hHn]; unfold hvS; split <;> simp [KO.out.len]
    have hnx : ∀ wr, OsL (nn + 6) w2 wr (fun b => b = g) xp up s2 (321 + 6 * j + 5 + 1) → Blk wr g (Hn.map (Value.int .u64)) 37 → KpL (nn + 6) nn w2 wr g xp up (j + 1) s2 Hn := fun wr ho hb => ⟨by rw [show 321 + 6 * (j + 1) = 321 + 6 * j + 5 + 1 from by omega]; exact ho, k4, hb, hHl, k7⟩
    have hat : ∀ wr, Blk wr g (Hn.map (Value.int .u64)) 37 → wr.cell? ⟨g, p, none⟩ = some (.int .u64 (Hn.getD p 0)) := fun wr hb => by
      rw [hb.cell p, List.getElem?_map, List.getD_eq_getElem?_getD, List.getElem?_eq_getElem (by omega)]
      rfl
    have hco := KO.out.blk
    have hpc : wo.cell? ⟨g, p, none⟩ = some (.int .u64 (H.getD p 0)) := by
      have hl := KO.out.len
      rw [hco.cell p, List.getElem?_map, List.getD_eq_getElem?_getD, List.getElem?_eq_getElem (by omega)]
      rfl
    have hset : r = 2 → (H.map (Value.int .u64)).set p (.int .u64 X) = Hn.map (Value.int .u64) := fun e => by
      rw [hHn]; unfold hvS; rw [if_pos e, List.map_set]
    have hkeep : r ≠ 2 → Hn = H := fun e => by rw [hHn]; unfold hvS; rw [if_neg e]
    have ppn : (p : Int) < (nn : Int) := by omega
    have HME := Lib.hid hme; have HJ3 := Lib.hid hj3; have HLT := Lib.hid hlt; have HK1 := Lib.hid hk1
    have G1 := Lib.hid g1; have G2 := Lib.hid g2; have G3 := Lib.hid g3; have G4 := Lib.hid g4; have G5 := Lib.hid g5; have G6 := Lib.hid g6; have G7 := Lib.hid g7; have G8 := Lib.hid g8
    have NX := Lib.hid hnx; have AT := Lib.hid hat; have BO := Lib.hid hco; have K6 := Lib.hid k6; have SE := Lib.hid hset; have KE := Lib.hid hkeep; have D1 := Lib.hid d1; have D2 := Lib.hid d2; have D4 := Lib.hid d4; have E1 := Lib.hid e1; have E2 := Lib.hid e2; have B8 := Lib.hid b8
    clear d1 d2 d4 e1 e2 b8 hVA
    have PC := Lib.hid (show (H.map (Value.int .u64))[p]? = some (.int .u64 (H.getD p 0)) from (hco.cell p).symm.trans hpc)
    clear hme hj3 hlt hk1 g1 g2 g3 g4 g5 g6 g7 g8 hnx hat hco k1 k2 k3 k4 k5 k6 k7 hs1 hs2 hY hHn hHl hset hkeep hX hXb hva hp hpn hr hn6 hrl hjk hpc
    rcases hr3 with rfl | rfl | rfl
    · obtain rfl : RI = 0 := by rw [hRI]; rfl
      clear hRI
      obtain rfl : cS = 15 := by rw [hcS]; decide
      obtain rfl : cL = 13 := by rw [hcL]; decide
      clear hcS hcL
      go_wp2_with fail
      refine G1.out.mono ?_
      rintro e w11 ⟨rfl, ho, hk⟩
      clear b9 b5 b6 tj
      have O11 := Lib.hid ho; have B11 := Lib.hid (kp_blk BO.out hk rfl)
      clear ho hk
      go_wp2_with fail
      refine (G2.out _ O11.out).mono ?_
      rintro e w12 ⟨rfl, hb⟩
      have O12 := Lib.hid (O11.out.below hb); have B12 := Lib.hid (B11.out.below hb B11.out.lt)
      clear hb
      go_upto_region 16 with (fail)
      have d1 := D1.out; have d2 := D2.out; have d4 := D4.out
      go_upto_region 17 with (fail)
      clear d1 d2 d4
      have e1 := E1.out; have e2 := E2.out
      go_upto_region 18 with (fail)
      clear e1 e2
      have b8 := B8.out
      go_wp2_with fail
      refine (G3.out _ O12.out).mono ?_
      rintro e wx ⟨rfl, rfl⟩
      go_wp2_with fail
      refine (G4.out _ O12.out).mono ?_
      rintro e w13 ⟨rfl, ho, hk⟩
      have O13 := Lib.hid ho; have B13 := Lib.hid (kp_blk B12.out hk rfl)
      clear ho hk
      have B14 : Hid (Blk w13 g (Hn.map (Value.int .u64)) 37) := Lib.hid (by rw [KE.out (by decide)]; exact B13.out)
      have O14 := O13
      go_wp2_with fail
      refine (G5.out _ O14.out).mono ?_
      rintro e wx ⟨rfl, rfl⟩
      go_wp2_with fail
      refine (G6.out _ O14.out).mono ?_
      rintro e w15 ⟨rfl, ho, hk⟩
      have O15 := Lib.hid ho; have B15 := Lib.hid (kp_blk B14.out hk rfl)
      clear ho hk
      go_wp2_with fail
      refine (G7.out _ O15.out).mono ?_
      rintro e w16 ⟨rfl, hb⟩
      have O16 := Lib.hid (O15.out.below hb); have B16 := Lib.hid (B15.out.below hb B15.out.lt)
      clear hb
      go_wp2_with fail
      refine (G8.out _ O16.out).mono ?_
      rintro e w17 ⟨rfl, hb⟩
      have O17 := Lib.hid (O16.out.below hb); have B17 := Lib.hid (B16.out.below hb B16.out.lt)
      clear hb
      have hk1 := HK1.out
      go_wp2
      refine ⟨⟨j + 1, s2, Hn, HLT.out, HJ3.out, congrArg (Value.int .i64) (by first | rfl | omega), NX.out _ O17.out B17.out⟩, ?_⟩
      have := HME.out
      simp only [intOf]
      omega
    · obtain rfl : RI = 1 := by rw [hRI]; rfl
      clear hRI
      obtain rfl : cS = 15 := by rw [hcS]; decide
      obtain rfl : cL = -1 := by rw [hcL]; decide
      clear hcS hcL
      go_wp2_with fail
      refine G1.out.mono ?_
      rintro e w11 ⟨rfl, ho, hk⟩
      clear b9 b5 b6 tj
      have O11 := Lib.hid ho; have B11 := Lib.hid (kp_blk BO.out hk rfl)
      clear ho hk
      go_wp2_with fail
      refine (G2.out _ O11.out).mono ?_
      rintro e w12 ⟨rfl, hb⟩
      have O12 := Lib.hid (O11.out.below hb); have B12 := Lib.hid (B11.out.below hb B11.out.lt)
      clear hb
      go_upto_region 16 with (fail)
      have d1 := D1.out; have d2 := D2.out; have d4 := D4.out
      go_upto_region 17 with (fail)
      clear d1 d2 d4
      have e1 := E1.out; have e2 := E2.out
      go_upto_region 18 with (fail)
      clear e1 e2
      have b8 := B8.out
      go_wp2_with fail
      refine (G3.out _ O12.out).mono ?_
      rintro e wx ⟨rfl, rfl⟩
      go_wp2_with fail
      refine (G4.out _ O12.out).mono ?_
      rintro e w13 ⟨rfl, ho, hk⟩
      have O13 := Lib.hid ho; have B13 := Lib.hid (kp_blk B12.out hk rfl)
      clear ho hk
      have B14 : Hid (Blk w13 g (Hn.map (Value.int .u64)) 37) := Lib.hid (by rw [KE.out (by decide)]; exact B13.out)
      have O14 := O13
      go_wp2_with fail
      refine (G5.out _ O14.out).mono ?_
      rintro e wx ⟨rfl, rfl⟩
      go_wp2_with fail
      refine (G6.out _ O14.out).mono ?_
      rintro e w15 ⟨rfl, ho, hk⟩
      have O15 := Lib.hid ho; have B15 := Lib.hid (kp_blk B14.out hk rfl)
      clear ho hk
      have hY := K6.out (by decide)
      have hc15 := AT.out _ B15.out
      rw [← hY] at hc15
      clear hY
      go_wp2_with fail
      refine (G7.out _ O15.out).mono ?_
      rintro e w16 ⟨rfl, hb⟩
      have O16 := Lib.hid (O15.out.below hb); have B16 := Lib.hid (B15.out.below hb B15.out.lt)
      clear hb hc15
      go_wp2_with fail
      refine (G8.out _ O16.out).mono ?_
      rintro e w17 ⟨rfl, hb⟩
      have O17 := Lib.hid (O16.out.below hb); have B17 := Lib.hid (B16.out.below hb B16.out.lt)
      clear hb
      have hk1 := HK1.out
      go_wp2
      refine ⟨⟨j + 1, s2, Hn, HLT.out, HJ3.out, congrArg (Value.int .i64) (by first | rfl | omega), NX.out _ O17.out B17.out⟩, ?_⟩
      have := HME.out
      simp only [intOf]
      omega
    · obtain rfl : RI = 2 := by rw [hRI]; rfl
      clear hRI
      obtain rfl : cS = -1 := by rw [hcS]; decide
      obtain rfl : cL = -1 := by rw [hcL]; decide
      clear hcS hcL
      go_wp2_with fail
      refine G1.out.mono ?_
      rintro e w11 ⟨rfl, ho, hk⟩
      clear b9 b5 b6 tj
      have O11 := Lib.hid ho; have B11 := Lib.hid (kp_blk BO.out hk rfl)
      clear ho hk
      go_wp2_with fail
      refine (G2.out _ O11.out).mono ?_
      rintro e w12 ⟨rfl, hb⟩
      have O12 := Lib.hid (O11.out.below hb); have B12 := Lib.hid (B11.out.below hb B11.out.lt)
      clear hb
      go_upto_region 16 with (fail)
      have d1 := D1.out; have d2 := D2.out; have d4 := D4.out
      go_upto_region 17 with (fail)
      clear d1 d2 d4
      have e1 := E1.out; have e2 := E2.out
      go_upto_region 18 with (fail)
      clear e1 e2
      have b8 := B8.out
      go_wp2_with fail
      refine (G3.out _ O12.out).mono ?_
      rintro e wx ⟨rfl, rfl⟩
      go_wp2_with fail
      refine (G4.out _ O12.out).mono ?_
      rintro e w13 ⟨rfl, ho, hk⟩
      have O13 := Lib.hid ho; have B13 := Lib.hid (kp_blk B12.out hk rfl)
      clear ho hk
      have hg3 : w13.cell? ⟨g, p, none⟩ = some (.int .u64 (H.getD p 0)) := by
        rw [B13.out.cell p]
        exact PC.out
      have hf3 : ∀ o, w13.frozen? ⟨g, o, none⟩ = false := fun o => B13.out.free o
      have hl3 : g < w13.heap.size := B13.out.lt
      go_upto_region 23 with (fail)
      obtain ⟨w14, hw14⟩ : ∃ x, x = w13.setCell ⟨g, p, none⟩ (.int .u64 X) := ⟨_, rfl⟩
      rw [← hw14]
      have hb14 : Blk w14 g (Hn.map (Value.int .u64)) 37 := by rw [← SE.out (by first | rfl | trivial), hw14]; exact B13.out.set p _
      have ho14 : OsL (nn + 6) w2 w14 (fun b => b = g) xp up s2 (321 + 6 * j + 5 + 1) := O13.out.other (hw14 ▸ Chg.setCell _ _ _ rfl) (fun j hj => by have hj : j = g := hj; rw [hj]; exact HG.out)
      have O14 := Lib.hid ho14; have B14 := Lib.hid hb14
      clear hg3 hf3 hl3 hw14 hb14 ho14
      go_wp2_with fail
      refine (G5.out _ O14.out).mono ?_
      rintro e wx ⟨rfl, rfl⟩
      go_wp2_with fail
      refine (G6.out _ O14.out).mono ?_
      rintro e w15 ⟨rfl, ho, hk⟩
      have O15 := Lib.hid ho; have B15 := Lib.hid (kp_blk B14.out hk rfl)
      clear ho hk
      have hY := K6.out (by decide)
      have hc15 := AT.out _ B15.out
      rw [← hY] at hc15
      clear hY
      go_wp2_with fail
      refine (G7.out _ O15.out).mono ?_
      rintro e w16 ⟨rfl, hb⟩
      have O16 := Lib.hid (O15.out.below hb); have B16 := Lib.hid (B15.out.below hb B15.out.lt)
      clear hb hc15
      go_wp2_with fail
      refine (G8.out _ O16.out).mono ?_
      rintro e w17 ⟨rfl, hb⟩
      have O17 := Lib.hid (O16.out.below hb); have B17 := Lib.hid (B16.out.below hb B16.out.lt)
      clear hb
      have hk1 := HK1.out
      go_wp2
      refine ⟨⟨j + 1, s2, Hn, HLT.out, HJ3.out, congrArg (Value.int .i64) (by first | rfl | omega), NX.out _ O17.out B17.out⟩, ?_⟩
      have := HME.out
      simp only [intOf]
      omega
end Go.Proofs.YtgnjbjbgfhjakaaGreat
