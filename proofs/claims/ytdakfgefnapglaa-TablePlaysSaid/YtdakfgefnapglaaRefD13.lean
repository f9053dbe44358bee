/-
  What Change of package runrigref13 answers and leaves in memory: a contract over the translation, which says its own conditions.
-/
import Derived.Test.YtdakfgefnapglaaRefC13
namespace Go.Proofs.Ytdakfgefnapglaa
open Go.RowKit
set_option linter.unusedVariables false
set_option linter.unusedSimpArgs false
attribute [local go_sem] setCell_drewN alloc_drewN

set_option maxHeartbeats 4000000 in
theorem rchange_any (rp va : Nat) (e : Ent) (vL vT : Value) (S : Tt) (first n fs : Nat) (w : World) (h : RfT w rp vL vT S first n fs) (hv : va < 18446744073709551616) (hlen : S.L.length ≤ 1000)
    (hr : -9223372036854775808 ≤ e.rsw ∧ e.rsw ≤ 9223372036854775807) (hp : e.ppn < 18446744073709551616) :
    Calls Try.prog 18 #[.pointer (some ⟨rp, 0, none⟩), .int .u64 va, pv e] w fun r w' => r = .returned (.int .i64 (chgT va e S).2) ∧ ∃ vL', RfT w' rp vL' vT (chgT va e S).1 first n fs ∧ (∀ k, vL'.ownBlock = some k → vL.ownBlock = some k ∨ w.heap.size ≤ k) ∧ Chg (fun k => k = rp) w w' := by
  have hh := fun w' (hb : Below w.heap.size w w') => holds_any rp va vL vT S first n fs w' (h.any (Chg.of_below hb)) hv
  have hK0 := h.blk
  have hlt0 := hK0.lt
  have hm := fun l w => rmay_any e l w hr hp
  have HR := Lib.hid h; have K0 := Lib.hid hK0; have HM := Lib.hid hm
  cases hho : hold S.L va with
  | none =>
    have hc : chgT va e S = (S, 51) := by unfold chgT; rw [hho]
    rw [hc]
    dsimp only
    rw [hho] at hh
    replace hh : ∀ w', Below w.heap.size w w' → Calls Try.prog 20 #[.pointer (some ⟨rp, 0, none⟩), .int .u64 va] w' fun e w'' => e = .returned (.int .i64 (-1)) ∧ Chg no w' w'' := hh
    have HH := Lib.hid hh
    clear h hK0 hm hh hho hc
    obtain ⟨v, r, x1, x, u, g, a, d, rsw, ppn⟩ := e
    unfold pv
    go_enter Try.func18, Try.ntmps18
    go_wp2_with fail
    have nb0 : Blk (w.alloc (.cells #[.bool v, .bool r, .bool x1, .bool x, .bool u, .bool g, .bool a, .bool d, .int .i64 rsw, .int .u64 (ppn : Int)] 39)) (w.heap.size) [.bool v, .bool r, .bool x1, .bool x, .bool u, .bool g, .bool a, .bool d, .int .i64 rsw, .int .u64 (ppn : Int)] 39 := Blk.new w [.bool v, .bool r, .bool x1, .bool x, .bool u, .bool g, .bool a, .bool d, .int .i64 rsw, .int .u64 (ppn : Int)] 39
    have nls : Below w.heap.size w w := (Below.refl w.heap.size w)
    have nl0 := nls.alloc nls.size (.cells #[.bool v, .bool r, .bool x1, .bool x, .bool u, .bool g, .bool a, .bool d, .int .i64 rsw, .int .u64 (ppn : Int)] 39)
    have nl : Below w.heap.size w (w.alloc (.cells #[.bool v, .bool r, .bool x1, .bool x, .bool u, .bool g, .bool a, .bool d, .int .i64 rsw, .int .u64 (ppn : Int)] 39)) := nl0; clear nls nl0
    obtain ⟨B1, hB0⟩ : ∃ B, B = w.heap.size := ⟨_, rfl⟩
    obtain ⟨W1, hW⟩ : ∃ W, W = (w.alloc (.cells #[.bool v, .bool r, .bool x1, .bool x, .bool u, .bool g, .bool a, .bool d, .int .i64 rsw, .int .u64 (ppn : Int)] 39)) := ⟨_, rfl⟩
    rw [← hW] at nl nb0
    rw [← hB0] at nb0
    rw [← hW]
    try rw [← hB0]
    have K1_0 := Lib.hid nb0
    have G1 : Hid (w.heap.size ≤ B1) := Lib.hid (by have := (Nat.le_refl w.heap.size); omega)
    have L1 := Lib.hid nl
    clear nl hW nb0 hB0
    have m0_0 : W1.cell? ⟨B1, 0, none⟩ = some _ := K1_0.out.cell 0
    have m0_1 : W1.cell? ⟨B1, 1, none⟩ = some _ := K1_0.out.cell 1
    have m0_2 : W1.cell? ⟨B1, 2, none⟩ = some _ := K1_0.out.cell 2
    have m0_3 : W1.cell? ⟨B1, 3, none⟩ = some _ := K1_0.out.cell 3
    have m0_4 : W1.cell? ⟨B1, 4, none⟩ = some _ := K1_0.out.cell 4
    have m0_5 : W1.cell? ⟨B1, 5, none⟩ = some _ := K1_0.out.cell 5
    have m0_6 : W1.cell? ⟨B1, 6, none⟩ = some _ := K1_0.out.cell 6
    have m0_7 : W1.cell? ⟨B1, 7, none⟩ = some _ := K1_0.out.cell 7
    have m0_8 : W1.cell? ⟨B1, 8, none⟩ = some _ := K1_0.out.cell 8
    have m0_9 : W1.cell? ⟨B1, 9, none⟩ = some _ := K1_0.out.cell 9
    have mlt0 : B1 < W1.heap.size := K1_0.out.lt
    go_wp2_with fail
    clear m0_0 m0_1 m0_2 m0_3 m0_4 m0_5 m0_6 m0_7 m0_8 m0_9 mlt0
    refine (HH.out _ L1.out).mono ?_
    rintro e w2 ⟨rfl, hb⟩
    have L2 := Lib.hid (L1.out.trans (hb.none.mono L1.out.size))
    have K2_0 := Lib.hid (K1_0.out.below hb.none K1_0.out.lt)
    clear hb K1_0
    go_wp2
    go_ret
    exact ⟨rfl, vL, HR.out.any (Chg.of_below L2.out), fun k hk => .inl hk, Chg.of_below L2.out⟩
  | some i =>
    have hil := hold_lt hho
    obtain ⟨A, cap, hvL, hcl, hcm, hcell⟩ := h.liesL
    obtain ⟨g0, rfl, hcells⟩ := hcell (by omega)
    have hlv := hcells i hil 1 (by omega)
    rw [← entOf_at hil] at hlv
    replace hlv : w.cell? ⟨g0, i * 12 + 1, none⟩ = some (.int .i64 ((entOf S.L i).lv : Int)) := hlv
    have hg0 : g0 < w.heap.size := cell_lt hlv
    rw [hho] at hh
    replace hh : ∀ w', Below w.heap.size w w' → Calls Try.prog 20 #[.pointer (some ⟨rp, 0, none⟩), .int .u64 va] w' fun e w'' => e = .returned (.int .i64 (i : Int)) ∧ Chg no w' w'' := hh
    obtain ⟨len, hle⟩ : ∃ k, k = S.L.length := ⟨_, rfl⟩
    have hilt : i < len := by omega
    have hlcap : len ≤ cap := by omega
    subst hvL
    have hrow : ∀ w', Below w.heap.size w w' → w'.cell? ⟨rp, 0, none⟩ = some (.slice (some ⟨g0, 0, none⟩) len cap) := fun w' hb => by
      rw [hle]; exact (hK0.below hb hlt0).cell 0
    have hlvc : ∀ w', Below w.heap.size w w' → w'.cell? ⟨g0, i * 12 + 1, none⟩ = some (.int .i64 ((entOf S.L i).lv : Int)) := fun w' hb =>
      (World.cell?_of_block (w := w) (a := ⟨g0, i * 12 + 1, none⟩) (hb.block g0 hg0)).trans hlv
    have hsrc : ∀ w', Chg no w w' → Src w' (.slice (some ⟨g0, 0, none⟩) len cap) len (rowS pgC S.L) := fun w' hc => by
      rw [hle]; exact (Src.own h.ownL).any hc
    have hrl : (rowS pgC S.L).length = len * 12 := by rw [rowS_len pgC_len, hle]
    have HH := Lib.hid hh; have HROW := Lib.hid hrow; have HLVC := Lib.hid hlvc; have HSRC := Lib.hid hsrc; have HRL := Lib.hid hrl; have HLE := Lib.hid hle; have HIL := Lib.hid hil
    have hct : chgT va e S = if mayE e (entOf S.L i).lv then (⟨setE S.L i e, S.T, S.used⟩, 0) else (S, 2) := by unfold chgT; rw [hho]
    obtain ⟨RR, hRR⟩ : ∃ R, R = chgT va e S := ⟨_, rfl⟩
    rw [← hRR]
    rw [hct] at hRR
    obtain ⟨lv, hlvd⟩ : ∃ l, l = (entOf S.L i).lv := ⟨_, rfl⟩
    rw [← hlvd] at HLVC hRR
    obtain ⟨E, hE⟩ : ∃ E, E = e := ⟨_, rfl⟩
    have HSET := fun w' g cap' => @set10_own w' w.heap.size g cap' i S.L e
    rw [← hE] at hRR
    have HRR := Lib.hid hRR; have HE := Lib.hid hE; have HS10 := Lib.hid HSET
    clear h hK0 hm hh hrow hlvc hsrc hrl hle hil hho hct hlv hcells hcell hcl hlvd hE HSET hcm hRR
    obtain ⟨v, r, x1, x, u, g, a, d, rsw, ppn⟩ := e
    unfold pv
    dsimp only
    go_enter Try.func18, Try.ntmps18
    go_wp2_with fail
    have nb0 : Blk (w.alloc (.cells #[.bool v, .bool r, .bool x1, .bool x, .bool u, .bool g, .bool a, .bool d, .int .i64 rsw, .int .u64 (ppn : Int)] 39)) (w.heap.size) [.bool v, .bool r, .bool x1, .bool x, .bool u, .bool g, .bool a, .bool d, .int .i64 rsw, .int .u64 (ppn : Int)] 39 := Blk.new w [.bool v, .bool r, .bool x1, .bool x, .bool u, .bool g, .bool a, .bool d, .int .i64 rsw, .int .u64 (ppn : Int)] 39
    have nls : Below w.heap.size w w := (Below.refl w.heap.size w)
    have nl0 := nls.alloc nls.size (.cells #[.bool v, .bool r, .bool x1, .bool x, .bool u, .bool g, .bool a, .bool d, .int .i64 rsw, .int .u64 (ppn : Int)] 39)
    have nl : Below w.heap.size w (w.alloc (.cells #[.bool v, .bool r, .bool x1, .bool x, .bool u, .bool g, .bool a, .bool d, .int .i64 rsw, .int .u64 (ppn : Int)] 39)) := nl0; clear nls nl0
    obtain ⟨B1, hB0⟩ : ∃ B, B = w.heap.size := ⟨_, rfl⟩
    obtain ⟨W1, hW⟩ : ∃ W, W = (w.alloc (.cells #[.bool v, .bool r, .bool x1, .bool x, .bool u, .bool g, .bool a, .bool d, .int .i64 rsw, .int .u64 (ppn : Int)] 39)) := ⟨_, rfl⟩
    rw [← hW] at nl nb0
    rw [← hB0] at nb0
    rw [← hW]
    try rw [← hB0]
    have K1_0 := Lib.hid nb0
    have G1 : Hid (w.heap.size ≤ B1) := Lib.hid (by have := (Nat.le_refl w.heap.size); omega)
    have L1 := Lib.hid nl
    clear nl hW nb0 hB0
    have m0_0 : W1.cell? ⟨B1, 0, none⟩ = some _ := K1_0.out.cell 0
    have m0_1 : W1.cell? ⟨B1, 1, none⟩ = some _ := K1_0.out.cell 1
    have m0_2 : W1.cell? ⟨B1, 2, none⟩ = some _ := K1_0.out.cell 2
    have m0_3 : W1.cell? ⟨B1, 3, none⟩ = some _ := K1_0.out.cell 3
    have m0_4 : W1.cell? ⟨B1, 4, none⟩ = some _ := K1_0.out.cell 4
    have m0_5 : W1.cell? ⟨B1, 5, none⟩ = some _ := K1_0.out.cell 5
    have m0_6 : W1.cell? ⟨B1, 6, none⟩ = some _ := K1_0.out.cell 6
    have m0_7 : W1.cell? ⟨B1, 7, none⟩ = some _ := K1_0.out.cell 7
    have m0_8 : W1.cell? ⟨B1, 8, none⟩ = some _ := K1_0.out.cell 8
    have m0_9 : W1.cell? ⟨B1, 9, none⟩ = some _ := K1_0.out.cell 9
    have mlt0 : B1 < W1.heap.size := K1_0.out.lt
    go_wp2_with fail
    clear m0_0 m0_1 m0_2 m0_3 m0_4 m0_5 m0_6 m0_7 m0_8 m0_9 mlt0
    refine (HH.out _ L1.out).mono ?_
    rintro e w2 ⟨rfl, hb⟩
    have L2 := Lib.hid (L1.out.trans (hb.none.mono L1.out.size))
    have K2_0 := Lib.hid (K1_0.out.below hb.none K1_0.out.lt)
    clear hb K1_0
    have inb : (0 : Int) ≤ (i : Int) := by omega
    have r0 := HROW.out _ L2.out
    have f0 := HLVC.out _ L2.out
    go_wp2_with fail
    have i1 : (i : Int) < (len : Int) := by omega
    have i2 : ¬ (i : Int) < 0 := by omega
    have i3 : (i : Int).toNat = i := by omega
    clear r0 f0
    refine wp_region_held_drew (S := fun w' => Blk w' B1 [.bool v, .bool r, .bool x1, .bool x, .bool u, .bool g, .bool a, .bool d, .int .i64 rsw, .int .u64 (ppn : Int)] 39 ∧ Below w.heap.size w w') (by kernel_rfl) ⟨(Blk.drewN K2_0.out 1), (L2.out.drew)⟩ (fun hHeld => ?_)
    simp only [List.size_toArray, List.length_cons, List.length_nil, Nat.reduceAdd]
    rw [show Array.replicate 11 false = [false, false, false, false, false, false, false, false, false, false, false].toArray from rfl]
    refine wpAnyH_take (i := 0) (v := _) rfl (by kernel_rfl) (by kernel_rfl) (by kernel_rfl) (fun _ _ _ h => h) (Or.inl ⟨by rfl, fun w hSw => yield_ent _ _ _ rfl rfl hSw.1⟩) (by assumption) ?_
    try simp only [Act.put, List.setIfInBounds_toArray, List.set_cons_zero, List.set_cons_succ, List.getElem_toArray, List.getElem_cons_succ, List.getElem_cons_zero]
    refine wpAnyH_take (i := 1) (v := ?_) rfl (by kernel_rfl) (by kernel_rfl) (by kernel_rfl) (fun _ _ _ h => h) (Or.inl ⟨by rfl, ?yldq⟩) (by assumption) ?_
    case yldq => (intro w hSw; (try dsimp only at hSw); go_simp; try with_reducible rfl)
    try simp only [Act.put, List.setIfInBounds_toArray, List.set_cons_zero, List.set_cons_succ, List.getElem_toArray, List.getElem_cons_succ, List.getElem_cons_zero]
    refine wpAnyH_take (i := 2) (v := ?_) rfl (by kernel_rfl) (by kernel_rfl) (by kernel_rfl) (fun _ _ _ h => h) (Or.inl ⟨by rfl, ?yldq⟩) (by assumption) ?_
    case yldq => (intro w hSw; (try dsimp only at hSw); go_simp; try with_reducible rfl)
    try simp only [Act.put, List.setIfInBounds_toArray, List.set_cons_zero, List.set_cons_succ, List.getElem_toArray, List.getElem_cons_succ, List.getElem_cons_zero]
    refine wpAnyH_take (i := 3) (v := ?_) rfl (by kernel_rfl) (by kernel_rfl) (by kernel_rfl) (fun _ _ _ h => h) (Or.inl ⟨by rfl, ?yldq⟩) (by assumption) ?_
    case yldq => (intro w hSw; (try dsimp only at hSw); go_simp; try with_reducible rfl)
    try simp only [Act.put, List.setIfInBounds_toArray, List.set_cons_zero, List.set_cons_succ, List.getElem_toArray, List.getElem_cons_succ, List.getElem_cons_zero]
    refine wpAnyH_take (i := 4) (v := _) rfl (by kernel_rfl) (by kernel_rfl) (by kernel_rfl) (fun _ _ _ h => h) (Or.inl ⟨by rfl, fun w hSw => yield_rowM _ _ _ rfl rfl (HROW.out _ hSw.2)⟩) (by assumption) ?_
    try simp only [Act.put, List.setIfInBounds_toArray, List.set_cons_zero, List.set_cons_succ, List.getElem_toArray, List.getElem_cons_succ, List.getElem_cons_zero]
    refine wpAnyH_take (i := 5) (v := ?_) rfl (by kernel_rfl) (by kernel_rfl) (by kernel_rfl) (fun _ _ _ h => h) (Or.inl ⟨by rfl, ?yldq⟩) (by assumption) ?_
    case yldq => (intro w hSw; (try dsimp only at hSw); go_simp; try with_reducible rfl)
    try simp only [Act.put, List.setIfInBounds_toArray, List.set_cons_zero, List.set_cons_succ, List.getElem_toArray, List.getElem_cons_succ, List.getElem_cons_zero]
    refine wpAnyH_take (i := 6) (v := ?_) rfl (by kernel_rfl) (by kernel_rfl) (by kernel_rfl) (fun _ _ _ h => h) (Or.inl ⟨by rfl, ?yldq⟩) (by assumption) ?_
    case yldq => (intro w hSw; (try dsimp only at hSw); go_simp; try with_reducible rfl)
    try simp only [Act.put, List.setIfInBounds_toArray, List.set_cons_zero, List.set_cons_succ, List.getElem_toArray, List.getElem_cons_succ, List.getElem_cons_zero]
    refine wpAnyH_take (i := 7) (v := ?_) rfl (by kernel_rfl) (by kernel_rfl) (by kernel_rfl) (fun _ _ _ h => h) (Or.inl ⟨by rfl, ?yldq⟩) (by assumption) ?_
    case yldq => (intro w hSw; (try dsimp only at hSw); go_simp; try with_reducible rfl)
    try simp only [Act.put, List.setIfInBounds_toArray, List.set_cons_zero, List.set_cons_succ, List.getElem_toArray, List.getElem_cons_succ, List.getElem_cons_zero]
    refine wpAnyH_take (i := 8) (v := _) rfl (by kernel_rfl) (by kernel_rfl) (by kernel_rfl) (fun _ _ _ h => h) (Or.inl ⟨by rfl, fun w hSw => yield_int13 _ _ _ rfl rfl (HLVC.out _ hSw.2)⟩) (by assumption) ?_
    try simp only [Act.put, List.setIfInBounds_toArray, List.set_cons_zero, List.set_cons_succ, List.getElem_toArray, List.getElem_cons_succ, List.getElem_cons_zero]
    refine wpAnyH_ready (rs := [9]) (by kernel_rfl) (by simp) ?_
    refine AllReadyH.cons rfl (fun K hK => ?_) AllReadyH.nil
    go_simp
    refine (HM.out (lv : Int) _).mono ?_
    rintro e w3 ⟨rfl, hb⟩
    have L3 := Lib.hid ((L2.out.drew).trans (hb.mono (L2.out.drew).size))
    have K3_0 := Lib.hid ((Blk.drewN K2_0.out 1).below hb (Blk.drewN K2_0.out 1).lt)
    clear hb K2_0
    refine hK.out _ _ ⟨K3_0.out, L3.out⟩ (fun hS9 => ?_)
    clear hK K
    refine wpAnyH_take (i := 10) (v := ?_) rfl (by kernel_rfl) (by kernel_rfl) (by kernel_rfl) (fun _ _ _ h => h) (Or.inl ⟨by rfl, ?yldq⟩) (by assumption) ?_
    case yldq => (intro w hSw; (try dsimp only at hSw); go_simp; try with_reducible rfl)
    try simp only [Act.put, List.setIfInBounds_toArray, List.set_cons_zero, List.set_cons_succ, List.getElem_toArray, List.getElem_cons_succ, List.getElem_cons_zero]
    clear hS9
    refine wpAnyH_done (by kernel_rfl) ?_ _
    cases hmy : mayE E (lv : Int) with
    | false =>
      rw [← HE.out, hmy]
      have HMY := Lib.hid hmy; clear hmy
      go_wp2
      go_ret
      have hrr : RR = (S, 2) := by rw [HRR.out, HMY.out]; rfl
      rw [hrr]
      exact ⟨rfl, _, HR.out.any (Chg.of_below L3.out), fun k hk => .inl hk, Chg.of_below L3.out⟩
    | true =>
      rw [← HE.out, hmy]
      have HMY := Lib.hid hmy; clear hmy
      have r0 : ∀ o, (w3.alloc o).cell? ⟨rp, 0, none⟩ = some (.slice (some ⟨g0, 0, none⟩) len cap) := fun o => HROW.out _ (L3.out.alloc L3.out.size o)
      have hown0 := own_lit0 w3 60 12
      have hsr := HSRC.out _ (Chg.of_below (L3.out.alloc L3.out.size (.cells #[] 60)))
      have HO0 := Lib.hid hown0; have HSR := Lib.hid hsr
      clear hown0 hsr
      go_wp2_with (at_builtin; refine wpList_append_M rfl _ _ rfl w3.heap.size _ 0 [] rfl HO0.out _ len (rowS pgC S.L) rfl HSR.out HRL.out (rowS_one pgC_one S.L) ?c1 ?c3 ?_)
      case c1 => have := HLE.out; omega
      intro v1 w4 hown1 hgr1
      obtain ⟨g1, cap1, rfl, hg1b, hg1⟩ := hown1.form (by omega)
      have hc4 : Chg no w w4 := (Chg.of_below (F := no) (L3.out.alloc L3.out.size (.cells #[] 60))).newerB (grown_chg hgr1 (fun k hk => by injection hk with hk; exact Nat.le_of_eq hk)) L3.out.size
      have hk4 := (K3_0.out.alloc (.cells #[] 60)).chg (grown_chg hgr1 (fun k hk => by injection hk with hk; exact Nat.le_of_eq hk)) (fun h => absurd K3_0.out.lt (Nat.not_lt.2 h))
      obtain ⟨A1, c1, hv1, _, _, hcs1⟩ := lies_own (f := pgC) (L := S.L) (k := 12) pgC_len (HLE.out ▸ hown1)
      obtain ⟨g2, hA1, hcs1⟩ := hcs1 (by have := HIL.out; omega)
      have hg2 : g2 = g1 := by
        rw [hA1] at hv1
        injection hv1 with h1 _ _
        injection h1 with h1
        injection h1 with h1
        exact h1.symm
      subst hg2
      obtain ⟨M, hM⟩ : ∃ M, M = S.L[i]'HIL.out := ⟨_, rfl⟩
      replace hcs1 : ∀ (i : Nat) (h : i < S.L.length) (j : Nat), j < 12 → w4.cell? ⟨g2, i * 12 + j, none⟩ = (pgC S.L[i])[j]? := hcs1
      have hcsM : ∀ j, j < 12 → w4.cell? ⟨g2, i * 12 + j, none⟩ = (pgC M)[j]? := fun j hj => by rw [hM]; exact hcs1 i HIL.out j hj
      have d0 : w4.cell? ⟨g2, i * 12 + 2, none⟩ = some (.bool M.e.v) := hcsM 2 (by omega)
      have d1 : w4.cell? ⟨g2, i * 12 + 2 + 1, none⟩ = some (.bool M.e.r) := hcsM 3 (by omega)
      have d2 : w4.cell? ⟨g2, i * 12 + 2 + 2, none⟩ = some (.bool M.e.w) := hcsM 4 (by omega)
      have d3 : w4.cell? ⟨g2, i * 12 + 2 + 3, none⟩ = some (.bool M.e.x) := hcsM 5 (by omega)
      have d4 : w4.cell? ⟨g2, i * 12 + 2 + 4, none⟩ = some (.bool M.e.u) := hcsM 6 (by omega)
      have d5 : w4.cell? ⟨g2, i * 12 + 2 + 5, none⟩ = some (.bool M.e.g) := hcsM 7 (by omega)
      have d6 : w4.cell? ⟨g2, i * 12 + 2 + 6, none⟩ = some (.bool M.e.a) := hcsM 8 (by omega)
      have d7 : w4.cell? ⟨g2, i * 12 + 2 + 7, none⟩ = some (.bool M.e.d) := hcsM 9 (by omega)
      have d8 : w4.cell? ⟨g2, i * 12 + 2 + 8, none⟩ = some (.int .i64 M.e.rsw) := hcsM 10 (by omega)
      have d9 : w4.cell? ⟨g2, i * 12 + 2 + 9, none⟩ = some (.int .u64 (M.e.ppn : Int)) := hcsM 11 (by omega)
      clear hv1 hA1 hcs1 hcsM hM
      obtain ⟨cur, hcur, _, hn1, hm1, hcl1, _⟩ := own_blkG hown1
      have fz1 : ∀ o, w4.frozen? ⟨g2, o, none⟩ = false := fun o => hcur.free o
      have hrp4 := K0.out.chg hc4 (fun h => h)
      have hgrp : g2 ≠ rp := by have := L3.out.size; omega
      have HO1 := Lib.hid hown1; have HC4 := Lib.hid hc4; have HRP4 := Lib.hid hrp4
      unfold maxLen at hm1
      have m0 := hk4.cell 0; have m1 := hk4.cell 1; have m2 := hk4.cell 2; have m3 := hk4.cell 3; have m4 := hk4.cell 4; have m5 := hk4.cell 5; have m6 := hk4.cell 6; have m7 := hk4.cell 7; have m8 := hk4.cell 8; have m9 := hk4.cell 9
      have mlt := hk4.lt
      clear hown1 hgr1 hc4 hk4 hcur hrp4 r0
      go_upto_region 8 with (fail)
      have hs5 := HS10.out w4 g2 cap1 (by rw [← HLE.out]; exact own_baseG HO1.out L3.out.size) HIL.out
      have hc5 := set10_chg w4 g2 (i * 12 + 2) ⟨v, r, x1, x, u, g, a, d, rsw, ppn⟩
      unfold set10 at hs5 hc5
      dsimp only at hs5 hc5
      generalize ((((((((((w4.setCell { block := g2, off := i * 12 + 2 } (Value.bool v)).setCell { block := g2, off := i * 12 + 2 + 1 } (Value.bool r)).setCell { block := g2, off := i * 12 + 2 + 2 } (Value.bool x1)).setCell { block := g2, off := i * 12 + 2 + 3 } (Value.bool x)).setCell { block := g2, off := i * 12 + 2 + 4 } (Value.bool u)).setCell { block := g2, off := i * 12 + 2 + 5 } (Value.bool g)).setCell { block := g2, off := i * 12 + 2 + 6 } (Value.bool a)).setCell { block := g2, off := i * 12 + 2 + 7 } (Value.bool d)).setCell { block := g2, off := i * 12 + 2 + 8 } (Value.int IntKind.i64 rsw)).setCell { block := g2, off := i * 12 + 2 + 9 } (Value.int IntKind.u64 ↑ppn)) = W5 at hs5 hc5 ⊢
      have hk5 := HRP4.out.chg hc5 (fun h => hgrp h.symm)
      have q0 : W5.cell? ⟨rp, 0, none⟩ = some _ := hk5.cell 0
      have q1 := hk5.free 0
      have hlt5 := hk5.lt
      have HS5 := Lib.hid hs5; have HC5 := Lib.hid hc5; have HK5 := Lib.hid hk5
      clear hs5 hc5 hk5 d0 d1 d2 d3 d4 d5 d6 d7 d8 d9 m0 m1 m2 m3 m4 m5 m6 m7 m8 m9 mlt fz1
      go_wp2
      go_ret
      have hrr : RR = (⟨setE S.L i E, S.T, S.used⟩, 0) := by rw [HRR.out, HMY.out]; rfl
      rw [hrr]
      have hw0 : w.heap.size ≤ w3.heap.size := L3.out.size
      have hc45 : Chg no w W5 := HC4.out.newerB (HC5.out.mono (F' := fun k => w3.heap.size ≤ k) (fun k _ hk => by rw [hk]; exact hg1b)) hw0
      have hcE := hc45.of_no.trans (Chg.setCell (F := fun k => k = rp) W5 ⟨rp, 0, none⟩ (.slice (some ⟨g2, 0, none⟩) len cap1) rfl)
      have hsl : (setE S.L i E).length = len := by unfold setE; rw [List.length_set]; exact HLE.out.symm
      refine ⟨rfl, .slice (some ⟨g2, 0, none⟩) len cap1, ⟨HK5.out.set 0 _, ?_, own_chgG HR.out.ownT hcE (fun k hk e => HR.out.neT (e ▸ hk)), ?_, HR.out.neT⟩, fun k hk => ?_, hcE⟩
      · have h5 := HS5.out
        rw [← HLE.out] at h5
        dsimp only
        rw [hsl, HE.out]
        exact own_chgG (own_baseG h5 (Nat.zero_le _)) (Chg.setCell (F := fun k => k = rp) W5 ⟨rp, 0, none⟩ (.slice (some ⟨g2, 0, none⟩) len cap1) rfl) (fun k hk e => by injection hk with hk; exact hgrp (hk.trans e))
      · intro hk; injection hk with hk; exact hgrp hk
      · injection hk with hk
        exact .inr (by rw [← hk]; exact Nat.le_trans hw0 hg1b)
end Go.Proofs.Ytdakfgefnapglaa
