/-
  What Map of package runrigref13 answers and leaves in memory: a contract over the translation, which says its own conditions.
-/
import Derived.Test.YtdakfgefnapglaaRefU13
namespace Go.Proofs.Ytdakfgefnapglaa
open Go.RowKit
set_option linter.unusedVariables false
set_option linter.unusedSimpArgs false
attribute [local go_sem] setCell_drewN alloc_drewN

/-- what Map has so far: the tables, new rows, the rest as it was -/
structure RMap (w wr : World) (rp B1 : Nat) (vL vT : Value) (S : Tt) (first n fs : Nat) (vL0 vT0 : Value) (cs : List Value) : Prop where
  rf : RfT wr rp vL vT S first n fs
  nL : ∀ k, vL.ownBlock = some k → vL0.ownBlock = some k ∨ w.heap.size ≤ k
  nT : ∀ k, vT.ownBlock = some k → vT0.ownBlock = some k ∨ w.heap.size ≤ k
  box : Blk wr B1 cs 39
  b1 : w.heap.size ≤ B1
  chg : Chg (fun k => k = rp) w wr
  bL : ∀ k, vL.ownBlock = some k → k ≠ B1
  bT : ∀ k, vT.ownBlock = some k → k ≠ B1
  rlt : rp < w.heap.size
section
variable {w wr w' : World} {rp B1 first n fs : Nat} {vL vT vL0 vT0 : Value} {S : Tt} {cs : List Value}
theorem RMap.any (h : RMap w wr rp B1 vL vT S first n fs vL0 vT0 cs) (hc : Chg no wr w') : RMap w w' rp B1 vL vT S first n fs vL0 vT0 cs :=
  ⟨h.rf.any hc, h.nL, h.nT, h.box.chg hc (fun h => h), h.b1, h.chg.trans hc.of_no, h.bL, h.bT, h.rlt⟩
theorem RMap.take (h : RMap w wr rp B1 vL vT S first n fs vL0 vT0 cs) (hr : RfT w' rp vL vT ⟨S.L, S.T, S.used + 1⟩ first n fs) (hc : Chg (fun k => k = rp) wr w') : RMap w w' rp B1 vL vT ⟨S.L, S.T, S.used + 1⟩ first n fs vL0 vT0 cs :=
  ⟨hr, h.nL, h.nT, h.box.chg hc (fun e => by have e : B1 = rp := e; have := h.b1; have := h.rlt; omega), h.b1, h.chg.trans hc, h.bL, h.bT, h.rlt⟩
theorem RMap.size (h : RMap w wr rp B1 vL vT S first n fs vL0 vT0 cs) : w.heap.size ≤ wr.heap.size ∧ rp < wr.heap.size ∧ B1 < wr.heap.size :=
  ⟨h.chg.size, h.rf.blk.lt, h.box.lt⟩
/-- a row of tables behind which one more stands -/
theorem RMap.newT {N c m : Nat} {A : Option Addr} {T' : List Tb} (hm : m = T'.length) (h : RMap w wr rp B1 vL vT S first n fs vL0 vT0 cs) (hN : wr.heap.size ≤ N) (hc : Chg no wr w')
    (ho : w'.ownsRow N 90 2 (.slice A m c) m (rowS tbC T')) :
    RMap w (w'.setCell ⟨rp, 1, none⟩ (.slice A m c)) rp B1 vL (.slice A m c) ⟨S.L, T', S.used⟩ first n fs vL0 vT0 cs := by
  subst hm
  have h' := h.any hc
  obtain ⟨s1, s2, s3⟩ := h.size
  have hcs := Chg.setCell (F := fun k => k = rp) w' ⟨rp, 1, none⟩ (.slice A T'.length c) rfl
  have hlt := fun k hk => (ho.lt k hk).1
  refine ⟨⟨h'.rf.blk.set 1 _, own_chgG h'.rf.ownL hcs (fun k hk e => h'.rf.neL (e ▸ hk)), own_chgG (own_baseG ho (Nat.zero_le _)) hcs (fun k hk e => ?_), h'.rf.neL, fun hk => ?_⟩, h.nL, fun k hk => .inr ?_, h'.box.chg hcs (fun e => ?_), h.b1, h'.chg.trans hcs, h.bL, fun k hk e => ?_, h.rlt⟩
  · have := hlt k hk; have e : k = rp := e; omega
  · have := hlt _ hk; omega
  · have := hlt k hk; omega
  · have e : B1 = rp := e; have := h.b1; have := h.rlt; omega
  · have := hlt k hk; omega
theorem RMap.newL {N c m : Nat} {A : Option Addr} {L' : List Pg} (hm : m = L'.length) (h : RMap w wr rp B1 vL vT S first n fs vL0 vT0 cs) (hN : wr.heap.size ≤ N) (hc : Chg no wr w')
    (ho : w'.ownsRow N 60 12 (.slice A m c) m (rowS pgC L')) :
    RMap w (w'.setCell ⟨rp, 0, none⟩ (.slice A m c)) rp B1 (.slice A m c) vT ⟨L', S.T, S.used⟩ first n fs vL0 vT0 cs := by
  subst hm
  have h' := h.any hc
  obtain ⟨s1, s2, s3⟩ := h.size
  have hcs := Chg.setCell (F := fun k => k = rp) w' ⟨rp, 0, none⟩ (.slice A L'.length c) rfl
  have hlt := fun k hk => (ho.lt k hk).1
  refine ⟨⟨h'.rf.blk.set 0 _, own_chgG (own_baseG ho (Nat.zero_le _)) hcs (fun k hk e => ?_), own_chgG h'.rf.ownT hcs (fun k hk e => h'.rf.neT (e ▸ hk)), fun hk => ?_, h'.rf.neT⟩, fun k hk => .inr ?_, h.nT, h'.box.chg hcs (fun e => ?_), h.b1, h'.chg.trans hcs, fun k hk e => ?_, h.bT, h.rlt⟩
  · have := hlt k hk; have e : k = rp := e; omega
  · have := hlt _ hk; omega
  · have := hlt k hk; omega
  · have e : B1 = rp := e; have := h.b1; have := h.rlt; omega
  · have := hlt k hk; omega
end
theorem desc_end (first n fs va lv : Nat) (e : Ent) (S : Tt) : desc first n fs va lv e 0 S = if (pagI S.L va lv).isSome || (decide (0 < lv) && S.T.any (isT va (lv - 1))) then (S, 130) else (⟨S.L ++ [⟨bas va lv, lv, e⟩], S.T, S.used⟩, 0) := by unfold desc; rfl
theorem desc_step (first n fs va lv k : Nat) (e : Ent) (S : Tt) : desc first n fs va lv e (k + 1) S = if (pagI S.L va (lv + k + 1)).isSome then (S, 130) else if S.T.any (isT va (lv + k)) then desc first n fs va lv e k S
    else if takE first n fs S.used = 0 then desc first n fs va lv e k ⟨S.L, S.T ++ [⟨lv + k, bas va (lv + k + 1)⟩], S.used + 1⟩ else (S, takE first n fs S.used) := by rw [desc]
set_option maxHeartbeats 8000000 in
theorem rmap_any (rp va : Nat) (l : Int) (e : Ent) (vL vT : Value) (S : Tt) (first n fs : Nat) (w : World) (h : RfT w rp vL vT S first n fs) (hv : va < 18446744073709551616) (hlL : S.L.length ≤ 1000) (hlT : S.T.length ≤ 1000)
    (h1 : first ≤ 1048576) (h2 : n ≤ 1048576) (h3 : fs ≤ 1048576) (h4 : S.used ≤ 1000000) (hr : -9223372036854775808 ≤ e.rsw ∧ e.rsw ≤ 9223372036854775807) (hp : e.ppn < 18446744073709551616) :
    Calls Try.prog 17 #[.pointer (some ⟨rp, 0, none⟩), .int .u64 va, .int .i64 l, pv e] w fun r w' => r = .returned (.int .i64 (mapT first n fs va l e S).2) ∧ ∃ vL' vT', RfT w' rp vL' vT' (mapT first n fs va l e S).1 first n fs ∧ (∀ k, vL'.ownBlock = some k → vL.ownBlock = some k ∨ w.heap.size ≤ k) ∧ (∀ k, vT'.ownBlock = some k → vT.ownBlock = some k ∨ w.heap.size ≤ k) ∧ Chg (fun k => k = rp) w w' := by
  obtain ⟨RR, hRR⟩ : ∃ R, R = mapT first n fs va l e S := ⟨_, rfl⟩
  rw [← hRR]
  unfold mapT at hRR
  have hcan := fun w => Calls.belowD (rcan_any va w hv)
  have hmay := fun w => rmay_any e l w hr hp
  have hlt0 := h.blk.lt
  have hpage := fun (wr : World) (k : Nat) vL' vT' S' (hk : k < 3) (hR : RfT wr rp vL' vT' S' first n fs) => rpage_any rp va k vL' vT' S' first n fs wr hR hk hv
  have hlaid := fun (wr : World) (k : Nat) vL' vT' S' (hk : k < 2) (hR : RfT wr rp vL' vT' S' first n fs) => laid_any rp va k vL' vT' S' first n fs wr hR hk hv
  have htf := fun (wr : World) vL' vT' S' (hR : RfT wr rp vL' vT' S' first n fs) (hu : S'.used ≤ 1048576) => rtake_full rp vL' vT' S' first n fs wr hR h1 h2 h3 hu
  have htb := fun (wr : World) vL' vT' S' (hR : RfT wr rp vL' vT' S' first n fs) (hu : S'.used ≤ 1048576) => rtake_bound rp vL' vT' S' first n fs wr hR h1 h2 h3 hu
  have hty := fun (wr : World) vL' vT' S' (hR : RfT wr rp vL' vT' S' first n fs) (hu : S'.used ≤ 1048576) => rtake_yes rp vL' vT' S' first n fs wr hR h1 h2 h3 hu
  have hbase := fun (wr : World) (k : Nat) (hk : k < 3) => base_any va k wr hk hv
  have hmp := fun (k : Nat) (hm : mayE e k = true) => (may_parts hm).1
  have hml : mayE e l = true → 0 ≤ l ∧ l < 3 := fun hm => by
    unfold mayE at hm
    simp only [Bool.and_eq_true, decide_eq_true_eq] at hm
    exact hm.1.1.1.1.1
  have HR := Lib.hid h; have HCAN := Lib.hid hcan; have HMAY := Lib.hid hmay; have HPAGE := Lib.hid hpage; have HLAID := Lib.hid hlaid; have HTF := Lib.hid htf; have HTB := Lib.hid htb; have HTY := Lib.hid hty; have HBASE := Lib.hid hbase; have HRR := Lib.hid hRR; have HML := Lib.hid hml
  clear h hcan hmay hpage hlaid htf htb hty hbase hRR hml hmp hr hp
  obtain ⟨E, hE⟩ : ∃ E, E = e := ⟨_, rfl⟩
  have HE := Lib.hid hE; clear hE
  have hgE : mayE e l = mayE E l := by rw [HE.out]
  rw [hgE] at HRR
  have hmE := HMAY.out
  rw [hgE] at hmE
  have HMAY := Lib.hid hmE
  clear hgE hmE
  obtain ⟨v, r, x1, x, u, g, a, d, rsw, ppn⟩ := e
  unfold pv at HMAY ⊢
  dsimp only at HMAY ⊢
  go_enter Try.func17, Try.ntmps17
  go_wp2_with fail
  have nb0 : Blk (w.alloc (.cells #[.bool v, .bool r, .bool x1, .bool x, .bool u, .bool g, .bool a, .bool d, .int .i64 rsw, .int .u64 (ppn : Int)] 39)) (w.heap.size) [.bool v, .bool r, .bool x1, .bool x, .bool u, .bool g, .bool a, .bool d, .int .i64 rsw, .int .u64 (ppn : Int)] 39 := Blk.new w [.bool v, .bool r, .bool x1, .bool x, .bool u, .bool g, .bool a, .bool d, .int .i64 rsw, .int .u64 (ppn : Int)] 39
  have nls : Below w.heap.size w w := (Below.refl w.heap.size w)
  have nl0 := nls.alloc nls.size (.cells #[.bool v, .bool r, .bool x1, .bool x, .bool u, .bool g, .bool a, .bool d, .int .i64 rsw, .int .u64 (ppn : Int)] 39)
  have nl : Below w.heap.size w (w.alloc (.cells #[.bool v, .bool r, .bool x1, .bool x, .bool u, .bool g, .bool a, .bool d, .int .i64 rsw, .int .u64 (ppn : Int)] 39)) := nl0; clear nls nl0
  obtain ⟨B1, hB0⟩ : ∃ B, B = w.heap.size := ⟨_, rfl⟩
  obtain ⟨W1, hW⟩ : ∃ W, W = (w.alloc (.cells #[.bool v, .bool r, .bool x1, .bool x, .bool u, .bool g, .bool a, .bool d, .int .i64 rsw, .int .u64 (ppn : Int)] 39)) := ⟨_, rfl⟩
  rw [← hW] at nl nb0
  rw [← hB0] at nb0
  rw [← hW]
  try rw [← hB0]
  have K1_0 := Lib.hid nb0
  have G1 : Hid (w.heap.size ≤ B1) := Lib.hid (by have := (Nat.le_refl w.heap.size); omega)
  have L1 := Lib.hid nl
  clear nl hW nb0 hB0
  have m0_0 : W1.cell? ⟨B1, 0, none⟩ = some _ := K1_0.out.cell 0
  have m0_1 : W1.cell? ⟨B1, 1, none⟩ = some _ := K1_0.out.cell 1
  have m0_2 : W1.cell? ⟨B1, 2, none⟩ = some _ := K1_0.out.cell 2
  have m0_3 : W1.cell? ⟨B1, 3, none⟩ = some _ := K1_0.out.cell 3
  have m0_4 : W1.cell? ⟨B1, 4, none⟩ = some _ := K1_0.out.cell 4
  have m0_5 : W1.cell? ⟨B1, 5, none⟩ = some _ := K1_0.out.cell 5
  have m0_6 : W1.cell? ⟨B1, 6, none⟩ = some _ := K1_0.out.cell 6
  have m0_7 : W1.cell? ⟨B1, 7, none⟩ = some _ := K1_0.out.cell 7
  have m0_8 : W1.cell? ⟨B1, 8, none⟩ = some _ := K1_0.out.cell 8
  have m0_9 : W1.cell? ⟨B1, 9, none⟩ = some _ := K1_0.out.cell 9
  have mlt0 : B1 < W1.heap.size := K1_0.out.lt
  go_wp2_with fail
  clear m0_0 m0_1 m0_2 m0_3 m0_4 m0_5 m0_6 m0_7 m0_8 m0_9 mlt0
  refine (HCAN.out _).mono ?_
  rintro e w2 ⟨rfl, hb⟩
  have L2 := Lib.hid (L1.out.trans (hb.mono L1.out.size))
  have K2_0 := Lib.hid (K1_0.out.below hb K1_0.out.lt)
  clear hb K1_0
  cases hcv : canN va with
  | false =>
    have HCV := Lib.hid hcv; clear hcv
    go_wp2
    go_ret
    have hrr : RR = (S, 2) := by rw [HRR.out, HCV.out]; rfl
    rw [hrr]
    exact ⟨rfl, vL, vT, HR.out.any (Chg.of_below L2.out), fun k hk => .inl hk, fun k hk => .inl hk, Chg.of_below L2.out⟩
  | true =>
    have HCV := Lib.hid hcv; clear hcv
    have m0_0 : w2.cell? ⟨B1, 0, none⟩ = some _ := K2_0.out.cell 0
    have m0_1 : w2.cell? ⟨B1, 1, none⟩ = some _ := K2_0.out.cell 1
    have m0_2 : w2.cell? ⟨B1, 2, none⟩ = some _ := K2_0.out.cell 2
    have m0_3 : w2.cell? ⟨B1, 3, none⟩ = some _ := K2_0.out.cell 3
    have m0_4 : w2.cell? ⟨B1, 4, none⟩ = some _ := K2_0.out.cell 4
    have m0_5 : w2.cell? ⟨B1, 5, none⟩ = some _ := K2_0.out.cell 5
    have m0_6 : w2.cell? ⟨B1, 6, none⟩ = some _ := K2_0.out.cell 6
    have m0_7 : w2.cell? ⟨B1, 7, none⟩ = some _ := K2_0.out.cell 7
    have m0_8 : w2.cell? ⟨B1, 8, none⟩ = some _ := K2_0.out.cell 8
    have m0_9 : w2.cell? ⟨B1, 9, none⟩ = some _ := K2_0.out.cell 9
    have mlt0 : B1 < w2.heap.size := K2_0.out.lt
    go_wp2_with fail
    clear m0_0 m0_1 m0_2 m0_3 m0_4 m0_5 m0_6 m0_7 m0_8 m0_9 mlt0
    refine (HMAY.out _).mono ?_
    rintro e w3 ⟨rfl, hb⟩
    have L3 := Lib.hid (L2.out.trans (hb.mono L2.out.size))
    have K3_0 := Lib.hid (K2_0.out.below hb K2_0.out.lt)
    clear hb K2_0
    cases hmv : mayE E l with
    | false =>
      have HMV := Lib.hid hmv; clear hmv
      go_wp2
      go_ret
      have hrr : RR = (S, 2) := by rw [HRR.out, HCV.out, HMV.out]; rfl
      rw [hrr]
      exact ⟨rfl, vL, vT, HR.out.any (Chg.of_below L3.out), fun k hk => .inl hk, fun k hk => .inl hk, Chg.of_below L3.out⟩
    | true =>
      obtain ⟨l0, l3⟩ := HML.out (by rw [← HE.out]; exact hmv)
      obtain ⟨lv, rfl⟩ : ∃ k : Nat, l = k := ⟨l.toNat, by omega⟩
      have hrr : RR = desc first n fs va lv ⟨v, r, x1, x, u, g, a, d, rsw, ppn⟩ (2 - lv) S := by
        rw [HRR.out, HCV.out, hmv, Int.toNat_natCast]; rfl
      have hM0 : RMap w w3 rp B1 vL vT S first n fs vL vT [.bool v, .bool r, .bool x1, .bool x, .bool u, .bool g, .bool a, .bool d, .int .i64 rsw, .int .u64 (ppn : Int)] := ⟨HR.out.any (Chg.of_below L3.out), fun k hk => .inl hk, fun k hk => .inl hk, K3_0.out, G1.out, Chg.of_below L3.out, fun k hk e => by have := (HR.out.ownL.lt k hk).2; have := G1.out; omega, fun k hk e => by have := (HR.out.ownT.lt k hk).2; have := G1.out; omega, hlt0⟩
      have HM0 := Lib.hid hM0; have HRR2 := Lib.hid hrr
      clear hmv hM0 hrr l0 K3_0 L3 HRR HML HMAY HCAN
      go_wp2
      go_loopw [9] (fun i wr => ∃ (k J : Nat) (S' : Tt) (vL' vT' : Value), J = lv + k ∧ i = .int .i64 (J : Int) ∧ J ≤ 2 ∧ RR = desc first n fs va lv ⟨v, r, x1, x, u, g, a, d, rsw, ppn⟩ k S' ∧ RMap w wr rp B1 vL' vT' S' first n fs vL vT [.bool v, .bool r, .bool x1, .bool x, .bool u, .bool g, .bool a, .bool d, .int .i64 rsw, .int .u64 (ppn : Int)] ∧ S'.L.length ≤ 1000 ∧ S'.T.length + k ≤ 1003 ∧ S'.used + k ≤ 1000003) (fun i _ => (intOf i).toNat)
      case atStart => exact ⟨2 - lv, 2, S, vL, vT, by omega, rfl, Nat.le_refl _, HRR2.out, HM0.out, hlL, by omega, by omega⟩
      case round =>
        obtain ⟨k, J, S', vL', vT', hJ, rfl, hJ2, hrr, hM, hbL, hbT, hbu⟩ := hrel
        have HM := Lib.hid hM; have HRR := Lib.hid hrr
        clear hM hrr
        have hpg := HPAGE.out wr J vL' vT' S' (by omega) HM.out.rf
        by_cases hgt : 0 < k
        · obtain ⟨k', rfl⟩ : ∃ k', k = k' + 1 := ⟨k - 1, by omega⟩
          obtain ⟨j, hj⟩ : ∃ j, j = lv + k' := ⟨_, rfl⟩
          have hstep := HRR.out
          rw [desc_step, ← hj, show j + 1 = J from by omega] at hstep
          have hw1 : IntKind.i64.wrap ((J : Int) - 1) = (j : Int) := by simp [IntKind.wrap, IntKind.bits, IntKind.signed]; omega
          have hgt' : (lv : Int) < (J : Int) := by omega
          have HST := Lib.hid hstep; have HJ := Lib.hid hJ; have Hj := Lib.hid hj
          have hJ3 : J < 3 ∧ j < 2 ∧ j ≤ 2 ∧ j < J := by omega
          clear hstep hJ hj hgt
          cases hpi : pagI S'.L va J with
          | some q =>
            rw [hpi] at hpg
            replace hpg : Calls Try.prog 34 #[.pointer (some ⟨rp, 0, none⟩), .int .u64 va, .int .i64 J] wr fun e w' => e = .returned (.int .i64 (q : Int)) ∧ Chg no wr w' := hpg
            have HPG := Lib.hid hpg; have HPI := Lib.hid hpi
            clear hpg hpi
            go_wp2_with fail
            refine HPG.out.mono ?_
            rintro e w5 ⟨rfl, hc⟩
            have HM5 := Lib.hid (HM.out.any hc)
            clear hc
            go_wp2
            go_ret
            have h0 : RR = (S', 130) := by rw [HST.out, HPI.out]; rfl
            rw [h0]
            exact ⟨rfl, vL', vT', HM5.out.rf, HM5.out.nL, HM5.out.nT, HM5.out.chg⟩
          | none =>
            rw [hpi] at hpg
            replace hpg : Calls Try.prog 34 #[.pointer (some ⟨rp, 0, none⟩), .int .u64 va, .int .i64 J] wr fun e w' => e = .returned (.int .i64 (-1)) ∧ Chg no wr w' := hpg
            have hst2 := HST.out
            rw [hpi] at hst2
            have HPG := Lib.hid hpg; have HST2 := Lib.hid hst2
            clear hpg hpi hst2
            go_wp2_with fail
            refine HPG.out.mono ?_
            rintro e w5 ⟨rfl, hc⟩
            have HM5 := Lib.hid (HM.out.any hc)
            clear hc HM HPG
            have hld := HLAID.out w5 j vL' vT' S' hJ3.2.1 HM5.out.rf
            cases hla : S'.T.any (isT va j) with
            | true =>
              rw [hla] at hld
              have hst3 := HST2.out
              rw [hla] at hst3
              have HLD := Lib.hid hld; have HST3 := Lib.hid hst3
              clear hld hla hst3
              go_wp2_with fail
              refine HLD.out.mono ?_
              rintro e w6 ⟨rfl, hc⟩
              have HM6 := Lib.hid (HM5.out.any hc)
              clear hc
              go_wp2
              have hj9 := hJ3.2.2.2
              go_roundw
              case rel => exact ⟨k', j, S', vL', vT', Hj.out, by go_num, hJ3.2.2.1, HST3.out, HM6.out, hbL, by omega, by omega⟩
              case measure => simp [intOf]; omega
            | false =>
              rw [hla] at hld
              have hst3 := HST2.out
              rw [hla] at hst3
              have HLD := Lib.hid hld; have HST3 := Lib.hid hst3
              clear hld hla hst3
              go_wp2_with fail
              refine HLD.out.mono ?_
              rintro e w6 ⟨rfl, hc⟩
              have HM6 := Lib.hid (HM5.out.any hc)
              clear hc
              by_cases e1 : S'.used = n
              · have htk := HTF.out w6 vL' vT' S' HM6.out.rf (by omega) e1
                have hte : takE first n fs S'.used = 50 := by unfold takE; rw [if_pos e1]
                have hst4 := HST3.out
                rw [hte] at hst4
                have HTK := Lib.hid htk; have HST4 := Lib.hid hst4
                clear htk hte hst4
                go_wp2_with fail
                refine HTK.out.mono ?_
                rintro e w7 ⟨rfl, hc⟩
                have HM7 := Lib.hid (HM6.out.any hc)
                clear hc
                go_wp2
                go_ret
                have h0 : RR = (S', 50) := by rw [HST4.out]; rfl
                rw [h0]
                exact ⟨rfl, vL', vT', HM7.out.rf, HM7.out.nL, HM7.out.nT, HM7.out.chg⟩
              by_cases e2 : fs ≤ first + S'.used
              · have htk := HTB.out w6 vL' vT' S' HM6.out.rf (by omega) e1 e2
                have hte : takE first n fs S'.used = 61 := by unfold takE; rw [if_neg e1, if_pos e2]
                have hst4 := HST3.out
                rw [hte] at hst4
                have HTK := Lib.hid htk; have HST4 := Lib.hid hst4
                clear htk hte hst4
                go_wp2_with fail
                refine HTK.out.mono ?_
                rintro e w7 ⟨rfl, hc⟩
                have HM7 := Lib.hid (HM6.out.any hc)
                clear hc
                go_wp2
                go_ret
                have h0 : RR = (S', 61) := by rw [HST4.out]; rfl
                rw [h0]
                exact ⟨rfl, vL', vT', HM7.out.rf, HM7.out.nL, HM7.out.nT, HM7.out.chg⟩
              have htk := HTY.out w6 vL' vT' S' HM6.out.rf (by omega) e1 e2
              have hte : takE first n fs S'.used = 0 := by unfold takE; rw [if_neg e1, if_neg e2]
              have hst4 := HST3.out
              rw [if_pos hte] at hst4
              have HTK := Lib.hid htk; have HST4 := Lib.hid hst4
              clear htk hte hst4 e1 e2
              go_wp2_with fail
              refine HTK.out.mono ?_
              rintro e w7 ⟨rfl, hR7, hc⟩
              have HM7 := Lib.hid (HM6.out.take hR7 hc)
              clear hc hR7 HM6 HM5
              obtain ⟨t, ht⟩ : ∃ t, t = S'.T.length := ⟨_, rfl⟩
              obtain ⟨A, c, hvT⟩ := own_sliceG HM7.out.rf.ownT
              have hsrc := Src.own HM7.out.rf.ownT
              have hrl : (rowS tbC S'.T).length = t * 2 := by rw [rowS_len tbC_len, ht]
              have hrow : w7.cell? ⟨rp, 1, none⟩ = some vT' := HM7.out.rf.blk.cell 1
              dsimp only at hsrc hvT
              rw [hvT, ← ht] at hrow
              have hsrc' : Src w7 (.slice A t c) t (rowS tbC S'.T) := by rw [hvT, ← ht] at hsrc; exact hsrc
              have r1 : ∀ o, (w7.alloc o).cell? ⟨rp, 1, none⟩ = some (.slice A t c) := fun o => (World.cell?_of_block (w := w7) (a := ⟨rp, 1, none⟩) (Below.heap_alloc w7 o rp HM7.out.size.2.1)).trans hrow
              have hown0 := own_lit0 w7 90 2
              have HO0 := Lib.hid hown0; have HSR := Lib.hid (hsrc'.any (Chg.alloc no w7 (.cells #[] 90))); have HRL := Lib.hid hrl; have HT := Lib.hid ht
              clear hown0 hsrc hsrc' hrl hrow hvT ht
              go_wp2_with (at_builtin; refine wpList_append_T rfl _ _ rfl w7.heap.size _ 0 [] rfl HO0.out _ t (rowS tbC S'.T) rfl HSR.out HRL.out (rowS_one tbC_one S'.T) ?c1 ?c3 ?_)
              case c1 => have := HT.out; omega
              case c3 => simp
              intro v8 w8 hown8 hgr8
              have hc8 : Chg no w7 w8 := (Chg.alloc no w7 (.cells #[] 90)).newerB (grown_chg hgr8 (fun k hk => by injection hk with hk; exact Nat.le_of_eq hk)) (Nat.le_refl _)
              have HO8 := Lib.hid hown8; have HC8 := Lib.hid hc8
              clear hown8 hgr8 hc8 r1
              go_wp2_with fail
              refine (HBASE.out w8 J hJ3.1).mono ?_
              rintro e wx ⟨rfl, rfl⟩
              have nb9 := Blk.new w8 [.int .i64 (j : Int), .int .u64 ((bas va J : Nat) : Int)] 90
              have hsr9 := Src.new _ _ _ 1 1 nb9
              have hsz8 := HC8.out.size
              have HSR9 := Lib.hid hsr9
              clear nb9 hsr9
              go_wp2_with (at_builtin; refine wpList_append_T rfl _ _ rfl w7.heap.size v8 t (rowS tbC S'.T) rfl (HO8.out.alloc _) _ 1 (rowS tbC [⟨j, bas va J⟩]) rfl HSR9.out rfl (rowS_one tbC_one [⟨j, bas va J⟩]) ?c1 ?c3 ?_)
              case c1 => have := HT.out; omega
              case c3 => simp; omega
              intro v10 w10 hown10 hgr10
              rw [← rowS_app] at hown10
              have hc10 : Chg no w7 w10 := (HC8.out.thenAlloc (.cells #[.int .i64 (j : Int), .int .u64 ((bas va J : Nat) : Int)] 90)).newerB (grown_chg hgr10 (fun k hk => (HO8.out.lt k hk).1)) (Nat.le_refl _)
              have hlen10 : t + 1 = (S'.T ++ [Tb.mk j (bas va J)]).length := by rw [List.length_append, HT.out]; rfl
              obtain ⟨A10, c10, hv10⟩ := own_sliceG hown10
              subst hv10
              have hM10 := RMap.newT hlen10 HM7.out (Nat.le_refl _) hc10 hown10
              have hrp10 := HM7.out.rf.blk.chg hc10 (fun h => h)
              have q0 : w10.cell? ⟨rp, 1, none⟩ = some _ := hrp10.cell 1
              have q1 := hrp10.free 1
              have qlt := hrp10.lt
              have HM10 := Lib.hid hM10
              have hlen11 := hlen10
              clear hown10 hgr10 hc10 hM10 hrp10 hlen10
              have HL11 := Lib.hid hlen11; clear hlen11
              go_wp2
              have hj9 := hJ3.2.2.2
              go_roundw
              case rel => exact ⟨k', j, ⟨S'.L, S'.T ++ [Tb.mk j (bas va J)], S'.used + 1⟩, vL', _, Hj.out, by go_num, hJ3.2.2.1, HST4.out, HM10.out, hbL, by have := HL11.out; have := HT.out; show (S'.T ++ [Tb.mk j (bas va J)]).length + k' ≤ 1003; omega, by show S'.used + 1 + k' ≤ 1000003; omega⟩
              case measure => simp [intOf]; omega
        · obtain rfl : k = 0 := by omega
          obtain rfl : J = lv := by omega
          have hstep := HRR.out
          rw [desc_end] at hstep
          have hJ3 : J < 3 := by omega
          have HST := Lib.hid hstep; have HBU := Lib.hid hbu; have HBT := Lib.hid hbT
          clear hstep hJ hgt HRR2 hbu hbT
          cases hpi : pagI S'.L va J with
          | some q =>
            rw [hpi] at hpg
            replace hpg : Calls Try.prog 34 #[.pointer (some ⟨rp, 0, none⟩), .int .u64 va, .int .i64 J] wr fun e w' => e = .returned (.int .i64 (q : Int)) ∧ Chg no wr w' := hpg
            have HPG := Lib.hid hpg; have HPI := Lib.hid hpi
            clear hpg hpi
            go_wp2_with fail
            refine HPG.out.mono ?_
            rintro e w5 ⟨rfl, hc⟩
            have HM5 := Lib.hid (HM.out.any hc)
            clear hc
            go_wp2
            go_ret
            have h0 : RR = (S', 130) := by rw [HST.out, HPI.out]; rfl
            rw [h0]
            exact ⟨rfl, vL', vT', HM5.out.rf, HM5.out.nL, HM5.out.nT, HM5.out.chg⟩
          | none =>
            rw [hpi] at hpg
            replace hpg : Calls Try.prog 34 #[.pointer (some ⟨rp, 0, none⟩), .int .u64 va, .int .i64 J] wr fun e w' => e = .returned (.int .i64 (-1)) ∧ Chg no wr w' := hpg
            have hst2 := HST.out
            rw [hpi] at hst2
            have HPG := Lib.hid hpg; have HST2 := Lib.hid hst2
            clear hpg hpi hst2
            by_cases hz : 0 < J
            · obtain ⟨p, hpJ⟩ : ∃ p, p = J - 1 := ⟨_, rfl⟩
              have hw1 : IntKind.i64.wrap ((J : Int) - 1) = (p : Int) := by simp [IntKind.wrap, IntKind.bits, IntKind.signed]; omega
              have hz' : (0 : Int) < (J : Int) := by omega
              have hp2 : p < 2 := by omega
              have hst3 := HST2.out
              rw [decide_eq_true hz, ← hpJ] at hst3
              have HST3 := Lib.hid hst3
              clear hst3 hpJ hz
              go_wp2_with fail
              refine HPG.out.mono ?_
              rintro e w5 ⟨rfl, hc⟩
              have HM5 := Lib.hid (HM.out.any hc)
              clear hc HM HPG
              have hld := HLAID.out w5 p vL' vT' S' hp2 HM5.out.rf
              cases hla : S'.T.any (isT va p) with
              | true =>
                rw [hla] at hld
                have hst4 := HST3.out
                rw [hla] at hst4
                have HLD := Lib.hid hld; have HST4 := Lib.hid hst4
                clear hld hla hst4
                go_wp2_with fail
                refine HLD.out.mono ?_
                rintro e w6 ⟨rfl, hc⟩
                have HM6 := Lib.hid (HM5.out.any hc)
                clear hc
                go_wp2
                go_ret
                have h0 : RR = (S', 130) := by rw [HST4.out]; rfl
                rw [h0]
                exact ⟨rfl, vL', vT', HM6.out.rf, HM6.out.nL, HM6.out.nT, HM6.out.chg⟩
              | false =>
                rw [hla] at hld
                have hst4 := HST3.out
                rw [hla] at hst4
                have HLD := Lib.hid hld; have HST4 := Lib.hid hst4
                clear hld hla hst4
                go_wp2_with fail
                refine HLD.out.mono ?_
                rintro e w6 ⟨rfl, hc⟩
                have HM6 := Lib.hid (HM5.out.any hc)
                have h0 : RR = (⟨S'.L ++ [⟨bas va J, J, ⟨v, r, x1, x, u, g, a, d, rsw, ppn⟩⟩], S'.T, S'.used⟩, 0) := by rw [HST4.out]; rfl
                have H0 := Lib.hid h0
                clear hc h0 HM5
                go_wp2_with fail
                obtain ⟨t, ht⟩ : ∃ t, t = S'.L.length := ⟨_, rfl⟩
                obtain ⟨A, c, hvL⟩ := own_sliceG HM6.out.rf.ownL
                have hsrc : Src w6 vL' t (rowS pgC S'.L) := by rw [ht]; exact Src.own HM6.out.rf.ownL
                rw [← ht] at hvL
                have hrl : (rowS pgC S'.L).length = t * 12 := by rw [rowS_len pgC_len, ht]
                have hrow : w6.cell? ⟨rp, 0, none⟩ = some vL' := HM6.out.rf.blk.cell 0
                subst hvL
                have hb1000 : t ≤ 1000 := by omega
                have r1 : w6.drew.cell? ⟨rp, 0, none⟩ = some (.slice A t c) := hrow
                have r2 : ∀ o, (w6.drew.alloc o).cell? ⟨rp, 0, none⟩ = some (.slice A t c) := fun o => (World.cell?_of_block (w := w6.drew) (a := ⟨rp, 0, none⟩) (Below.heap_alloc w6.drew o rp HM6.out.size.2.1)).trans hrow
                have hM7 := HM6.out.any (Chg.drew no w6)
                have hsrc7 := hsrc.any (Chg.drew no w6)
                have HS7 := Lib.hid hsrc7; have HRL := Lib.hid hrl; have HT := Lib.hid ht; have HM7 := Lib.hid hM7
                clear hsrc hsrc7 hrl hrow ht hM7
                refine wp_region_held_drew (S := fun w' => Blk w' B1 [.bool v, .bool r, .bool x1, .bool x, .bool u, .bool g, .bool a, .bool d, .int .i64 rsw, .int .u64 (ppn : Int)] 39) (by kernel_rfl) HM7.out.box (fun hHeld => ?_)
                obtain ⟨W7, hW7⟩ : ∃ W, W = w6.drew := ⟨_, rfl⟩
                rw [← hW7] at HM7 HS7 r1 r2 hHeld ⊢
                clear hW7
                simp only [List.size_toArray, List.length_cons, List.length_nil, Nat.reduceAdd]
                rw [show Array.replicate 18 false = [false, false, false, false, false, false, false, false, false, false, false, false, false, false, false, false, false, false].toArray from rfl]
                refine wpAnyH_take (i := 0) (v := ?_) rfl (by kernel_rfl) (by kernel_rfl) (by kernel_rfl) (fun _ _ _ h => h) (Or.inl ⟨by rfl, ?yldq⟩) (by assumption) ?_
                case yldq => (intro w hSw; (try dsimp only at hSw); go_simp; try with_reducible rfl)
                try simp only [Act.put, List.setIfInBounds_toArray, List.set_cons_zero, List.set_cons_succ, List.getElem_toArray, List.getElem_cons_succ, List.getElem_cons_zero]
                refine wpAnyH_take (i := 2) (v := ?_) rfl (by kernel_rfl) (by kernel_rfl) (by kernel_rfl) (fun _ _ _ h => h) (Or.inl ⟨by rfl, ?yldq⟩) (by assumption) ?_
                case yldq => (intro w hSw; (try dsimp only at hSw); go_simp; try with_reducible rfl)
                try simp only [Act.put, List.setIfInBounds_toArray, List.set_cons_zero, List.set_cons_succ, List.getElem_toArray, List.getElem_cons_succ, List.getElem_cons_zero]
                refine wpAnyH_take (i := 3) (v := ?_) rfl (by kernel_rfl) (by kernel_rfl) (by kernel_rfl) (fun _ _ _ h => h) (Or.inl ⟨by rfl, ?yldq⟩) (by assumption) ?_
                case yldq => (intro w hSw; (try dsimp only at hSw); go_simp; try with_reducible rfl)
                try simp only [Act.put, List.setIfInBounds_toArray, List.set_cons_zero, List.set_cons_succ, List.getElem_toArray, List.getElem_cons_succ, List.getElem_cons_zero]
                refine wpAnyH_take (i := 4) (v := ?_) rfl (by kernel_rfl) (by kernel_rfl) (by kernel_rfl) (fun _ _ _ h => h) (Or.inl ⟨by rfl, ?yldq⟩) (by assumption) ?_
                case yldq => (intro w hSw; (try dsimp only at hSw); go_simp; try with_reducible rfl)
                try simp only [Act.put, List.setIfInBounds_toArray, List.set_cons_zero, List.set_cons_succ, List.getElem_toArray, List.getElem_cons_succ, List.getElem_cons_zero]
                refine wpAnyH_take (i := 7) (v := ?_) rfl (by kernel_rfl) (by kernel_rfl) (by kernel_rfl) (fun _ _ _ h => h) (Or.inl ⟨by rfl, ?yldq⟩) (by assumption) ?_
                case yldq => (intro w hSw; (try dsimp only at hSw); go_simp; try with_reducible rfl)
                try simp only [Act.put, List.setIfInBounds_toArray, List.set_cons_zero, List.set_cons_succ, List.getElem_toArray, List.getElem_cons_succ, List.getElem_cons_zero]
                refine wpAnyH_take (i := 8) (v := ?_) rfl (by kernel_rfl) (by kernel_rfl) (by kernel_rfl) (fun _ _ _ h => h) (Or.inl ⟨by rfl, ?yldq⟩) (by assumption) ?_
                case yldq => (intro w hSw; (try dsimp only at hSw); go_simp; try with_reducible rfl)
                try simp only [Act.put, List.setIfInBounds_toArray, List.set_cons_zero, List.set_cons_succ, List.getElem_toArray, List.getElem_cons_succ, List.getElem_cons_zero]
                refine wpAnyH_take (i := 10) (v := ?_) rfl (by kernel_rfl) (by kernel_rfl) (by kernel_rfl) (fun _ _ _ h => h) (Or.inl ⟨by rfl, ?yldq⟩) (by assumption) ?_
                case yldq => (intro w hSw; (try dsimp only at hSw); go_simp; try with_reducible rfl)
                try simp only [Act.put, List.setIfInBounds_toArray, List.set_cons_zero, List.set_cons_succ, List.getElem_toArray, List.getElem_cons_succ, List.getElem_cons_zero]
                refine wpAnyH_take (i := 11) (v := _) rfl (by kernel_rfl) (by kernel_rfl) (by kernel_rfl) (fun _ _ _ h => h) (Or.inl ⟨by rfl, fun w hSw => yield_ent _ _ _ rfl rfl hSw⟩) (by assumption) ?_
                try simp only [Act.put, List.setIfInBounds_toArray, List.set_cons_zero, List.set_cons_succ, List.getElem_toArray, List.getElem_cons_succ, List.getElem_cons_zero]
                refine wpAnyH_ready (rs := [1, 5]) (by kernel_rfl) (by simp) ?_
                refine AllReadyH.cons rfl (fun K hK => ?_) (AllReadyH.cons rfl (fun K hK => ?_) AllReadyH.nil)
                · go_simp
                  refine hK.out _ _ (HM7.out.any (Chg.alloc no W7 _)).box (fun hS => ?_)
                  clear hK K hS
                  have hM8 := HM7.out.any (Chg.alloc no W7 (.cells #[] 60))
                  have hs8 := HS7.out.any (Chg.alloc no W7 (.cells #[] 60))
                  have ho8 := own_lit0 W7 60 12
                  have hc8 := Chg.alloc no W7 (.cells #[] 60)
                  have hz8 : W7.heap.size ≤ (W7.alloc (.cells #[] 60)).heap.size := hc8.size
                  have r3 := r2 (.cells #[] 60)
                  obtain ⟨W8, hW8⟩ : ∃ W, W = W7.alloc (.cells #[] 60) := ⟨_, rfl⟩
                  obtain ⟨N, hN⟩ : ∃ N, N = W7.heap.size := ⟨_, rfl⟩
                  rw [← hW8] at hM8 hs8 ho8 hc8 hz8 r3 ⊢
                  rw [← hN] at ho8 hz8
                  try rw [← hN]
                  have HM8 := Lib.hid hM8; have HS8 := Lib.hid hs8; have HO8 := Lib.hid ho8; have HC8 := Lib.hid hc8; have HN := Lib.hid hN
                  clear hM8 hs8 ho8 hc8 hW8 hN r1 r2
                  have hS8 : Blk W8 B1 [.bool v, .bool r, .bool x1, .bool x, .bool u, .bool g, .bool a, .bool d, .int .i64 rsw, .int .u64 (ppn : Int)] 39 := HM8.out.box
                  refine wpAnyH_ready (rs := [5]) (by kernel_rfl) (by simp) ?_
                  refine AllReadyH.cons rfl (fun K hK => ?_) AllReadyH.nil
                  go_simp
                  refine hK.out _ _ HM8.out.box (fun hS => ?_)
                  clear hK K hS r3
                  refine wpAnyH_ready (rs := [6]) (by kernel_rfl) (by simp) ?_
                  refine AllReadyH.cons rfl (fun K hK => ?_) AllReadyH.nil
                  rw [if_pos (by rfl)]
                  refine wp_append_M _ _ rfl N _ 0 [] rfl HO8.out _ t (rowS pgC S'.L) rfl HS8.out HRL.out (rowS_one pgC_one _) (by omega) hz8 ?_
                  intro v9 w9 hown9 hgr9
                  rw [Nat.zero_add, List.nil_append] at hown9
                  have hg9 := grown_chg (B := N) hgr9 (fun k hk => by injection hk with hk; exact Nat.le_of_eq hk)
                  have hc9 : Chg no W7 w9 := HC8.out.newerB hg9 (Nat.le_of_eq HN.out.symm)
                  have hM9 := HM7.out.any hc9
                  refine hK.out _ _ hM9.box (fun hS => ?_)
                  have hz9 : N ≤ w9.heap.size := Nat.le_trans (Nat.le_of_eq HN.out) hc9.size
                  have HM9 := Lib.hid hM9; have HO9 := Lib.hid hown9; have HC9 := Lib.hid hc9
                  clear hK K hown9 hgr9 hg9 hc9 hM9
                  clear hS
                  refine wpAnyH_ready (rs := [9]) (by kernel_rfl) (by simp) ?_
                  refine AllReadyH.cons rfl (fun K hK => ?_) AllReadyH.nil
                  go_simp
                  refine (HBASE.out _ J hJ3).mono ?_
                  rintro e wx ⟨rfl, rfl⟩
                  refine hK.out _ _ HM9.out.box (fun hS => ?_)
                  clear hK K
                  refine wpAnyH_take (i := 12) (v := ?_) rfl (by kernel_rfl) (by kernel_rfl) (by kernel_rfl) (fun _ _ _ h => h) (Or.inl ⟨by rfl, ?yldq⟩) (by assumption) ?_
                  case yldq => (intro w hSw; (try dsimp only at hSw); go_simp; try with_reducible rfl)
                  try simp only [Act.put, List.setIfInBounds_toArray, List.set_cons_zero, List.set_cons_succ, List.getElem_toArray, List.getElem_cons_succ, List.getElem_cons_zero]
                  clear hS
                  refine wpAnyH_ready (rs := [13]) (by kernel_rfl) (by simp) ?_
                  refine AllReadyH.cons rfl (fun K hK => ?_) AllReadyH.nil
                  go_simp
                  refine hK.out _ _ (HM9.out.any (Chg.alloc no w9 _)).box (fun hS => ?_)
                  clear hK K
                  have nb := Blk.new w9 [.int .u64 ((bas va J : Nat) : Int), .int .i64 (J : Int), .bool v, .bool r, .bool x1, .bool x, .bool u, .bool g, .bool a, .bool d, .int .i64 rsw, .int .u64 (ppn : Int)] 60
                  have hsr := Src.new _ _ _ 1 1 nb
                  have ho10 := HO9.out.alloc (.cells #[.int .u64 ((bas va J : Nat) : Int), .int .i64 (J : Int), .bool v, .bool r, .bool x1, .bool x, .bool u, .bool g, .bool a, .bool d, .int .i64 rsw, .int .u64 (ppn : Int)] 60)
                  have hc10 := HC9.out.thenAlloc (.cells #[.int .u64 ((bas va J : Nat) : Int), .int .i64 (J : Int), .bool v, .bool r, .bool x1, .bool x, .bool u, .bool g, .bool a, .bool d, .int .i64 rsw, .int .u64 (ppn : Int)] 60)
                  have hz10 : N ≤ (w9.alloc (.cells #[.int .u64 ((bas va J : Nat) : Int), .int .i64 (J : Int), .bool v, .bool r, .bool x1, .bool x, .bool u, .bool g, .bool a, .bool d, .int .i64 rsw, .int .u64 (ppn : Int)] 60)).heap.size := Nat.le_trans (Nat.le_of_eq HN.out) hc10.size
                  obtain ⟨W10, hW10⟩ : ∃ W, W = w9.alloc (.cells #[.int .u64 ((bas va J : Nat) : Int), .int .i64 (J : Int), .bool v, .bool r, .bool x1, .bool x, .bool u, .bool g, .bool a, .bool d, .int .i64 rsw, .int .u64 (ppn : Int)] 60) := ⟨_, rfl⟩
                  rw [← hW10] at hsr ho10 hc10 hz10 hS ⊢
                  have HSR10 := Lib.hid hsr; have HO10 := Lib.hid ho10; have HC10 := Lib.hid hc10
                  clear nb hsr ho10 hc10 hW10 hS
                  refine wpAnyH_ready (rs := [14]) (by kernel_rfl) (by simp) ?_
                  refine AllReadyH.cons rfl (fun K hK => ?_) AllReadyH.nil
                  rw [if_pos (by rfl)]
                  refine wp_append_M _ _ rfl N v9 t (rowS pgC S'.L) rfl HO10.out _ 1 (rowS pgC [⟨bas va J, J, ⟨v, r, x1, x, u, g, a, d, rsw, ppn⟩⟩]) rfl HSR10.out rfl (rowS_one pgC_one _) (by omega) hz10 ?_
                  intro v11 w11 hown11 hgr11
                  rw [← rowS_app] at hown11
                  have hg11 := grown_chg (B := N) hgr11 (fun k hk => (HO10.out.lt k hk).1)
                  have hc11 : Chg no W7 w11 := HC10.out.newerB hg11 (Nat.le_of_eq HN.out.symm)
                  have hlen11 : t + 1 = (S'.L ++ [Pg.mk (bas va J) J ⟨v, r, x1, x, u, g, a, d, rsw, ppn⟩]).length := by rw [List.length_append, HT.out]; rfl
                  obtain ⟨A11, c11, hv11⟩ := own_sliceG hown11
                  subst hv11
                  have hM11 := HM7.out.any hc11
                  have hME := RMap.newL hlen11 HM7.out (Nat.le_of_eq HN.out.symm) hc11 hown11
                  refine hK.out _ _ hM11.box (fun hS => ?_)
                  have q0 : w11.cell? ⟨rp, 0, none⟩ = some _ := hM11.rf.blk.cell 0
                  have q1 := hM11.rf.blk.free 0
                  have qlt := hM11.rf.blk.lt
                  have HME := Lib.hid hME
                  clear hK K hown11 hgr11 hg11 hc11 hlen11 hM11 hME
                  refine wpAnyH_take (i := 15) (v := ?_) rfl (by kernel_rfl) (by kernel_rfl) (by kernel_rfl) (fun _ _ _ h => h) (Or.inl ⟨by rfl, ?yldq⟩) (by assumption) ?_
                  case yldq => (intro w hSw; (try dsimp only at hSw); go_simp; try with_reducible rfl)
                  try simp only [Act.put, List.setIfInBounds_toArray, List.set_cons_zero, List.set_cons_succ, List.getElem_toArray, List.getElem_cons_succ, List.getElem_cons_zero]
                  refine wpAnyH_take (i := 16) (v := ?_) rfl (by kernel_rfl) (by kernel_rfl) (by kernel_rfl) (fun _ _ _ h => h) (Or.inl ⟨by rfl, ?yldq⟩) (by assumption) ?_
                  case yldq => (intro w hSw; (try dsimp only at hSw); go_simp; try with_reducible rfl)
                  try simp only [Act.put, List.setIfInBounds_toArray, List.set_cons_zero, List.set_cons_succ, List.getElem_toArray, List.getElem_cons_succ, List.getElem_cons_zero]
                  clear hS
                  refine wpAnyH_ready (rs := [17]) (by kernel_rfl) (by simp) ?_
                  refine AllReadyH.cons rfl (fun K hK => ?_) AllReadyH.nil
                  go_simp
                  refine hK.out _ _ HME.out.box (fun hS => ?_)
                  clear hK K hS q0 q1 qlt
                  refine wpAnyH_done (by kernel_rfl) ?_ _
                  go_wp2
                  go_ret
                  rw [H0.out]
                  exact ⟨rfl, _, vT', HME.out.rf, HME.out.nL, HME.out.nT, HME.out.chg⟩
                · go_simp
                  refine hK.out _ _ HM7.out.box (fun hS => ?_)
                  clear hK K hS
                  refine wpAnyH_ready (rs := [1]) (by kernel_rfl) (by simp) ?_
                  refine AllReadyH.cons rfl (fun K hK => ?_) AllReadyH.nil
                  go_simp
                  refine hK.out _ _ (HM7.out.any (Chg.alloc no W7 _)).box (fun hS => ?_)
                  clear hK K hS
                  have hM8 := HM7.out.any (Chg.alloc no W7 (.cells #[] 60))
                  have hs8 := HS7.out.any (Chg.alloc no W7 (.cells #[] 60))
                  have ho8 := own_lit0 W7 60 12
                  have hc8 := Chg.alloc no W7 (.cells #[] 60)
                  have hz8 : W7.heap.size ≤ (W7.alloc (.cells #[] 60)).heap.size := hc8.size
                  have r3 := r2 (.cells #[] 60)
                  obtain ⟨W8, hW8⟩ : ∃ W, W = W7.alloc (.cells #[] 60) := ⟨_, rfl⟩
                  obtain ⟨N, hN⟩ : ∃ N, N = W7.heap.size := ⟨_, rfl⟩
                  rw [← hW8] at hM8 hs8 ho8 hc8 hz8 r3 ⊢
                  rw [← hN] at ho8 hz8
                  try rw [← hN]
                  have HM8 := Lib.hid hM8; have HS8 := Lib.hid hs8; have HO8 := Lib.hid ho8; have HC8 := Lib.hid hc8; have HN := Lib.hid hN
                  clear hM8 hs8 ho8 hc8 hW8 hN r1 r2
                  clear r3
                  refine wpAnyH_ready (rs := [6]) (by kernel_rfl) (by simp) ?_
                  refine AllReadyH.cons rfl (fun K hK => ?_) AllReadyH.nil
                  rw [if_pos (by rfl)]
                  refine wp_append_M _ _ rfl N _ 0 [] rfl HO8.out _ t (rowS pgC S'.L) rfl HS8.out HRL.out (rowS_one pgC_one _) (by omega) hz8 ?_
                  intro v9 w9 hown9 hgr9
                  rw [Nat.zero_add, List.nil_append] at hown9
                  have hg9 := grown_chg (B := N) hgr9 (fun k hk => by injection hk with hk; exact Nat.le_of_eq hk)
                  have hc9 : Chg no W7 w9 := HC8.out.newerB hg9 (Nat.le_of_eq HN.out.symm)
                  have hM9 := HM7.out.any hc9
                  refine hK.out _ _ hM9.box (fun hS => ?_)
                  have hz9 : N ≤ w9.heap.size := Nat.le_trans (Nat.le_of_eq HN.out) hc9.size
                  have HM9 := Lib.hid hM9; have HO9 := Lib.hid hown9; have HC9 := Lib.hid hc9
                  clear hK K hown9 hgr9 hg9 hc9 hM9
                  clear hS
                  refine wpAnyH_ready (rs := [9]) (by kernel_rfl) (by simp) ?_
                  refine AllReadyH.cons rfl (fun K hK => ?_) AllReadyH.nil
                  go_simp
                  refine (HBASE.out _ J hJ3).mono ?_
                  rintro e wx ⟨rfl, rfl⟩
                  refine hK.out _ _ HM9.out.box (fun hS => ?_)
                  clear hK K
                  refine wpAnyH_take (i := 12) (v := ?_) rfl (by kernel_rfl) (by kernel_rfl) (by kernel_rfl) (fun _ _ _ h => h) (Or.inl ⟨by rfl, ?yldq⟩) (by assumption) ?_
                  case yldq => (intro w hSw; (try dsimp only at hSw); go_simp; try with_reducible rfl)
                  try simp only [Act.put, List.setIfInBounds_toArray, List.set_cons_zero, List.set_cons_succ, List.getElem_toArray, List.getElem_cons_succ, List.getElem_cons_zero]
                  clear hS
                  refine wpAnyH_ready (rs := [13]) (by kernel_rfl) (by simp) ?_
                  refine AllReadyH.cons rfl (fun K hK => ?_) AllReadyH.nil
                  go_simp
                  refine hK.out _ _ (HM9.out.any (Chg.alloc no w9 _)).box (fun hS => ?_)
                  clear hK K
                  have nb := Blk.new w9 [.int .u64 ((bas va J : Nat) : Int), .int .i64 (J : Int), .bool v, .bool r, .bool x1, .bool x, .bool u, .bool g, .bool a, .bool d, .int .i64 rsw, .int .u64 (ppn : Int)] 60
                  have hsr := Src.new _ _ _ 1 1 nb
                  have ho10 := HO9.out.alloc (.cells #[.int .u64 ((bas va J : Nat) : Int), .int .i64 (J : Int), .bool v, .bool r, .bool x1, .bool x, .bool u, .bool g, .bool a, .bool d, .int .i64 rsw, .int .u64 (ppn : Int)] 60)
                  have hc10 := HC9.out.thenAlloc (.cells #[.int .u64 ((bas va J : Nat) : Int), .int .i64 (J : Int), .bool v, .bool r, .bool x1, .bool x, .bool u, .bool g, .bool a, .bool d, .int .i64 rsw, .int .u64 (ppn : Int)] 60)
                  have hz10 : N ≤ (w9.alloc (.cells #[.int .u64 ((bas va J : Nat) : Int), .int .i64 (J : Int), .bool v, .bool r, .bool x1, .bool x, .bool u, .bool g, .bool a, .bool d, .int .i64 rsw, .int .u64 (ppn : Int)] 60)).heap.size := Nat.le_trans (Nat.le_of_eq HN.out) hc10.size
                  obtain ⟨W10, hW10⟩ : ∃ W, W = w9.alloc (.cells #[.int .u64 ((bas va J : Nat) : Int), .int .i64 (J : Int), .bool v, .bool r, .bool x1, .bool x, .bool u, .bool g, .bool a, .bool d, .int .i64 rsw, .int .u64 (ppn : Int)] 60) := ⟨_, rfl⟩
                  rw [← hW10] at hsr ho10 hc10 hz10 hS ⊢
                  have HSR10 := Lib.hid hsr; have HO10 := Lib.hid ho10; have HC10 := Lib.hid hc10
                  clear nb hsr ho10 hc10 hW10 hS
                  refine wpAnyH_ready (rs := [14]) (by kernel_rfl) (by simp) ?_
                  refine AllReadyH.cons rfl (fun K hK => ?_) AllReadyH.nil
                  rw [if_pos (by rfl)]
                  refine wp_append_M _ _ rfl N v9 t (rowS pgC S'.L) rfl HO10.out _ 1 (rowS pgC [⟨bas va J, J, ⟨v, r, x1, x, u, g, a, d, rsw, ppn⟩⟩]) rfl HSR10.out rfl (rowS_one pgC_one _) (by omega) hz10 ?_
                  intro v11 w11 hown11 hgr11
                  rw [← rowS_app] at hown11
                  have hg11 := grown_chg (B := N) hgr11 (fun k hk => (HO10.out.lt k hk).1)
                  have hc11 : Chg no W7 w11 := HC10.out.newerB hg11 (Nat.le_of_eq HN.out.symm)
                  have hlen11 : t + 1 = (S'.L ++ [Pg.mk (bas va J) J ⟨v, r, x1, x, u, g, a, d, rsw, ppn⟩]).length := by rw [List.length_append, HT.out]; rfl
                  obtain ⟨A11, c11, hv11⟩ := own_sliceG hown11
                  subst hv11
                  have hM11 := HM7.out.any hc11
                  have hME := RMap.newL hlen11 HM7.out (Nat.le_of_eq HN.out.symm) hc11 hown11
                  refine hK.out _ _ hM11.box (fun hS => ?_)
                  have q0 : w11.cell? ⟨rp, 0, none⟩ = some _ := hM11.rf.blk.cell 0
                  have q1 := hM11.rf.blk.free 0
                  have qlt := hM11.rf.blk.lt
                  have HME := Lib.hid hME
                  clear hK K hown11 hgr11 hg11 hc11 hlen11 hM11 hME
                  refine wpAnyH_take (i := 15) (v := ?_) rfl (by kernel_rfl) (by kernel_rfl) (by kernel_rfl) (fun _ _ _ h => h) (Or.inl ⟨by rfl, ?yldq⟩) (by assumption) ?_
                  case yldq => (intro w hSw; (try dsimp only at hSw); go_simp; try with_reducible rfl)
                  try simp only [Act.put, List.setIfInBounds_toArray, List.set_cons_zero, List.set_cons_succ, List.getElem_toArray, List.getElem_cons_succ, List.getElem_cons_zero]
                  refine wpAnyH_take (i := 16) (v := ?_) rfl (by kernel_rfl) (by kernel_rfl) (by kernel_rfl) (fun _ _ _ h => h) (Or.inl ⟨by rfl, ?yldq⟩) (by assumption) ?_
                  case yldq => (intro w hSw; (try dsimp only at hSw); go_simp; try with_reducible rfl)
                  try simp only [Act.put, List.setIfInBounds_toArray, List.set_cons_zero, List.set_cons_succ, List.getElem_toArray, List.getElem_cons_succ, List.getElem_cons_zero]
                  clear hS
                  refine wpAnyH_ready (rs := [17]) (by kernel_rfl) (by simp) ?_
                  refine AllReadyH.cons rfl (fun K hK => ?_) AllReadyH.nil
                  go_simp
                  refine hK.out _ _ HME.out.box (fun hS => ?_)
                  clear hK K hS q0 q1 qlt
                  refine wpAnyH_done (by kernel_rfl) ?_ _
                  go_wp2
                  go_ret
                  rw [H0.out]
                  exact ⟨rfl, _, vT', HME.out.rf, HME.out.nL, HME.out.nT, HME.out.chg⟩
            · have hz' : ¬ (0 : Int) < (J : Int) := by omega
              have hst3 := HST2.out
              rw [decide_eq_false hz] at hst3
              have h0 : RR = (⟨S'.L ++ [⟨bas va J, J, ⟨v, r, x1, x, u, g, a, d, rsw, ppn⟩⟩], S'.T, S'.used⟩, 0) := by rw [hst3]; rfl
              have H0 := Lib.hid h0
              clear hst3 h0 hz
              go_wp2_with fail
              refine HPG.out.mono ?_
              rintro e w6 ⟨rfl, hc⟩
              have HM6 := Lib.hid (HM.out.any hc)
              clear hc HM HPG
              go_wp2_with fail
              obtain ⟨t, ht⟩ : ∃ t, t = S'.L.length := ⟨_, rfl⟩
              obtain ⟨A, c, hvL⟩ := own_sliceG HM6.out.rf.ownL
              have hsrc : Src w6 vL' t (rowS pgC S'.L) := by rw [ht]; exact Src.own HM6.out.rf.ownL
              rw [← ht] at hvL
              have hrl : (rowS pgC S'.L).length = t * 12 := by rw [rowS_len pgC_len, ht]
              have hrow : w6.cell? ⟨rp, 0, none⟩ = some vL' := HM6.out.rf.blk.cell 0
              subst hvL
              have hb1000 : t ≤ 1000 := by omega
              have r1 : w6.drew.cell? ⟨rp, 0, none⟩ = some (.slice A t c) := hrow
              have r2 : ∀ o, (w6.drew.alloc o).cell? ⟨rp, 0, none⟩ = some (.slice A t c) := fun o => (World.cell?_of_block (w := w6.drew) (a := ⟨rp, 0, none⟩) (Below.heap_alloc w6.drew o rp HM6.out.size.2.1)).trans hrow
              have hM7 := HM6.out.any (Chg.drew no w6)
              have hsrc7 := hsrc.any (Chg.drew no w6)
              have HS7 := Lib.hid hsrc7; have HRL := Lib.hid hrl; have HT := Lib.hid ht; have HM7 := Lib.hid hM7
              clear hsrc hsrc7 hrl hrow ht hM7
              refine wp_region_held_drew (S := fun w' => Blk w' B1 [.bool v, .bool r, .bool x1, .bool x, .bool u, .bool g, .bool a, .bool d, .int .i64 rsw, .int .u64 (ppn : Int)] 39) (by kernel_rfl) HM7.out.box (fun hHeld => ?_)
              obtain ⟨W7, hW7⟩ : ∃ W, W = w6.drew := ⟨_, rfl⟩
              rw [← hW7] at HM7 HS7 r1 r2 hHeld ⊢
              clear hW7
              simp only [List.size_toArray, List.length_cons, List.length_nil, Nat.reduceAdd]
              rw [show Array.replicate 18 false = [false, false, false, false, false, false, false, false, false, false, false, false, false, false, false, false, false, false].toArray from rfl]
              refine wpAnyH_take (i := 0) (v := ?_) rfl (by kernel_rfl) (by kernel_rfl) (by kernel_rfl) (fun _ _ _ h => h) (Or.inl ⟨by rfl, ?yldq⟩) (by assumption) ?_
              case yldq => (intro w hSw; (try dsimp only at hSw); go_simp; try with_reducible rfl)
              try simp only [Act.put, List.setIfInBounds_toArray, List.set_cons_zero, List.set_cons_succ, List.getElem_toArray, List.getElem_cons_succ, List.getElem_cons_zero]
              refine wpAnyH_take (i := 2) (v := ?_) rfl (by kernel_rfl) (by kernel_rfl) (by kernel_rfl) (fun _ _ _ h => h) (Or.inl ⟨by rfl, ?yldq⟩) (by assumption) ?_
              case yldq => (intro w hSw; (try dsimp only at hSw); go_simp; try with_reducible rfl)
              try simp only [Act.put, List.setIfInBounds_toArray, List.set_cons_zero, List.set_cons_succ, List.getElem_toArray, List.getElem_cons_succ, List.getElem_cons_zero]
              refine wpAnyH_take (i := 3) (v := ?_) rfl (by kernel_rfl) (by kernel_rfl) (by kernel_rfl) (fun _ _ _ h => h) (Or.inl ⟨by rfl, ?yldq⟩) (by assumption) ?_
              case yldq => (intro w hSw; (try dsimp only at hSw); go_simp; try with_reducible rfl)
              try simp only [Act.put, List.setIfInBounds_toArray, List.set_cons_zero, List.set_cons_succ, List.getElem_toArray, List.getElem_cons_succ, List.getElem_cons_zero]
              refine wpAnyH_take (i := 4) (v := ?_) rfl (by kernel_rfl) (by kernel_rfl) (by kernel_rfl) (fun _ _ _ h => h) (Or.inl ⟨by rfl, ?yldq⟩) (by assumption) ?_
              case yldq => (intro w hSw; (try dsimp only at hSw); go_simp; try with_reducible rfl)
              try simp only [Act.put, List.setIfInBounds_toArray, List.set_cons_zero, List.set_cons_succ, List.getElem_toArray, List.getElem_cons_succ, List.getElem_cons_zero]
              refine wpAnyH_take (i := 7) (v := ?_) rfl (by kernel_rfl) (by kernel_rfl) (by kernel_rfl) (fun _ _ _ h => h) (Or.inl ⟨by rfl, ?yldq⟩) (by assumption) ?_
              case yldq => (intro w hSw; (try dsimp only at hSw); go_simp; try with_reducible rfl)
              try simp only [Act.put, List.setIfInBounds_toArray, List.set_cons_zero, List.set_cons_succ, List.getElem_toArray, List.getElem_cons_succ, List.getElem_cons_zero]
              refine wpAnyH_take (i := 8) (v := ?_) rfl (by kernel_rfl) (by kernel_rfl) (by kernel_rfl) (fun _ _ _ h => h) (Or.inl ⟨by rfl, ?yldq⟩) (by assumption) ?_
              case yldq => (intro w hSw; (try dsimp only at hSw); go_simp; try with_reducible rfl)
              try simp only [Act.put, List.setIfInBounds_toArray, List.set_cons_zero, List.set_cons_succ, List.getElem_toArray, List.getElem_cons_succ, List.getElem_cons_zero]
              refine wpAnyH_take (i := 10) (v := ?_) rfl (by kernel_rfl) (by kernel_rfl) (by kernel_rfl) (fun _ _ _ h => h) (Or.inl ⟨by rfl, ?yldq⟩) (by assumption) ?_
              case yldq => (intro w hSw; (try dsimp only at hSw); go_simp; try with_reducible rfl)
              try simp only [Act.put, List.setIfInBounds_toArray, List.set_cons_zero, List.set_cons_succ, List.getElem_toArray, List.getElem_cons_succ, List.getElem_cons_zero]
              refine wpAnyH_take (i := 11) (v := _) rfl (by kernel_rfl) (by kernel_rfl) (by kernel_rfl) (fun _ _ _ h => h) (Or.inl ⟨by rfl, fun w hSw => yield_ent _ _ _ rfl rfl hSw⟩) (by assumption) ?_
              try simp only [Act.put, List.setIfInBounds_toArray, List.set_cons_zero, List.set_cons_succ, List.getElem_toArray, List.getElem_cons_succ, List.getElem_cons_zero]
              refine wpAnyH_ready (rs := [1, 5]) (by kernel_rfl) (by simp) ?_
              refine AllReadyH.cons rfl (fun K hK => ?_) (AllReadyH.cons rfl (fun K hK => ?_) AllReadyH.nil)
              · go_simp
                refine hK.out _ _ (HM7.out.any (Chg.alloc no W7 _)).box (fun hS => ?_)
                clear hK K hS
                have hM8 := HM7.out.any (Chg.alloc no W7 (.cells #[] 60))
                have hs8 := HS7.out.any (Chg.alloc no W7 (.cells #[] 60))
                have ho8 := own_lit0 W7 60 12
                have hc8 := Chg.alloc no W7 (.cells #[] 60)
                have hz8 : W7.heap.size ≤ (W7.alloc (.cells #[] 60)).heap.size := hc8.size
                have r3 := r2 (.cells #[] 60)
                obtain ⟨W8, hW8⟩ : ∃ W, W = W7.alloc (.cells #[] 60) := ⟨_, rfl⟩
                obtain ⟨N, hN⟩ : ∃ N, N = W7.heap.size := ⟨_, rfl⟩
                rw [← hW8] at hM8 hs8 ho8 hc8 hz8 r3 ⊢
                rw [← hN] at ho8 hz8
                try rw [← hN]
                have HM8 := Lib.hid hM8; have HS8 := Lib.hid hs8; have HO8 := Lib.hid ho8; have HC8 := Lib.hid hc8; have HN := Lib.hid hN
                clear hM8 hs8 ho8 hc8 hW8 hN r1 r2
                have hS8 : Blk W8 B1 [.bool v, .bool r, .bool x1, .bool x, .bool u, .bool g, .bool a, .bool d, .int .i64 rsw, .int .u64 (ppn : Int)] 39 := HM8.out.box
                refine wpAnyH_ready (rs := [5]) (by kernel_rfl) (by simp) ?_
                refine AllReadyH.cons rfl (fun K hK => ?_) AllReadyH.nil
                go_simp
                refine hK.out _ _ HM8.out.box (fun hS => ?_)
                clear hK K hS r3
                refine wpAnyH_ready (rs := [6]) (by kernel_rfl) (by simp) ?_
                refine AllReadyH.cons rfl (fun K hK => ?_) AllReadyH.nil
                rw [if_pos (by rfl)]
                refine wp_append_M _ _ rfl N _ 0 [] rfl HO8.out _ t (rowS pgC S'.L) rfl HS8.out HRL.out (rowS_one pgC_one _) (by omega) hz8 ?_
                intro v9 w9 hown9 hgr9
                rw [Nat.zero_add, List.nil_append] at hown9
                have hg9 := grown_chg (B := N) hgr9 (fun k hk => by injection hk with hk; exact Nat.le_of_eq hk)
                have hc9 : Chg no W7 w9 := HC8.out.newerB hg9 (Nat.le_of_eq HN.out.symm)
                have hM9 := HM7.out.any hc9
                refine hK.out _ _ hM9.box (fun hS => ?_)
                have hz9 : N ≤ w9.heap.size := Nat.le_trans (Nat.le_of_eq HN.out) hc9.size
                have HM9 := Lib.hid hM9; have HO9 := Lib.hid hown9; have HC9 := Lib.hid hc9
                clear hK K hown9 hgr9 hg9 hc9 hM9
                clear hS
                refine wpAnyH_ready (rs := [9]) (by kernel_rfl) (by simp) ?_
                refine AllReadyH.cons rfl (fun K hK => ?_) AllReadyH.nil
                go_simp
                refine (HBASE.out _ J hJ3).mono ?_
                rintro e wx ⟨rfl, rfl⟩
                refine hK.out _ _ HM9.out.box (fun hS => ?_)
                clear hK K
                refine wpAnyH_take (i := 12) (v := ?_) rfl (by kernel_rfl) (by kernel_rfl) (by kernel_rfl) (fun _ _ _ h => h) (Or.inl ⟨by rfl, ?yldq⟩) (by assumption) ?_
                case yldq => (intro w hSw; (try dsimp only at hSw); go_simp; try with_reducible rfl)
                try simp only [Act.put, List.setIfInBounds_toArray, List.set_cons_zero, List.set_cons_succ, List.getElem_toArray, List.getElem_cons_succ, List.getElem_cons_zero]
                clear hS
                refine wpAnyH_ready (rs := [13]) (by kernel_rfl) (by simp) ?_
                refine AllReadyH.cons rfl (fun K hK => ?_) AllReadyH.nil
                go_simp
                refine hK.out _ _ (HM9.out.any (Chg.alloc no w9 _)).box (fun hS => ?_)
                clear hK K
                have nb := Blk.new w9 [.int .u64 ((bas va J : Nat) : Int), .int .i64 (J : Int), .bool v, .bool r, .bool x1, .bool x, .bool u, .bool g, .bool a, .bool d, .int .i64 rsw, .int .u64 (ppn : Int)] 60
                have hsr := Src.new _ _ _ 1 1 nb
                have ho10 := HO9.out.alloc (.cells #[.int .u64 ((bas va J : Nat) : Int), .int .i64 (J : Int), .bool v, .bool r, .bool x1, .bool x, .bool u, .bool g, .bool a, .bool d, .int .i64 rsw, .int .u64 (ppn : Int)] 60)
                have hc10 := HC9.out.thenAlloc (.cells #[.int .u64 ((bas va J : Nat) : Int), .int .i64 (J : Int), .bool v, .bool r, .bool x1, .bool x, .bool u, .bool g, .bool a, .bool d, .int .i64 rsw, .int .u64 (ppn : Int)] 60)
                have hz10 : N ≤ (w9.alloc (.cells #[.int .u64 ((bas va J : Nat) : Int), .int .i64 (J : Int), .bool v, .bool r, .bool x1, .bool x, .bool u, .bool g, .bool a, .bool d, .int .i64 rsw, .int .u64 (ppn : Int)] 60)).heap.size := Nat.le_trans (Nat.le_of_eq HN.out) hc10.size
                obtain ⟨W10, hW10⟩ : ∃ W, W = w9.alloc (.cells #[.int .u64 ((bas va J : Nat) : Int), .int .i64 (J : Int), .bool v, .bool r, .bool x1, .bool x, .bool u, .bool g, .bool a, .bool d, .int .i64 rsw, .int .u64 (ppn : Int)] 60) := ⟨_, rfl⟩
                rw [← hW10] at hsr ho10 hc10 hz10 hS ⊢
                have HSR10 := Lib.hid hsr; have HO10 := Lib.hid ho10; have HC10 := Lib.hid hc10
                clear nb hsr ho10 hc10 hW10 hS
                refine wpAnyH_ready (rs := [14]) (by kernel_rfl) (by simp) ?_
                refine AllReadyH.cons rfl (fun K hK => ?_) AllReadyH.nil
                rw [if_pos (by rfl)]
                refine wp_append_M _ _ rfl N v9 t (rowS pgC S'.L) rfl HO10.out _ 1 (rowS pgC [⟨bas va J, J, ⟨v, r, x1, x, u, g, a, d, rsw, ppn⟩⟩]) rfl HSR10.out rfl (rowS_one pgC_one _) (by omega) hz10 ?_
                intro v11 w11 hown11 hgr11
                rw [← rowS_app] at hown11
                have hg11 := grown_chg (B := N) hgr11 (fun k hk => (HO10.out.lt k hk).1)
                have hc11 : Chg no W7 w11 := HC10.out.newerB hg11 (Nat.le_of_eq HN.out.symm)
                have hlen11 : t + 1 = (S'.L ++ [Pg.mk (bas va J) J ⟨v, r, x1, x, u, g, a, d, rsw, ppn⟩]).length := by rw [List.length_append, HT.out]; rfl
                obtain ⟨A11, c11, hv11⟩ := own_sliceG hown11
                subst hv11
                have hM11 := HM7.out.any hc11
                have hME := RMap.newL hlen11 HM7.out (Nat.le_of_eq HN.out.symm) hc11 hown11
                refine hK.out _ _ hM11.box (fun hS => ?_)
                have q0 : w11.cell? ⟨rp, 0, none⟩ = some _ := hM11.rf.blk.cell 0
                have q1 := hM11.rf.blk.free 0
                have qlt := hM11.rf.blk.lt
                have HME := Lib.hid hME
                clear hK K hown11 hgr11 hg11 hc11 hlen11 hM11 hME
                refine wpAnyH_take (i := 15) (v := ?_) rfl (by kernel_rfl) (by kernel_rfl) (by kernel_rfl) (fun _ _ _ h => h) (Or.inl ⟨by rfl, ?yldq⟩) (by assumption) ?_
                case yldq => (intro w hSw; (try dsimp only at hSw); go_simp; try with_reducible rfl)
                try simp only [Act.put, List.setIfInBounds_toArray, List.set_cons_zero, List.set_cons_succ, List.getElem_toArray, List.getElem_cons_succ, List.getElem_cons_zero]
                refine wpAnyH_take (i := 16) (v := ?_) rfl (by kernel_rfl) (by kernel_rfl) (by kernel_rfl) (fun _ _ _ h => h) (Or.inl ⟨by rfl, ?yldq⟩) (by assumption) ?_
                case yldq => (intro w hSw; (try dsimp only at hSw); go_simp; try with_reducible rfl)
                try simp only [Act.put, List.setIfInBounds_toArray, List.set_cons_zero, List.set_cons_succ, List.getElem_toArray, List.getElem_cons_succ, List.getElem_cons_zero]
                clear hS
                refine wpAnyH_ready (rs := [17]) (by kernel_rfl) (by simp) ?_
                refine AllReadyH.cons rfl (fun K hK => ?_) AllReadyH.nil
                go_simp
                refine hK.out _ _ HME.out.box (fun hS => ?_)
                clear hK K hS q0 q1 qlt
                refine wpAnyH_done (by kernel_rfl) ?_ _
                go_wp2
                go_ret
                rw [H0.out]
                exact ⟨rfl, _, vT', HME.out.rf, HME.out.nL, HME.out.nT, HME.out.chg⟩
              · go_simp
                refine hK.out _ _ HM7.out.box (fun hS => ?_)
                clear hK K hS
                refine wpAnyH_ready (rs := [1]) (by kernel_rfl) (by simp) ?_
                refine AllReadyH.cons rfl (fun K hK => ?_) AllReadyH.nil
                go_simp
                refine hK.out _ _ (HM7.out.any (Chg.alloc no W7 _)).box (fun hS => ?_)
                clear hK K hS
                have hM8 := HM7.out.any (Chg.alloc no W7 (.cells #[] 60))
                have hs8 := HS7.out.any (Chg.alloc no W7 (.cells #[] 60))
                have ho8 := own_lit0 W7 60 12
                have hc8 := Chg.alloc no W7 (.cells #[] 60)
                have hz8 : W7.heap.size ≤ (W7.alloc (.cells #[] 60)).heap.size := hc8.size
                have r3 := r2 (.cells #[] 60)
                obtain ⟨W8, hW8⟩ : ∃ W, W = W7.alloc (.cells #[] 60) := ⟨_, rfl⟩
                obtain ⟨N, hN⟩ : ∃ N, N = W7.heap.size := ⟨_, rfl⟩
                rw [← hW8] at hM8 hs8 ho8 hc8 hz8 r3 ⊢
                rw [← hN] at ho8 hz8
                try rw [← hN]
                have HM8 := Lib.hid hM8; have HS8 := Lib.hid hs8; have HO8 := Lib.hid ho8; have HC8 := Lib.hid hc8; have HN := Lib.hid hN
                clear hM8 hs8 ho8 hc8 hW8 hN r1 r2
                clear r3
                refine wpAnyH_ready (rs := [6]) (by kernel_rfl) (by simp) ?_
                refine AllReadyH.cons rfl (fun K hK => ?_) AllReadyH.nil
                rw [if_pos (by rfl)]
                refine wp_append_M _ _ rfl N _ 0 [] rfl HO8.out _ t (rowS pgC S'.L) rfl HS8.out HRL.out (rowS_one pgC_one _) (by omega) hz8 ?_
                intro v9 w9 hown9 hgr9
                rw [Nat.zero_add, List.nil_append] at hown9
                have hg9 := grown_chg (B := N) hgr9 (fun k hk => by injection hk with hk; exact Nat.le_of_eq hk)
                have hc9 : Chg no W7 w9 := HC8.out.newerB hg9 (Nat.le_of_eq HN.out.symm)
                have hM9 := HM7.out.any hc9
                refine hK.out _ _ hM9.box (fun hS => ?_)
                have hz9 : N ≤ w9.heap.size := Nat.le_trans (Nat.le_of_eq HN.out) hc9.size
                have HM9 := Lib.hid hM9; have HO9 := Lib.hid hown9; have HC9 := Lib.hid hc9
                clear hK K hown9 hgr9 hg9 hc9 hM9
                clear hS
                refine wpAnyH_ready (rs := [9]) (by kernel_rfl) (by simp) ?_
                refine AllReadyH.cons rfl (fun K hK => ?_) AllReadyH.nil
                go_simp
                refine (HBASE.out _ J hJ3).mono ?_
                rintro e wx ⟨rfl, rfl⟩
                refine hK.out _ _ HM9.out.box (fun hS => ?_)
                clear hK K
                refine wpAnyH_take (i := 12) (v := ?_) rfl (by kernel_rfl) (by kernel_rfl) (by kernel_rfl) (fun _ _ _ h => h) (Or.inl ⟨by rfl, ?yldq⟩) (by assumption) ?_
                case yldq => (intro w hSw; (try dsimp only at hSw); go_simp; try with_reducible rfl)
                try simp only [Act.put, List.setIfInBounds_toArray, List.set_cons_zero, List.set_cons_succ, List.getElem_toArray, List.getElem_cons_succ, List.getElem_cons_zero]
                clear hS
                refine wpAnyH_ready (rs := [13]) (by kernel_rfl) (by simp) ?_
                refine AllReadyH.cons rfl (fun K hK => ?_) AllReadyH.nil
                go_simp
                refine hK.out _ _ (HM9.out.any (Chg.alloc no w9 _)).box (fun hS => ?_)
                clear hK K
                have nb := Blk.new w9 [.int .u64 ((bas va J : Nat) : Int), .int .i64 (J : Int), .bool v, .bool r, .bool x1, .bool x, .bool u, .bool g, .bool a, .bool d, .int .i64 rsw, .int .u64 (ppn : Int)] 60
                have hsr := Src.new _ _ _ 1 1 nb
                have ho10 := HO9.out.alloc (.cells #[.int .u64 ((bas va J : Nat) : Int), .int .i64 (J : Int), .bool v, .bool r, .bool x1, .bool x, .bool u, .bool g, .bool a, .bool d, .int .i64 rsw, .int .u64 (ppn : Int)] 60)
                have hc10 := HC9.out.thenAlloc (.cells #[.int .u64 ((bas va J : Nat) : Int), .int .i64 (J : Int), .bool v, .bool r, .bool x1, .bool x, .bool u, .bool g, .bool a, .bool d, .int .i64 rsw, .int .u64 (ppn : Int)] 60)
                have hz10 : N ≤ (w9.alloc (.cells #[.int .u64 ((bas va J : Nat) : Int), .int .i64 (J : Int), .bool v, .bool r, .bool x1, .bool x, .bool u, .bool g, .bool a, .bool d, .int .i64 rsw, .int .u64 (ppn : Int)] 60)).heap.size := Nat.le_trans (Nat.le_of_eq HN.out) hc10.size
                obtain ⟨W10, hW10⟩ : ∃ W, W = w9.alloc (.cells #[.int .u64 ((bas va J : Nat) : Int), .int .i64 (J : Int), .bool v, .bool r, .bool x1, .bool x, .bool u, .bool g, .bool a, .bool d, .int .i64 rsw, .int .u64 (ppn : Int)] 60) := ⟨_, rfl⟩
                rw [← hW10] at hsr ho10 hc10 hz10 hS ⊢
                have HSR10 := Lib.hid hsr; have HO10 := Lib.hid ho10; have HC10 := Lib.hid hc10
                clear nb hsr ho10 hc10 hW10 hS
                refine wpAnyH_ready (rs := [14]) (by kernel_rfl) (by simp) ?_
                refine AllReadyH.cons rfl (fun K hK => ?_) AllReadyH.nil
                rw [if_pos (by rfl)]
                refine wp_append_M _ _ rfl N v9 t (rowS pgC S'.L) rfl HO10.out _ 1 (rowS pgC [⟨bas va J, J, ⟨v, r, x1, x, u, g, a, d, rsw, ppn⟩⟩]) rfl HSR10.out rfl (rowS_one pgC_one _) (by omega) hz10 ?_
                intro v11 w11 hown11 hgr11
                rw [← rowS_app] at hown11
                have hg11 := grown_chg (B := N) hgr11 (fun k hk => (HO10.out.lt k hk).1)
                have hc11 : Chg no W7 w11 := HC10.out.newerB hg11 (Nat.le_of_eq HN.out.symm)
                have hlen11 : t + 1 = (S'.L ++ [Pg.mk (bas va J) J ⟨v, r, x1, x, u, g, a, d, rsw, ppn⟩]).length := by rw [List.length_append, HT.out]; rfl
                obtain ⟨A11, c11, hv11⟩ := own_sliceG hown11
                subst hv11
                have hM11 := HM7.out.any hc11
                have hME := RMap.newL hlen11 HM7.out (Nat.le_of_eq HN.out.symm) hc11 hown11
                refine hK.out _ _ hM11.box (fun hS => ?_)
                have q0 : w11.cell? ⟨rp, 0, none⟩ = some _ := hM11.rf.blk.cell 0
                have q1 := hM11.rf.blk.free 0
                have qlt := hM11.rf.blk.lt
                have HME := Lib.hid hME
                clear hK K hown11 hgr11 hg11 hc11 hlen11 hM11 hME
                refine wpAnyH_take (i := 15) (v := ?_) rfl (by kernel_rfl) (by kernel_rfl) (by kernel_rfl) (fun _ _ _ h => h) (Or.inl ⟨by rfl, ?yldq⟩) (by assumption) ?_
                case yldq => (intro w hSw; (try dsimp only at hSw); go_simp; try with_reducible rfl)
                try simp only [Act.put, List.setIfInBounds_toArray, List.set_cons_zero, List.set_cons_succ, List.getElem_toArray, List.getElem_cons_succ, List.getElem_cons_zero]
                refine wpAnyH_take (i := 16) (v := ?_) rfl (by kernel_rfl) (by kernel_rfl) (by kernel_rfl) (fun _ _ _ h => h) (Or.inl ⟨by rfl, ?yldq⟩) (by assumption) ?_
                case yldq => (intro w hSw; (try dsimp only at hSw); go_simp; try with_reducible rfl)
                try simp only [Act.put, List.setIfInBounds_toArray, List.set_cons_zero, List.set_cons_succ, List.getElem_toArray, List.getElem_cons_succ, List.getElem_cons_zero]
                clear hS
                refine wpAnyH_ready (rs := [17]) (by kernel_rfl) (by simp) ?_
                refine AllReadyH.cons rfl (fun K hK => ?_) AllReadyH.nil
                go_simp
                refine hK.out _ _ HME.out.box (fun hS => ?_)
                clear hK K hS q0 q1 qlt
                refine wpAnyH_done (by kernel_rfl) ?_ _
                go_wp2
                go_ret
                rw [H0.out]
                exact ⟨rfl, _, vT', HME.out.rf, HME.out.nL, HME.out.nT, HME.out.chg⟩
end Go.Proofs.Ytdakfgefnapglaa
