/-
  What Page and SetPage of package runrigref06 answer and leave in memory: contracts over the translation. Each says its own conditions.
-/
import Derived.Test.YtkkhecaajbgggaaRefB06
namespace Go.Proofs.Ytkkhecaajbgggaa
open Go.RowKit
set_option linter.unusedVariables false
set_option linter.unusedSimpArgs false

theorem rpage_bad (rm fr : Nat) (f : Int) (w : World) (h : w.cell? ⟨rm, 0, none⟩ = some (.int .i64 fr)) (hf : ¬ (0 ≤ f ∧ f < fr)) :
    Calls Try.prog 15 #[.pointer (some ⟨rm, 0, none⟩), .int .i64 f] w fun e w' => e = .returned (.tuple #[.slice none 0 0, .int .i64 61]) ∧ w = w' := by
  by_cases h0 : f < 0
  · go_enter Try.func15, Try.ntmps15
    go_wp2
    go_ret2
    exact ⟨rfl, rfl⟩
  · have h1 : (fr : Int) ≤ f := by omega
    have h2 : 0 ≤ f := by omega
    clear hf h0
    go_enter Try.func15, Try.ntmps15
    go_wp2
    go_ret2
    exact ⟨rfl, rfl⟩
theorem made_zero' : (madeCells #[Value.int .u8 0] 4096).toList = List.replicate 4096 (.int .u8 0) := toList_madeCells_one _ _
set_option maxHeartbeats 1000000 in
theorem rpage_ok (rm fr f : Nat) (v : Value) (L : List (Nat × Int)) (w : World) (h : RefM w rm fr v L) (hL : ∀ p ∈ L, p.1 < 4294967296) (hfr : fr ≤ 1048576) (hf : f < fr) :
    Calls Try.prog 15 #[.pointer (some ⟨rm, 0, none⟩), .int .i64 f] w fun e w' => e = .returned (.tuple #[.slice (some ⟨w.heap.size, 0, none⟩) 4096 4096, .int .i64 0]) ∧ Blk w' w.heap.size ((pageB f L (List.replicate 4096 0)).map (Value.int .u8)) 5 ∧ Chg no w w' := by
  obtain ⟨i0, hi, hz0, hz1, hz2⟩ := info_parts info_u8
  obtain ⟨n, hnl⟩ : ∃ n, n = L.length := ⟨_, rfl⟩
  have ho := h.own
  rw [← hnl] at ho
  obtain ⟨A, cap, hv, hn, hm, hcell⟩ := own_form ho hnl.symm
  have h0 : w.cell? ⟨rm, 0, none⟩ = some (.int .i64 fr) := h.blk.cell 0
  unfold maxLen at hm
  have HC := Lib.hid hcell; have HN := Lib.hid hnl; have HBK := Lib.hid h.blk
  subst hv
  clear h hcell hnl ho
  obtain ⟨Z, hZ⟩ : ∃ Z : List Int, Z = List.replicate 4096 0 := ⟨_, rfl⟩
  have hZl : Z.length = 4096 := by rw [hZ, List.length_replicate]
  have hZm : List.replicate 4096 (Value.int .u8 0) = Z.map (Value.int .u8) := by rw [hZ, List.map_replicate]
  rw [← hZ]
  have HZL := Lib.hid hZl; have HZM := Lib.hid hZm
  clear hZ hZl hZm
  go_enter Try.func15, Try.ntmps15
  go_wp2_with (at_make; refine wpList_make_full _ rfl _ _ 33 rfl w.heap.size 5 i0 (.int .u8 0) 1 Try.underlying33 hi hz0 hz1 .i64 .i64 _ _ 4096 rfl rfl rfl rfl ?c1 ?c2 (Nat.le_refl _) ?_)
  case c1 => rw [hz2]; omega
  case c2 => unfold maxLen; omega
  intro w1 hown hgr
  rw [made_zero'] at hown
  have hb := (own_blk hown).1
  rw [HZM.out] at hb
  have hc : Chg no w w1 := Chg.grown hgr (fun j hj => by cases hj)
  have k1 : w1.cell? ⟨rm, 1, none⟩ = some (.slice A n cap) := (HBK.out.chg hc (fun h => h)).cell 1
  have HB := Lib.hid hb; have HCH := Lib.hid hc
  clear hown hgr hb hc h0
  go_wp2
  go_loopw [25] (fun i wr => ∃ k : Nat, k ≤ n ∧ i = .int .i64 k ∧ Blk wr w.heap.size ((pageB f (L.take k) Z).map (Value.int .u8)) 5 ∧ Chg no w wr) (fun i _ => n - (intOf i).toNat)
  case atStart => exact ⟨0, Nat.zero_le _, rfl, HB.out, HCH.out⟩
  case round =>
    obtain ⟨k, hk, rfl, hbl, hc⟩ := hrel
    by_cases hlt : k < n
    · have hkl : k < L.length := by rw [← HN.out]; exact hlt
      obtain ⟨g, rfl, hcl⟩ := HC.out (by omega)
      have e1 := (hcl k hkl).1
      have e2 := (hcl k hkl).2
      have hgw := cell_lt e1
      have f1 : wr.cell? ⟨g, k * 2, none⟩ = some (.int .u64 L[k].1) := (World.cell?_of_block (w := w) (a := ⟨g, k * 2, none⟩) (hc.block g (cell_lt e1) (fun h => h))).trans e1
      have f2 : wr.cell? ⟨g, k * 2 + 1, none⟩ = some (.int .u8 L[k].2) := (World.cell?_of_block (w := w) (a := ⟨g, k * 2 + 1, none⟩) (hc.block g (cell_lt e1) (fun h => h))).trans e2
      have hst : pageB f (L.take (k + 1)) Z = stepB f (pageB f (L.take k) Z) L[k] := by rw [List.take_succ_eq_append_getElem hkl, pageB_snoc]
      have hpl : (pageB f (L.take k) Z).length = 4096 := by rw [pageB_len, HZL.out]
      obtain ⟨P, hP⟩ : ∃ P, P = pageB f (L.take k) Z := ⟨_, rfl⟩
      rw [← hP] at hst hpl hbl
      have hpb := hL L[k] (List.getElem_mem hkl)
      obtain ⟨p, hp⟩ : ∃ p, p = L[k] := ⟨_, rfl⟩
      rw [← hp] at f1 f2 hst hpb
      obtain ⟨x, c⟩ := p
      unfold stepB at hst
      simp only [] at f1 f2 hst hpb
      have hs := hc.size
      by_cases hx : x / 4096 = f
      · rw [if_pos hx] at hst
        have hx' : ((x : Int) / 4096 == (f : Int)) = true := by simp; omega
        obtain ⟨u, hu⟩ : ∃ u, ∀ o, (wr.alloc o).cell? ⟨w.heap.size, x % 4096, none⟩ = some u := ⟨_, fun o => by rw [(hbl.alloc o).cell, List.getElem?_eq_getElem (by rw [List.length_map, hpl]; omega)]⟩
        have hfz := fun o => (hbl.alloc o).free (x % 4096)
        obtain ⟨q, hq⟩ : ∃ q, q = x % 4096 := ⟨_, rfl⟩
        have hqi : (x : Int) % 4096 = (q : Int) := by omega
        have hql : q < 4096 := by omega
        rw [← hq] at hst hu hfz
        have HST := Lib.hid hst; have HBL := Lib.hid hbl; have HCW := Lib.hid hc
        clear hst hbl hc hP hp hq e1 e2 hcl hpl hx
        go_wp2
        go_roundw
        case rel =>
          have hb3 := (HBL.out.alloc (.cells #[.int .u64 x, .int .u8 c] 68)).set q (.int .u8 c)
          rw [← List.map_set, ← HST.out] at hb3
          exact ⟨k + 1, hlt, by go_num, hb3, (HCW.out.thenAlloc _).setc ⟨w.heap.size, q, none⟩ _ (.inr (Nat.le_refl _))⟩
        case measure => simp [intOf]; omega
      · rw [if_neg hx] at hst
        have hx' : ((x : Int) / 4096 == (f : Int)) = false := by simp; omega
        have HST := Lib.hid hst; have HBL := Lib.hid hbl; have HCW := Lib.hid hc
        clear hst hbl hc hP hp e1 e2 hcl hpl hx
        go_wp2
        go_roundw
        case rel => exact ⟨k + 1, hlt, by go_num, by rw [HST.out]; exact HBL.out.alloc _, HCW.out.thenAlloc _⟩
        case measure => simp [intOf]; omega
    · obtain rfl : k = n := by omega
      rw [HN.out, List.take_length] at hbl
      have HBL := Lib.hid hbl; have HCW := Lib.hid hc; clear hbl hc
      go_wp2
      go_ret2
      exact ⟨rfl, HBL.out, HCW.out⟩
theorem rsetpage_bad (rm fr : Nat) (f : Int) (A : Option Addr) (n c : Nat) (w : World) (h : w.cell? ⟨rm, 0, none⟩ = some (.int .i64 fr)) (hf : ¬ (0 ≤ f ∧ f < fr)) :
    Calls Try.prog 13 #[.pointer (some ⟨rm, 0, none⟩), .int .i64 f, .slice A n c] w fun e w' => e = .returned (.int .i64 61) ∧ w = w' := by
  by_cases h0 : f < 0
  · go_enter Try.func13, Try.ntmps13
    go_wp2
    go_ret
    exact ⟨rfl, rfl⟩
  · have h1 : (fr : Int) ≤ f := by omega
    have h2 : 0 ≤ f := by omega
    clear hf h0
    go_enter Try.func13, Try.ntmps13
    go_wp2
    go_ret
    exact ⟨rfl, rfl⟩
theorem rsetpage_long (rm fr f : Nat) (A : Option Addr) (n c : Nat) (w : World) (h : w.cell? ⟨rm, 0, none⟩ = some (.int .i64 fr)) (hf : f < fr) (hn : 4096 < n) :
    Calls Try.prog 13 #[.pointer (some ⟨rm, 0, none⟩), .int .i64 f, .slice A n c] w fun e w' => e = .returned (.int .i64 2) ∧ w = w' := by
  have h2 : ¬ (f : Int) < 0 := by omega
  go_enter Try.func13, Try.ntmps13
  go_wp2
  go_ret
  exact ⟨rfl, rfl⟩
/-- what is left of a list without a frame, so far -/
def sofarF (L : List (Nat × Int)) (f k : Nat) : List (Nat × Int) := (L.take k).filter (fun p => decide (p.1 / 4096 ≠ f))
theorem sofarF_no {L : List (Nat × Int)} {f k : Nat} (h : k < L.length) (e : L[k].1 / 4096 = f) : sofarF L f (k + 1) = sofarF L f k := by
  unfold sofarF
  rw [List.take_succ_eq_append_getElem h, List.filter_append, List.filter_cons_of_neg (by simpa using e)]
  simp
theorem sofarF_yes {L : List (Nat × Int)} {f k : Nat} (h : k < L.length) (e : ¬ L[k].1 / 4096 = f) : sofarF L f (k + 1) = sofarF L f k ++ [L[k]] := by
  unfold sofarF
  rw [List.take_succ_eq_append_getElem h, List.filter_append, List.filter_cons_of_pos (by simpa using e)]
  simp
set_option maxHeartbeats 2000000 in
theorem rsetpage_ok (rm fr f z c : Nat) (A : Option Addr) (l : List Int) (v : Value) (L : List (Nat × Int)) (w : World) (h : RefM w rm fr v L) (hL : L.length ≤ 900000) (hLb : ∀ p ∈ L, p.1 < 4294967296) (hfr : fr ≤ 1048576) (hf : f < fr) (hr : Rd w A l) (hz : l.length = z) (hz2 : z ≤ 4096) :
    Calls Try.prog 13 #[.pointer (some ⟨rm, 0, none⟩), .int .i64 f, .slice A z c] w fun e w' => e = .returned (.int .i64 0) ∧ ∃ v', RefM w' rm fr v' (setB L f l) ∧ NewV w v v' ∧ Chg (fun k => k = rm) w w' := by
  obtain ⟨i0, hi, hz0, hz1, hz2'⟩ := info_parts infoB
  obtain ⟨n, hnl⟩ : ∃ n, n = L.length := ⟨_, rfl⟩
  have ho := h.own
  rw [← hnl] at ho hL
  obtain ⟨B, cap, hv, hn, hm, hcell⟩ := own_form ho hnl.symm
  have h0 : w.cell? ⟨rm, 0, none⟩ = some (.int .i64 fr) := h.blk.cell 0
  have h1 : w.cell? ⟨rm, 1, none⟩ = some (.slice B n cap) := by rw [← hv]; exact h.blk.cell 1
  have hrm := h.blk.lt
  unfold maxLen at hm
  have h2 : ¬ (f : Int) < 0 := by omega
  have HC := Lib.hid hcell; have HN := Lib.hid hnl; have HBK := Lib.hid h.blk; have HR := Lib.hid hr; have HZ := Lib.hid hz; have HLB := Lib.hid hLb
  clear h hcell hnl ho hv hr hz hLb
  go_enter Try.func13, Try.ntmps13
  go_wp2
  go_loopw [7, 30] (fun s i wr => ∃ (k m : Nat) (y : Value), k ≤ n ∧ m ≤ k ∧ i = .int .i64 k ∧ y = s ∧ (sofarF L f k).length = m ∧ wr.ownsRow w.heap.size 68 2 y m (cellsL (sofarF L f k)) ∧ Chg no w wr) (fun _ i _ => n - (intOf i).toNat)
  case atStart => exact ⟨0, 0, _, Nat.zero_le _, Nat.zero_le _, rfl, rfl, rfl, World.ownsRow_nil _ _ _ _, Chg.refl _ _⟩
  case round =>
    obtain ⟨k, m, y, hk, hmk, rfl, rfl, hml, hown, hc⟩ := hrel
    by_cases hlt : k < n
    · have hkl : k < L.length := by rw [← HN.out]; exact hlt
      obtain ⟨g, rfl, hcl⟩ := HC.out (by omega)
      have e1 := (hcl k hkl).1
      have e2 := (hcl k hkl).2
      have f1 : wr.cell? ⟨g, k * 2, none⟩ = some (.int .u64 L[k].1) := (World.cell?_of_block (w := w) (a := ⟨g, k * 2, none⟩) (hc.block g (cell_lt e1) (fun h => h))).trans e1
      have f2 : wr.cell? ⟨g, k * 2 + 1, none⟩ = some (.int .u8 L[k].2) := (World.cell?_of_block (w := w) (a := ⟨g, k * 2 + 1, none⟩) (hc.block g (cell_lt e1) (fun h => h))).trans e2
      have s1 := @sofarF_no L f k hkl
      have s2 := @sofarF_yes L f k hkl
      have hpb := HLB.out L[k] (List.getElem_mem hkl)
      obtain ⟨p, hp⟩ : ∃ p, p = L[k] := ⟨_, rfl⟩
      rw [← hp] at f1 f2 s1 s2 hpb
      obtain ⟨x, c⟩ := p
      simp only [] at f1 f2 s1 s2 hpb
      have S1 := Lib.hid s1; have S2 := Lib.hid s2; have HML := Lib.hid hml; have HO := Lib.hid hown; have HCH := Lib.hid hc
      have hws := hc.size
      clear s1 s2 hml hown hc hp e1 e2 hcl
      by_cases hxa : x / 4096 = f
      · have hxa' : ((x : Int) / 4096 == (f : Int)) = true := by simp; omega
        go_wp2
        go_roundw
        case rel => exact ⟨k + 1, m, y, hlt, by omega, by go_num, rfl, by rw [S1.out hxa]; exact HML.out, by rw [S1.out hxa]; exact HO.out.alloc _, HCH.out.thenAlloc _⟩
        case measure => simp [intOf]; omega
      · have hxa' : ((x : Int) / 4096 == (f : Int)) = false := by simp; omega
        go_wp2_with (at_builtin; refine wpList_append_own _ rfl (.tmp 40) (.tmp 42) 29 rfl w.heap.size 68 i0 (.agg #[.int .u64 0, .int .u8 0]) 2 16 Try.underlying29 hi hz0 hz1 hz2' rfl (by decide) y m _ rfl ((HO.out.alloc _).alloc _) ⟨wr.heap.size + 1, 0, none⟩ 1 1 [.int .u64 x, .int .u8 c] rfl rfl ?c1 two_one ?c3 ?c4 ?c5 ?_)
        case c1 => exact cell_two_new2 _ _ _ _ _
        case c3 => unfold maxLen; omega
        case c4 => omega
        case c5 => simp; omega
        intro v2 w2 hown2 hgr2 _
        have hc2 : Chg no w w2 := (((HCH.out.thenAlloc _).thenAlloc _).thenGrown hgr2 (fun j hj => .inr (own_from HO.out j hj)))
        have hown3 : w2.ownsRow w.heap.size 68 2 v2 (m + 1) (cellsL (sofarF L f (k + 1))) := by
          rw [S2.out hxa, cellsL_app]; exact hown2
        have HO2 := Lib.hid hown3; have HC2 := Lib.hid hc2
        clear hown2 hgr2 hc2 hown3
        go_wp2
        go_roundw
        case rel => exact ⟨k + 1, m + 1, v2, hlt, by omega, by go_num, rfl, by rw [S2.out hxa, List.length_append, HML.out]; rfl, HO2.out, HC2.out⟩
        case measure => simp [intOf]; omega
    · obtain rfl : k = n := by omega
      have hsf : sofarF L f k = L.filter (fun p => decide (p.1 / 4096 ≠ f)) := by
        unfold sofarF; rw [HN.out, List.take_length]
      rw [hsf] at hml hown
      obtain ⟨G, hG⟩ : ∃ G, G = L.filter (fun p => decide (p.1 / 4096 ≠ f)) := ⟨_, rfl⟩
      rw [← hG] at hml hown
      have HML := Lib.hid hml; have HO := Lib.hid hown; have HCH := Lib.hid hc; have HG := Lib.hid hG
      clear hml hown hc hsf hG
      go_wp2
      go_loopw [7, 47] (fun s i wr => ∃ (j q : Nat) (y : Value), j ≤ z ∧ q ≤ m + j ∧ i = .int .i64 j ∧ y = s ∧ (G ++ laidB f 0 (l.take j)).length = q ∧ wr.ownsRow w.heap.size 68 2 y q (cellsL (G ++ laidB f 0 (l.take j))) ∧ Chg no w wr) (fun _ i _ => z - (intOf i).toNat)
      case atStart => exact ⟨0, m, _, Nat.zero_le _, Nat.le_refl _, rfl, rfl, by rw [List.take_zero, laidB, List.append_nil]; exact HML.out, by rw [List.take_zero, laidB, List.append_nil]; exact HO.out, HCH.out⟩
      case round =>
        obtain ⟨j, q, y2, hj, hq, rfl, rfl, hql, hown, hc⟩ := hrel
        by_cases hjz : j < z
        · have hjl : j < l.length := by rw [HZ.out]; exact hjz
          obtain ⟨b, off, rfl, hcl⟩ := HR.out.2.2 (by omega)
          have c1 := hcl j hjl
          have c2 : wr.cell? ⟨b, off + j, none⟩ = some (.int .u8 (l.getD j 0)) := (World.cell?_of_block (w := w) (a := ⟨b, off + j, none⟩) (hc.block b (cell_lt c1) (fun h => h))).trans c1
          have hsn : laidB f 0 (l.take (j + 1)) = laidB f 0 (l.take j) ++ (if l.getD j 0 = 0 then [] else [(4096 * f + j, l.getD j 0)]) := by
            have hg : l.getD j 0 = l[j] := by simp [List.getD_eq_getElem?_getD, hjl]
            rw [List.take_succ_eq_append_getElem hjl, laidB_snoc, hg, show (l.take j).length = j from by rw [List.length_take]; omega, Nat.zero_add]
          have hby := HR.out.1.getD j
          obtain ⟨d, hd⟩ : ∃ d, d = l.getD j 0 := ⟨_, rfl⟩
          rw [← hd] at c2 hsn hby
          obtain ⟨a, ha⟩ : ∃ a : Nat, a = 4096 * f + j := ⟨_, rfl⟩
          rw [← ha] at hsn
          have hai : 4096 * (f : Int) + (j : Int) = (a : Int) := by omega
          have hws := hc.size
          have HSN := Lib.hid hsn; have HQL := Lib.hid hql; have HO2 := Lib.hid hown; have HC2 := Lib.hid hc
          clear hsn hql hown hc hcl c1 hd ha hjl
          by_cases hd0 : d = 0
          · have hd1 : (d == 0) = true := by simpa using hd0
            go_wp2
            go_roundw
            case rel => exact ⟨j + 1, q, y2, hjz, by omega, by go_num, rfl, by rw [HSN.out, if_pos hd0, List.append_nil]; exact HQL.out, by rw [HSN.out, if_pos hd0, List.append_nil]; exact HO2.out, HC2.out⟩
            case measure => simp [intOf]; omega
          · have hd1 : (d == 0) = false := by simpa using hd0
            go_wp2_with (at_builtin; refine wpList_append_own _ rfl (.tmp 54) (.tmp 63) 29 rfl w.heap.size 68 i0 (.agg #[.int .u64 0, .int .u8 0]) 2 16 Try.underlying29 hi hz0 hz1 hz2' rfl (by decide) y2 q _ rfl (HO2.out.alloc _) ⟨wr.heap.size, 0, none⟩ 1 1 [.int .u64 a, .int .u8 d] rfl rfl ?c1 two_one ?c3 ?c4 ?c5 ?_)
            case c1 => exact cell_two_new _ _ _ _
            case c3 => unfold maxLen; omega
            case c4 => omega
            case c5 => simp; omega
            intro v2 w2 hown2 hgr2 _
            have hc3 : Chg no w w2 := ((HC2.out.thenAlloc _).thenGrown hgr2 (fun j hj => .inr (own_from HO2.out j hj)))
            have hown3 : w2.ownsRow w.heap.size 68 2 v2 (q + 1) (cellsL (G ++ laidB f 0 (l.take (j + 1)))) := by
              rw [HSN.out, if_neg hd0, ← List.append_assoc, cellsL_app]; exact hown2
            have HO3 := Lib.hid hown3; have HC3 := Lib.hid hc3
            clear hown2 hgr2 hc3 hown3
            go_wp2
            go_roundw
            case rel => exact ⟨j + 1, q + 1, v2, hjz, by omega, by go_num, rfl, by rw [HSN.out, if_neg hd0, ← List.append_assoc, List.length_append, HQL.out]; rfl, HO3.out, HC3.out⟩
            case measure => simp [intOf]; omega
        · obtain rfl : j = z := by omega
          have e1 : l.take j = l := List.take_of_length_le (by rw [HZ.out]; exact Nat.le_refl _)
          rw [e1] at hql hown
          have hbk := HBK.out.chg hc (fun h => h)
          have hfz := hbk.free 1
          obtain ⟨u, hu⟩ : ∃ u, wr.cell? ⟨rm, 1, none⟩ = some u := ⟨_, hbk.cell 1⟩
          have HBK2 := Lib.hid hbk; have HQL := Lib.hid hql; have HO2 := Lib.hid hown; have HC2 := Lib.hid hc
          clear hbk hql hown hc e1
          obtain ⟨A2, cap2, rfl⟩ := own_slice HO2.out
          obtain ⟨y3, hy⟩ : ∃ y, y = Value.slice A2 q cap2 := ⟨_, rfl⟩
          rw [← hy] at HO2
          go_wp2
          go_ret
          rw [← hy]
          refine ⟨rfl, y3, ⟨HBK2.out.set 1 y3, ?_, ?_⟩, fun j hj => .inr (own_from HO2.out j hj), (HC2.out.of_no).trans (Chg.setCell _ ⟨rm, 1, none⟩ _ rfl)⟩
          · have ho := own_base (own_chg (F := fun k => k = rm) HO2.out (Chg.setCell _ ⟨rm, 1, none⟩ y3 rfl) (fun j hj e => by have := own_from HO2.out j hj; omega)) (Nat.zero_le _)
            unfold setB
            rw [← HG.out, HQL.out]
            exact ho
          · intro e
            have := own_from HO2.out _ e
            omega
end Go.Proofs.Ytkkhecaajbgggaa
