/-
  Layer 13, TableFinds: its walk over the interface of package table.
-/
import Derived.Test.YtdakfgefnapglaaLawI13
import Derived.Test.YtdakfgefnapglaaFinds13
import Derived.Deep.Cut
import Derived.Deep.QuietTactic
import Derived.BigQuiet
namespace Go.Proofs.Ytdakfgefnapglaa
open Go.RowKit
set_option linter.unusedVariables false
set_option linter.unusedSimpArgs false
attribute [local go_sem] setCell_drewN alloc_drewN

/-- tables of a call's own, and a variable beside them -/
structure OneU (I : TabI) (w wr : World) (tp sp : Nat) (F : Nat → Prop) (S : Tt) (k BP : Nat) (cs : List Value) : Prop where
  tx : I.TX 0 80 80 wr tp sp F S k
  fF : ∀ j, F j → w.heap.size ≤ j
  box : Blk wr BP cs 52
  nF : ¬ F BP
  chg : Chg no w wr
  hL : S.L.length ≤ k
section
variable {I : TabI} {w wr w1 : World} {tp sp k BP : Nat} {F F' : Nat → Prop} {S S' : Tt} {cs : List Value}
theorem OneU.any (h : OneU I w wr tp sp F S k BP cs) (hc : Chg no wr w1) : OneU I w w1 tp sp F S k BP cs :=
  ⟨I.chg h.tx hc (fun _ _ h => h), h.fF, h.box.chg hc (fun h => h), h.nF, h.chg.trans hc, h.hL⟩
theorem OneU.step (h : OneU I w wr tp sp F S k BP cs) (tx : I.TX 0 80 80 w1 tp sp F' S' (k + 1)) (hF : ∀ j, F' j → F j ∨ wr.heap.size ≤ j) (hc : Chg F wr w1) (hl : S'.L.length ≤ k + 1) : OneU I w w1 tp sp F' S' (k + 1) BP cs := by
  have z := h.chg.size
  refine ⟨tx, fun j hj => (hF j hj).elim (h.fF j) (fun h => by omega), h.box.chg hc h.nF, fun hB => (hF _ hB).elim h.nF (fun h2 => by have := h.box.lt; omega), ⟨hc.os.trans h.chg.os, hc.tape.trans h.chg.tape, hc.output.trans h.chg.output, Nat.le_trans z hc.size, fun j hj hn => ?_⟩, hl⟩
  rw [hc.block j (by omega) (fun e => by have := h.fF j e; omega), h.chg.block j hj hn]
end
theorem mapT_lenU (first n fs va : Nat) (l : Int) (e : Ent) (S : Tt) : (mapT first n fs va l e S).1.L.length ≤ S.L.length + 1 := by
  unfold mapT
  split
  · exact (desc_len _ _).1
  · exact Nat.le_succ _
theorem k0U : takE 0 80 80 0 = 0 := by decide
theorem LiesS.chgU {w w' : World} {v : Value} {L : List Pg} {F : Nat → Prop} (h : LiesS pgC 12 w v L) (hc : Chg F w w') (hf : ∀ A c, v = .slice A L.length c → ∀ g, A = some ⟨g, 0, none⟩ → ¬ F g) : LiesS pgC 12 w' v L := by
  obtain ⟨A, cap, hv, h1, h2, hcl⟩ := h
  refine ⟨A, cap, hv, h1, h2, fun h0 => ?_⟩
  obtain ⟨g, hA, hcl⟩ := hcl h0
  refine ⟨g, hA, fun i hi j hj => ?_⟩
  have h3 := hcl i hi j hj
  obtain ⟨u, hu⟩ : ∃ u, (pgC L[i])[j]? = some u := ⟨_, List.getElem?_eq_getElem hj⟩
  rw [hu] at h3 ⊢
  exact (World.cell?_of_block (w := w) (a := ⟨g, i * 12 + j, none⟩) (hc.block g (cell_lt h3) (hf A cap hv g hA))).trans h3
/-- a row that was told, apart from the tables' blocks -/
structure YT (w : World) (F : Nat → Prop) (y : Value) (L : List Pg) : Prop where
  li : LiesS pgC 12 w y L
  nf : ∀ g, y.ownBlock = some g → ¬ F g ∧ g < w.heap.size
theorem YT.any {w w1 : World} {F : Nat → Prop} {y : Value} {L : List Pg} (h : YT w F y L) (hc : Chg no w w1) : YT w1 F y L :=
  ⟨LiesS.chgU h.li hc (fun _ _ _ _ _ h => h), fun g hg => ⟨(h.nf g hg).1, Nat.lt_of_lt_of_le (h.nf g hg).2 hc.size⟩⟩
theorem YT.step {w w1 : World} {F F' : Nat → Prop} {y : Value} {L : List Pg} (h : YT w F y L) (hF : ∀ j, F' j → F j ∨ w.heap.size ≤ j) (hc : Chg F w w1) : YT w1 F' y L :=
  ⟨LiesS.chgU h.li hc (fun A c hv g hA hg => by
      subst hA
      exact (h.nf g (by rw [hv]; rfl)).1 hg), fun g hg => ⟨fun h2 => (hF g h2).elim (h.nf g hg).1 (fun h3 => by have := (h.nf g hg).2; omega), Nat.lt_of_lt_of_le (h.nf g hg).2 hc.size⟩⟩
theorem page_bU (va other s : Nat) (hs : s = 4096 ∨ s = 2097152 ∨ s = 1073741824) (hv : va < 18446744073709551616) : ∃ b : Nat, (va : Int) - (va : Int) % (s : Int) + (other : Int) % (s : Int) = (b : Int) ∧ b < 18446744073709551616 ∧ b / s = va / s := by
  rcases hs with rfl | rfl | rfl
  · exact ⟨va - va % 4096 + other % 4096, by omega, by omega, by omega⟩
  · exact ⟨va - va % 2097152 + other % 2097152, by omega, by omega, by omega⟩
  · exact ⟨va - va % 1073741824 + other % 1073741824, by omega, by omega, by omega⟩
set_option maxRecDepth 100000 in
set_option maxHeartbeats 64000000 in
theorem finds_walk13 (I : TabI) (hfirst : ∀ w, Calls Try.prog 5 #[] w fun e w' => e = .returned (.bool true) ∧ Chg no w w') (A : Option Addr) (len cap : Nat) (acts : List Ac) (o : Ac) (other : Nat) (w : World) (hS : IsAcs w A len acts) (hl : len ≤ 9223372036854775807) (ho : AcOk o) (hot : other < 18446744073709551616) :
    Calls Try.prog 4 #[.slice A len cap, .agg (acC o).toArray, .int .u64 other] w fun e w' => e = .returned (.bool true) ∧ Chg no w w' := by
  obtain ⟨kd, lv, va, ev, er, ew, ex, eu, eg, ea, ed, rs, pp⟩ := o
  obtain ⟨o1, o2, o3, o4, o5⟩ := ho
  dsimp only at o1 o2 o3 o4 o5
  unfold acC
  dsimp only
  have hnew := fun w => newX 80 w (by decide) (by decide)
  have hstk := fun w => new_yesF (0 : Int) 80 w (by decide) (by decide)
  have HF := Lib.hid hfirst; have HNEW := Lib.hid hnew; have HSTK := Lib.hid hstk; have HS := Lib.hid hS
  clear hfirst hnew hstk hS
  go_enter Try.func4, Try.ntmps4
  go_upto_region 1 with (fail)
  have nb := Blk.new w [.int .i64 kd, .int .i64 lv, .int .u64 (va : Int), .bool ev, .bool er, .bool ew, .bool ex, .bool eu, .bool eg, .bool ea, .bool ed, .int .i64 rs, .int .u64 (pp : Int)] 52
  have hc0 := Chg.alloc no w (.cells #[.int .i64 kd, .int .i64 lv, .int .u64 (va : Int), .bool ev, .bool er, .bool ew, .bool ex, .bool eu, .bool eg, .bool ea, .bool ed, .int .i64 rs, .int .u64 (pp : Int)] 52)
  obtain ⟨BP, hBP⟩ : ∃ B, B = w.heap.size := ⟨_, rfl⟩
  obtain ⟨W0, hW0⟩ : ∃ W, W = w.alloc (.cells #[.int .i64 kd, .int .i64 lv, .int .u64 (va : Int), .bool ev, .bool er, .bool ew, .bool ex, .bool eu, .bool eg, .bool ea, .bool ed, .int .i64 rs, .int .u64 (pp : Int)] 52) := ⟨_, rfl⟩
  rw [← hW0] at nb hc0 ⊢
  rw [← hBP] at nb
  try rw [← hBP]
  have K0 := Lib.hid nb; have C0 := Lib.hid hc0
  clear nb hc0 hBP hW0
  go_wp2_with fail
  refine (HF.out _).mono ?_
  rintro e w1 ⟨rfl, hc1⟩
  have C1 := Lib.hid (C0.out.trans hc1); have K1 := Lib.hid (K0.out.chg hc1 (fun h => h)); clear hc1 C0 K0
  go_wp2_with fail
  refine (HNEW.out _).mono ?_
  rintro e w2 ⟨mp, Fm, rfl, hmp, hFm, hM2, hc2⟩
  have hFm' : ∀ j, Fm j → w1.heap.size ≤ j := fun j hj => hFm j hj
  have C2 := Lib.hid (C1.out.trans hc2); have K2 := Lib.hid (K1.out.chg hc2 (fun h => h)); have HM2 := Lib.hid hM2; have HFM := Lib.hid hFm'
  have z1 := C1.out.size
  have zk := K1.out.lt
  have z12 := hc2.size
  have HMP := Lib.hid hmp
  clear hc2 hM2 hFm hFm' hmp C1 K1
  go_wp2_with fail
  refine (HSTK.out _).mono ?_
  rintro e w3 ⟨sp, Gs, rfl, hk3, hGs, hc3⟩
  have hM3 := HM2.out.chg hc3 (fun h => h) (fun _ _ h => h)
  have hdis : ∀ j, (Fm j ∨ j = mp) → ¬ Gs j := fun j h1 h2 => by
    have := h1.elim (HM2.out.lt j) (fun h => h ▸ HM2.out.mplt)
    have := hGs j h2
    omega
  have hfoot : ∀ j, (Fm j ∨ Gs j) → w1.heap.size ≤ j := fun j hj => hj.elim (HFM.out j) (fun h => by have := hGs j h; omega)
  have C3 := Lib.hid (C2.out.trans hc3); have K3 := Lib.hid (K2.out.chg hc3 (fun h => h))
  have hnt := I.new_yes 0 80 80 w3 mp sp Fm Gs hM3 hk3 hdis k0U
  have z3 := hc3.size
  have HNT := Lib.hid hnt; have HFOOT := Lib.hid hfoot
  clear hM3 hk3 hGs hdis hfoot C2 HM2 HFM hnt K2 hc3
  go_wp2_with fail
  refine HNT.out.mono ?_
  rintro e w4 ⟨tp, F, rfl, htx, hF, hc4⟩
  have hP : OneU I w w4 tp sp F ⟨[], [], 1⟩ 0 BP [.int .i64 kd, .int .i64 lv, .int .u64 (va : Int), .bool ev, .bool er, .bool ew, .bool ex, .bool eu, .bool eg, .bool ea, .bool ed, .int .i64 rs, .int .u64 (pp : Int)] := by
    refine ⟨htx, fun j hj => ?_, K3.out.chg hc4 (fun h => by have := HFOOT.out _ h; omega), fun h => ?_, ⟨hc4.os.trans C3.out.os, hc4.tape.trans C3.out.tape, hc4.output.trans C3.out.output, Nat.le_trans C3.out.size hc4.size, fun j hj hn => (hc4.block j (by omega) (fun h => by have := HFOOT.out j h; omega)).trans (C3.out.block j hj hn)⟩, Nat.le_refl _⟩
    · rcases hF j hj with (h | rfl) | h | h
      · have := HFOOT.out j (.inl h); omega
      · have := HMP.out; omega
      · have := HFOOT.out j (.inr h); omega
      · omega
    · rcases hF _ h with (h | h) | h | h
      · have := HFOOT.out _ (.inl h); omega
      · have := HMP.out; omega
      · have := HFOOT.out _ (.inr h); omega
      · omega
  have HP := Lib.hid hP
  clear hP htx hF hc4 C3 K3 HNT HFOOT z1 zk z12 z3
  go_wp2
  go_loopw [44] (fun i wr => ∃ (k kk : Nat) (F : Nat → Prop) (S : Tt), k ≤ len ∧ kk ≤ k ∧ kk ≤ 20 ∧ i = .int .i64 (k : Int) ∧ OneU I w wr tp sp F S kk BP [.int .i64 kd, .int .i64 lv, .int .u64 (va : Int), .bool ev, .bool er, .bool ew, .bool ex, .bool eu, .bool eg, .bool ea, .bool ed, .int .i64 rs, .int .u64 (pp : Int)]) (fun i _ => len - (intOf i).toNat)
  case atStart => exact ⟨0, 0, F, _, Nat.zero_le _, Nat.zero_le _, Nat.zero_le _, rfl, HP.out⟩
  case round =>
    obtain ⟨k, kk, F, S, hk, hkk, hk20, rfl, hT⟩ := hrel
    have T0 := Lib.hid hT
    clear hT HP
    by_cases hlt : k < len
    · obtain ⟨hal, hao, hac⟩ := HS.out
      obtain ⟨b, off, rfl, hcx⟩ := hac (by omega)
      have hkl : k < acts.length := by omega
      have hok := hao _ (List.getElem_mem hkl)
      clear hac
      replace hac := hcx k hkl
      clear hcx
      generalize acts[k] = ac at hok hac
      obtain ⟨zkd, zlv, zva, zev, zer, zew, zex, zeu, zeg, zea, zed, zrs, zpp⟩ := ac
      obtain ⟨q1, q2, q3, q4, q5⟩ := hok
      dsimp only at q1 q2 q3 q4 q5
      have hbw : b < w.heap.size := cell_lt (hac 0 (by omega))
      have f0 : wr.cell? ⟨b, off + k * 13, none⟩ = some (.int .i64 zkd) := (World.cell?_of_block (w := w) (a := ⟨b, off + k * 13, none⟩) (T0.out.chg.block b hbw (fun h => h))).trans (hac 0 (by omega))
      have f1 : wr.cell? ⟨b, off + k * 13 + 1, none⟩ = some (.int .i64 zlv) := (World.cell?_of_block (w := w) (a := ⟨b, off + k * 13 + 1, none⟩) (T0.out.chg.block b hbw (fun h => h))).trans (hac 1 (by omega))
      have f2 : wr.cell? ⟨b, off + k * 13 + 2, none⟩ = some (.int .u64 (zva : Int)) := (World.cell?_of_block (w := w) (a := ⟨b, off + k * 13 + 2, none⟩) (T0.out.chg.block b hbw (fun h => h))).trans (hac 2 (by omega))
      have f3 : wr.cell? ⟨b, off + k * 13 + 3, none⟩ = some (.bool zev) := (World.cell?_of_block (w := w) (a := ⟨b, off + k * 13 + 3, none⟩) (T0.out.chg.block b hbw (fun h => h))).trans (hac 3 (by omega))
      have f4 : wr.cell? ⟨b, off + k * 13 + 4, none⟩ = some (.bool zer) := (World.cell?_of_block (w := w) (a := ⟨b, off + k * 13 + 4, none⟩) (T0.out.chg.block b hbw (fun h => h))).trans (hac 4 (by omega))
      have f5 : wr.cell? ⟨b, off + k * 13 + 5, none⟩ = some (.bool zew) := (World.cell?_of_block (w := w) (a := ⟨b, off + k * 13 + 5, none⟩) (T0.out.chg.block b hbw (fun h => h))).trans (hac 5 (by omega))
      have f6 : wr.cell? ⟨b, off + k * 13 + 6, none⟩ = some (.bool zex) := (World.cell?_of_block (w := w) (a := ⟨b, off + k * 13 + 6, none⟩) (T0.out.chg.block b hbw (fun h => h))).trans (hac 6 (by omega))
      have f7 : wr.cell? ⟨b, off + k * 13 + 7, none⟩ = some (.bool zeu) := (World.cell?_of_block (w := w) (a := ⟨b, off + k * 13 + 7, none⟩) (T0.out.chg.block b hbw (fun h => h))).trans (hac 7 (by omega))
      have f8 : wr.cell? ⟨b, off + k * 13 + 8, none⟩ = some (.bool zeg) := (World.cell?_of_block (w := w) (a := ⟨b, off + k * 13 + 8, none⟩) (T0.out.chg.block b hbw (fun h => h))).trans (hac 8 (by omega))
      have f9 : wr.cell? ⟨b, off + k * 13 + 9, none⟩ = some (.bool zea) := (World.cell?_of_block (w := w) (a := ⟨b, off + k * 13 + 9, none⟩) (T0.out.chg.block b hbw (fun h => h))).trans (hac 9 (by omega))
      have f10 : wr.cell? ⟨b, off + k * 13 + 10, none⟩ = some (.bool zed) := (World.cell?_of_block (w := w) (a := ⟨b, off + k * 13 + 10, none⟩) (T0.out.chg.block b hbw (fun h => h))).trans (hac 10 (by omega))
      have f11 : wr.cell? ⟨b, off + k * 13 + 11, none⟩ = some (.int .i64 zrs) := (World.cell?_of_block (w := w) (a := ⟨b, off + k * 13 + 11, none⟩) (T0.out.chg.block b hbw (fun h => h))).trans (hac 11 (by omega))
      have f12 : wr.cell? ⟨b, off + k * 13 + 12, none⟩ = some (.int .u64 (zpp : Int)) := (World.cell?_of_block (w := w) (a := ⟨b, off + k * 13 + 12, none⟩) (T0.out.chg.block b hbw (fun h => h))).trans (hac 12 (by omega))
      clear hac hal hao
      have hT1 := T0.out.any (Chg.alloc no wr (.cells #[.int .i64 zkd, .int .i64 zlv, .int .u64 (zva : Int), .bool zev, .bool zer, .bool zew, .bool zex, .bool zeu, .bool zeg, .bool zea, .bool zed, .int .i64 zrs, .int .u64 (zpp : Int)] 52))
      have T1 := Lib.hid hT1; clear hT1
      by_cases h20 : k < 20
      · have h20' : (k : Int) < 20 := by omega
        have hm := I.map zva zlv ⟨zev, zer, zew, zex, zeu, zeg, zea, zed, zrs, zpp⟩ T1.out.tx (by omega) q3 q2 q4 q5
        have hln := mapT_lenU 0 80 80 zva zlv ⟨zev, zer, zew, zex, zeu, zeg, zea, zed, zrs, zpp⟩ S
        generalize mapT 0 80 80 zva zlv ⟨zev, zer, zew, zex, zeu, zeg, zea, zed, zrs, zpp⟩ S = R at hm hln
        unfold pv at hm
        dsimp only at hm
        have HM := Lib.hid hm; clear hm
        go_wp2_with fail
        clear f0 f1 f2 f3 f4 f5 f6 f7 f8 f9 f10 f11 f12
        refine HM.out.mono ?_
        rintro e w5 ⟨rfl, F5, htx, hF, hc⟩
        have T5 := Lib.hid (T1.out.step htx hF hc (by have := T1.out.hL; omega))
        clear htx hF hc HM
        go_wp2
        go_roundw
        case rel => exact ⟨k + 1, kk + 1, _, _, by omega, by omega, by omega, by go_num, T5.out⟩
        case measure => first | (simp [intOf]; done) | (simp [intOf]; omega)
      · have h20' : ¬ (k : Int) < 20 := by omega
        go_wp2
        clear f0 f1 f2 f3 f4 f5 f6 f7 f8 f9 f10 f11 f12
        go_roundw
        case rel => exact ⟨k + 1, kk, _, _, by omega, by omega, by omega, by go_num, T1.out⟩
        case measure => first | (simp [intOf]; done) | (simp [intOf]; omega)
    · obtain rfl : k = len := by omega
      have hpg := I.pagesN T0.out.tx (by have := T0.out.hL; omega)
      have HPG := Lib.hid hpg; clear hpg
      go_wp2_with fail
      refine HPG.out.mono ?_
      rintro e w5 ⟨⟨y5, rfl, hy5, hn5, hlt5⟩, hc5⟩
      have hy5c := hy5
      obtain ⟨A5, c5, hv5, _, _, _⟩ := hy5c
      subst hv5
      have hyt : YT w5 F (.slice A5 (sortP S.L).length c5) (sortP S.L) := ⟨hy5, fun g hg => by
        have h1 := hn5 g hg
        exact ⟨fun h => by have h2 := I.lt T0.out.tx g h; omega, hlt5 g hg⟩⟩
      have T5 := Lib.hid (T0.out.any hc5); have HYY := Lib.hid hyt
      clear hc5 hy5 HPG T0 hn5 hlt5 hyt
      have b0 : w5.cell? ⟨BP, 0, none⟩ = some (.int .i64 kd) := T5.out.box.cell 0
      have b1 : w5.cell? ⟨BP, 1, none⟩ = some (.int .i64 lv) := T5.out.box.cell 1
      have b2 : w5.cell? ⟨BP, 2, none⟩ = some (.int .u64 (va : Int)) := T5.out.box.cell 2
      have b3 : w5.cell? ⟨BP, 3, none⟩ = some (.bool ev) := T5.out.box.cell 3
      have b4 : w5.cell? ⟨BP, 4, none⟩ = some (.bool er) := T5.out.box.cell 4
      have b5 : w5.cell? ⟨BP, 5, none⟩ = some (.bool ew) := T5.out.box.cell 5
      have b6 : w5.cell? ⟨BP, 6, none⟩ = some (.bool ex) := T5.out.box.cell 6
      have b7 : w5.cell? ⟨BP, 7, none⟩ = some (.bool eu) := T5.out.box.cell 7
      have b8 : w5.cell? ⟨BP, 8, none⟩ = some (.bool eg) := T5.out.box.cell 8
      have b9 : w5.cell? ⟨BP, 9, none⟩ = some (.bool ea) := T5.out.box.cell 9
      have b10 : w5.cell? ⟨BP, 10, none⟩ = some (.bool ed) := T5.out.box.cell 10
      have b11 : w5.cell? ⟨BP, 11, none⟩ = some (.int .i64 rs) := T5.out.box.cell 11
      have b12 : w5.cell? ⟨BP, 12, none⟩ = some (.int .u64 (pp : Int)) := T5.out.box.cell 12
      have blt := T5.out.box.lt
      have hm := I.map va lv ⟨ev, er, ew, ex, eu, eg, ea, ed, rs, pp⟩ T5.out.tx (by omega) o3 o2 o4 o5
      obtain ⟨R, hR⟩ : ∃ R, R = mapT 0 80 80 va lv ⟨ev, er, ew, ex, eu, eg, ea, ed, rs, pp⟩ S := ⟨_, rfl⟩
      rw [← hR] at hm
      unfold pv at hm
      dsimp only at hm
      have HM := Lib.hid hm; have HR := Lib.hid hR; clear hm hR
      go_wp2_with fail
      clear blt b0 b1 b2 b3 b4 b5 b6 b7 b8 b9 b10 b11 b12
      refine HM.out.mono ?_
      rintro e w6 ⟨rfl, F6, htx, hF, hc⟩
      have hlR := mapT_lenU 0 80 80 va lv ⟨ev, er, ew, ex, eu, eg, ea, ed, rs, pp⟩ S
      rw [← HR.out] at hlR
      have T6 := Lib.hid (T5.out.step htx hF hc (by have := T5.out.hL; omega))
      have HY6 := Lib.hid (HYY.out.step hF hc)
      clear htx hF hc HM
      obtain ⟨RS, RE⟩ := R
      dsimp only at hlR
      by_cases hz : RE = 0
      · subst hz
        have hok := mapT_ok (first := 0) (n := 80) (fs := 80) (va := va) (l := lv) (e := ⟨ev, er, ew, ex, eu, eg, ea, ed, rs, pp⟩) (S := S)
        rw [← HR.out] at hok
        obtain ⟨hcan, hmay, hL6⟩ := hok rfl
        dsimp only at hL6
        have hml : 0 ≤ lv ∧ lv < 3 := by
          have h := hmay
          unfold mayE at h
          simp only [Bool.and_eq_true, decide_eq_true_eq] at h
          exact h.1.1.1.1.1
        obtain ⟨M6, hRT⟩ := I.rt T6.out.tx
        dsimp only at hRT
        have hsl := T5.out.hL
        rcases (show lv = 0 ∨ lv = 1 ∨ lv = 2 from by omega) with rfl | rfl | rfl
        · replace hL6 : RS.L = S.L ++ [⟨bas va 0, 0, ⟨ev, er, ew, ex, eu, eg, ea, ed, rs, pp⟩⟩] := hL6
          obtain ⟨b, hb0, hb1, hb2⟩ := page_bU va other 4096 (by omega) o3
          have hbb : bas b 0 = bas va 0 := bas_of (show b / 2 ^ (12 + 9 * 0) = va / 2 ^ (12 + 9 * 0) from hb2)
          have hcb : canN b = true := by rw [← bas_can (va := b) (l := 0) (by omega), hbb, bas_can (by omega)]; exact hcan
          obtain ⟨hpg6, hho6⟩ := mapped_hold hRT hL6 (by omega) hcb hbb
          have hdum := hho6
          clear hdum
          replace hb0 : (va : Int) - (va : Int) % 4096 + (other : Int) % 4096 = (b : Int) := hb0
          have hb4 : 0 ≤ (va : Int) - (va : Int) % 4096 ∧ (va : Int) - (va : Int) % 4096 < 18446744073709551616 := by omega
          have w1 : IntKind.u64.wrap ((va : Int) - (va : Int) % 4096) = (va : Int) - (va : Int) % 4096 := by rw [wrap_u64B]; omega
          have w2 : IntKind.u64.wrap ((va : Int) - (va : Int) % 4096 + (other : Int) % 4096) = (b : Int) := by rw [wrap_u64B]; omega
          have hm2e : mapT 0 80 80 b 0 ⟨ev, er, ew, ex, eu, eg, ea, ed, rs, pp⟩ RS = (RS, 130) := by
            unfold mapT
            rw [hcb, hmay]
            exact mapped_again hRT (by omega) hpg6 (2 - 0) (by omega)
          have HHO := Lib.hid hho6; have W1 := Lib.hid w1; have W2 := Lib.hid w2; have HM2 := Lib.hid hm2e; have HU6 := Lib.hid (mapped_unmap hRT hL6 (by omega) hcb hbb); have HB4 := Lib.hid (mapped_before hRT hL6 (by omega) hcan); have HL6 := Lib.hid hL6; have HBI := Lib.hid hb1
          clear w1 w2 hm2e hpg6 hho6 hb0 hb2 hbb hb4 hL6 hRT hmay hcb hcan hb1
          have b0 : w6.cell? ⟨BP, 0, none⟩ = some (.int .i64 kd) := T6.out.box.cell 0
          have b1 : w6.cell? ⟨BP, 1, none⟩ = some (.int .i64 0) := T6.out.box.cell 1
          have b2 : w6.cell? ⟨BP, 2, none⟩ = some (.int .u64 (va : Int)) := T6.out.box.cell 2
          have b3 : w6.cell? ⟨BP, 3, none⟩ = some (.bool ev) := T6.out.box.cell 3
          have b4 : w6.cell? ⟨BP, 4, none⟩ = some (.bool er) := T6.out.box.cell 4
          have b5 : w6.cell? ⟨BP, 5, none⟩ = some (.bool ew) := T6.out.box.cell 5
          have b6 : w6.cell? ⟨BP, 6, none⟩ = some (.bool ex) := T6.out.box.cell 6
          have b7 : w6.cell? ⟨BP, 7, none⟩ = some (.bool eu) := T6.out.box.cell 7
          have b8 : w6.cell? ⟨BP, 8, none⟩ = some (.bool eg) := T6.out.box.cell 8
          have b9 : w6.cell? ⟨BP, 9, none⟩ = some (.bool ea) := T6.out.box.cell 9
          have b10 : w6.cell? ⟨BP, 10, none⟩ = some (.bool ed) := T6.out.box.cell 10
          have b11 : w6.cell? ⟨BP, 11, none⟩ = some (.int .i64 rs) := T6.out.box.cell 11
          have b12 : w6.cell? ⟨BP, 12, none⟩ = some (.int .u64 (pp : Int)) := T6.out.box.cell 12
          have blt := T6.out.box.lt
          go_upto_region 18 with (fail)
          have w1 := W1.out
          have w2 := W2.out
          go_quiet (fail)
          have hT7 := T6.out.any (Chg.drewN no w6 nq)
          have hY7 := HY6.out.any (Chg.drewN no w6 nq)
          obtain ⟨W7, hW⟩ : ∃ W, W = w6.drewN nq := ⟨_, rfl⟩
          rw [← hW] at hT7 hY7 ⊢
          have T7 := Lib.hid hT7; have HY7 := Lib.hid hY7
          clear blt b0 b1 b2 b3 b4 b5 b6 b7 b8 b9 b10 b11 b12
          clear hT7 hY7 hW w1 w2
          have hf1 := I.find b T7.out.tx HBI.out
          try dsimp only at hf1
          rw [HHO.out] at hf1
          simp only [Option.isSome_some, if_true] at hf1
          have HF1 := Lib.hid hf1; clear hf1
          go_wp2_with fail
          refine HF1.out.mono ?_
          rintro e w8 ⟨⟨l8, rfl, hl8⟩, hc⟩
          have T8 := Lib.hid (T7.out.any hc); have HY8 := Lib.hid (HY7.out.any hc)
          obtain ⟨hle, hll⟩ := hl8 _ rfl
          obtain ⟨le, ll, lq⟩ := l8
          dsimp only at hle hll
          subst hle hll
          clear hc HF1 hl8
          unfold lfv
          try dsimp only
          go_upto_region 20 with (fail)
          have hT9 := T8.out.any (Chg.alloc no w8 (.cells #[.bool ev, .bool er, .bool ew, .bool ex, .bool eu, .bool eg, .bool ea, .bool ed, .int .i64 rs, .int .u64 (pp : Int), .int .i64 0, .int .u64 (lq : Int)] 43))
          have hY9 := HY8.out.any (Chg.alloc no w8 (.cells #[.bool ev, .bool er, .bool ew, .bool ex, .bool eu, .bool eg, .bool ea, .bool ed, .int .i64 rs, .int .u64 (pp : Int), .int .i64 0, .int .u64 (lq : Int)] 43))
          have nb := Blk.new w8 [.bool ev, .bool er, .bool ew, .bool ex, .bool eu, .bool eg, .bool ea, .bool ed, .int .i64 rs, .int .u64 (pp : Int), .int .i64 0, .int .u64 (lq : Int)] 43
          obtain ⟨BL, hBL⟩ : ∃ B, B = w8.heap.size := ⟨_, rfl⟩
          obtain ⟨W9, hW⟩ : ∃ W, W = w8.alloc (.cells #[.bool ev, .bool er, .bool ew, .bool ex, .bool eu, .bool eg, .bool ea, .bool ed, .int .i64 rs, .int .u64 (pp : Int), .int .i64 0, .int .u64 (lq : Int)] 43) := ⟨_, rfl⟩
          rw [← hW] at hT9 hY9 nb ⊢
          rw [← hBL] at nb
          try rw [← hBL]
          have T9 := Lib.hid hT9; have HY9 := Lib.hid hY9; have HL9 := Lib.hid nb
          clear hT9 hY9 nb hW hBL T8 HY8
          have hm2 := I.map b 0 ⟨ev, er, ew, ex, eu, eg, ea, ed, rs, pp⟩ T9.out.tx (by omega) HBI.out (by decide) o4 o5
          rw [HM2.out] at hm2
          unfold pv at hm2
          dsimp only at hm2
          have HMM := Lib.hid hm2; clear hm2
          have b0 : W9.cell? ⟨BP, 0, none⟩ = some (.int .i64 kd) := T9.out.box.cell 0
          have b1 : W9.cell? ⟨BP, 1, none⟩ = some (.int .i64 0) := T9.out.box.cell 1
          have b2 : W9.cell? ⟨BP, 2, none⟩ = some (.int .u64 (va : Int)) := T9.out.box.cell 2
          have b3 : W9.cell? ⟨BP, 3, none⟩ = some (.bool ev) := T9.out.box.cell 3
          have b4 : W9.cell? ⟨BP, 4, none⟩ = some (.bool er) := T9.out.box.cell 4
          have b5 : W9.cell? ⟨BP, 5, none⟩ = some (.bool ew) := T9.out.box.cell 5
          have b6 : W9.cell? ⟨BP, 6, none⟩ = some (.bool ex) := T9.out.box.cell 6
          have b7 : W9.cell? ⟨BP, 7, none⟩ = some (.bool eu) := T9.out.box.cell 7
          have b8 : W9.cell? ⟨BP, 8, none⟩ = some (.bool eg) := T9.out.box.cell 8
          have b9 : W9.cell? ⟨BP, 9, none⟩ = some (.bool ea) := T9.out.box.cell 9
          have b10 : W9.cell? ⟨BP, 10, none⟩ = some (.bool ed) := T9.out.box.cell 10
          have b11 : W9.cell? ⟨BP, 11, none⟩ = some (.int .i64 rs) := T9.out.box.cell 11
          have b12 : W9.cell? ⟨BP, 12, none⟩ = some (.int .u64 (pp : Int)) := T9.out.box.cell 12
          have blt := T9.out.box.lt
          have lf0 : W9.cell? ⟨BL, 0, none⟩ = some (.bool ev) := HL9.out.cell 0
          have lf1 : W9.cell? ⟨BL, 1, none⟩ = some (.bool er) := HL9.out.cell 1
          have lf2 : W9.cell? ⟨BL, 2, none⟩ = some (.bool ew) := HL9.out.cell 2
          have lf3 : W9.cell? ⟨BL, 3, none⟩ = some (.bool ex) := HL9.out.cell 3
          have lf4 : W9.cell? ⟨BL, 4, none⟩ = some (.bool eu) := HL9.out.cell 4
          have lf5 : W9.cell? ⟨BL, 5, none⟩ = some (.bool eg) := HL9.out.cell 5
          have lf6 : W9.cell? ⟨BL, 6, none⟩ = some (.bool ea) := HL9.out.cell 6
          have lf7 : W9.cell? ⟨BL, 7, none⟩ = some (.bool ed) := HL9.out.cell 7
          have lf8 : W9.cell? ⟨BL, 8, none⟩ = some (.int .i64 rs) := HL9.out.cell 8
          have lf9 : W9.cell? ⟨BL, 9, none⟩ = some (.int .u64 (pp : Int)) := HL9.out.cell 9
          have lf10 : W9.cell? ⟨BL, 10, none⟩ = some (.int .i64 0) := HL9.out.cell 10
          have lf11 : W9.cell? ⟨BL, 11, none⟩ = some (.int .u64 (lq : Int)) := HL9.out.cell 11
          have llt := HL9.out.lt
          go_wp2_with fail
          clear blt b0 b1 b2 b3 b4 b5 b6 b7 b8 b9 b10 b11 b12
          clear llt lf0 lf1 lf2 lf3 lf4 lf5 lf6 lf7 lf8 lf9 lf10 lf11
          refine HMM.out.mono ?_
          rintro e w10 ⟨rfl, F10, htx, hF, hc⟩
          have T10 := Lib.hid (T9.out.step htx hF hc (by have := T9.out.hL; omega)); have HY10 := Lib.hid (HY9.out.step hF hc)
          clear htx hF hc HMM T9 HY9 HL9
          have hp10 := I.pages T10.out.tx (by have := T10.out.hL; omega)
          try dsimp only at hp10
          have HPG := Lib.hid hp10; clear hp10
          go_wp2_with fail
          refine HPG.out.mono ?_
          rintro e w11 ⟨⟨y11, rfl, hy11⟩, hc⟩
          have T11 := Lib.hid (T10.out.any hc); have HY11 := Lib.hid (HY10.out.any hc)
          obtain ⟨A11, c11, rfl, _, _, _⟩ := hy11
          clear hc HPG T10 HY10
          have hlen1 : (sortP RS.L).length = (sortP S.L).length + 1 := by rw [sortP_len, sortP_len, HL6.out, List.length_append]; rfl
          rw [hlen1]
          clear hlen1
          have hlen2 : IntKind.i64.wrap (((sortP S.L).length : Int) + 1) = ((sortP S.L).length : Int) + 1 := by
            have : (sortP S.L).length = S.L.length := sortP_len _
            simp [IntKind.wrap, IntKind.bits, IntKind.signed]; omega
          obtain ⟨n5, hn5⟩ : ∃ k, k = (sortP S.L).length := ⟨_, rfl⟩
          rw [← hn5] at hlen2 ⊢
          have HN5 := Lib.hid hn5; clear hn5
          have hun := I.unmap b T11.out.tx (by omega) HBI.out
          rw [HU6.out] at hun
          unfold pv at hun
          try dsimp only at hun
          have HUN := Lib.hid hun; clear hun
          go_wp2_with fail
          clear hlen2
          refine HUN.out.mono ?_
          rintro e w12 ⟨rfl, F12, htx, hF, hc⟩
          have T12 := Lib.hid (T11.out.step htx hF hc (by show S.L.length ≤ _; omega)); have HY12 := Lib.hid (HY11.out.step hF hc)
          clear htx hF hc HUN T11 HY11
          go_upto_region 23 with (fail)
          have hT13 := T12.out.any (Chg.alloc no w12 (.cells #[.bool ev, .bool er, .bool ew, .bool ex, .bool eu, .bool eg, .bool ea, .bool ed, .int .i64 rs, .int .u64 (pp : Int)] 39))
          have hY13 := HY12.out.any (Chg.alloc no w12 (.cells #[.bool ev, .bool er, .bool ew, .bool ex, .bool eu, .bool eg, .bool ea, .bool ed, .int .i64 rs, .int .u64 (pp : Int)] 39))
          have nb := Blk.new w12 [.bool ev, .bool er, .bool ew, .bool ex, .bool eu, .bool eg, .bool ea, .bool ed, .int .i64 rs, .int .u64 (pp : Int)] 39
          obtain ⟨BQ, hBQ⟩ : ∃ B, B = w12.heap.size := ⟨_, rfl⟩
          obtain ⟨W13, hW⟩ : ∃ W, W = w12.alloc (.cells #[.bool ev, .bool er, .bool ew, .bool ex, .bool eu, .bool eg, .bool ea, .bool ed, .int .i64 rs, .int .u64 (pp : Int)] 39) := ⟨_, rfl⟩
          rw [← hW] at hT13 hY13 nb ⊢
          rw [← hBQ] at nb
          try rw [← hBQ]
          have T13 := Lib.hid hT13; have HY13 := Lib.hid hY13; have HQ13 := Lib.hid nb
          clear hT13 hY13 nb hW hBQ T12 HY12
          have b0 : W13.cell? ⟨BP, 0, none⟩ = some (.int .i64 kd) := T13.out.box.cell 0
          have b1 : W13.cell? ⟨BP, 1, none⟩ = some (.int .i64 0) := T13.out.box.cell 1
          have b2 : W13.cell? ⟨BP, 2, none⟩ = some (.int .u64 (va : Int)) := T13.out.box.cell 2
          have b3 : W13.cell? ⟨BP, 3, none⟩ = some (.bool ev) := T13.out.box.cell 3
          have b4 : W13.cell? ⟨BP, 4, none⟩ = some (.bool er) := T13.out.box.cell 4
          have b5 : W13.cell? ⟨BP, 5, none⟩ = some (.bool ew) := T13.out.box.cell 5
          have b6 : W13.cell? ⟨BP, 6, none⟩ = some (.bool ex) := T13.out.box.cell 6
          have b7 : W13.cell? ⟨BP, 7, none⟩ = some (.bool eu) := T13.out.box.cell 7
          have b8 : W13.cell? ⟨BP, 8, none⟩ = some (.bool eg) := T13.out.box.cell 8
          have b9 : W13.cell? ⟨BP, 9, none⟩ = some (.bool ea) := T13.out.box.cell 9
          have b10 : W13.cell? ⟨BP, 10, none⟩ = some (.bool ed) := T13.out.box.cell 10
          have b11 : W13.cell? ⟨BP, 11, none⟩ = some (.int .i64 rs) := T13.out.box.cell 11
          have b12 : W13.cell? ⟨BP, 12, none⟩ = some (.int .u64 (pp : Int)) := T13.out.box.cell 12
          have blt := T13.out.box.lt
          have hf2 := I.find va T13.out.tx o3
          try dsimp only at hf2
          rw [HB4.out] at hf2
          simp only [Option.isSome_none, Bool.false_eq_true, if_false] at hf2
          have HF2 := Lib.hid hf2; clear hf2
          go_wp2_with fail
          clear blt b0 b1 b2 b3 b4 b5 b6 b7 b8 b9 b10 b11 b12
          refine HF2.out.mono ?_
          rintro e w14 ⟨⟨l14, rfl, hl14⟩, hc⟩
          have T14 := Lib.hid (T13.out.any hc); have HY14 := Lib.hid (HY13.out.any hc); have HQ14 := Lib.hid (HQ13.out.chg hc (fun h => h))
          obtain ⟨⟨v, r, x, y, u, g, a, d, sw, pn⟩, ll, lz⟩ := l14
          clear hc HF2 hl14 T13 HY13 HQ13
          unfold lfv
          try dsimp only
          go_upto_region 24 with (fail)
          have hT15 := T14.out.any (Chg.alloc no w14 (.cells #[.bool v, .bool r, .bool x, .bool y, .bool u, .bool g, .bool a, .bool d, .int .i64 sw, .int .u64 (pn : Int), .int .i64 (ll : Int), .int .u64 (lz : Int)] 43))
          have hY15 := HY14.out.any (Chg.alloc no w14 (.cells #[.bool v, .bool r, .bool x, .bool y, .bool u, .bool g, .bool a, .bool d, .int .i64 sw, .int .u64 (pn : Int), .int .i64 (ll : Int), .int .u64 (lz : Int)] 43))
          have hQ15 := HQ14.out.alloc (.cells #[.bool v, .bool r, .bool x, .bool y, .bool u, .bool g, .bool a, .bool d, .int .i64 sw, .int .u64 (pn : Int), .int .i64 (ll : Int), .int .u64 (lz : Int)] 43)
          obtain ⟨W15, hW⟩ : ∃ W, W = w14.alloc (.cells #[.bool v, .bool r, .bool x, .bool y, .bool u, .bool g, .bool a, .bool d, .int .i64 sw, .int .u64 (pn : Int), .int .i64 (ll : Int), .int .u64 (lz : Int)] 43) := ⟨_, rfl⟩
          obtain ⟨BZ, hBZ⟩ : ∃ B, B = w14.heap.size := ⟨_, rfl⟩
          rw [← hW] at hT15 hY15 hQ15 ⊢
          try rw [← hBZ]
          have T15 := Lib.hid hT15; have HY15 := Lib.hid hY15; have HQ15 := Lib.hid hQ15
          clear hT15 hY15 hQ15 hW hBZ T14 HY14 HQ14
          have hp15 := I.pages T15.out.tx (by show S.L.length ≤ 100; omega)
          try dsimp only at hp15
          have HPG := Lib.hid hp15; clear hp15
          have b0 : W15.cell? ⟨BP, 0, none⟩ = some (.int .i64 kd) := T15.out.box.cell 0
          have b1 : W15.cell? ⟨BP, 1, none⟩ = some (.int .i64 0) := T15.out.box.cell 1
          have b2 : W15.cell? ⟨BP, 2, none⟩ = some (.int .u64 (va : Int)) := T15.out.box.cell 2
          have b3 : W15.cell? ⟨BP, 3, none⟩ = some (.bool ev) := T15.out.box.cell 3
          have b4 : W15.cell? ⟨BP, 4, none⟩ = some (.bool er) := T15.out.box.cell 4
          have b5 : W15.cell? ⟨BP, 5, none⟩ = some (.bool ew) := T15.out.box.cell 5
          have b6 : W15.cell? ⟨BP, 6, none⟩ = some (.bool ex) := T15.out.box.cell 6
          have b7 : W15.cell? ⟨BP, 7, none⟩ = some (.bool eu) := T15.out.box.cell 7
          have b8 : W15.cell? ⟨BP, 8, none⟩ = some (.bool eg) := T15.out.box.cell 8
          have b9 : W15.cell? ⟨BP, 9, none⟩ = some (.bool ea) := T15.out.box.cell 9
          have b10 : W15.cell? ⟨BP, 10, none⟩ = some (.bool ed) := T15.out.box.cell 10
          have b11 : W15.cell? ⟨BP, 11, none⟩ = some (.int .i64 rs) := T15.out.box.cell 11
          have b12 : W15.cell? ⟨BP, 12, none⟩ = some (.int .u64 (pp : Int)) := T15.out.box.cell 12
          have blt := T15.out.box.lt
          have qf0 : W15.cell? ⟨BQ, 0, none⟩ = some (.bool ev) := HQ15.out.cell 0
          have qf1 : W15.cell? ⟨BQ, 1, none⟩ = some (.bool er) := HQ15.out.cell 1
          have qf2 : W15.cell? ⟨BQ, 2, none⟩ = some (.bool ew) := HQ15.out.cell 2
          have qf3 : W15.cell? ⟨BQ, 3, none⟩ = some (.bool ex) := HQ15.out.cell 3
          have qf4 : W15.cell? ⟨BQ, 4, none⟩ = some (.bool eu) := HQ15.out.cell 4
          have qf5 : W15.cell? ⟨BQ, 5, none⟩ = some (.bool eg) := HQ15.out.cell 5
          have qf6 : W15.cell? ⟨BQ, 6, none⟩ = some (.bool ea) := HQ15.out.cell 6
          have qf7 : W15.cell? ⟨BQ, 7, none⟩ = some (.bool ed) := HQ15.out.cell 7
          have qf8 : W15.cell? ⟨BQ, 8, none⟩ = some (.int .i64 rs) := HQ15.out.cell 8
          have qf9 : W15.cell? ⟨BQ, 9, none⟩ = some (.int .u64 (pp : Int)) := HQ15.out.cell 9
          have qlt := HQ15.out.lt
          try rw [HN5.out]
          go_wp2_with fail
          clear blt b0 b1 b2 b3 b4 b5 b6 b7 b8 b9 b10 b11 b12
          clear qlt qf0 qf1 qf2 qf3 qf4 qf5 qf6 qf7 qf8 qf9
          refine HPG.out.mono ?_
          rintro e w16 ⟨⟨y16, rfl, hy16⟩, hc⟩
          have hsm := rsame_yes y16 _ (sortP S.L) w16 hy16 (HY15.out.any hc).li (by rw [sortP_len]; omega)
          have C16 := Lib.hid (T15.out.chg.trans hc); have HSM := Lib.hid hsm
          clear hsm hc hy16 HPG
          go_wp2_with fail
          refine HSM.out.mono ?_
          rintro e w17 ⟨rfl, hc⟩
          have C17 := Lib.hid (C16.out.trans hc)
          clear hc
          go_wp2
          go_ret
          exact ⟨rfl, C17.out⟩
        · replace hL6 : RS.L = S.L ++ [⟨bas va 1, 1, ⟨ev, er, ew, ex, eu, eg, ea, ed, rs, pp⟩⟩] := hL6
          obtain ⟨b, hb0, hb1, hb2⟩ := page_bU va other 2097152 (by omega) o3
          have hbb : bas b 1 = bas va 1 := bas_of (show b / 2 ^ (12 + 9 * 1) = va / 2 ^ (12 + 9 * 1) from hb2)
          have hcb : canN b = true := by rw [← bas_can (va := b) (l := 1) (by omega), hbb, bas_can (by omega)]; exact hcan
          obtain ⟨hpg6, hho6⟩ := mapped_hold hRT hL6 (by omega) hcb hbb
          have hdum := hho6
          clear hdum
          replace hb0 : (va : Int) - (va : Int) % 2097152 + (other : Int) % 2097152 = (b : Int) := hb0
          have hb4 : 0 ≤ (va : Int) - (va : Int) % 2097152 ∧ (va : Int) - (va : Int) % 2097152 < 18446744073709551616 := by omega
          have w1 : IntKind.u64.wrap ((va : Int) - (va : Int) % 2097152) = (va : Int) - (va : Int) % 2097152 := by rw [wrap_u64B]; omega
          have w2 : IntKind.u64.wrap ((va : Int) - (va : Int) % 2097152 + (other : Int) % 2097152) = (b : Int) := by rw [wrap_u64B]; omega
          have hm2e : mapT 0 80 80 b 1 ⟨ev, er, ew, ex, eu, eg, ea, ed, rs, pp⟩ RS = (RS, 130) := by
            unfold mapT
            rw [hcb, hmay]
            exact mapped_again hRT (by omega) hpg6 (2 - 1) (by omega)
          have HHO := Lib.hid hho6; have W1 := Lib.hid w1; have W2 := Lib.hid w2; have HM2 := Lib.hid hm2e; have HU6 := Lib.hid (mapped_unmap hRT hL6 (by omega) hcb hbb); have HB4 := Lib.hid (mapped_before hRT hL6 (by omega) hcan); have HL6 := Lib.hid hL6; have HBI := Lib.hid hb1
          clear w1 w2 hm2e hpg6 hho6 hb0 hb2 hbb hb4 hL6 hRT hmay hcb hcan hb1
          have b0 : w6.cell? ⟨BP, 0, none⟩ = some (.int .i64 kd) := T6.out.box.cell 0
          have b1 : w6.cell? ⟨BP, 1, none⟩ = some (.int .i64 1) := T6.out.box.cell 1
          have b2 : w6.cell? ⟨BP, 2, none⟩ = some (.int .u64 (va : Int)) := T6.out.box.cell 2
          have b3 : w6.cell? ⟨BP, 3, none⟩ = some (.bool ev) := T6.out.box.cell 3
          have b4 : w6.cell? ⟨BP, 4, none⟩ = some (.bool er) := T6.out.box.cell 4
          have b5 : w6.cell? ⟨BP, 5, none⟩ = some (.bool ew) := T6.out.box.cell 5
          have b6 : w6.cell? ⟨BP, 6, none⟩ = some (.bool ex) := T6.out.box.cell 6
          have b7 : w6.cell? ⟨BP, 7, none⟩ = some (.bool eu) := T6.out.box.cell 7
          have b8 : w6.cell? ⟨BP, 8, none⟩ = some (.bool eg) := T6.out.box.cell 8
          have b9 : w6.cell? ⟨BP, 9, none⟩ = some (.bool ea) := T6.out.box.cell 9
          have b10 : w6.cell? ⟨BP, 10, none⟩ = some (.bool ed) := T6.out.box.cell 10
          have b11 : w6.cell? ⟨BP, 11, none⟩ = some (.int .i64 rs) := T6.out.box.cell 11
          have b12 : w6.cell? ⟨BP, 12, none⟩ = some (.int .u64 (pp : Int)) := T6.out.box.cell 12
          have blt := T6.out.box.lt
          go_upto_region 18 with (fail)
          have w1 := W1.out
          have w2 := W2.out
          go_quiet (fail)
          have hT7 := T6.out.any (Chg.drewN no w6 nq)
          have hY7 := HY6.out.any (Chg.drewN no w6 nq)
          obtain ⟨W7, hW⟩ : ∃ W, W = w6.drewN nq := ⟨_, rfl⟩
          rw [← hW] at hT7 hY7 ⊢
          have T7 := Lib.hid hT7; have HY7 := Lib.hid hY7
          clear blt b0 b1 b2 b3 b4 b5 b6 b7 b8 b9 b10 b11 b12
          clear hT7 hY7 hW w1 w2
          have hf1 := I.find b T7.out.tx HBI.out
          try dsimp only at hf1
          rw [HHO.out] at hf1
          simp only [Option.isSome_some, if_true] at hf1
          have HF1 := Lib.hid hf1; clear hf1
          go_wp2_with fail
          refine HF1.out.mono ?_
          rintro e w8 ⟨⟨l8, rfl, hl8⟩, hc⟩
          have T8 := Lib.hid (T7.out.any hc); have HY8 := Lib.hid (HY7.out.any hc)
          obtain ⟨hle, hll⟩ := hl8 _ rfl
          obtain ⟨le, ll, lq⟩ := l8
          dsimp only at hle hll
          subst hle hll
          clear hc HF1 hl8
          unfold lfv
          try dsimp only
          go_upto_region 20 with (fail)
          have hT9 := T8.out.any (Chg.alloc no w8 (.cells #[.bool ev, .bool er, .bool ew, .bool ex, .bool eu, .bool eg, .bool ea, .bool ed, .int .i64 rs, .int .u64 (pp : Int), .int .i64 1, .int .u64 (lq : Int)] 43))
          have hY9 := HY8.out.any (Chg.alloc no w8 (.cells #[.bool ev, .bool er, .bool ew, .bool ex, .bool eu, .bool eg, .bool ea, .bool ed, .int .i64 rs, .int .u64 (pp : Int), .int .i64 1, .int .u64 (lq : Int)] 43))
          have nb := Blk.new w8 [.bool ev, .bool er, .bool ew, .bool ex, .bool eu, .bool eg, .bool ea, .bool ed, .int .i64 rs, .int .u64 (pp : Int), .int .i64 1, .int .u64 (lq : Int)] 43
          obtain ⟨BL, hBL⟩ : ∃ B, B = w8.heap.size := ⟨_, rfl⟩
          obtain ⟨W9, hW⟩ : ∃ W, W = w8.alloc (.cells #[.bool ev, .bool er, .bool ew, .bool ex, .bool eu, .bool eg, .bool ea, .bool ed, .int .i64 rs, .int .u64 (pp : Int), .int .i64 1, .int .u64 (lq : Int)] 43) := ⟨_, rfl⟩
          rw [← hW] at hT9 hY9 nb ⊢
          rw [← hBL] at nb
          try rw [← hBL]
          have T9 := Lib.hid hT9; have HY9 := Lib.hid hY9; have HL9 := Lib.hid nb
          clear hT9 hY9 nb hW hBL T8 HY8
          have hm2 := I.map b 1 ⟨ev, er, ew, ex, eu, eg, ea, ed, rs, pp⟩ T9.out.tx (by omega) HBI.out (by decide) o4 o5
          rw [HM2.out] at hm2
          unfold pv at hm2
          dsimp only at hm2
          have HMM := Lib.hid hm2; clear hm2
          have b0 : W9.cell? ⟨BP, 0, none⟩ = some (.int .i64 kd) := T9.out.box.cell 0
          have b1 : W9.cell? ⟨BP, 1, none⟩ = some (.int .i64 1) := T9.out.box.cell 1
          have b2 : W9.cell? ⟨BP, 2, none⟩ = some (.int .u64 (va : Int)) := T9.out.box.cell 2
          have b3 : W9.cell? ⟨BP, 3, none⟩ = some (.bool ev) := T9.out.box.cell 3
          have b4 : W9.cell? ⟨BP, 4, none⟩ = some (.bool er) := T9.out.box.cell 4
          have b5 : W9.cell? ⟨BP, 5, none⟩ = some (.bool ew) := T9.out.box.cell 5
          have b6 : W9.cell? ⟨BP, 6, none⟩ = some (.bool ex) := T9.out.box.cell 6
          have b7 : W9.cell? ⟨BP, 7, none⟩ = some (.bool eu) := T9.out.box.cell 7
          have b8 : W9.cell? ⟨BP, 8, none⟩ = some (.bool eg) := T9.out.box.cell 8
          have b9 : W9.cell? ⟨BP, 9, none⟩ = some (.bool ea) := T9.out.box.cell 9
          have b10 : W9.cell? ⟨BP, 10, none⟩ = some (.bool ed) := T9.out.box.cell 10
          have b11 : W9.cell? ⟨BP, 11, none⟩ = some (.int .i64 rs) := T9.out.box.cell 11
          have b12 : W9.cell? ⟨BP, 12, none⟩ = some (.int .u64 (pp : Int)) := T9.out.box.cell 12
          have blt := T9.out.box.lt
          have lf0 : W9.cell? ⟨BL, 0, none⟩ = some (.bool ev) := HL9.out.cell 0
          have lf1 : W9.cell? ⟨BL, 1, none⟩ = some (.bool er) := HL9.out.cell 1
          have lf2 : W9.cell? ⟨BL, 2, none⟩ = some (.bool ew) := HL9.out.cell 2
          have lf3 : W9.cell? ⟨BL, 3, none⟩ = some (.bool ex) := HL9.out.cell 3
          have lf4 : W9.cell? ⟨BL, 4, none⟩ = some (.bool eu) := HL9.out.cell 4
          have lf5 : W9.cell? ⟨BL, 5, none⟩ = some (.bool eg) := HL9.out.cell 5
          have lf6 : W9.cell? ⟨BL, 6, none⟩ = some (.bool ea) := HL9.out.cell 6
          have lf7 : W9.cell? ⟨BL, 7, none⟩ = some (.bool ed) := HL9.out.cell 7
          have lf8 : W9.cell? ⟨BL, 8, none⟩ = some (.int .i64 rs) := HL9.out.cell 8
          have lf9 : W9.cell? ⟨BL, 9, none⟩ = some (.int .u64 (pp : Int)) := HL9.out.cell 9
          have lf10 : W9.cell? ⟨BL, 10, none⟩ = some (.int .i64 1) := HL9.out.cell 10
          have lf11 : W9.cell? ⟨BL, 11, none⟩ = some (.int .u64 (lq : Int)) := HL9.out.cell 11
          have llt := HL9.out.lt
          go_wp2_with fail
          clear blt b0 b1 b2 b3 b4 b5 b6 b7 b8 b9 b10 b11 b12
          clear llt lf0 lf1 lf2 lf3 lf4 lf5 lf6 lf7 lf8 lf9 lf10 lf11
          refine HMM.out.mono ?_
          rintro e w10 ⟨rfl, F10, htx, hF, hc⟩
          have T10 := Lib.hid (T9.out.step htx hF hc (by have := T9.out.hL; omega)); have HY10 := Lib.hid (HY9.out.step hF hc)
          clear htx hF hc HMM T9 HY9 HL9
          have hp10 := I.pages T10.out.tx (by have := T10.out.hL; omega)
          try dsimp only at hp10
          have HPG := Lib.hid hp10; clear hp10
          go_wp2_with fail
          refine HPG.out.mono ?_
          rintro e w11 ⟨⟨y11, rfl, hy11⟩, hc⟩
          have T11 := Lib.hid (T10.out.any hc); have HY11 := Lib.hid (HY10.out.any hc)
          obtain ⟨A11, c11, rfl, _, _, _⟩ := hy11
          clear hc HPG T10 HY10
          have hlen1 : (sortP RS.L).length = (sortP S.L).length + 1 := by rw [sortP_len, sortP_len, HL6.out, List.length_append]; rfl
          rw [hlen1]
          clear hlen1
          have hlen2 : IntKind.i64.wrap (((sortP S.L).length : Int) + 1) = ((sortP S.L).length : Int) + 1 := by
            have : (sortP S.L).length = S.L.length := sortP_len _
            simp [IntKind.wrap, IntKind.bits, IntKind.signed]; omega
          obtain ⟨n5, hn5⟩ : ∃ k, k = (sortP S.L).length := ⟨_, rfl⟩
          rw [← hn5] at hlen2 ⊢
          have HN5 := Lib.hid hn5; clear hn5
          have hun := I.unmap b T11.out.tx (by omega) HBI.out
          rw [HU6.out] at hun
          unfold pv at hun
          try dsimp only at hun
          have HUN := Lib.hid hun; clear hun
          go_wp2_with fail
          clear hlen2
          refine HUN.out.mono ?_
          rintro e w12 ⟨rfl, F12, htx, hF, hc⟩
          have T12 := Lib.hid (T11.out.step htx hF hc (by show S.L.length ≤ _; omega)); have HY12 := Lib.hid (HY11.out.step hF hc)
          clear htx hF hc HUN T11 HY11
          go_upto_region 23 with (fail)
          have hT13 := T12.out.any (Chg.alloc no w12 (.cells #[.bool ev, .bool er, .bool ew, .bool ex, .bool eu, .bool eg, .bool ea, .bool ed, .int .i64 rs, .int .u64 (pp : Int)] 39))
          have hY13 := HY12.out.any (Chg.alloc no w12 (.cells #[.bool ev, .bool er, .bool ew, .bool ex, .bool eu, .bool eg, .bool ea, .bool ed, .int .i64 rs, .int .u64 (pp : Int)] 39))
          have nb := Blk.new w12 [.bool ev, .bool er, .bool ew, .bool ex, .bool eu, .bool eg, .bool ea, .bool ed, .int .i64 rs, .int .u64 (pp : Int)] 39
          obtain ⟨BQ, hBQ⟩ : ∃ B, B = w12.heap.size := ⟨_, rfl⟩
          obtain ⟨W13, hW⟩ : ∃ W, W = w12.alloc (.cells #[.bool ev, .bool er, .bool ew, .bool ex, .bool eu, .bool eg, .bool ea, .bool ed, .int .i64 rs, .int .u64 (pp : Int)] 39) := ⟨_, rfl⟩
          rw [← hW] at hT13 hY13 nb ⊢
          rw [← hBQ] at nb
          try rw [← hBQ]
          have T13 := Lib.hid hT13; have HY13 := Lib.hid hY13; have HQ13 := Lib.hid nb
          clear hT13 hY13 nb hW hBQ T12 HY12
          have b0 : W13.cell? ⟨BP, 0, none⟩ = some (.int .i64 kd) := T13.out.box.cell 0
          have b1 : W13.cell? ⟨BP, 1, none⟩ = some (.int .i64 1) := T13.out.box.cell 1
          have b2 : W13.cell? ⟨BP, 2, none⟩ = some (.int .u64 (va : Int)) := T13.out.box.cell 2
          have b3 : W13.cell? ⟨BP, 3, none⟩ = some (.bool ev) := T13.out.box.cell 3
          have b4 : W13.cell? ⟨BP, 4, none⟩ = some (.bool er) := T13.out.box.cell 4
          have b5 : W13.cell? ⟨BP, 5, none⟩ = some (.bool ew) := T13.out.box.cell 5
          have b6 : W13.cell? ⟨BP, 6, none⟩ = some (.bool ex) := T13.out.box.cell 6
          have b7 : W13.cell? ⟨BP, 7, none⟩ = some (.bool eu) := T13.out.box.cell 7
          have b8 : W13.cell? ⟨BP, 8, none⟩ = some (.bool eg) := T13.out.box.cell 8
          have b9 : W13.cell? ⟨BP, 9, none⟩ = some (.bool ea) := T13.out.box.cell 9
          have b10 : W13.cell? ⟨BP, 10, none⟩ = some (.bool ed) := T13.out.box.cell 10
          have b11 : W13.cell? ⟨BP, 11, none⟩ = some (.int .i64 rs) := T13.out.box.cell 11
          have b12 : W13.cell? ⟨BP, 12, none⟩ = some (.int .u64 (pp : Int)) := T13.out.box.cell 12
          have blt := T13.out.box.lt
          have hf2 := I.find va T13.out.tx o3
          try dsimp only at hf2
          rw [HB4.out] at hf2
          simp only [Option.isSome_none, Bool.false_eq_true, if_false] at hf2
          have HF2 := Lib.hid hf2; clear hf2
          go_wp2_with fail
          clear blt b0 b1 b2 b3 b4 b5 b6 b7 b8 b9 b10 b11 b12
          refine HF2.out.mono ?_
          rintro e w14 ⟨⟨l14, rfl, hl14⟩, hc⟩
          have T14 := Lib.hid (T13.out.any hc); have HY14 := Lib.hid (HY13.out.any hc); have HQ14 := Lib.hid (HQ13.out.chg hc (fun h => h))
          obtain ⟨⟨v, r, x, y, u, g, a, d, sw, pn⟩, ll, lz⟩ := l14
          clear hc HF2 hl14 T13 HY13 HQ13
          unfold lfv
          try dsimp only
          go_upto_region 24 with (fail)
          have hT15 := T14.out.any (Chg.alloc no w14 (.cells #[.bool v, .bool r, .bool x, .bool y, .bool u, .bool g, .bool a, .bool d, .int .i64 sw, .int .u64 (pn : Int), .int .i64 (ll : Int), .int .u64 (lz : Int)] 43))
          have hY15 := HY14.out.any (Chg.alloc no w14 (.cells #[.bool v, .bool r, .bool x, .bool y, .bool u, .bool g, .bool a, .bool d, .int .i64 sw, .int .u64 (pn : Int), .int .i64 (ll : Int), .int .u64 (lz : Int)] 43))
          have hQ15 := HQ14.out.alloc (.cells #[.bool v, .bool r, .bool x, .bool y, .bool u, .bool g, .bool a, .bool d, .int .i64 sw, .int .u64 (pn : Int), .int .i64 (ll : Int), .int .u64 (lz : Int)] 43)
          obtain ⟨W15, hW⟩ : ∃ W, W = w14.alloc (.cells #[.bool v, .bool r, .bool x, .bool y, .bool u, .bool g, .bool a, .bool d, .int .i64 sw, .int .u64 (pn : Int), .int .i64 (ll : Int), .int .u64 (lz : Int)] 43) := ⟨_, rfl⟩
          obtain ⟨BZ, hBZ⟩ : ∃ B, B = w14.heap.size := ⟨_, rfl⟩
          rw [← hW] at hT15 hY15 hQ15 ⊢
          try rw [← hBZ]
          have T15 := Lib.hid hT15; have HY15 := Lib.hid hY15; have HQ15 := Lib.hid hQ15
          clear hT15 hY15 hQ15 hW hBZ T14 HY14 HQ14
          have hp15 := I.pages T15.out.tx (by show S.L.length ≤ 100; omega)
          try dsimp only at hp15
          have HPG := Lib.hid hp15; clear hp15
          have b0 : W15.cell? ⟨BP, 0, none⟩ = some (.int .i64 kd) := T15.out.box.cell 0
          have b1 : W15.cell? ⟨BP, 1, none⟩ = some (.int .i64 1) := T15.out.box.cell 1
          have b2 : W15.cell? ⟨BP, 2, none⟩ = some (.int .u64 (va : Int)) := T15.out.box.cell 2
          have b3 : W15.cell? ⟨BP, 3, none⟩ = some (.bool ev) := T15.out.box.cell 3
          have b4 : W15.cell? ⟨BP, 4, none⟩ = some (.bool er) := T15.out.box.cell 4
          have b5 : W15.cell? ⟨BP, 5, none⟩ = some (.bool ew) := T15.out.box.cell 5
          have b6 : W15.cell? ⟨BP, 6, none⟩ = some (.bool ex) := T15.out.box.cell 6
          have b7 : W15.cell? ⟨BP, 7, none⟩ = some (.bool eu) := T15.out.box.cell 7
          have b8 : W15.cell? ⟨BP, 8, none⟩ = some (.bool eg) := T15.out.box.cell 8
          have b9 : W15.cell? ⟨BP, 9, none⟩ = some (.bool ea) := T15.out.box.cell 9
          have b10 : W15.cell? ⟨BP, 10, none⟩ = some (.bool ed) := T15.out.box.cell 10
          have b11 : W15.cell? ⟨BP, 11, none⟩ = some (.int .i64 rs) := T15.out.box.cell 11
          have b12 : W15.cell? ⟨BP, 12, none⟩ = some (.int .u64 (pp : Int)) := T15.out.box.cell 12
          have blt := T15.out.box.lt
          have qf0 : W15.cell? ⟨BQ, 0, none⟩ = some (.bool ev) := HQ15.out.cell 0
          have qf1 : W15.cell? ⟨BQ, 1, none⟩ = some (.bool er) := HQ15.out.cell 1
          have qf2 : W15.cell? ⟨BQ, 2, none⟩ = some (.bool ew) := HQ15.out.cell 2
          have qf3 : W15.cell? ⟨BQ, 3, none⟩ = some (.bool ex) := HQ15.out.cell 3
          have qf4 : W15.cell? ⟨BQ, 4, none⟩ = some (.bool eu) := HQ15.out.cell 4
          have qf5 : W15.cell? ⟨BQ, 5, none⟩ = some (.bool eg) := HQ15.out.cell 5
          have qf6 : W15.cell? ⟨BQ, 6, none⟩ = some (.bool ea) := HQ15.out.cell 6
          have qf7 : W15.cell? ⟨BQ, 7, none⟩ = some (.bool ed) := HQ15.out.cell 7
          have qf8 : W15.cell? ⟨BQ, 8, none⟩ = some (.int .i64 rs) := HQ15.out.cell 8
          have qf9 : W15.cell? ⟨BQ, 9, none⟩ = some (.int .u64 (pp : Int)) := HQ15.out.cell 9
          have qlt := HQ15.out.lt
          try rw [HN5.out]
          go_wp2_with fail
          clear blt b0 b1 b2 b3 b4 b5 b6 b7 b8 b9 b10 b11 b12
          clear qlt qf0 qf1 qf2 qf3 qf4 qf5 qf6 qf7 qf8 qf9
          refine HPG.out.mono ?_
          rintro e w16 ⟨⟨y16, rfl, hy16⟩, hc⟩
          have hsm := rsame_yes y16 _ (sortP S.L) w16 hy16 (HY15.out.any hc).li (by rw [sortP_len]; omega)
          have C16 := Lib.hid (T15.out.chg.trans hc); have HSM := Lib.hid hsm
          clear hsm hc hy16 HPG
          go_wp2_with fail
          refine HSM.out.mono ?_
          rintro e w17 ⟨rfl, hc⟩
          have C17 := Lib.hid (C16.out.trans hc)
          clear hc
          go_wp2
          go_ret
          exact ⟨rfl, C17.out⟩
        · replace hL6 : RS.L = S.L ++ [⟨bas va 2, 2, ⟨ev, er, ew, ex, eu, eg, ea, ed, rs, pp⟩⟩] := hL6
          obtain ⟨b, hb0, hb1, hb2⟩ := page_bU va other 1073741824 (by omega) o3
          have hbb : bas b 2 = bas va 2 := bas_of (show b / 2 ^ (12 + 9 * 2) = va / 2 ^ (12 + 9 * 2) from hb2)
          have hcb : canN b = true := by rw [← bas_can (va := b) (l := 2) (by omega), hbb, bas_can (by omega)]; exact hcan
          obtain ⟨hpg6, hho6⟩ := mapped_hold hRT hL6 (by omega) hcb hbb
          have hdum := hho6
          clear hdum
          replace hb0 : (va : Int) - (va : Int) % 1073741824 + (other : Int) % 1073741824 = (b : Int) := hb0
          have hb4 : 0 ≤ (va : Int) - (va : Int) % 1073741824 ∧ (va : Int) - (va : Int) % 1073741824 < 18446744073709551616 := by omega
          have w1 : IntKind.u64.wrap ((va : Int) - (va : Int) % 1073741824) = (va : Int) - (va : Int) % 1073741824 := by rw [wrap_u64B]; omega
          have w2 : IntKind.u64.wrap ((va : Int) - (va : Int) % 1073741824 + (other : Int) % 1073741824) = (b : Int) := by rw [wrap_u64B]; omega
          have hm2e : mapT 0 80 80 b 2 ⟨ev, er, ew, ex, eu, eg, ea, ed, rs, pp⟩ RS = (RS, 130) := by
            unfold mapT
            rw [hcb, hmay]
            exact mapped_again hRT (by omega) hpg6 (2 - 2) (by omega)
          have HHO := Lib.hid hho6; have W1 := Lib.hid w1; have W2 := Lib.hid w2; have HM2 := Lib.hid hm2e; have HU6 := Lib.hid (mapped_unmap hRT hL6 (by omega) hcb hbb); have HB4 := Lib.hid (mapped_before hRT hL6 (by omega) hcan); have HL6 := Lib.hid hL6; have HBI := Lib.hid hb1
          clear w1 w2 hm2e hpg6 hho6 hb0 hb2 hbb hb4 hL6 hRT hmay hcb hcan hb1
          have b0 : w6.cell? ⟨BP, 0, none⟩ = some (.int .i64 kd) := T6.out.box.cell 0
          have b1 : w6.cell? ⟨BP, 1, none⟩ = some (.int .i64 2) := T6.out.box.cell 1
          have b2 : w6.cell? ⟨BP, 2, none⟩ = some (.int .u64 (va : Int)) := T6.out.box.cell 2
          have b3 : w6.cell? ⟨BP, 3, none⟩ = some (.bool ev) := T6.out.box.cell 3
          have b4 : w6.cell? ⟨BP, 4, none⟩ = some (.bool er) := T6.out.box.cell 4
          have b5 : w6.cell? ⟨BP, 5, none⟩ = some (.bool ew) := T6.out.box.cell 5
          have b6 : w6.cell? ⟨BP, 6, none⟩ = some (.bool ex) := T6.out.box.cell 6
          have b7 : w6.cell? ⟨BP, 7, none⟩ = some (.bool eu) := T6.out.box.cell 7
          have b8 : w6.cell? ⟨BP, 8, none⟩ = some (.bool eg) := T6.out.box.cell 8
          have b9 : w6.cell? ⟨BP, 9, none⟩ = some (.bool ea) := T6.out.box.cell 9
          have b10 : w6.cell? ⟨BP, 10, none⟩ = some (.bool ed) := T6.out.box.cell 10
          have b11 : w6.cell? ⟨BP, 11, none⟩ = some (.int .i64 rs) := T6.out.box.cell 11
          have b12 : w6.cell? ⟨BP, 12, none⟩ = some (.int .u64 (pp : Int)) := T6.out.box.cell 12
          have blt := T6.out.box.lt
          go_upto_region 18 with (fail)
          have w1 := W1.out
          have w2 := W2.out
          go_quiet (fail)
          have hT7 := T6.out.any (Chg.drewN no w6 nq)
          have hY7 := HY6.out.any (Chg.drewN no w6 nq)
          obtain ⟨W7, hW⟩ : ∃ W, W = w6.drewN nq := ⟨_, rfl⟩
          rw [← hW] at hT7 hY7 ⊢
          have T7 := Lib.hid hT7; have HY7 := Lib.hid hY7
          clear blt b0 b1 b2 b3 b4 b5 b6 b7 b8 b9 b10 b11 b12
          clear hT7 hY7 hW w1 w2
          have hf1 := I.find b T7.out.tx HBI.out
          try dsimp only at hf1
          rw [HHO.out] at hf1
          simp only [Option.isSome_some, if_true] at hf1
          have HF1 := Lib.hid hf1; clear hf1
          go_wp2_with fail
          refine HF1.out.mono ?_
          rintro e w8 ⟨⟨l8, rfl, hl8⟩, hc⟩
          have T8 := Lib.hid (T7.out.any hc); have HY8 := Lib.hid (HY7.out.any hc)
          obtain ⟨hle, hll⟩ := hl8 _ rfl
          obtain ⟨le, ll, lq⟩ := l8
          dsimp only at hle hll
          subst hle hll
          clear hc HF1 hl8
          unfold lfv
          try dsimp only
          go_upto_region 20 with (fail)
          have hT9 := T8.out.any (Chg.alloc no w8 (.cells #[.bool ev, .bool er, .bool ew, .bool ex, .bool eu, .bool eg, .bool ea, .bool ed, .int .i64 rs, .int .u64 (pp : Int), .int .i64 2, .int .u64 (lq : Int)] 43))
          have hY9 := HY8.out.any (Chg.alloc no w8 (.cells #[.bool ev, .bool er, .bool ew, .bool ex, .bool eu, .bool eg, .bool ea, .bool ed, .int .i64 rs, .int .u64 (pp : Int), .int .i64 2, .int .u64 (lq : Int)] 43))
          have nb := Blk.new w8 [.bool ev, .bool er, .bool ew, .bool ex, .bool eu, .bool eg, .bool ea, .bool ed, .int .i64 rs, .int .u64 (pp : Int), .int .i64 2, .int .u64 (lq : Int)] 43
          obtain ⟨BL, hBL⟩ : ∃ B, B = w8.heap.size := ⟨_, rfl⟩
          obtain ⟨W9, hW⟩ : ∃ W, W = w8.alloc (.cells #[.bool ev, .bool er, .bool ew, .bool ex, .bool eu, .bool eg, .bool ea, .bool ed, .int .i64 rs, .int .u64 (pp : Int), .int .i64 2, .int .u64 (lq : Int)] 43) := ⟨_, rfl⟩
          rw [← hW] at hT9 hY9 nb ⊢
          rw [← hBL] at nb
          try rw [← hBL]
          have T9 := Lib.hid hT9; have HY9 := Lib.hid hY9; have HL9 := Lib.hid nb
          clear hT9 hY9 nb hW hBL T8 HY8
          have hm2 := I.map b 2 ⟨ev, er, ew, ex, eu, eg, ea, ed, rs, pp⟩ T9.out.tx (by omega) HBI.out (by decide) o4 o5
          rw [HM2.out] at hm2
          unfold pv at hm2
          dsimp only at hm2
          have HMM := Lib.hid hm2; clear hm2
          have b0 : W9.cell? ⟨BP, 0, none⟩ = some (.int .i64 kd) := T9.out.box.cell 0
          have b1 : W9.cell? ⟨BP, 1, none⟩ = some (.int .i64 2) := T9.out.box.cell 1
          have b2 : W9.cell? ⟨BP, 2, none⟩ = some (.int .u64 (va : Int)) := T9.out.box.cell 2
          have b3 : W9.cell? ⟨BP, 3, none⟩ = some (.bool ev) := T9.out.box.cell 3
          have b4 : W9.cell? ⟨BP, 4, none⟩ = some (.bool er) := T9.out.box.cell 4
          have b5 : W9.cell? ⟨BP, 5, none⟩ = some (.bool ew) := T9.out.box.cell 5
          have b6 : W9.cell? ⟨BP, 6, none⟩ = some (.bool ex) := T9.out.box.cell 6
          have b7 : W9.cell? ⟨BP, 7, none⟩ = some (.bool eu) := T9.out.box.cell 7
          have b8 : W9.cell? ⟨BP, 8, none⟩ = some (.bool eg) := T9.out.box.cell 8
          have b9 : W9.cell? ⟨BP, 9, none⟩ = some (.bool ea) := T9.out.box.cell 9
          have b10 : W9.cell? ⟨BP, 10, none⟩ = some (.bool ed) := T9.out.box.cell 10
          have b11 : W9.cell? ⟨BP, 11, none⟩ = some (.int .i64 rs) := T9.out.box.cell 11
          have b12 : W9.cell? ⟨BP, 12, none⟩ = some (.int .u64 (pp : Int)) := T9.out.box.cell 12
          have blt := T9.out.box.lt
          have lf0 : W9.cell? ⟨BL, 0, none⟩ = some (.bool ev) := HL9.out.cell 0
          have lf1 : W9.cell? ⟨BL, 1, none⟩ = some (.bool er) := HL9.out.cell 1
          have lf2 : W9.cell? ⟨BL, 2, none⟩ = some (.bool ew) := HL9.out.cell 2
          have lf3 : W9.cell? ⟨BL, 3, none⟩ = some (.bool ex) := HL9.out.cell 3
          have lf4 : W9.cell? ⟨BL, 4, none⟩ = some (.bool eu) := HL9.out.cell 4
          have lf5 : W9.cell? ⟨BL, 5, none⟩ = some (.bool eg) := HL9.out.cell 5
          have lf6 : W9.cell? ⟨BL, 6, none⟩ = some (.bool ea) := HL9.out.cell 6
          have lf7 : W9.cell? ⟨BL, 7, none⟩ = some (.bool ed) := HL9.out.cell 7
          have lf8 : W9.cell? ⟨BL, 8, none⟩ = some (.int .i64 rs) := HL9.out.cell 8
          have lf9 : W9.cell? ⟨BL, 9, none⟩ = some (.int .u64 (pp : Int)) := HL9.out.cell 9
          have lf10 : W9.cell? ⟨BL, 10, none⟩ = some (.int .i64 2) := HL9.out.cell 10
          have lf11 : W9.cell? ⟨BL, 11, none⟩ = some (.int .u64 (lq : Int)) := HL9.out.cell 11
          have llt := HL9.out.lt
          go_wp2_with fail
          clear blt b0 b1 b2 b3 b4 b5 b6 b7 b8 b9 b10 b11 b12
          clear llt lf0 lf1 lf2 lf3 lf4 lf5 lf6 lf7 lf8 lf9 lf10 lf11
          refine HMM.out.mono ?_
          rintro e w10 ⟨rfl, F10, htx, hF, hc⟩
          have T10 := Lib.hid (T9.out.step htx hF hc (by have := T9.out.hL; omega)); have HY10 := Lib.hid (HY9.out.step hF hc)
          clear htx hF hc HMM T9 HY9 HL9
          have hp10 := I.pages T10.out.tx (by have := T10.out.hL; omega)
          try dsimp only at hp10
          have HPG := Lib.hid hp10; clear hp10
          go_wp2_with fail
          refine HPG.out.mono ?_
          rintro e w11 ⟨⟨y11, rfl, hy11⟩, hc⟩
          have T11 := Lib.hid (T10.out.any hc); have HY11 := Lib.hid (HY10.out.any hc)
          obtain ⟨A11, c11, rfl, _, _, _⟩ := hy11
          clear hc HPG T10 HY10
          have hlen1 : (sortP RS.L).length = (sortP S.L).length + 1 := by rw [sortP_len, sortP_len, HL6.out, List.length_append]; rfl
          rw [hlen1]
          clear hlen1
          have hlen2 : IntKind.i64.wrap (((sortP S.L).length : Int) + 1) = ((sortP S.L).length : Int) + 1 := by
            have : (sortP S.L).length = S.L.length := sortP_len _
            simp [IntKind.wrap, IntKind.bits, IntKind.signed]; omega
          obtain ⟨n5, hn5⟩ : ∃ k, k = (sortP S.L).length := ⟨_, rfl⟩
          rw [← hn5] at hlen2 ⊢
          have HN5 := Lib.hid hn5; clear hn5
          have hun := I.unmap b T11.out.tx (by omega) HBI.out
          rw [HU6.out] at hun
          unfold pv at hun
          try dsimp only at hun
          have HUN := Lib.hid hun; clear hun
          go_wp2_with fail
          clear hlen2
          refine HUN.out.mono ?_
          rintro e w12 ⟨rfl, F12, htx, hF, hc⟩
          have T12 := Lib.hid (T11.out.step htx hF hc (by show S.L.length ≤ _; omega)); have HY12 := Lib.hid (HY11.out.step hF hc)
          clear htx hF hc HUN T11 HY11
          go_upto_region 23 with (fail)
          have hT13 := T12.out.any (Chg.alloc no w12 (.cells #[.bool ev, .bool er, .bool ew, .bool ex, .bool eu, .bool eg, .bool ea, .bool ed, .int .i64 rs, .int .u64 (pp : Int)] 39))
          have hY13 := HY12.out.any (Chg.alloc no w12 (.cells #[.bool ev, .bool er, .bool ew, .bool ex, .bool eu, .bool eg, .bool ea, .bool ed, .int .i64 rs, .int .u64 (pp : Int)] 39))
          have nb := Blk.new w12 [.bool ev, .bool er, .bool ew, .bool ex, .bool eu, .bool eg, .bool ea, .bool ed, .int .i64 rs, .int .u64 (pp : Int)] 39
          obtain ⟨BQ, hBQ⟩ : ∃ B, B = w12.heap.size := ⟨_, rfl⟩
          obtain ⟨W13, hW⟩ : ∃ W, W = w12.alloc (.cells #[.bool ev, .bool er, .bool ew, .bool ex, .bool eu, .bool eg, .bool ea, .bool ed, .int .i64 rs, .int .u64 (pp : Int)] 39) := ⟨_, rfl⟩
          rw [← hW] at hT13 hY13 nb ⊢
          rw [← hBQ] at nb
          try rw [← hBQ]
          have T13 := Lib.hid hT13; have HY13 := Lib.hid hY13; have HQ13 := Lib.hid nb
          clear hT13 hY13 nb hW hBQ T12 HY12
          have b0 : W13.cell? ⟨BP, 0, none⟩ = some (.int .i64 kd) := T13.out.box.cell 0
          have b1 : W13.cell? ⟨BP, 1, none⟩ = some (.int .i64 2) := T13.out.box.cell 1
          have b2 : W13.cell? ⟨BP, 2, none⟩ = some (.int .u64 (va : Int)) := T13.out.box.cell 2
          have b3 : W13.cell? ⟨BP, 3, none⟩ = some (.bool ev) := T13.out.box.cell 3
          have b4 : W13.cell? ⟨BP, 4, none⟩ = some (.bool er) := T13.out.box.cell 4
          have b5 : W13.cell? ⟨BP, 5, none⟩ = some (.bool ew) := T13.out.box.cell 5
          have b6 : W13.cell? ⟨BP, 6, none⟩ = some (.bool ex) := T13.out.box.cell 6
          have b7 : W13.cell? ⟨BP, 7, none⟩ = some (.bool eu) := T13.out.box.cell 7
          have b8 : W13.cell? ⟨BP, 8, none⟩ = some (.bool eg) := T13.out.box.cell 8
          have b9 : W13.cell? ⟨BP, 9, none⟩ = some (.bool ea) := T13.out.box.cell 9
          have b10 : W13.cell? ⟨BP, 10, none⟩ = some (.bool ed) := T13.out.box.cell 10
          have b11 : W13.cell? ⟨BP, 11, none⟩ = some (.int .i64 rs) := T13.out.box.cell 11
          have b12 : W13.cell? ⟨BP, 12, none⟩ = some (.int .u64 (pp : Int)) := T13.out.box.cell 12
          have blt := T13.out.box.lt
          have hf2 := I.find va T13.out.tx o3
          try dsimp only at hf2
          rw [HB4.out] at hf2
          simp only [Option.isSome_none, Bool.false_eq_true, if_false] at hf2
          have HF2 := Lib.hid hf2; clear hf2
          go_wp2_with fail
          clear blt b0 b1 b2 b3 b4 b5 b6 b7 b8 b9 b10 b11 b12
          refine HF2.out.mono ?_
          rintro e w14 ⟨⟨l14, rfl, hl14⟩, hc⟩
          have T14 := Lib.hid (T13.out.any hc); have HY14 := Lib.hid (HY13.out.any hc); have HQ14 := Lib.hid (HQ13.out.chg hc (fun h => h))
          obtain ⟨⟨v, r, x, y, u, g, a, d, sw, pn⟩, ll, lz⟩ := l14
          clear hc HF2 hl14 T13 HY13 HQ13
          unfold lfv
          try dsimp only
          go_upto_region 24 with (fail)
          have hT15 := T14.out.any (Chg.alloc no w14 (.cells #[.bool v, .bool r, .bool x, .bool y, .bool u, .bool g, .bool a, .bool d, .int .i64 sw, .int .u64 (pn : Int), .int .i64 (ll : Int), .int .u64 (lz : Int)] 43))
          have hY15 := HY14.out.any (Chg.alloc no w14 (.cells #[.bool v, .bool r, .bool x, .bool y, .bool u, .bool g, .bool a, .bool d, .int .i64 sw, .int .u64 (pn : Int), .int .i64 (ll : Int), .int .u64 (lz : Int)] 43))
          have hQ15 := HQ14.out.alloc (.cells #[.bool v, .bool r, .bool x, .bool y, .bool u, .bool g, .bool a, .bool d, .int .i64 sw, .int .u64 (pn : Int), .int .i64 (ll : Int), .int .u64 (lz : Int)] 43)
          obtain ⟨W15, hW⟩ : ∃ W, W = w14.alloc (.cells #[.bool v, .bool r, .bool x, .bool y, .bool u, .bool g, .bool a, .bool d, .int .i64 sw, .int .u64 (pn : Int), .int .i64 (ll : Int), .int .u64 (lz : Int)] 43) := ⟨_, rfl⟩
          obtain ⟨BZ, hBZ⟩ : ∃ B, B = w14.heap.size := ⟨_, rfl⟩
          rw [← hW] at hT15 hY15 hQ15 ⊢
          try rw [← hBZ]
          have T15 := Lib.hid hT15; have HY15 := Lib.hid hY15; have HQ15 := Lib.hid hQ15
          clear hT15 hY15 hQ15 hW hBZ T14 HY14 HQ14
          have hp15 := I.pages T15.out.tx (by show S.L.length ≤ 100; omega)
          try dsimp only at hp15
          have HPG := Lib.hid hp15; clear hp15
          have b0 : W15.cell? ⟨BP, 0, none⟩ = some (.int .i64 kd) := T15.out.box.cell 0
          have b1 : W15.cell? ⟨BP, 1, none⟩ = some (.int .i64 2) := T15.out.box.cell 1
          have b2 : W15.cell? ⟨BP, 2, none⟩ = some (.int .u64 (va : Int)) := T15.out.box.cell 2
          have b3 : W15.cell? ⟨BP, 3, none⟩ = some (.bool ev) := T15.out.box.cell 3
          have b4 : W15.cell? ⟨BP, 4, none⟩ = some (.bool er) := T15.out.box.cell 4
          have b5 : W15.cell? ⟨BP, 5, none⟩ = some (.bool ew) := T15.out.box.cell 5
          have b6 : W15.cell? ⟨BP, 6, none⟩ = some (.bool ex) := T15.out.box.cell 6
          have b7 : W15.cell? ⟨BP, 7, none⟩ = some (.bool eu) := T15.out.box.cell 7
          have b8 : W15.cell? ⟨BP, 8, none⟩ = some (.bool eg) := T15.out.box.cell 8
          have b9 : W15.cell? ⟨BP, 9, none⟩ = some (.bool ea) := T15.out.box.cell 9
          have b10 : W15.cell? ⟨BP, 10, none⟩ = some (.bool ed) := T15.out.box.cell 10
          have b11 : W15.cell? ⟨BP, 11, none⟩ = some (.int .i64 rs) := T15.out.box.cell 11
          have b12 : W15.cell? ⟨BP, 12, none⟩ = some (.int .u64 (pp : Int)) := T15.out.box.cell 12
          have blt := T15.out.box.lt
          have qf0 : W15.cell? ⟨BQ, 0, none⟩ = some (.bool ev) := HQ15.out.cell 0
          have qf1 : W15.cell? ⟨BQ, 1, none⟩ = some (.bool er) := HQ15.out.cell 1
          have qf2 : W15.cell? ⟨BQ, 2, none⟩ = some (.bool ew) := HQ15.out.cell 2
          have qf3 : W15.cell? ⟨BQ, 3, none⟩ = some (.bool ex) := HQ15.out.cell 3
          have qf4 : W15.cell? ⟨BQ, 4, none⟩ = some (.bool eu) := HQ15.out.cell 4
          have qf5 : W15.cell? ⟨BQ, 5, none⟩ = some (.bool eg) := HQ15.out.cell 5
          have qf6 : W15.cell? ⟨BQ, 6, none⟩ = some (.bool ea) := HQ15.out.cell 6
          have qf7 : W15.cell? ⟨BQ, 7, none⟩ = some (.bool ed) := HQ15.out.cell 7
          have qf8 : W15.cell? ⟨BQ, 8, none⟩ = some (.int .i64 rs) := HQ15.out.cell 8
          have qf9 : W15.cell? ⟨BQ, 9, none⟩ = some (.int .u64 (pp : Int)) := HQ15.out.cell 9
          have qlt := HQ15.out.lt
          try rw [HN5.out]
          go_wp2_with fail
          clear blt b0 b1 b2 b3 b4 b5 b6 b7 b8 b9 b10 b11 b12
          clear qlt qf0 qf1 qf2 qf3 qf4 qf5 qf6 qf7 qf8 qf9
          refine HPG.out.mono ?_
          rintro e w16 ⟨⟨y16, rfl, hy16⟩, hc⟩
          have hsm := rsame_yes y16 _ (sortP S.L) w16 hy16 (HY15.out.any hc).li (by rw [sortP_len]; omega)
          have C16 := Lib.hid (T15.out.chg.trans hc); have HSM := Lib.hid hsm
          clear hsm hc hy16 HPG
          go_wp2_with fail
          refine HSM.out.mono ?_
          rintro e w17 ⟨rfl, hc⟩
          have C17 := Lib.hid (C16.out.trans hc)
          clear hc
          go_wp2
          go_ret
          exact ⟨rfl, C17.out⟩
      · have hze : (RE == 0) = false := by simp [hz]
        have hL6 : RS.L = S.L := by
          have h1 := mapT_err (first := 0) (n := 80) (fs := 80) (va := va) (l := lv) (e := ⟨ev, er, ew, ex, eu, eg, ea, ed, rs, pp⟩) (S := S)
          rw [← HR.out] at h1
          exact h1 hz
        have hpg := I.pages T6.out.tx (by have := T6.out.hL; omega)
        dsimp only at hpg
        rw [hL6] at hpg
        have HPG := Lib.hid hpg; clear hpg
        go_wp2_with fail
        refine HPG.out.mono ?_
        rintro e w7 ⟨⟨y7, rfl, hy7⟩, hc7⟩
        have hsm := rsame_yes y7 _ (sortP S.L) w7 hy7 (HY6.out.any hc7).li (by rw [sortP_len]; have := T5.out.hL; omega)
        have C7 := Lib.hid (T6.out.chg.trans hc7); have HSM := Lib.hid hsm
        clear hsm hc7 hy7 HPG
        go_wp2_with fail
        refine HSM.out.mono ?_
        rintro e w8 ⟨rfl, hc8⟩
        have C8 := Lib.hid (C7.out.trans hc8)
        clear hc8
        go_wp2
        go_ret
        exact ⟨rfl, C8.out⟩
end Go.Proofs.Ytdakfgefnapglaa
