/-
  Layer 13, TablePlays: its walk over the interface of package table.
-/
import Derived.Test.YtdakfgefnapglaaLawI13
import Derived.Deep.Cut
import Derived.Deep.CutRange
import Derived.Deep.CutBlock
import Derived.Deep.QuietTactic
import Derived.BigQuiet
namespace Go.Proofs.Ytdakfgefnapglaa
open Go.RowKit
set_option linter.unusedVariables false
set_option linter.unusedSimpArgs false
attribute [local go_sem] setCell_drewN alloc_drewN

/-- the program's tables and the document's, side by side -/
structure PairT (I : TabI) (w wr : World) (tp sp rp : Nat) (F : Nat → Prop) (vL vT : Value) (S : Tt) (first n fs k : Nat) : Prop where
  tx : I.TX first n fs wr tp sp F S k
  rf : RfT wr rp vL vT S first n fs
  fF : ∀ j, F j → w.heap.size ≤ j
  fL : ∀ j, vL.ownBlock = some j → w.heap.size ≤ j
  fT : ∀ j, vT.ownBlock = some j → w.heap.size ≤ j
  br : w.heap.size ≤ rp
  s1 : ¬ F rp
  s2 : ∀ j, vL.ownBlock = some j → ¬ F j
  s3 : ∀ j, vT.ownBlock = some j → ¬ F j
  chg : Chg no w wr
  hL : S.L.length ≤ k
  hT : S.T.length ≤ 2 * k
section
variable {I : TabI} {w wr w1 w2 : World} {tp sp rp first n fs k : Nat} {F F' : Nat → Prop} {vL vT vL' vT' : Value} {S S' : Tt}
theorem PairT.any (T : PairT I w wr tp sp rp F vL vT S first n fs k) (hc : Chg no wr w1) : PairT I w w1 tp sp rp F vL vT S first n fs k :=
  ⟨I.chg T.tx hc (fun _ _ h => h), T.rf.any hc, T.fF, T.fL, T.fT, T.br, T.s1, T.s2, T.s3, T.chg.trans hc, T.hL, T.hT⟩
theorem PairT.ref1 (T : PairT I w wr tp sp rp F vL vT S first n fs k) (hc : Chg F wr w1) : RfT w1 rp vL vT S first n fs := T.rf.chg hc T.s1 T.s2 T.s3
theorem PairT.used (T : PairT I w wr tp sp rp F vL vT S first n fs k) : S.used ≤ 2 * k + 1 := by
  obtain ⟨M, h⟩ := I.rt T.tx
  have := h.used
  have := T.hT
  omega
theorem PairT.join (T : PairT I w wr tp sp rp F vL vT S first n fs k) (tx : I.TX first n fs w1 tp sp F' S' (k + 1)) (hF : ∀ j, F' j → F j ∨ wr.heap.size ≤ j) (hc1 : Chg F wr w1)
    (rf : RfT w2 rp vL' vT' S' first n fs) (nL : ∀ j, vL'.ownBlock = some j → vL.ownBlock = some j ∨ w1.heap.size ≤ j) (nT : ∀ j, vT'.ownBlock = some j → vT.ownBlock = some j ∨ w1.heap.size ≤ j) (hc2 : Chg (fun j => j = rp) w1 w2)
    (hL : S'.L.length ≤ k + 1) (hT : S'.T.length ≤ 2 * (k + 1)) : PairT I w w2 tp sp rp F' vL' vT' S' first n fs (k + 1) := by
  have z0 := T.chg.size
  have z1 := hc1.size
  have zr := T.rf.blk.lt
  have f1 : ¬ F' rp := fun h => (hF rp h).elim T.s1 (fun h => by omega)
  have hlt := I.lt tx
  refine ⟨I.chg tx hc2 (fun j hj e => f1 (by have e : j = rp := e; rw [← e]; exact hj)), rf, fun j hj => ?_, fun j hj => ?_, fun j hj => ?_, T.br, f1, fun j hj h => ?_, fun j hj h => ?_, ?_, hL, hT⟩
  · exact (hF j hj).elim (T.fF j) (fun h => by omega)
  · exact (nL j hj).elim (T.fL j) (fun h => by omega)
  · exact (nT j hj).elim (T.fT j) (fun h => by omega)
  · rcases nL j hj with h2 | h2
    · have := (T.rf.ownL.lt j h2).2
      exact (hF j h).elim (T.s2 j h2) (fun h => by omega)
    · have := hlt j h; omega
  · rcases nT j hj with h2 | h2
    · have := (T.rf.ownT.lt j h2).2
      exact (hF j h).elim (T.s3 j h2) (fun h => by omega)
    · have := hlt j h; omega
  · refine ⟨hc2.os.trans (hc1.os.trans T.chg.os), hc2.tape.trans (hc1.tape.trans T.chg.tape), hc2.output.trans (hc1.output.trans T.chg.output), Nat.le_trans (Nat.le_trans z0 z1) hc2.size, fun j hj hn => ?_⟩
    rw [hc2.block j (by omega) (fun e => by have e : j = rp := e; have := T.br; omega), hc1.block j (by omega) (fun e => by have := T.fF j e; omega), T.chg.block j hj hn]
end
theorem mapT_len (first n fs va : Nat) (l : Int) (e : Ent) (S : Tt) : (mapT first n fs va l e S).1.L.length ≤ S.L.length + 1 ∧ (mapT first n fs va l e S).1.T.length ≤ S.T.length + 2 := by
  unfold mapT
  split
  · have := desc_len (first := first) (n := n) (fs := fs) (va := va) (lv := l.toNat) (e := e) (2 - l.toNat) S
    exact ⟨this.1, by omega⟩
  · exact ⟨Nat.le_succ _, by dsimp only; omega⟩
theorem chgT_len (va : Nat) (e : Ent) (S : Tt) : (chgT va e S).1.L.length = S.L.length ∧ (chgT va e S).1.T = S.T := by
  unfold chgT
  split
  · exact ⟨rfl, rfl⟩
  split
  · exact ⟨by dsimp only; unfold setE; rw [List.length_set], rfl⟩
  · exact ⟨rfl, rfl⟩
theorem unmT_len (va : Nat) (S : Tt) : (unmT va S).1.L.length ≤ S.L.length ∧ (unmT va S).1.T = S.T := by
  unfold unmT
  split
  · exact ⟨Nat.le_refl _, rfl⟩
  · exact ⟨by dsimp only; exact List.length_eraseIdx_le _ _, rfl⟩
theorem takE_cases (first n fs used : Nat) : takE first n fs used = 0 ∨ takE first n fs used = 50 ∨ takE first n fs used = 61 := by
  unfold takE
  split
  · exact .inr (.inl rfl)
  split
  · exact .inr (.inr rfl)
  · exact .inl rfl
theorem load_u13 {w : World} {b k : Nat} {c : Value} (h : w.cell? ⟨b, k, none⟩ = some c) : (Instr.loadAt 37 (.pointer (some ⟨b, k, none⟩))).run Try.prog w = .ok c w := by
  go_simp
theorem yield_u13 {w : World} {b k : Nat} {c : Value} (a : Act) (o : Oper) (x : Operand) (ho : o.op = .load 37 x) (hx : a.eval x = .pointer (some ⟨b, k, none⟩)) (h : w.cell? ⟨b, k, none⟩ = some c) :
    (execOp a.eval o).run Try.prog w = .ok (.value c) w := by
  have e := load_u13 h
  obtain ⟨op, _, _, _, _, _⟩ := o
  dsimp only at ho
  subst ho
  unfold execOp
  simp only [hx]
  simp [e]
theorem load_pteo {w : World} {b o : Nat} {c0 c1 c2 c3 c4 c5 c6 c7 c8 c9 : Value} (h0 : w.cell? ⟨b, o, none⟩ = some c0) (h1 : w.cell? ⟨b, o + 1, none⟩ = some c1) (h2 : w.cell? ⟨b, o + 2, none⟩ = some c2) (h3 : w.cell? ⟨b, o + 3, none⟩ = some c3) (h4 : w.cell? ⟨b, o + 4, none⟩ = some c4) (h5 : w.cell? ⟨b, o + 5, none⟩ = some c5) (h6 : w.cell? ⟨b, o + 6, none⟩ = some c6) (h7 : w.cell? ⟨b, o + 7, none⟩ = some c7) (h8 : w.cell? ⟨b, o + 8, none⟩ = some c8) (h9 : w.cell? ⟨b, o + 9, none⟩ = some c9) : (Instr.loadAt 39 (.pointer (some ⟨b, o, none⟩))).run Try.prog w = .ok (.agg #[c0, c1, c2, c3, c4, c5, c6, c7, c8, c9]) w := by
  go_simp
theorem yield_pteo {w : World} {b o : Nat} {c0 c1 c2 c3 c4 c5 c6 c7 c8 c9 : Value} (a : Act) (oo : Oper) (x : Operand) (ho : oo.op = .load 39 x) (hx : a.eval x = .pointer (some ⟨b, o, none⟩)) (h0 : w.cell? ⟨b, o, none⟩ = some c0) (h1 : w.cell? ⟨b, o + 1, none⟩ = some c1) (h2 : w.cell? ⟨b, o + 2, none⟩ = some c2) (h3 : w.cell? ⟨b, o + 3, none⟩ = some c3) (h4 : w.cell? ⟨b, o + 4, none⟩ = some c4) (h5 : w.cell? ⟨b, o + 5, none⟩ = some c5) (h6 : w.cell? ⟨b, o + 6, none⟩ = some c6) (h7 : w.cell? ⟨b, o + 7, none⟩ = some c7) (h8 : w.cell? ⟨b, o + 8, none⟩ = some c8) (h9 : w.cell? ⟨b, o + 9, none⟩ = some c9) :
    (execOp a.eval oo).run Try.prog w = .ok (.value (.agg #[c0, c1, c2, c3, c4, c5, c6, c7, c8, c9])) w := by
  have e := load_pteo h0 h1 h2 h3 h4 h5 h6 h7 h8 h9
  obtain ⟨op, _, _, _, _, _⟩ := oo
  dsimp only at ho
  subst ho
  unfold execOp
  simp only [hx]
  simp [e]
theorem find_map (L : List Pg) (va l : Nat) : (pagI L va l).map (entOf L) = pg L va l := by
  unfold pg pagI
  rw [find_idx]
  cases h : L.findIdx? (isP va l) with
  | none => rfl
  | some k =>
    obtain ⟨hk, _, _⟩ := List.findIdx?_eq_some_iff_getElem.1 h
    show some (entOf L k) = L[k]?
    rw [entOf_at hk, List.getElem?_eq_getElem hk]
theorem or_map {α β : Type} (f : α → β) (a b : Option α) : (a.or b).map f = (a.map f).or (b.map f) := by cases a <;> rfl
theorem hold_holdP (L : List Pg) (va : Nat) : (hold L va).map (entOf L) = holdP L va := by
  unfold hold holdP
  split
  · rw [or_map, or_map, find_map, find_map, find_map]
  · rfl
set_option maxRecDepth 100000 in
set_option maxHeartbeats 64000000 in
theorem plays_walk (I : TabI) (hfirst : ∀ w, Calls Try.prog 5 #[] w fun e w' => e = .returned (.bool true) ∧ Chg no w w') (n0 m0 : Nat) (A : Option Addr) (len cap : Nat) (acts : List Ac) (w : World) (hn0 : n0 < 256) (hm0 : m0 < 256) (hS : IsAcs w A len acts) (hl : len ≤ 9223372036854775807) :
    Calls Try.prog 3 #[.int .u8 n0, .int .u8 m0, .slice A len cap] w fun e w' => e = .returned (.bool true) ∧ Chg no w w' := by
  obtain ⟨fs, hfs⟩ : ∃ k, k = 3 + m0 % 30 := ⟨_, rfl⟩
  obtain ⟨n, hn⟩ : ∃ k, k = n0 % 24 := ⟨_, rfl⟩
  have f1 : 1 ≤ fs := by omega
  have f2 : fs ≤ 33 := by omega
  have n1 : n ≤ 24 := by omega
  have e1 : IntKind.i64.wrap (3 + (m0 : Int) % 30) = (fs : Int) := by simp [IntKind.wrap, IntKind.bits, IntKind.signed]; omega
  have e2 : (m0 : Int).tmod 30 = (m0 : Int) % 30 := Int.tmod_eq_emod_of_nonneg (by omega)
  have e3 : (n0 : Int) % 24 = (n : Int) := by omega
  have hnew := fun w => newX fs w f1 (by omega)
  have hstk := fun w => new_yesF (2 : Int) n w (by omega) (by omega)
  have HF := Lib.hid hfirst; have HNEW := Lib.hid hnew; have HSTK := Lib.hid hstk; have HS := Lib.hid hS
  have E1 := Lib.hid e1; have HFS := Lib.hid hfs; have HNN := Lib.hid hn
  have E3 := Lib.hid e3
  clear hfirst hnew hstk hS hfs hn e2 e1 e3
  go_enter Try.func3, Try.ntmps3
  go_wp2_with fail
  refine (HF.out _).mono ?_
  rintro e w1 ⟨rfl, hc1⟩
  have C1 := Lib.hid hc1; clear hc1
  have e1 := E1.out
  go_wp2_with fail
  clear e1
  refine (HNEW.out _).mono ?_
  rintro e w2 ⟨mp, Fm, rfl, hmp, hFm, hM2, hc2⟩
  have hFm' : ∀ j, Fm j → w.heap.size ≤ j := fun j hj => by have := hFm j hj; have := C1.out.size; omega
  have hmp := Nat.le_trans C1.out.size hmp
  have C2 := Lib.hid (C1.out.trans hc2); have HM2 := Lib.hid hM2; have HFM := Lib.hid hFm'; have HMP := Lib.hid hmp
  clear hc2 hM2 hFm hFm' hmp C1
  have e3 := E3.out
  go_wp2_with fail
  clear e3
  refine (HSTK.out _).mono ?_
  rintro e w3 ⟨sp, Gs, rfl, hk3, hGs, hc3⟩
  have hM3 := HM2.out.chg hc3 (fun h => h) (fun _ _ h => h)
  have hdis : ∀ j, (Fm j ∨ j = mp) → ¬ Gs j := fun j h1 h2 => by
    have := h1.elim (HM2.out.lt j) (fun h => h ▸ HM2.out.mplt)
    have := hGs j h2
    omega
  have z2 := C2.out.size
  have hfoot : ∀ j, (Fm j ∨ Gs j) → w.heap.size ≤ j := fun j hj => hj.elim (fun h => by have := HFM.out j h; have := C2.out.size; omega) (fun h => by have := hGs j h; omega)
  have C3 := Lib.hid (C2.out.trans hc3); have HM3 := Lib.hid hM3; have HK3 := Lib.hid hk3; have HDIS := Lib.hid hdis; have HFOOT := Lib.hid hfoot
  clear hc3 hM3 hk3 hGs hdis hfoot C2 HM2 HFM z2
  by_cases htk : takE 2 n fs 0 = 0
  · have hnt := I.new_yes 2 n fs w3 mp sp Fm Gs HM3.out HK3.out HDIS.out htk
    have hrn := fun w => rnew_yes 2 n fs w (by omega) (by omega) (by omega) htk
    have HNT := Lib.hid hnt; have HRN := Lib.hid hrn
    clear hnt hrn htk
    go_wp2_with fail
    refine HNT.out.mono ?_
    rintro e w4 ⟨tp, F, rfl, htx, hF, hc4⟩
    have z3 := C3.out.size
    have hF4 : ∀ j, F j → w.heap.size ≤ j := fun j hj => by
      rcases hF j hj with (h | rfl) | h | h
      · exact HFOOT.out j (.inl h)
      · exact HMP.out
      · exact HFOOT.out j (.inr h)
      · omega
    have C4 := Lib.hid (show Chg no w w4 from ⟨hc4.os.trans C3.out.os, hc4.tape.trans C3.out.tape, hc4.output.trans C3.out.output, Nat.le_trans C3.out.size hc4.size, fun j hj hn => (hc4.block j (by have := C3.out.size; omega) (fun h => by have := HFOOT.out j h; omega)).trans (C3.out.block j hj hn)⟩)
    have HTX := Lib.hid htx; have HF4 := Lib.hid hF4
    clear htx hF hF4 hc4 C3 z3
    have e3 := E3.out
    go_wp2_with fail
    clear e3
    refine (HRN.out _).mono ?_
    rintro e w5 ⟨rp, rfl, hR5, hrp5, hc5⟩
    have hP : PairT I w w5 tp sp rp F (.slice none 0 0) (.slice none 0 0) ⟨[], [], 1⟩ 2 n fs 0 := by
      have z4 := C4.out.size
      have hlt := I.lt HTX.out
      exact ⟨I.chg HTX.out hc5 (fun _ _ h => h), hR5, HF4.out, fun j hj => (by cases hj), fun j hj => (by cases hj), by omega, fun h => by have := hlt _ h; omega, fun j hj => (by cases hj), fun j hj => (by cases hj), C4.out.trans hc5, Nat.zero_le _, Nat.zero_le _⟩
    have HP := Lib.hid hP
    clear hR5 hrp5 hc5 hP C4 HTX HF4
    go_wp2
    go_loopw [130] (fun i wr => ∃ (k kk : Nat) (F : Nat → Prop) (vL vT : Value) (S : Tt), k ≤ len ∧ k ≤ 40 ∧ kk ≤ k ∧ i = .int .i64 (k : Int) ∧ PairT I w wr tp sp rp F vL vT S 2 n fs kk) (fun i _ => len - (intOf i).toNat)
    case atStart => exact ⟨0, 0, F, _, _, _, Nat.zero_le _, Nat.zero_le _, Nat.le_refl _, rfl, HP.out⟩
    case round =>
      obtain ⟨k, kk, F, vL, vT, S, hk, hk40, hkk, rfl, hT⟩ := hrel
      have T := Lib.hid hT
      clear hT HP
      by_cases hlt : k < len
      · obtain ⟨hal, hao, hac⟩ := HS.out
        obtain ⟨b, off, rfl, hcx⟩ := hac (by omega)
        have hkl : k < acts.length := by omega
        have hok := hao _ (List.getElem_mem hkl)
        clear hac
        replace hac := hcx k hkl
        clear hcx
        generalize acts[k] = ac at hok hac
        obtain ⟨kd, lv, va, ev, er, ew, ex, eu, eg, ea, ed, rs, pp⟩ := ac
        obtain ⟨o1, o2, o3, o4, o5⟩ := hok
        dsimp only at o1 o2 o3 o4 o5
        have hbw : b < w.heap.size := cell_lt (hac 0 (by omega))
        have f0 : wr.cell? ⟨b, off + k * 13, none⟩ = some (.int .i64 kd) := (World.cell?_of_block (w := w) (a := ⟨b, off + k * 13, none⟩) (T.out.chg.block b hbw (fun h => h))).trans (hac 0 (by omega))
        have f1 : wr.cell? ⟨b, off + k * 13 + 1, none⟩ = some (.int .i64 lv) := (World.cell?_of_block (w := w) (a := ⟨b, off + k * 13 + 1, none⟩) (T.out.chg.block b hbw (fun h => h))).trans (hac 1 (by omega))
        have f2 : wr.cell? ⟨b, off + k * 13 + 2, none⟩ = some (.int .u64 (va : Int)) := (World.cell?_of_block (w := w) (a := ⟨b, off + k * 13 + 2, none⟩) (T.out.chg.block b hbw (fun h => h))).trans (hac 2 (by omega))
        have f3 : wr.cell? ⟨b, off + k * 13 + 3, none⟩ = some (.bool ev) := (World.cell?_of_block (w := w) (a := ⟨b, off + k * 13 + 3, none⟩) (T.out.chg.block b hbw (fun h => h))).trans (hac 3 (by omega))
        have f4 : wr.cell? ⟨b, off + k * 13 + 4, none⟩ = some (.bool er) := (World.cell?_of_block (w := w) (a := ⟨b, off + k * 13 + 4, none⟩) (T.out.chg.block b hbw (fun h => h))).trans (hac 4 (by omega))
        have f5 : wr.cell? ⟨b, off + k * 13 + 5, none⟩ = some (.bool ew) := (World.cell?_of_block (w := w) (a := ⟨b, off + k * 13 + 5, none⟩) (T.out.chg.block b hbw (fun h => h))).trans (hac 5 (by omega))
        have f6 : wr.cell? ⟨b, off + k * 13 + 6, none⟩ = some (.bool ex) := (World.cell?_of_block (w := w) (a := ⟨b, off + k * 13 + 6, none⟩) (T.out.chg.block b hbw (fun h => h))).trans (hac 6 (by omega))
        have f7 : wr.cell? ⟨b, off + k * 13 + 7, none⟩ = some (.bool eu) := (World.cell?_of_block (w := w) (a := ⟨b, off + k * 13 + 7, none⟩) (T.out.chg.block b hbw (fun h => h))).trans (hac 7 (by omega))
        have f8 : wr.cell? ⟨b, off + k * 13 + 8, none⟩ = some (.bool eg) := (World.cell?_of_block (w := w) (a := ⟨b, off + k * 13 + 8, none⟩) (T.out.chg.block b hbw (fun h => h))).trans (hac 8 (by omega))
        have f9 : wr.cell? ⟨b, off + k * 13 + 9, none⟩ = some (.bool ea) := (World.cell?_of_block (w := w) (a := ⟨b, off + k * 13 + 9, none⟩) (T.out.chg.block b hbw (fun h => h))).trans (hac 9 (by omega))
        have f10 : wr.cell? ⟨b, off + k * 13 + 10, none⟩ = some (.bool ed) := (World.cell?_of_block (w := w) (a := ⟨b, off + k * 13 + 10, none⟩) (T.out.chg.block b hbw (fun h => h))).trans (hac 10 (by omega))
        have f11 : wr.cell? ⟨b, off + k * 13 + 11, none⟩ = some (.int .i64 rs) := (World.cell?_of_block (w := w) (a := ⟨b, off + k * 13 + 11, none⟩) (T.out.chg.block b hbw (fun h => h))).trans (hac 11 (by omega))
        have f12 : wr.cell? ⟨b, off + k * 13 + 12, none⟩ = some (.int .u64 (pp : Int)) := (World.cell?_of_block (w := w) (a := ⟨b, off + k * 13 + 12, none⟩) (T.out.chg.block b hbw (fun h => h))).trans (hac 12 (by omega))
        clear hac hal hao
        by_cases h40 : 40 ≤ k
        · have h40' : (40 : Int) ≤ (k : Int) := by omega
          go_upto_region 36 with (fail)
          have hTA := T.out.any (Chg.alloc no wr (.cells #[.int .i64 kd, .int .i64 lv, .int .u64 (va : Int), .bool ev, .bool er, .bool ew, .bool ex, .bool eu, .bool eg, .bool ea, .bool ed, .int .i64 rs, .int .u64 (pp : Int)] 52))
          have TA := Lib.hid hTA
          clear hTA f0 f1 f2 f3 f4 f5 f6 f7 f8 f9 f10 f11 f12
          have hpg := I.pages TA.out.tx (by have := TA.out.hL; omega)
          have HPG := Lib.hid hpg; clear hpg
          go_wp2_with fail
          refine HPG.out.mono ?_
          rintro e w5 ⟨⟨y5, rfl, hy5⟩, hc5⟩
          have T5 := Lib.hid (TA.out.any hc5); have HY5 := Lib.hid hy5
          clear hc5 hy5
          have hrp := rpages_any rp vL vT S 2 n fs w5 T5.out.rf (by have := T5.out.hL; omega)
          have HRP := Lib.hid hrp; clear hrp
          go_wp2_with fail
          refine HRP.out.mono ?_
          rintro e w6 ⟨y6, rfl, hy6, hc6⟩
          have hl6 : LiesS pgC 12 w6 y6 (sortP S.L) := lies_own pgC_len (by rw [sortP_len]; exact hy6)
          have hl5 : LiesS pgC 12 w6 y5 (sortP S.L) := LiesS.below HY5.out hc6.none
          have hsm := rsame_yes y5 y6 (sortP S.L) w6 hl5 hl6 (by rw [sortP_len]; have := T5.out.hL; omega)
          have C6 := Lib.hid (T5.out.chg.trans hc6); have HSM := Lib.hid hsm
          clear hc6 hl6 hl5 hsm hy6
          go_wp2_with fail
          refine HSM.out.mono ?_
          rintro e w7 ⟨rfl, hc7⟩
          have C7 := Lib.hid (C6.out.trans hc7)
          clear hc7
          go_wp2
          go_ret
          exact ⟨rfl, C7.out⟩
        · have h40' : ¬ (40 : Int) ≤ (k : Int) := by omega
          obtain ⟨q, hq⟩ : ∃ q : Nat, IntKind.u64.wrap kd % 4 = (q : Int) ∧ q < 4 := ⟨((IntKind.u64.wrap kd) % 4).toNat, by omega, by omega⟩
          obtain ⟨hq1, hq2⟩ := hq
          have hq3 : (IntKind.u64.wrap kd).tmod 4 = (q : Int) := by rw [Int.tmod_eq_emod_of_nonneg (by rw [wrap_u64B]; omega)]; exact hq1
          go_upto_block 2 with (fail)
          have nb := Blk.new wr [.int .i64 kd, .int .i64 lv, .int .u64 (va : Int), .bool ev, .bool er, .bool ew, .bool ex, .bool eu, .bool eg, .bool ea, .bool ed, .int .i64 rs, .int .u64 (pp : Int)] 52
          have hT1 := T.out.any (Chg.alloc no wr (.cells #[.int .i64 kd, .int .i64 lv, .int .u64 (va : Int), .bool ev, .bool er, .bool ew, .bool ex, .bool eu, .bool eg, .bool ea, .bool ed, .int .i64 rs, .int .u64 (pp : Int)] 52))
          have hnF : ¬ F wr.heap.size := fun h => by have := I.lt T.out.tx _ h; omega
          have hnr : wr.heap.size ≠ rp := fun h => by have := T.out.rf.blk.lt; omega
          obtain ⟨B1, hB1⟩ : ∃ B, B = wr.heap.size := ⟨_, rfl⟩
          obtain ⟨W1, hW1⟩ : ∃ W, W = wr.alloc (.cells #[.int .i64 kd, .int .i64 lv, .int .u64 (va : Int), .bool ev, .bool er, .bool ew, .bool ex, .bool eu, .bool eg, .bool ea, .bool ed, .int .i64 rs, .int .u64 (pp : Int)] 52) := ⟨_, rfl⟩
          rw [← hW1] at nb hT1 ⊢
          rw [← hB1] at nb hnF hnr
          try rw [← hB1]
          have T1 := Lib.hid hT1; have HB1 := Lib.hid nb; have HNF := Lib.hid hnF; have HNR := Lib.hid hnr
          clear nb hT1 hnF hnr hW1 hB1 T f0 f1 f2 f3 f4 f5 f6 f7 f8 f9 f10 f11 f12
          have g0 : W1.cell? ⟨B1, 0, none⟩ = some (.int .i64 kd) := HB1.out.cell 0
          have g0lt := HB1.out.lt
          obtain ⟨E, hE⟩ : ∃ E : Ent, E = ⟨ev, er, ew, ex, eu, eg, ea, ed, rs, pp⟩ := ⟨_, rfl⟩
          have hk3 : kk < 40 := by omega
          go_cut [24, 25, 26, 27] from 131 to 263 (fun s24 s25 s26 s27 wc => ∃ (F : Nat → Prop) (vL vT : Value) (S : Tt) (k2 : Nat), k2 ≤ k + 1 ∧ PairT I w wc tp sp rp F vL vT S 2 n fs k2 ∧ Blk wc B1 [.int .i64 kd, .int .i64 lv, .int .u64 (va : Int), .bool ev, .bool er, .bool ew, .bool ex, .bool eu, .bool eg, .bool ea, .bool ed, .int .i64 rs, .int .u64 (pp : Int)] 52)
          case first =>
            go_upto_region 20 with (fail)
            clear g0 g0lt hq1 hq3
            rcases (show q = 0 ∨ q = 1 ∨ q = 2 ∨ q = 3 from by omega) with rfl | rfl | rfl | rfl
            · obtain ⟨R, hR⟩ : ∃ R, R = mapT 2 n fs va lv E S := ⟨_, rfl⟩
              have hT2 := T1.out.any (Chg.drew no W1)
              have hprog := I.map va lv E hT2.tx (by omega) o3 o2 (by rw [hE]; exact o4) (by rw [hE]; exact o5)
              have href := fun w' (hR : RfT w' rp vL vT S 2 n fs) => rmap_any rp va lv E vL vT S 2 n fs w' hR o3 (by have := T1.out.hL; omega) (by have := T1.out.hT; omega) (by omega) (by omega) (by omega) (by have := T1.out.used; omega) (by rw [hE]; exact o4) (by rw [hE]; exact o5)
              rw [← hR] at hprog
              simp only [← hR] at href
              have HR := Lib.hid hR
              rw [hE] at hprog href
              unfold pv at hprog href
              dsimp only at hprog href
              have HPROG := Lib.hid hprog; have HREF := Lib.hid href; have HE := Lib.hid hE
              have hk3d : Blk W1.drew B1 [.int .i64 kd, .int .i64 lv, .int .u64 (va : Int), .bool ev, .bool er, .bool ew, .bool ex, .bool eu, .bool eg, .bool ea, .bool ed, .int .i64 rs, .int .u64 (pp : Int)] 52 := Blk.drewN HB1.out 1
              clear hprog href hR hE
              go_wp2_with fail
              refine wp_region_held_drew (S := fun w' => Blk w' B1 [.int .i64 kd, .int .i64 lv, .int .u64 (va : Int), .bool ev, .bool er, .bool ew, .bool ex, .bool eu, .bool eg, .bool ea, .bool ed, .int .i64 rs, .int .u64 (pp : Int)] 52) (by kernel_rfl) hk3d (fun hHeld => ?_)
              clear hk3d
              simp only [List.size_toArray, List.length_cons, List.length_nil, Nat.reduceAdd]
              rw [show Array.replicate 17 false = [false, false, false, false, false, false, false, false, false, false, false, false, false, false, false, false, false].toArray from rfl]
              refine wpAnyH_take (i := 0) (v := ?_) rfl (by kernel_rfl) (by kernel_rfl) (by kernel_rfl) (fun _ _ _ h => h) (Or.inl ⟨by rfl, ?yldq⟩) (by assumption) ?_
              case yldq => (intro w hSw; (try dsimp only at hSw); go_simp; try with_reducible rfl)
              try simp only [Act.put, List.setIfInBounds_toArray, List.set_cons_zero, List.set_cons_succ, List.getElem_toArray, List.getElem_cons_succ, List.getElem_cons_zero]
              refine wpAnyH_take (i := 1) (v := ?_) rfl (by kernel_rfl) (by kernel_rfl) (by kernel_rfl) (fun _ _ _ h => h) (Or.inl ⟨by rfl, ?yldq⟩) (by assumption) ?_
              case yldq => (intro w hSw; (try dsimp only at hSw); go_simp; try with_reducible rfl)
              try simp only [Act.put, List.setIfInBounds_toArray, List.set_cons_zero, List.set_cons_succ, List.getElem_toArray, List.getElem_cons_succ, List.getElem_cons_zero]
              refine wpAnyH_take (i := 2) (v := _) rfl (by kernel_rfl) (by kernel_rfl) (by kernel_rfl) (fun _ _ _ h => h) (Or.inl ⟨by rfl, fun w hSw => yield_u13 _ _ _ rfl rfl (hSw.cell 2)⟩) (by assumption) ?_
              try simp only [Act.put, List.setIfInBounds_toArray, List.set_cons_zero, List.set_cons_succ, List.getElem_toArray, List.getElem_cons_succ, List.getElem_cons_zero]
              refine wpAnyH_take (i := 3) (v := ?_) rfl (by kernel_rfl) (by kernel_rfl) (by kernel_rfl) (fun _ _ _ h => h) (Or.inl ⟨by rfl, ?yldq⟩) (by assumption) ?_
              case yldq => (intro w hSw; (try dsimp only at hSw); go_simp; try with_reducible rfl)
              try simp only [Act.put, List.setIfInBounds_toArray, List.set_cons_zero, List.set_cons_succ, List.getElem_toArray, List.getElem_cons_succ, List.getElem_cons_zero]
              refine wpAnyH_take (i := 4) (v := _) rfl (by kernel_rfl) (by kernel_rfl) (by kernel_rfl) (fun _ _ _ h => h) (Or.inl ⟨by rfl, fun w hSw => yield_int13 _ _ _ rfl rfl (hSw.cell 1)⟩) (by assumption) ?_
              try simp only [Act.put, List.setIfInBounds_toArray, List.set_cons_zero, List.set_cons_succ, List.getElem_toArray, List.getElem_cons_succ, List.getElem_cons_zero]
              refine wpAnyH_take (i := 5) (v := ?_) rfl (by kernel_rfl) (by kernel_rfl) (by kernel_rfl) (fun _ _ _ h => h) (Or.inl ⟨by rfl, ?yldq⟩) (by assumption) ?_
              case yldq => (intro w hSw; (try dsimp only at hSw); go_simp; try with_reducible rfl)
              try simp only [Act.put, List.setIfInBounds_toArray, List.set_cons_zero, List.set_cons_succ, List.getElem_toArray, List.getElem_cons_succ, List.getElem_cons_zero]
              refine wpAnyH_take (i := 6) (v := _) rfl (by kernel_rfl) (by kernel_rfl) (by kernel_rfl) (fun _ _ _ h => h) (Or.inl ⟨by rfl, fun w hSw => yield_pteo (o := 3) _ _ _ rfl rfl (hSw.cell 3) (hSw.cell 4) (hSw.cell 5) (hSw.cell 6) (hSw.cell 7) (hSw.cell 8) (hSw.cell 9) (hSw.cell 10) (hSw.cell 11) (hSw.cell 12)⟩) (by assumption) ?_
              try simp only [Act.put, List.setIfInBounds_toArray, List.set_cons_zero, List.set_cons_succ, List.getElem_toArray, List.getElem_cons_succ, List.getElem_cons_zero]
              refine wpAnyH_take (i := 8) (v := ?_) rfl (by kernel_rfl) (by kernel_rfl) (by kernel_rfl) (fun _ _ _ h => h) (Or.inl ⟨by rfl, ?yldq⟩) (by assumption) ?_
              case yldq => (intro w hSw; (try dsimp only at hSw); go_simp; try with_reducible rfl)
              try simp only [Act.put, List.setIfInBounds_toArray, List.set_cons_zero, List.set_cons_succ, List.getElem_toArray, List.getElem_cons_succ, List.getElem_cons_zero]
              refine wpAnyH_take (i := 9) (v := ?_) rfl (by kernel_rfl) (by kernel_rfl) (by kernel_rfl) (fun _ _ _ h => h) (Or.inl ⟨by rfl, ?yldq⟩) (by assumption) ?_
              case yldq => (intro w hSw; (try dsimp only at hSw); go_simp; try with_reducible rfl)
              try simp only [Act.put, List.setIfInBounds_toArray, List.set_cons_zero, List.set_cons_succ, List.getElem_toArray, List.getElem_cons_succ, List.getElem_cons_zero]
              refine wpAnyH_take (i := 10) (v := _) rfl (by kernel_rfl) (by kernel_rfl) (by kernel_rfl) (fun _ _ _ h => h) (Or.inl ⟨by rfl, fun w hSw => yield_u13 _ _ _ rfl rfl (hSw.cell 2)⟩) (by assumption) ?_
              try simp only [Act.put, List.setIfInBounds_toArray, List.set_cons_zero, List.set_cons_succ, List.getElem_toArray, List.getElem_cons_succ, List.getElem_cons_zero]
              refine wpAnyH_take (i := 11) (v := ?_) rfl (by kernel_rfl) (by kernel_rfl) (by kernel_rfl) (fun _ _ _ h => h) (Or.inl ⟨by rfl, ?yldq⟩) (by assumption) ?_
              case yldq => (intro w hSw; (try dsimp only at hSw); go_simp; try with_reducible rfl)
              try simp only [Act.put, List.setIfInBounds_toArray, List.set_cons_zero, List.set_cons_succ, List.getElem_toArray, List.getElem_cons_succ, List.getElem_cons_zero]
              refine wpAnyH_take (i := 12) (v := _) rfl (by kernel_rfl) (by kernel_rfl) (by kernel_rfl) (fun _ _ _ h => h) (Or.inl ⟨by rfl, fun w hSw => yield_int13 _ _ _ rfl rfl (hSw.cell 1)⟩) (by assumption) ?_
              try simp only [Act.put, List.setIfInBounds_toArray, List.set_cons_zero, List.set_cons_succ, List.getElem_toArray, List.getElem_cons_succ, List.getElem_cons_zero]
              refine wpAnyH_take (i := 13) (v := ?_) rfl (by kernel_rfl) (by kernel_rfl) (by kernel_rfl) (fun _ _ _ h => h) (Or.inl ⟨by rfl, ?yldq⟩) (by assumption) ?_
              case yldq => (intro w hSw; (try dsimp only at hSw); go_simp; try with_reducible rfl)
              try simp only [Act.put, List.setIfInBounds_toArray, List.set_cons_zero, List.set_cons_succ, List.getElem_toArray, List.getElem_cons_succ, List.getElem_cons_zero]
              refine wpAnyH_take (i := 14) (v := _) rfl (by kernel_rfl) (by kernel_rfl) (by kernel_rfl) (fun _ _ _ h => h) (Or.inl ⟨by rfl, fun w hSw => yield_pteo (o := 3) _ _ _ rfl rfl (hSw.cell 3) (hSw.cell 4) (hSw.cell 5) (hSw.cell 6) (hSw.cell 7) (hSw.cell 8) (hSw.cell 9) (hSw.cell 10) (hSw.cell 11) (hSw.cell 12)⟩) (by assumption) ?_
              try simp only [Act.put, List.setIfInBounds_toArray, List.set_cons_zero, List.set_cons_succ, List.getElem_toArray, List.getElem_cons_succ, List.getElem_cons_zero]
              refine wpAnyH_ready (rs := [7]) (by kernel_rfl) (by simp) ?_
              refine AllReadyH.cons rfl (fun K hK => ?_) AllReadyH.nil
              go_simp
              refine HPROG.out.mono ?_
              rintro e w3 ⟨rfl, F', htx3, hF3, hc3⟩
              have hb3 : Blk w3 B1 [.int .i64 kd, .int .i64 lv, .int .u64 (va : Int), .bool ev, .bool er, .bool ew, .bool ex, .bool eu, .bool eg, .bool ea, .bool ed, .int .i64 rs, .int .u64 (pp : Int)] 52 := (Blk.drewN HB1.out 1).chg hc3 HNF.out
              refine hK.out _ _ hb3 (fun hS => ?_)
              have hrf3 := hT2.ref1 hc3
              have HTX3 := Lib.hid htx3; have HF3 := Lib.hid hF3; have HC3 := Lib.hid hc3; have HB3 := Lib.hid hb3; have HRF3 := Lib.hid hrf3; have HT2 := Lib.hid hT2
              clear hK K htx3 hF3 hc3 hb3 hrf3 hT2
              refine wpAnyH_ready (rs := [15]) (by kernel_rfl) (by simp) ?_
              refine AllReadyH.cons rfl (fun K hK => ?_) AllReadyH.nil
              go_simp
              refine (HREF.out _ HRF3.out).mono ?_
              rintro e w4 ⟨rfl, vL', vT', hR4, nL, nT, hc4⟩
              have hb4 : Blk w4 B1 [.int .i64 kd, .int .i64 lv, .int .u64 (va : Int), .bool ev, .bool er, .bool ew, .bool ex, .bool eu, .bool eg, .bool ea, .bool ed, .int .i64 rs, .int .u64 (pp : Int)] 52 := HB3.out.chg hc4 HNR.out
              refine hK.out _ _ hb4 (fun hS2 => ?_)
              have hT4 := HT2.out.join HTX3.out HF3.out HC3.out hR4 (fun j hj => nL j hj) (fun j hj => nT j hj) hc4 (by have := (mapT_len 2 n fs va lv E S).1; rw [← HR.out] at this; have := T1.out.hL; omega) (by have := (mapT_len 2 n fs va lv E S).2; rw [← HR.out] at this; have := T1.out.hT; omega)
              have hnF4 : ¬ F' B1 := fun h => (HF3.out _ h).elim HNF.out (fun h => by have := HB1.out.lt; have h : W1.heap.size ≤ B1 := h; omega)
              have HT4 := Lib.hid hT4; have HB4 := Lib.hid hb4
              clear hK K hb4 hT4 hR4 nL hc4 hS
              refine wpAnyH_take (i := 16) (v := ?_) rfl (by kernel_rfl) (by kernel_rfl) (by kernel_rfl) (fun _ _ _ h => h) (Or.inl ⟨by rfl, ?yldq⟩) (by assumption) ?_
              case yldq => (intro w hSw; (try dsimp only at hSw); go_simp; try with_reducible rfl)
              try simp only [Act.put, List.setIfInBounds_toArray, List.set_cons_zero, List.set_cons_succ, List.getElem_toArray, List.getElem_cons_succ, List.getElem_cons_zero]
              clear hS2
              refine wpAnyH_done (by kernel_rfl) ?_ _
              go_wp2
              go_meet
              case rel => exact ⟨F', _, _, R.1, kk + 1, by omega, HT4.out, HB4.out⟩
            · obtain ⟨R, hR⟩ : ∃ R, R = chgT va E S := ⟨_, rfl⟩
              have hT2 := T1.out.any (Chg.drew no W1)
              have hprog := I.change va E hT2.tx (by omega) o3 (by rw [hE]; exact o4) (by rw [hE]; exact o5)
              have href := fun w' (hR : RfT w' rp vL vT S 2 n fs) => rchange_any rp va E vL vT S 2 n fs w' hR o3 (by have := T1.out.hL; omega) (by rw [hE]; exact o4) (by rw [hE]; exact o5)
              rw [← hR] at hprog
              simp only [← hR] at href
              have HR := Lib.hid hR
              rw [hE] at hprog href
              unfold pv at hprog href
              dsimp only at hprog href
              have HPROG := Lib.hid hprog; have HREF := Lib.hid href; have HE := Lib.hid hE
              have hk3d : Blk W1.drew B1 [.int .i64 kd, .int .i64 lv, .int .u64 (va : Int), .bool ev, .bool er, .bool ew, .bool ex, .bool eu, .bool eg, .bool ea, .bool ed, .int .i64 rs, .int .u64 (pp : Int)] 52 := Blk.drewN HB1.out 1
              clear hprog href hR hE
              go_wp2_with fail
              refine wp_region_held_drew (S := fun w' => Blk w' B1 [.int .i64 kd, .int .i64 lv, .int .u64 (va : Int), .bool ev, .bool er, .bool ew, .bool ex, .bool eu, .bool eg, .bool ea, .bool ed, .int .i64 rs, .int .u64 (pp : Int)] 52) (by kernel_rfl) hk3d (fun hHeld => ?_)
              clear hk3d
              simp only [List.size_toArray, List.length_cons, List.length_nil, Nat.reduceAdd]
              rw [show Array.replicate 13 false = [false, false, false, false, false, false, false, false, false, false, false, false, false].toArray from rfl]
              refine wpAnyH_take (i := 0) (v := ?_) rfl (by kernel_rfl) (by kernel_rfl) (by kernel_rfl) (fun _ _ _ h => h) (Or.inl ⟨by rfl, ?yldq⟩) (by assumption) ?_
              case yldq => (intro w hSw; (try dsimp only at hSw); go_simp; try with_reducible rfl)
              try simp only [Act.put, List.setIfInBounds_toArray, List.set_cons_zero, List.set_cons_succ, List.getElem_toArray, List.getElem_cons_succ, List.getElem_cons_zero]
              refine wpAnyH_take (i := 1) (v := ?_) rfl (by kernel_rfl) (by kernel_rfl) (by kernel_rfl) (fun _ _ _ h => h) (Or.inl ⟨by rfl, ?yldq⟩) (by assumption) ?_
              case yldq => (intro w hSw; (try dsimp only at hSw); go_simp; try with_reducible rfl)
              try simp only [Act.put, List.setIfInBounds_toArray, List.set_cons_zero, List.set_cons_succ, List.getElem_toArray, List.getElem_cons_succ, List.getElem_cons_zero]
              refine wpAnyH_take (i := 2) (v := _) rfl (by kernel_rfl) (by kernel_rfl) (by kernel_rfl) (fun _ _ _ h => h) (Or.inl ⟨by rfl, fun w hSw => yield_u13 _ _ _ rfl rfl (hSw.cell 2)⟩) (by assumption) ?_
              try simp only [Act.put, List.setIfInBounds_toArray, List.set_cons_zero, List.set_cons_succ, List.getElem_toArray, List.getElem_cons_succ, List.getElem_cons_zero]
              refine wpAnyH_take (i := 3) (v := ?_) rfl (by kernel_rfl) (by kernel_rfl) (by kernel_rfl) (fun _ _ _ h => h) (Or.inl ⟨by rfl, ?yldq⟩) (by assumption) ?_
              case yldq => (intro w hSw; (try dsimp only at hSw); go_simp; try with_reducible rfl)
              try simp only [Act.put, List.setIfInBounds_toArray, List.set_cons_zero, List.set_cons_succ, List.getElem_toArray, List.getElem_cons_succ, List.getElem_cons_zero]
              refine wpAnyH_take (i := 4) (v := _) rfl (by kernel_rfl) (by kernel_rfl) (by kernel_rfl) (fun _ _ _ h => h) (Or.inl ⟨by rfl, fun w hSw => yield_pteo (o := 3) _ _ _ rfl rfl (hSw.cell 3) (hSw.cell 4) (hSw.cell 5) (hSw.cell 6) (hSw.cell 7) (hSw.cell 8) (hSw.cell 9) (hSw.cell 10) (hSw.cell 11) (hSw.cell 12)⟩) (by assumption) ?_
              try simp only [Act.put, List.setIfInBounds_toArray, List.set_cons_zero, List.set_cons_succ, List.getElem_toArray, List.getElem_cons_succ, List.getElem_cons_zero]
              refine wpAnyH_take (i := 6) (v := ?_) rfl (by kernel_rfl) (by kernel_rfl) (by kernel_rfl) (fun _ _ _ h => h) (Or.inl ⟨by rfl, ?yldq⟩) (by assumption) ?_
              case yldq => (intro w hSw; (try dsimp only at hSw); go_simp; try with_reducible rfl)
              try simp only [Act.put, List.setIfInBounds_toArray, List.set_cons_zero, List.set_cons_succ, List.getElem_toArray, List.getElem_cons_succ, List.getElem_cons_zero]
              refine wpAnyH_take (i := 7) (v := ?_) rfl (by kernel_rfl) (by kernel_rfl) (by kernel_rfl) (fun _ _ _ h => h) (Or.inl ⟨by rfl, ?yldq⟩) (by assumption) ?_
              case yldq => (intro w hSw; (try dsimp only at hSw); go_simp; try with_reducible rfl)
              try simp only [Act.put, List.setIfInBounds_toArray, List.set_cons_zero, List.set_cons_succ, List.getElem_toArray, List.getElem_cons_succ, List.getElem_cons_zero]
              refine wpAnyH_take (i := 8) (v := _) rfl (by kernel_rfl) (by kernel_rfl) (by kernel_rfl) (fun _ _ _ h => h) (Or.inl ⟨by rfl, fun w hSw => yield_u13 _ _ _ rfl rfl (hSw.cell 2)⟩) (by assumption) ?_
              try simp only [Act.put, List.setIfInBounds_toArray, List.set_cons_zero, List.set_cons_succ, List.getElem_toArray, List.getElem_cons_succ, List.getElem_cons_zero]
              refine wpAnyH_take (i := 9) (v := ?_) rfl (by kernel_rfl) (by kernel_rfl) (by kernel_rfl) (fun _ _ _ h => h) (Or.inl ⟨by rfl, ?yldq⟩) (by assumption) ?_
              case yldq => (intro w hSw; (try dsimp only at hSw); go_simp; try with_reducible rfl)
              try simp only [Act.put, List.setIfInBounds_toArray, List.set_cons_zero, List.set_cons_succ, List.getElem_toArray, List.getElem_cons_succ, List.getElem_cons_zero]
              refine wpAnyH_take (i := 10) (v := _) rfl (by kernel_rfl) (by kernel_rfl) (by kernel_rfl) (fun _ _ _ h => h) (Or.inl ⟨by rfl, fun w hSw => yield_pteo (o := 3) _ _ _ rfl rfl (hSw.cell 3) (hSw.cell 4) (hSw.cell 5) (hSw.cell 6) (hSw.cell 7) (hSw.cell 8) (hSw.cell 9) (hSw.cell 10) (hSw.cell 11) (hSw.cell 12)⟩) (by assumption) ?_
              try simp only [Act.put, List.setIfInBounds_toArray, List.set_cons_zero, List.set_cons_succ, List.getElem_toArray, List.getElem_cons_succ, List.getElem_cons_zero]
              refine wpAnyH_ready (rs := [5]) (by kernel_rfl) (by simp) ?_
              refine AllReadyH.cons rfl (fun K hK => ?_) AllReadyH.nil
              go_simp
              refine HPROG.out.mono ?_
              rintro e w3 ⟨rfl, F', htx3, hF3, hc3⟩
              have hb3 : Blk w3 B1 [.int .i64 kd, .int .i64 lv, .int .u64 (va : Int), .bool ev, .bool er, .bool ew, .bool ex, .bool eu, .bool eg, .bool ea, .bool ed, .int .i64 rs, .int .u64 (pp : Int)] 52 := (Blk.drewN HB1.out 1).chg hc3 HNF.out
              refine hK.out _ _ hb3 (fun hS => ?_)
              have hrf3 := hT2.ref1 hc3
              have HTX3 := Lib.hid htx3; have HF3 := Lib.hid hF3; have HC3 := Lib.hid hc3; have HB3 := Lib.hid hb3; have HRF3 := Lib.hid hrf3; have HT2 := Lib.hid hT2
              clear hK K htx3 hF3 hc3 hb3 hrf3 hT2
              refine wpAnyH_ready (rs := [11]) (by kernel_rfl) (by simp) ?_
              refine AllReadyH.cons rfl (fun K hK => ?_) AllReadyH.nil
              go_simp
              refine (HREF.out _ HRF3.out).mono ?_
              rintro e w4 ⟨rfl, vL', hR4, nL, hc4⟩
              have hb4 : Blk w4 B1 [.int .i64 kd, .int .i64 lv, .int .u64 (va : Int), .bool ev, .bool er, .bool ew, .bool ex, .bool eu, .bool eg, .bool ea, .bool ed, .int .i64 rs, .int .u64 (pp : Int)] 52 := HB3.out.chg hc4 HNR.out
              refine hK.out _ _ hb4 (fun hS2 => ?_)
              have hT4 := HT2.out.join HTX3.out HF3.out HC3.out hR4 (fun j hj => nL j hj) (fun j hj => .inl hj) hc4 (by have := (chgT_len va E S).1; rw [← HR.out] at this; have := T1.out.hL; omega) (by have := (chgT_len va E S).2; rw [← HR.out] at this; rw [this]; have := T1.out.hT; omega)
              have hnF4 : ¬ F' B1 := fun h => (HF3.out _ h).elim HNF.out (fun h => by have := HB1.out.lt; have h : W1.heap.size ≤ B1 := h; omega)
              have HT4 := Lib.hid hT4; have HB4 := Lib.hid hb4
              clear hK K hb4 hT4 hR4 nL hc4 hS
              refine wpAnyH_take (i := 12) (v := ?_) rfl (by kernel_rfl) (by kernel_rfl) (by kernel_rfl) (fun _ _ _ h => h) (Or.inl ⟨by rfl, ?yldq⟩) (by assumption) ?_
              case yldq => (intro w hSw; (try dsimp only at hSw); go_simp; try with_reducible rfl)
              try simp only [Act.put, List.setIfInBounds_toArray, List.set_cons_zero, List.set_cons_succ, List.getElem_toArray, List.getElem_cons_succ, List.getElem_cons_zero]
              clear hS2
              refine wpAnyH_done (by kernel_rfl) ?_ _
              go_wp2
              go_meet
              case rel => exact ⟨F', _, _, R.1, kk + 1, by omega, HT4.out, HB4.out⟩
            · obtain ⟨R, hR⟩ : ∃ R, R = unmT va S := ⟨_, rfl⟩
              have hprog := I.unmap va T1.out.tx (by omega) o3
              have href := fun w' (hR : RfT w' rp vL vT S 2 n fs) => runmap_any rp va vL vT S 2 n fs w' hR o3 (by have := T1.out.hL; omega)
              have hlen := unmT_len va S
              rw [← hR] at hprog hlen
              simp only [← hR] at href
              clear hR
              obtain ⟨RS, ⟨zv, zr, zw, zx, zu, zg, za, zd, zs, zp⟩, RE⟩ := R
              unfold pv at hprog href
              dsimp only at hprog href hlen
              have HPROG := Lib.hid hprog; have HREF := Lib.hid href; have HLEN := Lib.hid hlen
              have g2 : W1.cell? ⟨B1, 2, none⟩ = some (.int .u64 (va : Int)) := HB1.out.cell 2
              have glt := HB1.out.lt
              clear hprog href hlen hE
              go_wp2_with fail
              clear g2 glt
              refine HPROG.out.mono ?_
              rintro e w3 ⟨rfl, F', htx3, hF3, hc3⟩
              have hb3 := HB1.out.chg hc3 HNF.out
              have hrf3 := T1.out.ref1 hc3
              have HTX3 := Lib.hid htx3; have HF3 := Lib.hid hF3; have HC3 := Lib.hid hc3; have HB3 := Lib.hid hb3; have HRF3 := Lib.hid hrf3
              clear htx3 hF3 hc3 hb3 hrf3
              have g2 : ∀ o, (w3.alloc o).cell? ⟨B1, 2, none⟩ = some (.int .u64 (va : Int)) := fun o => (HB3.out.alloc o).cell 2
              have glt := HB3.out.lt
              go_wp2_with fail
              clear g2 glt
              have nb := Blk.new w3 [.bool zv, .bool zr, .bool zw, .bool zx, .bool zu, .bool zg, .bool za, .bool zd, .int .i64 zs, .int .u64 (zp : Int)] 39
              have htx4 := I.chg HTX3.out (Chg.alloc no w3 (.cells #[.bool zv, .bool zr, .bool zw, .bool zx, .bool zu, .bool zg, .bool za, .bool zd, .int .i64 zs, .int .u64 (zp : Int)] 39)) (fun _ _ h => h)
              have hrf4 := HRF3.out.any (Chg.alloc no w3 (.cells #[.bool zv, .bool zr, .bool zw, .bool zx, .bool zu, .bool zg, .bool za, .bool zd, .int .i64 zs, .int .u64 (zp : Int)] 39))
              have hb4 := HB3.out.alloc (.cells #[.bool zv, .bool zr, .bool zw, .bool zx, .bool zu, .bool zg, .bool za, .bool zd, .int .i64 zs, .int .u64 (zp : Int)] 39)
              have hc4 := HC3.out.thenAlloc (.cells #[.bool zv, .bool zr, .bool zw, .bool zx, .bool zu, .bool zg, .bool za, .bool zd, .int .i64 zs, .int .u64 (zp : Int)] 39)
              have hpr : w3.heap.size ≠ rp := fun h => by have := HRF3.out.blk.lt; omega
              obtain ⟨BP, hBP⟩ : ∃ B, B = w3.heap.size := ⟨_, rfl⟩
              obtain ⟨W4, hW4⟩ : ∃ W, W = w3.alloc (.cells #[.bool zv, .bool zr, .bool zw, .bool zx, .bool zu, .bool zg, .bool za, .bool zd, .int .i64 zs, .int .u64 (zp : Int)] 39) := ⟨_, rfl⟩
              rw [← hW4] at nb htx4 hrf4 hb4 hc4 ⊢
              rw [← hBP] at nb hpr
              try rw [← hBP]
              have HTX4 := Lib.hid htx4; have HRF4 := Lib.hid hrf4; have HB4 := Lib.hid hb4; have HC4 := Lib.hid hc4; have HBP := Lib.hid nb; have HPR := Lib.hid hpr
              clear nb htx4 hrf4 hb4 hc4 hpr hW4 hBP HTX3 HRF3 HB3 HC3
              refine (HREF.out _ HRF4.out).mono ?_
              rintro e w5 ⟨rfl, vL', hR5, nL, hc5⟩
              have hT5 := T1.out.join HTX4.out HF3.out HC4.out hR5 (fun j hj => nL j hj) (fun j hj => .inl hj) hc5 (by have := HLEN.out.1; have := T1.out.hL; omega) (by rw [HLEN.out.2]; have := T1.out.hT; omega)
              have hb5 := HB4.out.chg hc5 HNR.out
              have hp5 := HBP.out.chg hc5 HPR.out
              have T5 := Lib.hid hT5; have HB5 := Lib.hid hb5; have HP5 := Lib.hid hp5
              clear hT5 hb5 hp5 hR5 nL hc5 HTX4 HRF4 HB4 HC4 HBP HPR
              have pz0 : ∀ o, (w5.alloc o).cell? ⟨BP, 0, none⟩ = some (.bool zv) := fun o => (HP5.out.alloc o).cell 0
              have pz1 : ∀ o, (w5.alloc o).cell? ⟨BP, 1, none⟩ = some (.bool zr) := fun o => (HP5.out.alloc o).cell 1
              have pz2 : ∀ o, (w5.alloc o).cell? ⟨BP, 2, none⟩ = some (.bool zw) := fun o => (HP5.out.alloc o).cell 2
              have pz3 : ∀ o, (w5.alloc o).cell? ⟨BP, 3, none⟩ = some (.bool zx) := fun o => (HP5.out.alloc o).cell 3
              have pz4 : ∀ o, (w5.alloc o).cell? ⟨BP, 4, none⟩ = some (.bool zu) := fun o => (HP5.out.alloc o).cell 4
              have pz5 : ∀ o, (w5.alloc o).cell? ⟨BP, 5, none⟩ = some (.bool zg) := fun o => (HP5.out.alloc o).cell 5
              have pz6 : ∀ o, (w5.alloc o).cell? ⟨BP, 6, none⟩ = some (.bool za) := fun o => (HP5.out.alloc o).cell 6
              have pz7 : ∀ o, (w5.alloc o).cell? ⟨BP, 7, none⟩ = some (.bool zd) := fun o => (HP5.out.alloc o).cell 7
              have pz8 : ∀ o, (w5.alloc o).cell? ⟨BP, 8, none⟩ = some (.int .i64 zs) := fun o => (HP5.out.alloc o).cell 8
              have pz9 : ∀ o, (w5.alloc o).cell? ⟨BP, 9, none⟩ = some (.int .u64 (zp : Int)) := fun o => (HP5.out.alloc o).cell 9
              have plt := HP5.out.lt
              go_wp2
              clear plt pz0 pz1 pz2 pz3 pz4 pz5 pz6 pz7 pz8 pz9
              have hT6 := T5.out.any (Chg.alloc no w5 (.cells #[.bool zv, .bool zr, .bool zw, .bool zx, .bool zu, .bool zg, .bool za, .bool zd, .int .i64 zs, .int .u64 (zp : Int)] 39))
              have hb6 := HB5.out.alloc (.cells #[.bool zv, .bool zr, .bool zw, .bool zx, .bool zu, .bool zg, .bool za, .bool zd, .int .i64 zs, .int .u64 (zp : Int)] 39)
              obtain ⟨W6, hW6⟩ : ∃ W, W = w5.alloc (.cells #[.bool zv, .bool zr, .bool zw, .bool zx, .bool zu, .bool zg, .bool za, .bool zd, .int .i64 zs, .int .u64 (zp : Int)] 39) := ⟨_, rfl⟩
              rw [← hW6] at hT6 hb6 ⊢
              have T6 := Lib.hid hT6; have HB6 := Lib.hid hb6
              clear hT6 hb6 hW6 T5 HB5 HP5
              go_meet
              case rel => exact ⟨F', _, _, RS, kk + 1, by omega, T6.out, HB6.out⟩
            · clear hE
              go_wp2
              go_meet
              case rel => exact ⟨F, _, _, S, kk, by omega, T1.out, HB1.out⟩
          case rest =>
            obtain ⟨F, vL, vT, S, k2, hk2, hT4, hb4⟩ := hcut
            have HT4 := Lib.hid hT4; have HB4 := Lib.hid hb4
            clear hT4 hb4 T1 HB1 HNF HNR hE hk3 g0 g0lt hq1 hq3
            have hh := fun w' (hR : RfT w' rp vL vT S 2 n fs) => holds_any rp va vL vT S 2 n fs w' hR o3
            have hfi := I.find va HT4.out.tx o3
            have hhp := hold_holdP S.L va
            have hkk9 : k2 ≤ k + 1 := by omega
            cases hho : hold S.L va with
            | none =>
              rw [hho] at hh hhp
              replace hhp := hhp.symm
              rw [hhp] at hfi
              replace hh : ∀ w', RfT w' rp vL vT S 2 n fs → Calls Try.prog 20 #[.pointer (some ⟨rp, 0, none⟩), .int .u64 va] w' fun e w'' => e = .returned (.int .i64 (-1)) ∧ Chg no w' w'' := hh
              have HH := Lib.hid hh; have HFI := Lib.hid hfi
              clear hh hfi hhp hho
              have g2 : wc.cell? ⟨B1, 2, none⟩ = some (.int .u64 (va : Int)) := HB4.out.cell 2
              have glt := HB4.out.lt
              go_wp2_with fail
              clear g2 glt
              refine HFI.out.mono ?_
              rintro e w5 ⟨⟨l5, rfl, hl5⟩, hc5⟩
              have T5 := Lib.hid (HT4.out.any hc5); have HB5 := Lib.hid (HB4.out.chg hc5 (fun h => h))
              obtain ⟨⟨v, r, x, y, u, g, a, d, sw, pn⟩, ll, lq⟩ := l5
              clear hc5 HFI hl5
              unfold lfv
              dsimp only
              have g2 : ∀ o, (w5.alloc o).cell? ⟨B1, 2, none⟩ = some (.int .u64 (va : Int)) := fun o => (HB5.out.alloc o).cell 2
              have glt := HB5.out.lt
              go_wp2_with fail
              clear g2 glt
              have nb := Blk.new w5 [.bool v, .bool r, .bool x, .bool y, .bool u, .bool g, .bool a, .bool d, .int .i64 sw, .int .u64 (pn : Int), .int .i64 (ll : Int), .int .u64 (lq : Int)] 43
              have hT6 := T5.out.any (Chg.alloc no w5 (.cells #[.bool v, .bool r, .bool x, .bool y, .bool u, .bool g, .bool a, .bool d, .int .i64 sw, .int .u64 (pn : Int), .int .i64 (ll : Int), .int .u64 (lq : Int)] 43))
              obtain ⟨BL, hBL⟩ : ∃ B, B = w5.heap.size := ⟨_, rfl⟩
              obtain ⟨W6, hW6⟩ : ∃ W, W = w5.alloc (.cells #[.bool v, .bool r, .bool x, .bool y, .bool u, .bool g, .bool a, .bool d, .int .i64 sw, .int .u64 (pn : Int), .int .i64 (ll : Int), .int .u64 (lq : Int)] 43) := ⟨_, rfl⟩
              rw [← hW6] at nb hT6 ⊢
              rw [← hBL] at nb
              try rw [← hBL]
              have T6 := Lib.hid hT6; have HL6 := Lib.hid nb
              clear nb hT6 hW6 hBL T5 HB5
              refine (HH.out _ T6.out.rf).mono ?_
              rintro e w7 ⟨rfl, hc7⟩
              have T7 := Lib.hid (T6.out.any hc7); have HL7 := Lib.hid (HL6.out.chg hc7 (fun h => h))
              clear hc7 T6 HL6 HH
              have hus : w7.cell? ⟨rp, 5, none⟩ = some (.int .i64 (S.used : Int)) := T7.out.rf.blk.cell 5
              have huc : ∀ nn, Calls Try.prog 15 #[.pointer (some ⟨tp, 0, none⟩)] (w7.drewN nn) fun r w'' => r = .returned (.int .i64 (S.used : Int)) ∧ w7.drewN nn = w'' := fun nn => I.used (T7.out.any (Chg.drewN no w7 nn)).tx
              have hsc : ∀ nn, Calls Try.prog 21 #[.pointer (some ⟨sp, 0, none⟩)] (w7.drewN nn) fun r w'' => r = .returned (.int .i64 (S.used : Int)) ∧ w7.drewN nn = w'' := fun nn => I.sused (T7.out.any (Chg.drewN no w7 nn)).tx
              obtain ⟨us, hus2⟩ : ∃ u, u = S.used := ⟨_, rfl⟩
              rw [← hus2] at hus huc hsc
              have HUC := Lib.hid huc; have HSC := Lib.hid hsc
              have rlt := T7.out.rf.blk.lt
              clear huc hsc hus2
              go_wp2_with fail
              go_quiet ((first | (go_at_call 15; exact quiet_same (HUC.out _)) | (go_at_call 21; exact quiet_same (HSC.out _))))
              have hT9 := T7.out.any (Chg.drewN no w7 nq)
              have T9 := Lib.hid hT9
              clear hT9 T7 HL7
              have hk1 : k + 1 ≤ 40 := by omega
              go_wp2
              go_roundw
              case rel => exact ⟨k + 1, _, _, _, _, _, hlt, hk1, hkk9, by go_num, T9.out⟩
              case measure => first | (simp [intOf]; done) | (simp [intOf]; omega)
            | some i =>
              rw [hho] at hh hhp
              replace hhp := hhp.symm
              rw [hhp] at hfi
              replace hh : ∀ w', RfT w' rp vL vT S 2 n fs → Calls Try.prog 20 #[.pointer (some ⟨rp, 0, none⟩), .int .u64 va] w' fun e w'' => e = .returned (.int .i64 (i : Int)) ∧ Chg no w' w'' := hh
              have hil := hold_lt hho
              have HH := Lib.hid hh; have HFI := Lib.hid hfi; have HIL := Lib.hid hil
              clear hh hfi hhp hho hil
              have g2 : wc.cell? ⟨B1, 2, none⟩ = some (.int .u64 (va : Int)) := HB4.out.cell 2
              have glt := HB4.out.lt
              go_wp2_with fail
              clear g2 glt
              refine HFI.out.mono ?_
              rintro e w5 ⟨⟨l5, rfl, hl5⟩, hc5⟩
              have T5 := Lib.hid (HT4.out.any hc5); have HB5 := Lib.hid (HB4.out.chg hc5 (fun h => h))
              obtain ⟨⟨v, r, x, y, u, g, a, d, sw, pn⟩, ll, lq⟩ := l5
              obtain ⟨hle, hll⟩ := hl5 _ rfl
              have HLE := Lib.hid hle; have HLL := Lib.hid hll
              clear hle hll
              clear hc5 HFI hl5
              unfold lfv
              dsimp only
              have g2 : ∀ o, (w5.alloc o).cell? ⟨B1, 2, none⟩ = some (.int .u64 (va : Int)) := fun o => (HB5.out.alloc o).cell 2
              have glt := HB5.out.lt
              go_wp2_with fail
              clear g2 glt
              have nb := Blk.new w5 [.bool v, .bool r, .bool x, .bool y, .bool u, .bool g, .bool a, .bool d, .int .i64 sw, .int .u64 (pn : Int), .int .i64 (ll : Int), .int .u64 (lq : Int)] 43
              have hT6 := T5.out.any (Chg.alloc no w5 (.cells #[.bool v, .bool r, .bool x, .bool y, .bool u, .bool g, .bool a, .bool d, .int .i64 sw, .int .u64 (pn : Int), .int .i64 (ll : Int), .int .u64 (lq : Int)] 43))
              obtain ⟨BL, hBL⟩ : ∃ B, B = w5.heap.size := ⟨_, rfl⟩
              obtain ⟨W6, hW6⟩ : ∃ W, W = w5.alloc (.cells #[.bool v, .bool r, .bool x, .bool y, .bool u, .bool g, .bool a, .bool d, .int .i64 sw, .int .u64 (pn : Int), .int .i64 (ll : Int), .int .u64 (lq : Int)] 43) := ⟨_, rfl⟩
              rw [← hW6] at nb hT6 ⊢
              rw [← hBL] at nb
              try rw [← hBL]
              have T6 := Lib.hid hT6; have HL6 := Lib.hid nb
              clear nb hT6 hW6 hBL T5 HB5
              refine (HH.out _ T6.out.rf).mono ?_
              rintro e w7 ⟨rfl, hc7⟩
              have T7 := Lib.hid (T6.out.any hc7); have HL7 := Lib.hid (HL6.out.chg hc7 (fun h => h))
              clear hc7 T6 HL6 HH
              have hus : w7.cell? ⟨rp, 5, none⟩ = some (.int .i64 (S.used : Int)) := T7.out.rf.blk.cell 5
              have huc : ∀ nn, Calls Try.prog 15 #[.pointer (some ⟨tp, 0, none⟩)] (w7.drewN nn) fun r w'' => r = .returned (.int .i64 (S.used : Int)) ∧ w7.drewN nn = w'' := fun nn => I.used (T7.out.any (Chg.drewN no w7 nn)).tx
              have hsc : ∀ nn, Calls Try.prog 21 #[.pointer (some ⟨sp, 0, none⟩)] (w7.drewN nn) fun r w'' => r = .returned (.int .i64 (S.used : Int)) ∧ w7.drewN nn = w'' := fun nn => I.sused (T7.out.any (Chg.drewN no w7 nn)).tx
              obtain ⟨Ax, cx, hvx, _, _, hcx0⟩ := T7.out.rf.liesL
              obtain ⟨gx, rfl, hcx⟩ := hcx0 (by have := HIL.out; omega)
              clear hcx0
              have hgx : gx < w7.heap.size := cell_lt (hcx i HIL.out 0 (by omega))
              have hcx2 := hcx i HIL.out
              rw [← entOf_at HIL.out] at hcx2
              have hrw : w7.cell? ⟨rp, 0, none⟩ = some (.slice (some ⟨gx, 0, none⟩) S.L.length cx) := by rw [← hvx]; exact T7.out.rf.blk.cell 0
              have hmv := hcx2
              have hle := HLE.out
              have hll := HLL.out
              clear HLE HLL
              obtain ⟨nl, hnl⟩ : ∃ k, k = S.L.length := ⟨_, rfl⟩
              rw [← hnl] at hrw
              have p1 : i < nl := by rw [hnl]; exact HIL.out
              have p2 : (i : Int) < (nl : Int) := by omega
              have p3 : (0 : Int) ≤ (i : Int) := by omega
              have p4 : ¬ (i : Int) < 0 := by omega
              generalize entOf S.L i = me at hle hll hmv
              obtain ⟨mv, ml, mE⟩ := me
              dsimp only at hle hll
              subst hle hll
              have mv0 : w7.cell? ⟨gx, i * 12, none⟩ = some (.int .u64 (mv : Int)) := hmv 0 (by omega)
              have mv1 : w7.cell? ⟨gx, i * 12 + 1, none⟩ = some (.int .i64 (ll : Int)) := hmv 1 (by omega)
              have mv2 : w7.cell? ⟨gx, i * 12 + 2, none⟩ = some (.bool v) := hmv 2 (by omega)
              have mv3 : w7.cell? ⟨gx, i * 12 + 3, none⟩ = some (.bool r) := hmv 3 (by omega)
              have mv4 : w7.cell? ⟨gx, i * 12 + 4, none⟩ = some (.bool x) := hmv 4 (by omega)
              have mv5 : w7.cell? ⟨gx, i * 12 + 5, none⟩ = some (.bool y) := hmv 5 (by omega)
              have mv6 : w7.cell? ⟨gx, i * 12 + 6, none⟩ = some (.bool u) := hmv 6 (by omega)
              have mv7 : w7.cell? ⟨gx, i * 12 + 7, none⟩ = some (.bool g) := hmv 7 (by omega)
              have mv8 : w7.cell? ⟨gx, i * 12 + 8, none⟩ = some (.bool a) := hmv 8 (by omega)
              have mv9 : w7.cell? ⟨gx, i * 12 + 9, none⟩ = some (.bool d) := hmv 9 (by omega)
              have mv10 : w7.cell? ⟨gx, i * 12 + 10, none⟩ = some (.int .i64 sw) := hmv 10 (by omega)
              have mv11 : w7.cell? ⟨gx, i * 12 + 11, none⟩ = some (.int .u64 (pn : Int)) := hmv 11 (by omega)
              have lf0 : w7.cell? ⟨BL, 0, none⟩ = some (.bool v) := HL7.out.cell 0
              have lf1 : w7.cell? ⟨BL, 1, none⟩ = some (.bool r) := HL7.out.cell 1
              have lf2 : w7.cell? ⟨BL, 2, none⟩ = some (.bool x) := HL7.out.cell 2
              have lf3 : w7.cell? ⟨BL, 3, none⟩ = some (.bool y) := HL7.out.cell 3
              have lf4 : w7.cell? ⟨BL, 4, none⟩ = some (.bool u) := HL7.out.cell 4
              have lf5 : w7.cell? ⟨BL, 5, none⟩ = some (.bool g) := HL7.out.cell 5
              have lf6 : w7.cell? ⟨BL, 6, none⟩ = some (.bool a) := HL7.out.cell 6
              have lf7 : w7.cell? ⟨BL, 7, none⟩ = some (.bool d) := HL7.out.cell 7
              have lf8 : w7.cell? ⟨BL, 8, none⟩ = some (.int .i64 sw) := HL7.out.cell 8
              have lf9 : w7.cell? ⟨BL, 9, none⟩ = some (.int .u64 (pn : Int)) := HL7.out.cell 9
              have lf10 : w7.cell? ⟨BL, 10, none⟩ = some (.int .i64 (ll : Int)) := HL7.out.cell 10
              have lf11 : w7.cell? ⟨BL, 11, none⟩ = some (.int .u64 (lq : Int)) := HL7.out.cell 11
              clear hmv hcx hcx2 hvx hnl
              obtain ⟨us, hus2⟩ : ∃ u, u = S.used := ⟨_, rfl⟩
              rw [← hus2] at hus huc hsc
              have HUC := Lib.hid huc; have HSC := Lib.hid hsc
              have rlt := T7.out.rf.blk.lt
              clear huc hsc hus2
              go_wp2_with fail
              go_quiet ((first | (go_at_call 15; exact quiet_same (HUC.out _)) | (go_at_call 21; exact quiet_same (HSC.out _))))
              have hT9 := T7.out.any (Chg.drewN no w7 nq)
              have T9 := Lib.hid hT9
              clear hT9 T7 HL7
              have hk1 : k + 1 ≤ 40 := by omega
              go_wp2
              go_roundw
              case rel => exact ⟨k + 1, _, _, _, _, _, hlt, hk1, hkk9, by go_num, T9.out⟩
              case measure => first | (simp [intOf]; done) | (simp [intOf]; omega)
      · obtain rfl : k = len := by omega
        have hpg := I.pages T.out.tx (by have := T.out.hL; omega)
        have HPG := Lib.hid hpg; clear hpg
        go_wp2_with fail
        refine HPG.out.mono ?_
        rintro e w5 ⟨⟨y5, rfl, hy5⟩, hc5⟩
        have T5 := Lib.hid (T.out.any hc5); have HY5 := Lib.hid hy5
        clear hc5 hy5
        have hrp := rpages_any rp vL vT S 2 n fs w5 T5.out.rf (by have := T5.out.hL; omega)
        have HRP := Lib.hid hrp; clear hrp
        go_wp2_with fail
        refine HRP.out.mono ?_
        rintro e w6 ⟨y6, rfl, hy6, hc6⟩
        have hl6 : LiesS pgC 12 w6 y6 (sortP S.L) := lies_own pgC_len (by rw [sortP_len]; exact hy6)
        have hl5 : LiesS pgC 12 w6 y5 (sortP S.L) := LiesS.below HY5.out hc6.none
        have hsm := rsame_yes y5 y6 (sortP S.L) w6 hl5 hl6 (by rw [sortP_len]; have := T5.out.hL; omega)
        have C6 := Lib.hid (T5.out.chg.trans hc6); have HSM := Lib.hid hsm
        clear hc6 hl6 hl5 hsm hy6
        go_wp2_with fail
        refine HSM.out.mono ?_
        rintro e w7 ⟨rfl, hc7⟩
        have C7 := Lib.hid (C6.out.trans hc7)
        clear hc7
        go_wp2
        go_ret
        exact ⟨rfl, C7.out⟩
  · have hnt := I.new_no 2 n fs w3 mp sp Fm Gs HM3.out HK3.out HDIS.out htk
    have hrn := fun w => rnew_no 2 n fs w (by omega) (by omega) (by omega) htk
    obtain ⟨E, hE⟩ : ∃ E, E = takE 2 n fs 0 := ⟨_, rfl⟩
    have hE2 : E = 50 ∨ E = 61 := by
      rcases takE_cases 2 n fs 0 with h | h | h
      · exact absurd h htk
      · exact .inl (hE.trans h)
      · exact .inr (hE.trans h)
    rw [← hE] at hnt hrn
    have HNT := Lib.hid hnt; have HRN := Lib.hid hrn
    clear hnt hrn htk hE
    have e3 := E3.out
    have EE := Lib.hid hE2
    have ene : (E == 0) = false := by rcases hE2 with rfl | rfl <;> rfl
    have ene2 : ¬ E = 0 := by omega
    have ene3 : decide (E = 0) = false := decide_eq_false ene2
    have ene4 : (E != 0) = true := by simp [ene2]
    clear hE2 e3
    have u0 := I.unmap_nil; have u1 := I.find_nil; have u2 := I.map_nil; have u3 := I.change_nil; have u4 := I.root_nil; have u5 := I.used_nil; have u6 := I.pages_nil; have u7 := I.new_nil sp
    have U0 := Lib.hid u0; have U1 := Lib.hid u1; have U2 := Lib.hid u2; have U3 := Lib.hid u3; have U4 := Lib.hid u4; have U5 := Lib.hid u5; have U6 := Lib.hid u6; have U7 := Lib.hid u7
    clear u0 u1 u2 u3 u4 u5 u6 u7
    go_wp2_with fail
    refine HNT.out.mono ?_
    rintro e w4 ⟨rfl, hc4⟩
    have C4 := Lib.hid (show Chg no w w4 from ⟨hc4.os.trans C3.out.os, hc4.tape.trans C3.out.tape, hc4.output.trans C3.out.output, Nat.le_trans C3.out.size hc4.size, fun j hj hn => (hc4.block j (by have := C3.out.size; omega) (fun h => by have := HFOOT.out j h; omega)).trans (C3.out.block j hj hn)⟩)
    clear hc4 C3
    have e3 := E3.out
    go_wp2_with fail
    clear e3
    refine (HRN.out _).mono ?_
    rintro e w5 ⟨rfl, hc5⟩
    have C5 := Lib.hid (C4.out.trans hc5)
    clear hc5 C4
    go_wp2_with fail
    refine (U0.out 0 _).mono ?_
    rintro e w6 ⟨⟨e6, rfl⟩, hc6⟩
    have C6 := Lib.hid (C5.out.trans hc6)
    clear hc6 C5
    obtain ⟨v6, r6, x6, y6, u6, g6, a6, d6, s6, p6⟩ := e6
    unfold pv
    dsimp only
    go_wp2_with fail
    refine (U1.out 0 _).mono ?_
    rintro e w7 ⟨⟨l7, rfl⟩, hc7⟩
    have C7 := Lib.hid ((C6.out.thenAlloc _).trans hc7)
    clear hc7 C6
    obtain ⟨⟨v7, r7, x7, y7, u7, g7, a7, d7, s7, p7⟩, l8, q7⟩ := l7
    unfold lfv
    dsimp only
    go_wp2_with fail
    refine (U7.out _).mono ?_
    rintro e w8 ⟨rfl, hc8⟩
    have C8 := Lib.hid ((C7.out.thenAlloc _).trans hc8)
    clear hc8 C7
    go_wp2_with fail
    refine (U2.out 0 0 zeE _).mono ?_
    rintro e w9 ⟨rfl, hc9⟩
    have C9 := Lib.hid (C8.out.trans hc9)
    clear hc9 C8
    go_wp2_with fail
    refine (U3.out 0 zeE _).mono ?_
    rintro e w10 ⟨rfl, hc10⟩
    have C10 := Lib.hid (C9.out.trans hc10)
    clear hc10 C9
    have q17 : ∀ B (h : B < w10.heap.size), w10.cell? ⟨B, 0, none⟩ = w10.cell? ⟨B, 0, none⟩ := fun _ _ => rfl
    clear q17
    go_wp2_with fail
    refine (U4.out _).mono ?_
    rintro e w11 ⟨rfl, hc11⟩
    have C11 := Lib.hid (C10.out.trans hc11)
    clear hc11 C10
    go_wp2_with fail
    refine (U5.out _).mono ?_
    rintro e w12 ⟨rfl, hc12⟩
    have C12 := Lib.hid (C11.out.trans hc12)
    clear hc12 C11
    go_wp2_with fail
    refine (U6.out _).mono ?_
    rintro e w13 ⟨⟨A13, c13, rfl⟩, hc13⟩
    have C13 := Lib.hid (C12.out.trans hc13)
    clear hc13 C12
    go_wp2
    go_ret
    exact ⟨rfl, C13.out⟩
end Go.Proofs.Ytdakfgefnapglaa
