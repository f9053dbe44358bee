/-
  What Laid leaves: a memory of the program's and one of the document's, side by side, with the words that came in. Contracts over the translation.
-/
import Derived.Test.YtibmjbfnjkmjbaaMem10
namespace Go.Proofs.Ytibmjbfnjkmjbaa
open Go.RowKit
set_option linter.unusedVariables false
set_option linter.unusedSimpArgs false

/-- words that came in: a place and a value each -/
def IsWords (w : World) (A : Option Addr) (n : Nat) (ws : List (Nat × Nat)) : Prop :=
  ws.length = n ∧ (0 < n → ∃ b off, A = some ⟨b, off, none⟩ ∧ ∀ i (h : i < ws.length), w.cell? ⟨b, off + i * 2, none⟩ = some (.int .u64 (ws[i].1 : Int)) ∧ w.cell? ⟨b, off + i * 2 + 1, none⟩ = some (.int .u64 (ws[i].2 : Int)) ∧ ws[i].1 < 18446744073709551616 ∧ ws[i].2 < 18446744073709551616)
theorem IsWords.below {w w' : World} {A : Option Addr} {n : Nat} {ws : List (Nat × Nat)} (h : IsWords w A n ws) (hb : Below w.heap.size w w') : IsWords w' A n ws := by
  refine ⟨h.1, fun h0 => ?_⟩
  obtain ⟨b, off, rfl, hc⟩ := h.2 h0
  refine ⟨b, off, rfl, fun i hi => ?_⟩
  obtain ⟨c0, c1, c2⟩ := hc i hi
  have mv : ∀ o u, w.cell? ⟨b, o, none⟩ = some u → w'.cell? ⟨b, o, none⟩ = some u := fun o u h => (hb.cell (p := ⟨b, o, none⟩) (cell_lt h)).trans h
  exact ⟨mv _ _ c0, mv _ _ c1, c2⟩
/-- the document's memory behind them -/
def laidL (fr : Nat) (ws : List (Nat × Nat)) : List (Nat × Int) := ws.foldl (fun L p => stL fr L p.1 8 (p.2 : Int)) []
theorem laidL_snoc (fr : Nat) (ws : List (Nat × Nat)) (p : Nat × Nat) : laidL fr (ws ++ [p]) = stL fr (laidL fr ws) p.1 8 (p.2 : Int) := by
  unfold laidL; rw [List.foldl_append]; rfl
theorem take_60 {ws : List (Nat × Nat)} {j : Nat} (h : j = ws.length) (h6 : j ≤ 60) : ws.take j = ws.take 60 := by
  rw [List.take_of_length_le (by omega), List.take_of_length_le (by omega)]
set_option maxHeartbeats 4000000 in
theorem laid_any (fr : Nat) (A : Option Addr) (len cap : Nat) (ws : List (Nat × Nat)) (w : World) (f1 : 1 ≤ fr) (f2 : fr ≤ 1048576) (hs : IsWords w A len ws) (hl : len ≤ 9223372036854775807) :
    Calls Try.prog 7 #[.int .i64 fr, .slice A len cap] w fun r w' => ∃ mp rm F vv C k, r = .returned (.tuple #[.pointer (some ⟨mp, 0, none⟩), .pointer (some ⟨rm, 0, none⟩)]) ∧ Pair w w' mp rm fr k F vv C (laidL fr (ws.take 60)) ∧ Below w.heap.size w w' := by
  have hnew := newX fr w f1 f2
  obtain ⟨hlen, hs⟩ := hs
  have HN := Lib.hid hnew; have HS := Lib.hid hs; have HLn := Lib.hid hlen
  clear hnew hs hlen
  go_enter Try.func7, Try.ntmps7
  go_wp2_with fail
  refine HN.out.mono ?_
  rintro e w2 ⟨mp, F2, rfl, hmp, hF2, hM2, hc2⟩
  have hb3 := Blk.new w2 [.int .i64 fr, .slice none 0 0] 59
  have hc3 : Chg no w2 (w2.alloc (.cells #[.int .i64 fr, .slice none 0 0] 59)) := Chg.alloc _ _ _
  have hP : Pair w (w2.alloc (.cells #[.int .i64 fr, .slice none 0 0] 59)) mp w2.heap.size fr 0 F2 (.slice none 0 0) (fun _ => List.replicate 4096 0) [] := by
    have z2 := hc2.size
    have hlt := hM2.lt
    have hml := hM2.mplt
    exact ⟨hM2.chg hc3 (fun h => h) (fun _ _ h => h), refNil hb3, Agree.zero, Nat.le_refl _, by omega, fun j hj => by have := hF2 j hj; omega, fun j hj => (by cases hj), fun h => by have := hlt _ h; omega, fun j hj => (by cases hj), by omega, by omega, by omega, hc2.trans hc3⟩
  obtain ⟨rm, hrm⟩ : ∃ rm, rm = w2.heap.size := ⟨_, rfl⟩
  rw [← hrm] at hP
  have HP := Lib.hid hP
  have HRM := Lib.hid hrm
  clear hb3 hc3 hP hmp hF2 hM2 hc2
  go_wp2_with fail
  rw [← HRM.out]
  clear hrm
  go_loopw [21] (fun i wr => ∃ (k : Nat) (F : Nat → Prop) (vv : Value) (C : Nat → List Int), k ≤ len ∧ k ≤ 60 ∧ i = .int .i64 k ∧ Pair w wr mp rm fr k F vv C (laidL fr (ws.take k))) (fun i _ => len - (intOf i).toNat)
  case atStart => exact ⟨0, _, _, _, Nat.zero_le _, Nat.zero_le _, rfl, HP.out⟩
  case round =>
    obtain ⟨k, F, vv, C, hk, hk60, rfl, hT⟩ := hrel
    have T := Lib.hid hT; clear hT
    by_cases hlt : k < len
    · obtain ⟨b, off, rfl, hact⟩ := HS.out (by omega)
      have hkl : k < ws.length := by have := HLn.out; omega
      obtain ⟨q0, q1, qa, qv⟩ := hact k hkl
      have hsn : ws.take (k + 1) = ws.take k ++ [ws[k]] := by rw [List.take_succ_eq_append_getElem hkl]
      generalize ws[k] = p at *
      obtain ⟨a, v⟩ := p
      dsimp only at *
      have mv : ∀ o u, w.cell? ⟨b, o, none⟩ = some u → wr.cell? ⟨b, o, none⟩ = some u := fun o u h => (World.cell?_of_block (w := w) (a := ⟨b, o, none⟩) (T.out.chg.block b (cell_lt h) (fun h => h))).trans h
      have x0 := mv _ _ q0
      have x1 := mv _ _ q1
      have SN := Lib.hid hsn
      clear q0 q1 mv hact hsn
      by_cases h60 : 60 ≤ k
      · have h6i : (60 : Int) ≤ (k : Int) := by omega
        go_wp2
        go_ret2
        obtain rfl : k = 60 := by omega
        have hT := T.out.any (Chg.alloc no wr (.cells #[.int .u64 (a : Int), .int .u64 (v : Int)] 54))
        exact ⟨mp, rm, F, vv, C, 60, rfl, hT, hT.chg.none⟩
      · have h6i : ¬ (60 : Int) ≤ (k : Int) := by omega
        go_wp2_with fail
        have nb := Blk.new wr [.int .u64 (a : Int), .int .u64 (v : Int)] 54
        have hT1 := T.out.any (Chg.alloc no wr (.cells #[.int .u64 (a : Int), .int .u64 (v : Int)] 54))
        have hFB : ¬ F wr.heap.size := fun h => by have := T.out.olt.1 _ h; omega
        obtain ⟨B1, hB1⟩ : ∃ B, B = wr.heap.size := ⟨_, rfl⟩
        obtain ⟨W1, hW1⟩ : ∃ W, W = wr.alloc (.cells #[.int .u64 (a : Int), .int .u64 (v : Int)] 54) := ⟨_, rfl⟩
        rw [← hW1] at nb hT1
        rw [← hB1] at nb hFB
        rw [← hW1]
        try rw [← hB1]
        have T1 := Lib.hid hT1; have NB := Lib.hid nb; have FB := Lib.hid hFB
        clear hT1 nb hFB hW1 hB1 T x0 x1
        have hst := store_any mp fr k a 8 v C F W1 T1.out.mem (by omega) (by omega) (by omega) (by omega)
        have HST := Lib.hid hst; clear hst
        refine HST.out.mono ?_
        rintro e w3 ⟨rfl, F', hM3, hx3, hc3⟩
        have hr3 := T1.out.ref1 hc3
        have hL := st_len fr a 8 (v : Int) (laidL fr (ws.take k))
        have hLl := T1.out.len
        have hrs := rstore_any rm fr a 8 v vv _ w3 hr3 (by omega) (by omega) f2 (by omega) (by omega)
        have nb3 := NB.out.chg hc3 FB.out
        have m0 : w3.cell? ⟨B1, 0, none⟩ = some _ := nb3.cell 0
        have m1 : w3.cell? ⟨B1, 1, none⟩ = some _ := nb3.cell 1
        have mlt := nb3.lt
        have HRS := Lib.hid hrs; have M3 := Lib.hid hM3; have X3 := Lib.hid hx3; have C3 := Lib.hid hc3; have HL := Lib.hid hL; have HLl := Lib.hid hLl
        clear hrs hM3 hx3 hc3 hr3 nb3 hL hLl
        go_wp2_with fail
        refine HRS.out.mono ?_
        rintro e w4 ⟨rfl, v', hr4, hn4, hc4⟩
        have hT4 := T1.out.join M3.out X3.out C3.out hr4 hn4 hc4 (st_agree T1.out.agr f2) (by have := HL.out; have := HLl.out; omega) (by omega)
        have T4 := Lib.hid hT4
        clear hT4 hr4 hn4 hc4 m0 m1 mlt
        go_wp2
        go_roundw
        case rel => exact ⟨k + 1, F', v', _, by omega, by omega, by go_num, by rw [SN.out, laidL_snoc]; exact T4.out⟩
        case measure => simp [intOf]; omega
    · obtain rfl : k = len := by omega
      have ht := take_60 HLn.out.symm hk60
      have HT6 := Lib.hid ht; clear ht
      go_wp2
      go_ret2
      exact ⟨mp, rm, F, vv, C, _, rfl, HT6.out ▸ T.out, T.out.chg.none⟩
end Go.Proofs.Ytibmjbfnjkmjbaa
