/-
  Layer 13: what first answers, over the interface of package table.
-/
import Derived.Test.YtdakfgefnapglaaLawI13
import Derived.Deep.Cut
namespace Go.Proofs.Ytdakfgefnapglaa
open Go.RowKit
set_option linter.unusedVariables false
set_option linter.unusedSimpArgs false
attribute [local go_sem] setCell_drewN alloc_drewN

def pF : Ent := ⟨true, true, false, false, false, false, false, false, 0, 14⟩
def t0F : Tt := ⟨[], [], 1⟩
def t1F : Tt := ⟨[⟨1073741824, 0, pF⟩], [⟨1, 1073741824⟩, ⟨0, 1073741824⟩], 3⟩
def t2F : Tt := ⟨[⟨1073741824, 0, pF⟩, ⟨1073745920, 0, pF⟩], [⟨1, 1073741824⟩, ⟨0, 1073741824⟩], 3⟩
def t3F : Tt := ⟨[⟨1073745920, 0, pF⟩], [⟨1, 1073741824⟩, ⟨0, 1073741824⟩], 3⟩
theorem k0F : takE 2 12 16 0 = 0 := by decide
theorem m1F : mapT 2 12 16 1073741824 0 pF t0F = (t1F, 0) := by kernel_rfl
theorem m2F : mapT 2 12 16 1073745920 0 pF t1F = (t2F, 0) := by kernel_rfl
theorem m3F : mapT 2 12 16 1073746211 0 pF t2F = (t2F, 130) := by kernel_rfl
theorem h1F : holdP t2F.L 1073745928 = some ⟨1073745920, 0, pF⟩ := by kernel_rfl
theorem u1F : unmT 1073745919 t2F = (t3F, pF, 0) := by kernel_rfl
theorem h2F : holdP t3F.L 1073741824 = none := by kernel_rfl
theorem c1F : chgT 1073745920 zeE t3F = (t3F, 2) := by kernel_rfl
theorem s1F : (sortP t3F.L).length = 1 := by kernel_rfl
/-- tables of a call's own, and a variable beside them -/
structure OneT (I : TabI) (w wr : World) (tp sp : Nat) (F : Nat → Prop) (S : Tt) (k BP : Nat) (cs : List Value) : Prop where
  tx : I.TX 2 12 16 wr tp sp F S k
  fF : ∀ j, F j → w.heap.size ≤ j
  box : Blk wr BP cs 39
  nF : ¬ F BP
  chg : Chg no w wr
section
variable {I : TabI} {w wr w1 : World} {tp sp k BP : Nat} {F F' : Nat → Prop} {S S' : Tt} {cs : List Value}
theorem OneT.any (h : OneT I w wr tp sp F S k BP cs) (hc : Chg no wr w1) : OneT I w w1 tp sp F S k BP cs :=
  ⟨I.chg h.tx hc (fun _ _ h => h), h.fF, h.box.chg hc (fun h => h), h.nF, h.chg.trans hc⟩
theorem OneT.step (h : OneT I w wr tp sp F S k BP cs) (tx : I.TX 2 12 16 w1 tp sp F' S' (k + 1)) (hF : ∀ j, F' j → F j ∨ wr.heap.size ≤ j) (hc : Chg F wr w1) : OneT I w w1 tp sp F' S' (k + 1) BP cs := by
  have z := h.chg.size
  refine ⟨tx, fun j hj => (hF j hj).elim (h.fF j) (fun h => by omega), h.box.chg hc h.nF, fun hB => (hF _ hB).elim h.nF (fun h2 => by have := h.box.lt; omega), hc.os.trans h.chg.os, hc.tape.trans h.chg.tape, hc.output.trans h.chg.output, Nat.le_trans z hc.size, fun j hj hn => ?_⟩
  rw [hc.block j (by omega) (fun e => by have := h.fF j e; omega), h.chg.block j hj hn]
end
set_option maxRecDepth 100000 in
set_option maxHeartbeats 16000000 in
theorem first13 (I : TabI) (w : World) : Calls Try.prog 5 #[] w fun e w' => e = .returned (.bool true) ∧ Chg no w w' := by
  have hnew := fun w => newX 16 w (by decide) (by decide)
  have hstk := fun w => new_yesF (2 : Int) 12 w (by decide) (by decide)
  have HNEW := Lib.hid hnew; have HSTK := Lib.hid hstk
  clear hnew hstk
  go_enter Try.func5, Try.ntmps5
  go_wp2_with fail
  refine (HNEW.out _).mono ?_
  rintro e w2 ⟨mp, Fm, rfl, hmp, hFm, hM2, hc2⟩
  have C2 := Lib.hid hc2; have HM2 := Lib.hid hM2; have HFM := Lib.hid hFm
  have HMP := Lib.hid hmp
  clear hc2 hM2 hFm hmp
  go_wp2_with fail
  refine (HSTK.out _).mono ?_
  rintro e w3 ⟨sp, Gs, rfl, hk3, hGs, hc3⟩
  have hM3 := HM2.out.chg hc3 (fun h => h) (fun _ _ h => h)
  have hdis : ∀ j, (Fm j ∨ j = mp) → ¬ Gs j := fun j h1 h2 => by
    have := h1.elim (HM2.out.lt j) (fun h => h ▸ HM2.out.mplt)
    have := hGs j h2
    omega
  have hfoot : ∀ j, (Fm j ∨ Gs j) → w.heap.size ≤ j := fun j hj => hj.elim (HFM.out j) (fun h => by have := hGs j h; have := C2.out.size; omega)
  have C3 := Lib.hid (C2.out.trans hc3)
  have hnt := I.new_yes 2 12 16 w3 mp sp Fm Gs hM3 hk3 hdis k0F
  have HNT := Lib.hid hnt; have HFOOT := Lib.hid hfoot
  clear hc3 hM3 hk3 hGs hdis hfoot C2 HM2 HFM hnt
  go_wp2_with fail
  refine HNT.out.mono ?_
  rintro e w4 ⟨tp, F, rfl, htx, hF, hc4⟩
  have hP : ∀ o, o = Obj.cells #[.bool true, .bool true, .bool false, .bool false, .bool false, .bool false, .bool false, .bool false, .int .i64 0, .int .u64 14] 39 → OneT I w (w4.alloc o) tp sp F t0F 0 w4.heap.size [.bool true, .bool true, .bool false, .bool false, .bool false, .bool false, .bool false, .bool false, .int .i64 0, .int .u64 14] := fun o ho => by
    subst ho
    have z3 := C3.out.size
    have hcn : Chg no w w4 := ⟨hc4.os.trans C3.out.os, hc4.tape.trans C3.out.tape, hc4.output.trans C3.out.output, Nat.le_trans C3.out.size hc4.size, fun j hj hn => (hc4.block j (by omega) (fun h => by have := HFOOT.out j h; omega)).trans (C3.out.block j hj hn)⟩
    refine ⟨I.chg htx (Chg.alloc no _ _) (fun _ _ h => h), fun j hj => ?_, Blk.new w4 [.bool true, .bool true, .bool false, .bool false, .bool false, .bool false, .bool false, .bool false, .int .i64 0, .int .u64 14] 39, fun h => ?_, hcn.thenAlloc _⟩
    · rcases hF j hj with (h | rfl) | h | h
      · exact HFOOT.out j (.inl h)
      · exact HMP.out
      · exact HFOOT.out j (.inr h)
      · omega
    · have := I.lt htx _ h; omega
  have HP := Lib.hid (hP _ rfl)
  clear hP htx hF hc4 C3
  go_upto_region 5 with (fail)
  obtain ⟨W5, hW5⟩ : ∃ W, W = w4.alloc (.cells #[.bool true, .bool true, .bool false, .bool false, .bool false, .bool false, .bool false, .bool false, .int .i64 0, .int .u64 14] 39) := ⟨_, rfl⟩
  obtain ⟨BP, hBP⟩ : ∃ B, B = w4.heap.size := ⟨_, rfl⟩
  rw [← hW5, ← hBP] at HP
  rw [← hW5]
  try rw [← hBP]
  clear hW5 hBP
  have b0 : W5.cell? ⟨BP, 0, none⟩ = some (.bool true) := HP.out.box.cell 0
  have b1 : W5.cell? ⟨BP, 1, none⟩ = some (.bool true) := HP.out.box.cell 1
  have b2 : W5.cell? ⟨BP, 2, none⟩ = some (.bool false) := HP.out.box.cell 2
  have b3 : W5.cell? ⟨BP, 3, none⟩ = some (.bool false) := HP.out.box.cell 3
  have b4 : W5.cell? ⟨BP, 4, none⟩ = some (.bool false) := HP.out.box.cell 4
  have b5 : W5.cell? ⟨BP, 5, none⟩ = some (.bool false) := HP.out.box.cell 5
  have b6 : W5.cell? ⟨BP, 6, none⟩ = some (.bool false) := HP.out.box.cell 6
  have b7 : W5.cell? ⟨BP, 7, none⟩ = some (.bool false) := HP.out.box.cell 7
  have b8 : W5.cell? ⟨BP, 8, none⟩ = some (.int .i64 0) := HP.out.box.cell 8
  have b9 : W5.cell? ⟨BP, 9, none⟩ = some (.int .u64 14) := HP.out.box.cell 9
  have blt := HP.out.box.lt
  have hm := I.map 1073741824 0 pF HP.out.tx (by decide) (by decide) (by decide) (by decide) (by decide)
  rw [m1F] at hm
  have HM := Lib.hid hm; clear hm
  go_wp2_with fail
  clear blt b0 b1 b2 b3 b4 b5 b6 b7 b8 b9
  refine HM.out.mono ?_
  rintro e w6 ⟨rfl, F6, htx, hF, hc⟩
  have P6 := Lib.hid (HP.out.step htx hF hc)
  clear htx hF hc HM HP
  have b0 : w6.cell? ⟨BP, 0, none⟩ = some (.bool true) := P6.out.box.cell 0
  have b1 : w6.cell? ⟨BP, 1, none⟩ = some (.bool true) := P6.out.box.cell 1
  have b2 : w6.cell? ⟨BP, 2, none⟩ = some (.bool false) := P6.out.box.cell 2
  have b3 : w6.cell? ⟨BP, 3, none⟩ = some (.bool false) := P6.out.box.cell 3
  have b4 : w6.cell? ⟨BP, 4, none⟩ = some (.bool false) := P6.out.box.cell 4
  have b5 : w6.cell? ⟨BP, 5, none⟩ = some (.bool false) := P6.out.box.cell 5
  have b6 : w6.cell? ⟨BP, 6, none⟩ = some (.bool false) := P6.out.box.cell 6
  have b7 : w6.cell? ⟨BP, 7, none⟩ = some (.bool false) := P6.out.box.cell 7
  have b8 : w6.cell? ⟨BP, 8, none⟩ = some (.int .i64 0) := P6.out.box.cell 8
  have b9 : w6.cell? ⟨BP, 9, none⟩ = some (.int .u64 14) := P6.out.box.cell 9
  have blt := P6.out.box.lt
  have hm := I.map 1073745920 0 pF P6.out.tx (by decide) (by decide) (by decide) (by decide) (by decide)
  rw [m2F] at hm
  have HM := Lib.hid hm; clear hm
  go_wp2_with fail
  clear blt b0 b1 b2 b3 b4 b5 b6 b7 b8 b9
  refine HM.out.mono ?_
  rintro e w7 ⟨rfl, F7, htx, hF, hc⟩
  have P7 := Lib.hid (P6.out.step htx hF hc)
  clear htx hF hc HM P6
  have b0 : w7.cell? ⟨BP, 0, none⟩ = some (.bool true) := P7.out.box.cell 0
  have b1 : w7.cell? ⟨BP, 1, none⟩ = some (.bool true) := P7.out.box.cell 1
  have b2 : w7.cell? ⟨BP, 2, none⟩ = some (.bool false) := P7.out.box.cell 2
  have b3 : w7.cell? ⟨BP, 3, none⟩ = some (.bool false) := P7.out.box.cell 3
  have b4 : w7.cell? ⟨BP, 4, none⟩ = some (.bool false) := P7.out.box.cell 4
  have b5 : w7.cell? ⟨BP, 5, none⟩ = some (.bool false) := P7.out.box.cell 5
  have b6 : w7.cell? ⟨BP, 6, none⟩ = some (.bool false) := P7.out.box.cell 6
  have b7 : w7.cell? ⟨BP, 7, none⟩ = some (.bool false) := P7.out.box.cell 7
  have b8 : w7.cell? ⟨BP, 8, none⟩ = some (.int .i64 0) := P7.out.box.cell 8
  have b9 : w7.cell? ⟨BP, 9, none⟩ = some (.int .u64 14) := P7.out.box.cell 9
  have blt := P7.out.box.lt
  have hm := I.map 1073746211 0 pF P7.out.tx (by decide) (by decide) (by decide) (by decide) (by decide)
  rw [m3F] at hm
  have HM := Lib.hid hm; clear hm
  go_wp2_with fail
  clear blt b0 b1 b2 b3 b4 b5 b6 b7 b8 b9
  refine HM.out.mono ?_
  rintro e w8 ⟨rfl, F8, htx, hF, hc⟩
  have P8 := Lib.hid (P7.out.step htx hF hc)
  clear htx hF hc HM P7
  have hf := I.find 1073745928 P8.out.tx (by decide)
  rw [h1F] at hf
  simp only [Option.isSome_some, if_true] at hf
  have HFI := Lib.hid hf; clear hf
  go_wp2_with fail
  refine HFI.out.mono ?_
  rintro e w10 ⟨⟨l10, rfl, hl10⟩, hc⟩
  have P10 := Lib.hid (P8.out.any hc)
  obtain ⟨hle, hll⟩ := hl10 _ rfl
  obtain ⟨le, ll, lq⟩ := l10
  dsimp only at hle hll
  subst hle hll
  clear hc HFI hl10 P8
  unfold lfv
  dsimp only [pF]
  have hu := fun w (h : OneT I w w10 tp sp F8 t2F 3 BP [.bool true, .bool true, .bool false, .bool false, .bool false, .bool false, .bool false, .bool false, .int .i64 0, .int .u64 14]) => I.unmap 1073745919 h.tx (by decide) (by decide)
  clear hu
  go_upto_region 8 with (fail)
  have hT := P10.out.any (Chg.alloc no w10 (.cells #[.bool true, .bool true, .bool false, .bool false, .bool false, .bool false, .bool false, .bool false, .int .i64 0, .int .u64 14, .int .i64 0, .int .u64 (lq : Int)] 43))
  have nb := Blk.new w10 [.bool true, .bool true, .bool false, .bool false, .bool false, .bool false, .bool false, .bool false, .int .i64 0, .int .u64 14, .int .i64 0, .int .u64 (lq : Int)] 43
  obtain ⟨B11, hB⟩ : ∃ B, B = w10.heap.size := ⟨_, rfl⟩
  obtain ⟨W11, hW⟩ : ∃ W, W = w10.alloc (.cells #[.bool true, .bool true, .bool false, .bool false, .bool false, .bool false, .bool false, .bool false, .int .i64 0, .int .u64 14, .int .i64 0, .int .u64 (lq : Int)] 43) := ⟨_, rfl⟩
  rw [← hW] at hT nb ⊢
  rw [← hB] at nb
  try rw [← hB]
  have P11 := Lib.hid hT; have HL := Lib.hid nb; have HBX := Lib.hid hB; have P10x := P10
  clear hT nb hW hB P10
  have hu := I.unmap 1073745919 P11.out.tx (by decide) (by decide)
  rw [u1F] at hu
  have HU := Lib.hid hu; clear hu
  go_wp2_with fail
  refine HU.out.mono ?_
  rintro e w12 ⟨rfl, F12, htx, hF, hc⟩
  have hnl : ¬ F8 B11 := fun h => by have := I.lt P10x.out.tx _ h; have := HBX.out; omega
  have hl12 := HL.out.chg hc hnl
  have P12 := Lib.hid (P11.out.step htx hF hc)
  have HL12 := Lib.hid hl12
  clear htx hF hc HU hnl hl12 P11 HL P10x HBX
  unfold pv
  dsimp only [pF]
  try generalize (Value.tuple #[.agg #[.bool true, .bool true, .bool false, .bool false, .bool false, .bool false, .bool false, .bool false, .int .i64 0, .int .u64 ((14 : Nat) : Int), .int .i64 ((0 : Nat) : Int), .int .u64 (lq : Int)], .int .i64 0]) = GV0
  try generalize (Value.agg #[.bool true, .bool true, .bool false, .bool false, .bool false, .bool false, .bool false, .bool false, .int .i64 0, .int .u64 14, .int .i64 0, .int .u64 (lq : Int)]) = GV1
  try generalize (Value.tuple #[.pointer (some ⟨mp, 0, none⟩), .int .i64 0]) = GV2
  try generalize (Value.tuple #[.pointer (some ⟨sp, 0, none⟩), .int .i64 0]) = GV3
  try generalize (Value.tuple #[.pointer (some ⟨tp, 0, none⟩), .int .i64 0]) = GV4
  go_upto_region 9 with (fail)
  have hT := P12.out.any (Chg.alloc no w12 (.cells #[.bool true, .bool true, .bool false, .bool false, .bool false, .bool false, .bool false, .bool false, .int .i64 0, .int .u64 14] 39))
  have nb := Blk.new w12 [.bool true, .bool true, .bool false, .bool false, .bool false, .bool false, .bool false, .bool false, .int .i64 0, .int .u64 14] 39
  obtain ⟨B13, hB⟩ : ∃ B, B = w12.heap.size := ⟨_, rfl⟩
  obtain ⟨W13, hW⟩ : ∃ W, W = w12.alloc (.cells #[.bool true, .bool true, .bool false, .bool false, .bool false, .bool false, .bool false, .bool false, .int .i64 0, .int .u64 14] 39) := ⟨_, rfl⟩
  rw [← hW] at hT nb ⊢
  rw [← hB] at nb
  try rw [← hB]
  have hl13 := HL12.out.chg (Chg.alloc no w12 (.cells #[.bool true, .bool true, .bool false, .bool false, .bool false, .bool false, .bool false, .bool false, .int .i64 0, .int .u64 14] 39)) (fun h => h)
  rw [← hW] at hl13
  have P13 := Lib.hid hT; have HQ := Lib.hid nb; have HL13 := Lib.hid hl13
  clear hT nb hW hB P12 HL12 hl13
  have hf := I.find 1073741824 P13.out.tx (by decide)
  rw [h2F] at hf
  have HFI := Lib.hid hf; clear hf
  go_wp2_with fail
  refine HFI.out.mono ?_
  rintro e w14 ⟨⟨l14, rfl, hl14⟩, hc⟩
  have P14 := Lib.hid (P13.out.any hc); have HQ14 := Lib.hid (HQ.out.chg hc (fun h => h)); have HL14 := Lib.hid (HL13.out.chg hc (fun h => h))
  obtain ⟨⟨v, r, x, y, u, g, a, d, sw, pn⟩, ll, lz⟩ := l14
  clear hc HFI hl14 P13 HQ HL13
  unfold lfv
  dsimp only [Option.isSome]
  rw [if_neg (by decide)]
  try generalize (Value.tuple #[.agg #[.bool true, .bool true, .bool false, .bool false, .bool false, .bool false, .bool false, .bool false, .int .i64 0, .int .u64 ((14 : Nat) : Int), .int .i64 ((0 : Nat) : Int), .int .u64 (lq : Int)], .int .i64 0]) = GV0
  try generalize (Value.agg #[.bool true, .bool true, .bool false, .bool false, .bool false, .bool false, .bool false, .bool false, .int .i64 0, .int .u64 14, .int .i64 0, .int .u64 (lq : Int)]) = GV1
  try generalize (Value.tuple #[.pointer (some ⟨mp, 0, none⟩), .int .i64 0]) = GV2
  try generalize (Value.tuple #[.pointer (some ⟨sp, 0, none⟩), .int .i64 0]) = GV3
  try generalize (Value.tuple #[.pointer (some ⟨tp, 0, none⟩), .int .i64 0]) = GV4
  try generalize (Value.agg #[.bool true, .bool true, .bool false, .bool false, .bool false, .bool false, .bool false, .bool false, .int .i64 0, .int .u64 14]) = GV5
  go_upto_region 10 with (fail)
  have hT := P14.out.any (Chg.alloc no w14 (.cells #[.bool v, .bool r, .bool x, .bool y, .bool u, .bool g, .bool a, .bool d, .int .i64 sw, .int .u64 (pn : Int), .int .i64 (ll : Int), .int .u64 (lz : Int)] 43))
  have hq15 := HQ14.out.alloc (.cells #[.bool v, .bool r, .bool x, .bool y, .bool u, .bool g, .bool a, .bool d, .int .i64 sw, .int .u64 (pn : Int), .int .i64 (ll : Int), .int .u64 (lz : Int)] 43)
  have hl15 := HL14.out.alloc (.cells #[.bool v, .bool r, .bool x, .bool y, .bool u, .bool g, .bool a, .bool d, .int .i64 sw, .int .u64 (pn : Int), .int .i64 (ll : Int), .int .u64 (lz : Int)] 43)
  obtain ⟨W15, hW⟩ : ∃ W, W = w14.alloc (.cells #[.bool v, .bool r, .bool x, .bool y, .bool u, .bool g, .bool a, .bool d, .int .i64 sw, .int .u64 (pn : Int), .int .i64 (ll : Int), .int .u64 (lz : Int)] 43) := ⟨_, rfl⟩
  obtain ⟨B15, hB⟩ : ∃ B, B = w14.heap.size := ⟨_, rfl⟩
  rw [← hW] at hT hq15 hl15 ⊢
  try rw [← hB]
  have P15 := Lib.hid hT; have HQ15 := Lib.hid hq15; have HL15 := Lib.hid hl15
  clear hT hq15 hl15 hW hB P14 HQ14 HL14
  have hus : Calls Try.prog 15 #[.pointer (some ⟨tp, 0, none⟩)] W15 fun r w' => r = .returned (.int .i64 3) ∧ Chg no W15 w' := (I.used P15.out.tx).mono (by rintro e w' ⟨rfl, rfl⟩; exact ⟨rfl, Chg.refl _ _⟩)
  have HUS := Lib.hid hus; clear hus
  go_wp2_with fail
  refine HUS.out.mono ?_
  rintro e w16 ⟨rfl, hc⟩
  have P16 := Lib.hid (P15.out.any hc); have HQ16 := Lib.hid (HQ15.out.chg hc (fun h => h)); have HL16 := Lib.hid (HL15.out.chg hc (fun h => h))
  clear hc HUS P15 HQ15 HL15
  have hro : Calls Try.prog 14 #[.pointer (some ⟨tp, 0, none⟩)] w16 fun r w' => r = .returned (.int .i64 2) ∧ Chg no w16 w' := I.root P16.out.tx
  have HRO := Lib.hid hro; clear hro
  go_wp2_with fail
  refine HRO.out.mono ?_
  rintro e w17 ⟨rfl, hc⟩
  have P17 := Lib.hid (P16.out.any hc); have HQ17 := Lib.hid (HQ16.out.chg hc (fun h => h)); have HL17 := Lib.hid (HL16.out.chg hc (fun h => h))
  clear hc HRO P16 HQ16 HL16
  have b0 : w17.cell? ⟨BP, 0, none⟩ = some (.bool true) := P17.out.box.cell 0
  have b1 : w17.cell? ⟨BP, 1, none⟩ = some (.bool true) := P17.out.box.cell 1
  have b2 : w17.cell? ⟨BP, 2, none⟩ = some (.bool false) := P17.out.box.cell 2
  have b3 : w17.cell? ⟨BP, 3, none⟩ = some (.bool false) := P17.out.box.cell 3
  have b4 : w17.cell? ⟨BP, 4, none⟩ = some (.bool false) := P17.out.box.cell 4
  have b5 : w17.cell? ⟨BP, 5, none⟩ = some (.bool false) := P17.out.box.cell 5
  have b6 : w17.cell? ⟨BP, 6, none⟩ = some (.bool false) := P17.out.box.cell 6
  have b7 : w17.cell? ⟨BP, 7, none⟩ = some (.bool false) := P17.out.box.cell 7
  have b8 : w17.cell? ⟨BP, 8, none⟩ = some (.int .i64 0) := P17.out.box.cell 8
  have b9 : w17.cell? ⟨BP, 9, none⟩ = some (.int .u64 14) := P17.out.box.cell 9
  have blt := P17.out.box.lt
  have l0 : w17.cell? ⟨B11, 0, none⟩ = some (.bool true) := HL17.out.cell 0
  have l1 : w17.cell? ⟨B11, 1, none⟩ = some (.bool true) := HL17.out.cell 1
  have l2 : w17.cell? ⟨B11, 2, none⟩ = some (.bool false) := HL17.out.cell 2
  have l3 : w17.cell? ⟨B11, 3, none⟩ = some (.bool false) := HL17.out.cell 3
  have l4 : w17.cell? ⟨B11, 4, none⟩ = some (.bool false) := HL17.out.cell 4
  have l5 : w17.cell? ⟨B11, 5, none⟩ = some (.bool false) := HL17.out.cell 5
  have l6 : w17.cell? ⟨B11, 6, none⟩ = some (.bool false) := HL17.out.cell 6
  have l7 : w17.cell? ⟨B11, 7, none⟩ = some (.bool false) := HL17.out.cell 7
  have l8 : w17.cell? ⟨B11, 8, none⟩ = some (.int .i64 0) := HL17.out.cell 8
  have l9 : w17.cell? ⟨B11, 9, none⟩ = some (.int .u64 14) := HL17.out.cell 9
  have llt := HL17.out.lt
  have q0 : w17.cell? ⟨B13, 0, none⟩ = some (.bool true) := HQ17.out.cell 0
  have q1 : w17.cell? ⟨B13, 1, none⟩ = some (.bool true) := HQ17.out.cell 1
  have q2 : w17.cell? ⟨B13, 2, none⟩ = some (.bool false) := HQ17.out.cell 2
  have q3 : w17.cell? ⟨B13, 3, none⟩ = some (.bool false) := HQ17.out.cell 3
  have q4 : w17.cell? ⟨B13, 4, none⟩ = some (.bool false) := HQ17.out.cell 4
  have q5 : w17.cell? ⟨B13, 5, none⟩ = some (.bool false) := HQ17.out.cell 5
  have q6 : w17.cell? ⟨B13, 6, none⟩ = some (.bool false) := HQ17.out.cell 6
  have q7 : w17.cell? ⟨B13, 7, none⟩ = some (.bool false) := HQ17.out.cell 7
  have q8 : w17.cell? ⟨B13, 8, none⟩ = some (.int .i64 0) := HQ17.out.cell 8
  have q9 : w17.cell? ⟨B13, 9, none⟩ = some (.int .u64 14) := HQ17.out.cell 9
  have qlt := HQ17.out.lt
  have hch := I.change 1073745920 zeE P17.out.tx (by decide) (by decide) (by decide) (by decide)
  rw [c1F] at hch
  have HCH := Lib.hid hch; clear hch
  go_wp2_with fail
  clear b0 b1 b2 b3 b4 b5 b6 b7 b8 b9 l0 l1 l2 l3 l4 l5 l6 l7 l8 l9 q0 q1 q2 q3 q4 q5 q6 q7 q8 q9 blt llt qlt
  refine HCH.out.mono ?_
  rintro e w18 ⟨rfl, F18, htx, hF, hc⟩
  have P18 := Lib.hid (P17.out.step htx hF hc)
  clear htx hF hc HCH P17 HQ17 HL17
  have hpg := I.pages P18.out.tx (by decide)
  have HPG := Lib.hid hpg; clear hpg
  go_wp2_with fail
  refine HPG.out.mono ?_
  rintro e w19 ⟨⟨y, rfl, hy⟩, hc⟩
  obtain ⟨A9, c9, rfl, _, _, _⟩ := hy
  rw [s1F]
  have P19 := Lib.hid (P18.out.any hc)
  clear hc HPG P18
  go_wp2
  go_ret
  exact ⟨rfl, P19.out.chg⟩
end Go.Proofs.Ytdakfgefnapglaa
