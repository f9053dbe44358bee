/-
  Layer 15's laws: what they ask first. The four tables that they read are as the program's text lays them; else no condition.
-/
import Derived.Test.YtkddhjbdijegoaaDoorMsI15
import Derived.Test.YtkddhjbdijegoaaDoorMsU15
import Derived.Test.YtkddhjbdijegoaaDoorRows
import Derived.MakeChecks
import Derived.Lib.LaidTab
import Derived.Stop.LaidErr
import Derived.Lib.SmallJoins
namespace Go.Proofs.YtkddhjbdijegoaaDoor
open Go.RowKit
set_option linter.unusedVariables false
set_option linter.unusedSimpArgs false

/-- the four tables -/
structure Lz (w : World) : Prop where
  s : Szs w
  n : Nm w
  p : Pw w
  t : Tz w
theorem Lz.below {w w' : World} (h : Lz w) (hb : Below w.heap.size w w') : Lz w' := ⟨h.s.below hb, h.n.below hb, h.p.below hb, h.t.below hb⟩
theorem rd_lit15 (w : World) (cs : List Int) (n : Nat) (fr : Nat × Nat) (h : Byt cs) (hn : cs.length = n) (hm : n ≤ 9223372036854775807) : Dat (w.alloc (.cells (cs.map (Value.int .u8)).toArray 5 fr)) (some ⟨w.heap.size, 0, none⟩) n n cs := by
  subst hn
  refine ⟨⟨h, hm, fun _ => ⟨w.heap.size, 0, rfl, fun i hi => ?_⟩⟩, rfl, fun e => (by cases e), Nat.le_refl _⟩
  rw [Nat.zero_add, cell_of_row (w.alloc (.cells (cs.map (Value.int .u8)).toArray 5 fr)) w.heap.size i _ 5 fr (heap_alloc_new w _)]
  simp [List.getD_eq_getElem?_getD, hi]
def la15 : List Int := [4, 2, 1, 5, 0, 0, 0, 3, 0, 2, 0, 97, 98]
def lb15 : List Int := [4, 2, 1, 5, 0, 0, 0, 3, 0, 2, 0, 97, 0]
theorem la15_b : Byt la15 := by intro x hx; simp [la15] at hx; omega
theorem lb15_b : Byt lb15 := by intro x hx; simp [lb15] at hx; omega
theorem la15_is : isM la15 = true := by decide +kernel
theorem la15_get : getM la15 = ⟨4, 5, 2, 1, 3, [97, 98]⟩ := by
  unfold getM; rw [la15_is, if_pos rfl]; rfl
theorem lb15_is : isM lb15 = false := by decide +kernel
theorem lb15_get : getM lb15 = z15 := by unfold getM; rw [lb15_is]; rfl
theorem pm15 : putM ⟨1, 258, 3, 0, 0, []⟩ = [1, 3, 0, 2, 1, 0, 0, 0, 0, 0, 0] := by decide +kernel
theorem txt3 : txt 3 = [48, 44, 49] := by
  have h : upto 3 16 = [0, 1] := by decide
  unfold txt
  rw [if_neg (by decide), h]
  show Lib.join [Lib.decDigits 0, Lib.decDigits 1] [44] = _
  rw [dig1 0 (by decide), dig1 1 (by decide)]
  decide
theorem itoa1 (n : Nat) (h : n < 10) : Lib.itoa (n : Int) = [UInt8.ofNat (48 + n)] := by rw [Lib.itoa_nonneg, Lib.decDigits_one h]
theorem tx15 : txtM ⟨4, 5, 2, 1, 3, [97, 98]⟩ = [103, 114, 97, 110, 116, 32, 112, 97, 103, 101, 32, 53, 32, 110, 111, 100, 101, 32, 50, 32, 104, 111, 112, 115, 32, 49, 32, 115, 101, 116, 32, 48, 44, 49, 32, 98, 121, 116, 101, 115, 32, 50] := by
  have e5 := itoa1 5 (by decide)
  have e2 := itoa1 2 (by decide)
  have e1 := itoa1 1 (by decide)
  unfold txtM
  dsimp only
  rw [show Lib.itoa (5 : Int) = [53] from e5, show Lib.itoa (2 : Int) = [50] from e2, show Lib.itoa (1 : Int) = [49] from e1, show (3 : Int).toNat = 3 from rfl, txt3]
  rw [show Lib.itoa (([97, 98] : List Int).length : Nat) = [50] from e2]
  rfl
theorem c1_15 (w : World) (hS : Szs w) : Calls Tryd.prog 8 #[.agg #[.int .i64 1, .int .i64 258, .int .i64 3, .int .i64 0, .int .u16 0, .slice none 0 0]] w fun e w' => ∃ v, e = .returned (.tuple #[v, .int .i64 0]) ∧ OwnV w.heap.size [1, 3, 0, 2, 1, 0, 0, 0, 0, 0, 0] v w' ∧ Below w.heap.size w w' := by
  have h := put_yes15 1 258 3 0 0 none 0 0 [] w ⟨⟨Byt.nil, by simp, fun h => by simp at h⟩, rfl, fun _ => rfl, Nat.le_refl _⟩ (by decide +kernel) (by decide) hS
  rw [show putM ⟨(1 : Nat), (258 : Nat), (3 : Nat), (0 : Nat), (0 : Nat), []⟩ = _ from pm15] at h
  exact h
theorem c2_15 (A : Option Addr) (w : World) (hd : Dat w A 13 13 la15) (hS : Szs w) : Calls Tryd.prog 11 #[.slice A 13 13] w fun e w' => ∃ A2 cap2, e = .returned (.tuple #[.agg #[.int .i64 4, .int .i64 5, .int .i64 2, .int .i64 1, .int .u16 3, .slice A2 2 cap2], .bool true]) ∧ Dat w' A2 2 cap2 [97, 98] ∧ Below w.heap.size w w' := by
  have h := get_any A 13 13 la15 w hd hS (by decide)
  rw [la15_is, la15_get] at h
  exact h.mono fun e w' ⟨⟨A2, c2, he, hd2⟩, hb⟩ => ⟨A2, c2, he, hd2, hb⟩
theorem c3_15 (A : Option Addr) (w : World) (hd : Dat w A 13 13 lb15) (hS : Szs w) : Calls Tryd.prog 11 #[.slice A 13 13] w fun e w' => ∃ A2 cap2, e = .returned (.tuple #[.agg #[.int .i64 0, .int .i64 0, .int .i64 0, .int .i64 0, .int .u16 0, .slice A2 0 cap2], .bool false]) ∧ Below w.heap.size w w' := by
  have h := get_any A 13 13 lb15 w hd hS (by decide)
  rw [lb15_is, lb15_get] at h
  exact h.mono fun e w' ⟨⟨A2, c2, he, hd2⟩, hb⟩ => ⟨A2, c2, he, hb⟩
theorem c4_15 (A : Option Addr) (cap : Nat) (w : World) (hL : Lz w) : Calls Tryd.prog 16 #[.agg #[.int .i64 4, .int .i64 5, .int .i64 2, .int .i64 1, .int .u16 3, .slice A 2 cap]] w fun e w' => e = .returned (.string ⟨#[103, 114, 97, 110, 116, 32, 112, 97, 103, 101, 32, 53, 32, 110, 111, 100, 101, 32, 50, 32, 104, 111, 112, 115, 32, 49, 32, 115, 101, 116, 32, 48, 44, 49, 32, 98, 121, 116, 101, 115, 32, 50]⟩) ∧ Below w.heap.size w w' := by
  have h := text_any15 4 5 2 1 3 A 2 cap [97, 98] w (by decide) ⟨by dsimp only; omega, by dsimp only; omega, by dsimp only; omega, by dsimp only; omega, by dsimp only; omega⟩ rfl (by omega) hL.p hL.n hL.t
  rw [show txtM ⟨4, 5, 2, 1, (3 : Nat), [97, 98]⟩ = _ from tx15] at h
  exact h
set_option maxHeartbeats 4000000 in
theorem first15_any (w : World) (hL : Lz w) : Calls Tryd.prog 7 #[] w fun e w' => e = .returned (.bool true) ∧ Below w.heap.size w w' := by
  have HL := Lib.hid hL; clear hL
  have kc := fun (w : World) (C : Array Value) (n c : Nat) => Lib.run_convert_bytes_const (P := Tryd.prog) w 24 5 C n c Tryd.underlying24 Tryd.underlying5
  go_enter Tryd.func7, Tryd.ntmps7
  go_wp2_with fail
  refine (c1_15 _ HL.out.s).mono ?_
  rintro e w1 ⟨v1, rfl, ho, hb⟩
  obtain ⟨A1, k1, rfl, hd1⟩ := ho.dat (by intro x hx; simp at hx; omega)
  have HD1 := Lib.hid hd1; have H1 := Lib.hid hb; have HL1 := Lib.hid (HL.out.below hb); clear ho hd1 hb
  go_wp2_with fail
  have b2 : Below w1.heap.size w1 (w1.alloc (.cells #[.int .u8 4, .int .u8 2, .int .u8 1, .int .u8 5, .int .u8 0, .int .u8 0, .int .u8 0, .int .u8 3, .int .u8 0, .int .u8 2, .int .u8 0, .int .u8 97, .int .u8 98] 5 (13, 14))) := (Below.refl _ _).alloc (Nat.le_refl _) _
  have hd2 := rd_lit15 w1 la15 13 (13, 14) la15_b rfl (by omega)
  have HL2 := Lib.hid (HL1.out.below b2); have H2 := Lib.hid (H1.out.trans (b2.mono H1.out.size)); have HD2 := Lib.hid (HD1.out.below b2); clear b2
  refine (c2_15 _ _ hd2 HL2.out.s).mono ?_
  rintro e w3 ⟨A3, k3, rfl, hd3, hb⟩
  have HD3 := Lib.hid hd3; have HD13 := Lib.hid (HD2.out.below hb); have H3 := Lib.hid (H2.out.trans (hb.mono H2.out.size)); have HL3 := Lib.hid (HL2.out.below hb); clear hd2 hd3 hb
  go_upto_region 3 with (fail)
  have nb := Blk.new w3 [.int .i64 4, .int .i64 5, .int .i64 2, .int .i64 1, .int .u16 3, .slice A3 2 k3] 26
  have b4 : Below w3.heap.size w3 (w3.alloc (.cells #[.int .i64 4, .int .i64 5, .int .i64 2, .int .i64 1, .int .u16 3, .slice A3 2 k3] 26)) := (Below.refl _ _).alloc (Nat.le_refl _) _
  obtain ⟨B4, hB4⟩ : ∃ B, B = w3.heap.size := ⟨_, rfl⟩
  obtain ⟨w4, hw4⟩ : ∃ W, W = w3.alloc (.cells #[.int .i64 4, .int .i64 5, .int .i64 2, .int .i64 1, .int .u16 3, .slice A3 2 k3] 26) := ⟨_, rfl⟩
  rw [← hw4] at nb b4 ⊢
  rw [← hB4] at nb ⊢
  have NB := Lib.hid nb; have HD14 := Lib.hid (HD13.out.below b4); have HD4 := Lib.hid (HD3.out.below b4); have H4 := Lib.hid (H3.out.trans (b4.mono H3.out.size)); have HL4 := Lib.hid (HL3.out.below b4)
  clear nb b4 hw4 hB4
  go_wp2_with fail
  have b5 : Below w4.heap.size w4 (w4.alloc (.cells #[.int .u8 4, .int .u8 2, .int .u8 1, .int .u8 5, .int .u8 0, .int .u8 0, .int .u8 0, .int .u8 3, .int .u8 0, .int .u8 2, .int .u8 0, .int .u8 97, .int .u8 0] 5 (13, 14))) := (Below.refl _ _).alloc (Nat.le_refl _) _
  have hd5 := rd_lit15 w4 lb15 13 (13, 14) lb15_b rfl (by omega)
  have HL5 := Lib.hid (HL4.out.below b5)
  refine (c3_15 _ _ hd5 HL5.out.s).mono ?_
  rintro e w6 ⟨A6, k6, rfl, hb⟩
  have hb6 := b5.trans (hb.mono b5.size)
  have HD16 := Lib.hid (HD14.out.below hb6); have HD6 := Lib.hid (HD4.out.below hb6); have H6 := Lib.hid (H4.out.trans (hb6.mono H4.out.size)); have HL6 := Lib.hid (HL4.out.below hb6)
  have N6 := Lib.hid (NB.out.below hb6 NB.out.lt)
  clear hd5 hb b5 hb6
  go_upto_region 4 with (fail)
  have b7 : Below w6.heap.size w6 (w6.alloc (.cells #[.int .i64 0, .int .i64 0, .int .i64 0, .int .i64 0, .int .u16 0, .slice A6 0 k6] 26)) := (Below.refl _ _).alloc (Nat.le_refl _) _
  obtain ⟨w7, hw7⟩ : ∃ W, W = w6.alloc (.cells #[.int .i64 0, .int .i64 0, .int .i64 0, .int .i64 0, .int .u16 0, .slice A6 0 k6] 26) := ⟨_, rfl⟩
  rw [← hw7] at b7 ⊢
  have hq1 := (HD16.out.below b7).rd.conv 11 k1 rfl
  have hq3 := (HD6.out.below b7).rd.conv 2 k3 rfl
  have H7 := Lib.hid (H6.out.trans (b7.mono H6.out.size)); have HL7 := Lib.hid (HL6.out.below b7)
  have n7 := N6.out.below b7 N6.out.lt
  have N7 := Lib.hid n7
  have m0 : w7.cell? ⟨B4, 0, none⟩ = some _ := n7.cell 0
  have m1 : w7.cell? ⟨B4, 1, none⟩ = some _ := n7.cell 1
  have m2 : w7.cell? ⟨B4, 2, none⟩ = some _ := n7.cell 2
  have m3 : w7.cell? ⟨B4, 3, none⟩ = some _ := n7.cell 3
  have m4 : w7.cell? ⟨B4, 4, none⟩ = some _ := n7.cell 4
  have m5 : w7.cell? ⟨B4, 5, none⟩ = some _ := n7.cell 5
  have mlt : B4 < w7.heap.size := n7.lt
  clear b7 hw7 n7
  have hst1 : (strOfNums [1, 3, 0, 2, 1, 0, 0, 0, 0, 0, 0]).toList = [1, 3, 0, 2, 1, 0, 0, 0, 0, 0, 0] := by rw [ByteArray.toList_eq]; rfl
  have hst3 : (strOfNums [97, 98]).toList = [97, 98] := by rw [ByteArray.toList_eq]; rfl
  go_wp2_with fail
  refine (c4_15 A3 k3 _ HL7.out).mono ?_
  rintro e w8 ⟨rfl, hb⟩
  have H8 := Lib.hid (H7.out.trans (hb.mono H7.out.size))
  clear hb
  go_wp2
  go_ret
  exact ⟨rfl, H8.out⟩
/-- out of the row's condition: the tables -/
theorem tz_of_laid (laid : List (String × DataW Unit)) {W : World} (he : laid = Rows.msgPutsRow.laid) (h : laidMetH Tryd.prog laid W) : Lz W := by
  subst he
  rw [MakeChecks.laidMetH_plain _ _ _ (by kernel_rfl)] at h
  have g1 : Tryd.prog.globalNamed "math/bits.deBruijn32tab" = some 3 := by kernel_rfl
  have t1 : (Tryd.prog.globals[3]?).map (·.type) = some 90 := by kernel_rfl
  have h1 : Lib.TabIs Tryd.prog W "math/bits.deBruijn32tab" .u8 (ints deB) := Lib.tabIs_of_head g1 t1 Tryd.underlying90 Tryd.underlying5 (by kernel_rfl) (by kernel_rfl) h
  have h3 := laidMet.tail (laidMet.tail (show laidMet Tryd.prog [("math/bits.deBruijn32tab", Rows.laid_math_bits_deBruijn32tab), ("math/bits.deBruijn64tab", Rows.laid_math_bits_deBruijn64tab), ("internal/strconv.uint64pow10", Rows.laid_internal_strconv_uint64pow10), ("runrig/msg.sizes", Rows.laid_runrig_msg_sizes), ("runrig/msg.names", Rows.laid_runrig_msg_names)] W from h))
  have g3 : Tryd.prog.globalNamed "internal/strconv.uint64pow10" = some 2 := by kernel_rfl
  have t3 : (Tryd.prog.globals[2]?).map (·.type) = some 86 := by kernel_rfl
  have h3' : Lib.TabIs Tryd.prog W "internal/strconv.uint64pow10" .u64 Lib.pow10Tab := Lib.tabIs_of_head g3 t3 Tryd.underlying86 Tryd.underlying38 (by kernel_rfl) (by kernel_rfl) h3
  have h4 := laidMet.tail h3
  have g4 : Tryd.prog.globalNamed "runrig/msg.sizes" = some 0 := by kernel_rfl
  have t4 : (Tryd.prog.globals[0]?).map (·.type) = some 41 := by kernel_rfl
  have h4' : Lib.TabIs Tryd.prog W "runrig/msg.sizes" .i64 [1, 1, 1, 4, 2, 2] := Lib.tabIs_of_head g4 t4 Tryd.underlying41 Tryd.underlying3 (by kernel_rfl) (by kernel_rfl) h4
  have h5 := laidMet.tail h4
  have g5 : Tryd.prog.globalNamed "runrig/msg.names" = some 1 := by kernel_rfl
  have t5 : (Tryd.prog.globals[1]?).map (·.type) = some 55 := by kernel_rfl
  refine ⟨fun i hi => ?_, fun k k1 k6 => ?_, h3', fun i hi => ?_⟩
  · rw [h4'.cell g4 i hi]
    match i, hi with
    | 0, _ | 1, _ | 2, _ | 3, _ | 4, _ | 5, _ => rfl
  · obtain ⟨ps, ⟨g', t', cs, fuel, p, q, hg', ht', hvar, hd, _, _⟩, _⟩ := h5
    obtain rfl := Option.some.inj (g5.symm.trans hg')
    obtain rfl := Option.some.inj (t5.symm.trans ht')
    have hc := World.var?_cell g5 hvar k
    rw [hc]
    cases fuel with
    | zero => simp [DataW.trod] at hd
    | succ fuel =>
      simp only [DataW.trod, Tryd.underlying55, show Tryd.prog.cellsOf 9 = 1 by kernel_rfl, show Tryd.prog.cellsOf 55 = 7 by kernel_rfl, Nat.mul_one] at hd
      split at hd
      · obtain ⟨xs, hm, hx⟩ := Option.map_eq_some_iff.1 hd
        have hxs := congrArg Prod.fst hx
        obtain ⟨y, hy, hf⟩ := Lib.mapM_at hm k k (by first | (rw [List.getElem?_range (by omega)]) | (match k, k1, k6 with | 1, _, _ | 2, _, _ | 3, _, _ | 4, _, _ | 5, _, _ | 6, _, _ => rfl))
        obtain ⟨z, hz, hzy, _⟩ := DataW.trod_string Tryd.underlying9 hf
        have h1 : cs[k]? = some (.string z) := by
          have := congrArg (·[0]?) hz
          simpa [List.getElem?_take, List.getElem?_drop] using this
        rw [h1]
        have h2 : ((xs.map (·.1))[k]? : Option (DataW Unit)) = some (.lit (.string z.data.toList)) := by simp [hy, hzy]
        have hxs' : xs.map (·.1) = [.lit (.string []), .lit (.string [114, 101, 97, 100]), .lit (.string [119, 114, 105, 116, 101]), .lit (.string [99, 111, 112, 121]), .lit (.string [103, 114, 97, 110, 116]), .lit (.string [102, 111, 114, 103, 101, 116]), .lit (.string [102, 111, 114, 103, 111, 116])] := by injection hxs
        rw [hxs'] at h2
        have e : ∀ s t : ByteArray, s.data.toList = t.data.toList → s = t := fun s t h => by
          cases s; cases t; simp at h; subst h; rfl
        refine congrArg some (congrArg Value.string (e _ _ ?_))
        match k, k1, k6 with
        | 1, _, _ | 2, _, _ | 3, _, _ | 4, _, _ | 5, _, _ | 6, _, _ => simp at h2; rw [← h2]; rfl
      · cases hd
  · have := h1.cell g1 i hi
    rw [this]
    refine congrArg some (int_eqN ?_)
    have hl : i < deB.length := hi
    unfold ints
    rw [List.getD_eq_getElem?_getD, List.getElem?_map, List.getD_eq_getElem?_getD, List.getElem?_eq_getElem hl]; rfl
end Go.Proofs.YtkddhjbdijegoaaDoor
