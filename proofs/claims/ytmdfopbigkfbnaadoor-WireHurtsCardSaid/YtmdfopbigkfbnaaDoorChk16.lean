/-
  What each function of package check answers and leaves in memory: contracts over the translation. The program's table of 16 numbers reads as its text lays it; each says its other conditions.
-/
import Derived.Test.YtmdfopbigkfbnaaDoorWordGP
import Derived.Test.YtmdfopbigkfbnaaDoorCrc
import Derived.Laws.CopyOwn
import Derived.StillTailTactics
import Derived.Deep.QuietTactic
import Derived.BigQuiet
namespace Go.Proofs.YtmdfopbigkfbnaaDoor
open Go.RowKit
set_option linter.unusedVariables false

/-- the program's table of 16 numbers reads as its text lays it -/
def Mv (w : World) : Prop := ∀ i : Nat, i < 16 → w.cell? ⟨1, i, none⟩ = some (.int .u32 (mvd.getD i 0 : Nat))
theorem Mv.below {w w' : World} (h : Mv w) (hb : Below w.heap.size w w') : Mv w' := fun i hi => (hb.cell (p := ⟨1, i, none⟩) (cell_lt (h i hi))).trans (h i hi)
theorem nat_mask4 (s : Nat) : s &&& 15 = s % 16 := Nat.and_two_pow_sub_one_eq_mod s 4
/-- one look: what the walk meets -/
theorem nib_int (X : Nat) (w : World) (hT : Mv w) (hX : X < 4294967296) : ∃ (M T : Nat), bits .and .u32 (X : Int) 15 = (M : Int) ∧ M < 16 ∧ T < 4294967296 ∧ w.cell? ⟨1, M, none⟩ = some (.int .u32 (T : Int)) ∧ bits .xor .u32 ((X : Int) / 16) (T : Int) = ((stps 4 X : Nat) : Int) := by
  refine ⟨X % 16, mvd.getD (X % 16) 0, ?_, by omega, mvd_lt _, hT _ (by omega), ?_⟩
  · rw [← nat_mask4]; exact u32_and_nat X 15 hX (by decide)
  · rw [← nib_eq]; exact u32_xor_nat (X / 16) _ (by omega) (mvd_lt _)
theorem sum_any (A : Option Addr) (n cap : Nat) (l : List Int) (w : World) (hr : Rd w A l) (hn : l.length = n) (hT : Mv w) : Calls Tryd.prog 31 #[.slice A n cap] w fun e w' => e = .returned (.int .u32 (sm l : Nat)) ∧ w = w' := by
  subst hn
  have hm := hr.2.1
  go_enter Tryd.func31, Tryd.ntmps31
  go_wp2
  go_loop [3, 8] (fun v i => ∃ k : Nat, k ≤ l.length ∧ i = .int .i64 (k : Int) ∧ v = .int .u32 (crc (l.take k) 4294967295 : Nat)) (fun _ i => l.length - (intOf i).toNat)
  case atStart => exact ⟨0, Nat.zero_le _, rfl, rfl⟩
  case round =>
    obtain ⟨k, hk, rfl, rfl⟩ := hrel
    have hS := crc_lt (l.take k) 4294967295 (hr.1.take k) (by decide)
    by_cases h0 : k < l.length
    · obtain ⟨b, off, rfl, hc⟩ := hr.2.2 (by omega)
      have hcell := hc k h0
      have hq := hr.1.getD k
      have h1 := crc_take l 4294967295 k h0
      obtain ⟨c, hC⟩ : ∃ c : Nat, (c : Int) = l.getD k 0 := ⟨(l.getD k 0).toNat, by omega⟩
      rw [← hC, Int.toNat_natCast] at h1
      rw [← hC] at hcell hq
      have hq' : c < 4294967296 := by omega
      obtain ⟨S, hS'⟩ : ∃ S, S = crc (l.take k) 4294967295 := ⟨_, rfl⟩
      rw [← hS'] at h1 hS ⊢
      have hX := xor_lt32 hS hq'
      have f1 := u32_xor_nat S c hS hq'
      obtain ⟨X, hX'⟩ : ∃ X, X = S ^^^ c := ⟨_, rfl⟩
      rw [← hX'] at h1 hX f1
      obtain ⟨M, T, f2, f3, f4, f5, f6⟩ := nib_int X w hT hX
      have hY := stps_lt 4 hX
      rw [show 8 = 4 + 4 from rfl, stps_add] at h1
      obtain ⟨Y, hY'⟩ : ∃ Y, Y = stps 4 X := ⟨_, rfl⟩
      rw [← hY'] at h1 hY f6
      obtain ⟨M2, T2, g2, g3, g4, g5, g6⟩ := nib_int Y w hT hY
      have hZ := stps_lt 4 hY
      rw [← h1] at g6 hZ
      obtain ⟨Z, hZ'⟩ : ∃ Z, Z = crc (l.take (k + 1)) 4294967295 := ⟨_, rfl⟩
      rw [← hZ'] at g6 hZ
      have H1 := Lib.hid hZ'
      clear h1 hc hC hS' hr hX' hY' hZ'
      go_wp2
      go_round
      case rel => exact ⟨k + 1, by omega, by go_num, by rw [H1.out]⟩
      case measure => simp [intOf]; omega
    · clear hr
      go_wp2
      obtain rfl : k = l.length := by omega
      go_ret
      refine ⟨congrArg Ending.returned (int_eq ?_), rfl⟩
      rw [List.take_of_length_le (Nat.le_refl _)] at hS ⊢
      show bits .xor .u32 ((4294967295 : Nat) : Int) _ = _
      rw [u32_xor_nat _ _ (by decide) hS, Nat.xor_comm]; rfl
theorem copied_any (A : Option Addr) (n cap : Nat) (l : List Int) (w : World) (hr : Rd w A l) (hn : l.length = n) (hm : n ≤ 9000) : Calls Tryd.prog 33 #[.slice A n cap] w fun e w' => ∃ g, e = .returned (.slice (some ⟨g, 0, none⟩) n n) ∧ w'.ownsRow w.heap.size 5 1 (.slice (some ⟨g, 0, none⟩) n n) n (l.map (Value.int .u8)) ∧ Below w.heap.size w w' := by
  obtain ⟨i0, hi, hz0, hz1, hz2⟩ := info_parts info_u8
  have hsz : (Tryd.prog.info? 5).map (·.size) = some 1 := by kernel_rfl
  subst hn
  go_enter Tryd.func33, Tryd.ntmps33
  go_wp2_with (at_make; refine wpList_make_full _ rfl _ _ 23 rfl w.heap.size 5 i0 (.int .u8 0) 1 Tryd.underlying23 hi hz0 hz1 .i64 .i64 _ _ l.length rfl rfl rfl rfl ?c1 ?c2 (Nat.le_refl _) ?_)
  case c1 => rw [hz2]; omega
  case c2 => unfold maxLen; omega
  intro w1 hown hgr
  rw [toList_madeCells_one] at hown
  obtain ⟨hg, hB, hM, hL⟩ := row_full hown
  have hb1 : Below w.heap.size w w1 := (Below.refl _ _).grown hgr (Nat.le_refl _) (fun k hk => by cases hk)
  have hr1 := hr.below hb1
  have HG := Lib.hid hg; have HB := Lib.hid hb1; have HR := Lib.hid hr1
  clear hg hb1 hr1 hown hgr hr
  go_wp2_with (refine wpList_copy_splice (o := ⟨some 9, _, _, _, _, _⟩) rfl _ _ _ _ rfl 5 Tryd.underlying23 hsz _ _ _ _ _ _ rfl rfl w.heap.size 0 (List.replicate l.length (Value.int .u8 0)) 5 HG.out (l.map (Value.int .u8)) ?c1 ?c2 ?c3 ?c4 w.heap.size w HB.out (Nat.le_refl _) ?_)
  case c1 => simp
  case c2 =>
    intro h0
    obtain ⟨ad, e, hs⟩ := HR.out.src h0
    exact ⟨ad, e, fun j a ha => hs j _ (by rw [List.getElem?_map, ha]; rfl)⟩
  case c3 => simp
  case c4 => intro v hv; obtain ⟨x, _, rfl⟩ := List.mem_map.1 hv; rfl
  intro w2 hg2 hb2
  have HB2 := Lib.hid hb2; clear hb2
  go_wp2
  go_ret
  refine ⟨w.heap.size, rfl, full_row ?_ (Nat.le_refl _) hM (by simp), HB2.out⟩
  have := hg2.out
  rw [show splice (List.replicate l.length (Value.int .u8 0)) 0 (l.map (Value.int .u8)) = l.map (Value.int .u8) from by unfold splice; simp] at this
  exact this
theorem seal_any (A : Option Addr) (n cap : Nat) (l : List Int) (w : World) (hr : Rd w A l) (hn : l.length = n) (hm : n ≤ 9000) (hT : Mv w) : Calls Tryd.prog 18 #[.slice A n cap] w fun e w' => ∃ g, e = .returned (.slice (some ⟨g, 0, none⟩) (n + 4) (n + 4)) ∧ w'.ownsRow w.heap.size 5 1 (.slice (some ⟨g, 0, none⟩) (n + 4) (n + 4)) (n + 4) ((sealed l).map (Value.int .u8)) ∧ Below w.heap.size w w' := by
  obtain ⟨i0, hi, hz0, hz1, hz2⟩ := info_parts info_u8
  have hsz : (Tryd.prog.info? 5).map (·.size) = some 1 := by kernel_rfl
  subst hn
  go_enter Tryd.func18, Tryd.ntmps18
  go_wp2_with (at_make; refine wpList_make_full _ rfl _ _ 23 rfl w.heap.size 5 i0 (.int .u8 0) 1 Tryd.underlying23 hi hz0 hz1 .i64 .i64 _ _ (l.length + 4) rfl rfl rfl rfl ?c1 ?c2 (Nat.le_refl _) ?_)
  case c1 => rw [hz2]; omega
  case c2 => unfold maxLen; omega
  intro w1 hown hgr
  rw [toList_madeCells_one] at hown
  obtain ⟨hg, hB, hM, hL⟩ := row_full hown
  have hb1 : Below w.heap.size w w1 := (Below.refl _ _).grown hgr (Nat.le_refl _) (fun k hk => by cases hk)
  have hr1 := hr.below hb1
  have HG := Lib.hid hg; have HB := Lib.hid hb1; have HR := Lib.hid hr1
  clear hg hb1 hr1 hown hgr
  go_wp2_with (refine wpList_copy_splice (o := ⟨some 10, _, _, _, _, _⟩) rfl _ _ _ _ rfl 5 Tryd.underlying23 hsz _ _ _ _ _ _ rfl rfl w.heap.size 0 (List.replicate (l.length + 4) (Value.int .u8 0)) 5 HG.out (l.map (Value.int .u8)) ?c1 ?c2 ?c3 ?c4 w.heap.size w HB.out (Nat.le_refl _) ?_)
  case c1 => simp
  case c2 =>
    intro h0
    obtain ⟨ad, e, hs⟩ := HR.out.src h0
    exact ⟨ad, e, fun j a ha => hs j _ (by rw [List.getElem?_map, ha]; rfl)⟩
  case c3 => simp
  case c4 => intro v hv; obtain ⟨x, _, rfl⟩ := List.mem_map.1 hv; rfl
  intro w2 hg2 hb2
  have ho2 : w2.ownsRow w.heap.size 5 1 (.slice (some ⟨w.heap.size, 0, none⟩) (l.length + 4) (l.length + 4)) (l.length + 4) ((l ++ List.replicate 4 0).map (Value.int .u8)) := by
    refine full_row ?_ (Nat.le_refl _) hM (by simp)
    have := hg2.out
    rw [show splice (List.replicate (l.length + 4) (Value.int .u8 0)) 0 (l.map (Value.int .u8)) = (l ++ List.replicate 4 0).map (Value.int .u8) from by unfold splice; simp] at this
    exact this
  have hr2 := hr.below hb2
  have HO := Lib.hid ho2; have HR2 := Lib.hid hr2; have HB2 := Lib.hid hb2; have HT2 := Lib.hid (hT.below hb2)
  clear ho2 hr2 hb2 hg2 hr hT
  go_wp2_with fail
  refine (sum_any A _ cap l _ HR2.out rfl HT2.out).mono ?_
  rintro e w' ⟨rfl, rfl⟩
  have h32 := sm_lt HR2.out.1
  generalize hS : sm l = S at h32
  go_wp2_with fail
  refine (put_yes w.heap.size (l.length + 4) (l.length + 4) l.length 4 (S : Int) (l ++ List.replicate 4 0) w.heap.size _ (by omega) (by omega) (by omega) ⟨by unfold SzI; omega, by omega, by omega⟩ HO.out).mono ?_
  rintro e w3 ⟨rfl, ho3, hb3⟩
  have HO3 := Lib.hid ho3; have HB3 := Lib.hid hb3; clear ho3 hb3
  go_wp2
  go_ret
  refine ⟨w.heap.size, rfl, ?_, HB2.out.trans HB3.out⟩
  have := HO3.out
  rw [show lay (l ++ List.replicate 4 0) l.length (byt (S : Int) 4) = sealed l from by unfold lay sealed; rw [← hS, byt_len]; simp] at this
  exact this
theorem open_no (A : Option Addr) (n cap : Nat) (l : List Int) (w : World) (hr : Rd w A l) (hn : l.length = n) (hcap : n ≤ cap) (hT : Mv w) (h : ¬ Sld l) : Calls Tryd.prog 20 #[.slice A n cap] w fun e w' => e = .returned (.tuple #[.slice none 0 0, .bool false]) ∧ w = w' := by
  have hm := hr.2.1
  by_cases h4 : n < 4
  · go_enter Tryd.func20, Tryd.ntmps20
    go_wp2_with fail
    refine (get_no A n cap _ 4 _ (by omega) (fun hin => by have := hin.2.1; omega)).mono ?_
    rintro e w1 ⟨rfl, rfl⟩
    go_wp2
    go_ret2
    exact ⟨rfl, rfl⟩
  · obtain ⟨m, rfl⟩ : ∃ m, n = m + 4 := ⟨n - 4, by omega⟩
    have hs : ¬ le (l.drop m) = sm (l.take m) := fun e => h ((sld_iff l hr.1 (by omega)).2 (by rw [hn]; exact e))
    have ht : (l.drop m).take 4 = l.drop m := List.take_of_length_le (by rw [List.length_drop]; omega)
    have hq : ((le (l.drop m) == ((sm (l.take m) : Nat) : Int)) = false) := by simpa using hs
    have h32 := sm_lt (hr.1.take m)
    have HR := Lib.hid hr; have HT := Lib.hid hT; clear hr hT h hs
    generalize hS : sm (l.take m) = S at h32 hq
    generalize hL : le (l.drop m) = L at hq
    have HS := Lib.hid hS; have HL := Lib.hid hL; clear hS hL
    go_enter Tryd.func20, Tryd.ntmps20
    go_wp2_with fail
    refine (get_yes A (m + 4) l cap m 4 _ HR.out hn ⟨by unfold SzI; omega, by omega, by omega⟩).mono ?_
    rintro e w1 ⟨rfl, rfl⟩
    rw [ht, HL.out]
    go_wp2_with fail
    refine (sum_any A m cap (l.take m) _ (HR.out.upto m) (by rw [List.length_take]; omega) HT.out).mono ?_
    rintro e w1 ⟨rfl, rfl⟩
    rw [HS.out]
    go_wp2
    go_ret2
    exact ⟨rfl, rfl⟩
theorem open_yes (A : Option Addr) (m cap : Nat) (l : List Int) (w : World) (hr : Rd w A l) (hn : l.length = m + 4) (hcap : m + 4 ≤ cap) (hm : m ≤ 9000) (hT : Mv w) (h : Sld l) : Calls Tryd.prog 20 #[.slice A (m + 4) cap] w fun e w' => ∃ g, e = .returned (.tuple #[.slice (some ⟨g, 0, none⟩) m m, .bool true]) ∧ w'.ownsRow w.heap.size 5 1 (.slice (some ⟨g, 0, none⟩) m m) m ((l.take m).map (Value.int .u8)) ∧ Below w.heap.size w w' := by
  have hs : le (l.drop m) = sm (l.take m) := by have := (sld_iff l hr.1 (by omega)).1 h; rwa [hn] at this
  have ht : (l.drop m).take 4 = l.drop m := List.take_of_length_le (by rw [List.length_drop]; omega)
  have h32 := sm_lt (hr.1.take m)
  have HR := Lib.hid hr; have HT := Lib.hid hT; clear hr hT h
  generalize hS : sm (l.take m) = S at h32 hs
  have HS := Lib.hid hS; have HL := Lib.hid hs; clear hS hs
  go_enter Tryd.func20, Tryd.ntmps20
  go_wp2_with fail
  refine (get_yes A (m + 4) l cap m 4 _ HR.out hn ⟨by unfold SzI; omega, by omega, by omega⟩).mono ?_
  rintro e w1 ⟨rfl, rfl⟩
  rw [ht, HL.out]
  go_wp2_with fail
  refine (sum_any A m cap (l.take m) _ (HR.out.upto m) (by rw [List.length_take]; omega) HT.out).mono ?_
  rintro e w1 ⟨rfl, rfl⟩
  rw [HS.out]
  go_wp2_with fail
  refine (copied_any A m cap (l.take m) _ (HR.out.upto m) (by rw [List.length_take]; omega) hm).mono ?_
  rintro e w1 ⟨g, rfl, ho, hb⟩
  have HO := Lib.hid ho; have HB := Lib.hid hb; clear ho hb
  go_wp2
  go_ret2
  exact ⟨g, rfl, HO.out, HB.out⟩
theorem turn_byte (x j : Nat) (hx : x < 256) (hj : j < 8) : bits .xor .u8 (x : Int) (2 ^ j % 256) = flip x j := by
  have h : (2 : Nat) ^ j < 256 := Nat.pow_lt_pow_right (n := 8) (by decide) hj
  have h2 : (((2 : Nat) ^ j : Nat) : Int) = 2 ^ j := by simp
  unfold flip
  rw [Int.toNat_natCast]
  generalize (2 : Nat) ^ j = p at h h2
  rw [← h2, show (p : Int) % 256 = p from by omega]
  exact u8_xor_nat x _ hx h
end Go.Proofs.YtmdfopbigkfbnaaDoor
