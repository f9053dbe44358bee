/-
  PhysWords: walks over the translation. What was there: 26 bytes, then noughts.
-/
import Derived.Test.YtkkhecaajbgggaaLaw06
import Derived.Deep.RegionHeld
import Derived.Lib.SmallJoins
namespace Go.Proofs.Ytkkhecaajbgggaa
open Go.RowKit
set_option linter.unusedVariables false
set_option linter.unusedSimpArgs false

theorem rd_lit (w : World) (cs : List Int) (n : Nat) (fr : Nat × Nat) (h : Byt cs) (hn : cs.length = n) (hm : n ≤ 9223372036854775807) : Rd (w.alloc (.cells (cs.map (Value.int .u8)).toArray 5 fr)) (some ⟨w.heap.size, 0, none⟩) cs := by
  subst hn
  refine ⟨h, hm, fun _ => ⟨w.heap.size, 0, rfl, fun i hi => ?_⟩⟩
  rw [Nat.zero_add, cell_of_row (w.alloc (.cells (cs.map (Value.int .u8)).toArray 5 fr)) w.heap.size i _ 5 fr (heap_alloc_new w _)]
  simp [List.getD_eq_getElem?_getD, hi]
/-- the bytes that were there -/
def wrd : List Int := [115, 111, 109, 101, 32, 98, 121, 116, 101, 115, 32, 116, 104, 97, 116, 32, 119, 101, 114, 101, 32, 116, 104, 101, 114, 101]
theorem wrd_ok : Byt wrd ∧ wrd.length = 26 := ⟨by intro n hn; unfold wrd at hn; simp at hn; omega, rfl⟩
theorem byt_at : ∀ (k j : Nat) (v : Int), j < k → (byt v k).getD j 0 = v / (256 ^ j : Nat) % 256
  | 0, j, v, h => by omega
  | k + 1, 0, v, _ => by simp [byt]
  | k + 1, j + 1, v, h => by
    rw [byt, List.getD_cons_succ, byt_at k j _ (by omega), div_pow]
theorem lay_at (xs bs : List Int) (b j : Nat) (h : b + bs.length ≤ xs.length) (hj : j < bs.length) : (lay xs b bs).getD (b + j) 0 = bs.getD j 0 := by
  unfold lay
  rw [List.append_assoc, List.getD_eq_getElem?_getD, List.getElem?_append_right (by rw [List.length_take]; omega), List.getElem?_append_left (by rw [List.length_take]; omega), List.length_take, ← List.getD_eq_getElem?_getD]
  congr 1
  omega
theorem lay_take (xs bs : List Int) (b : Nat) (h : b ≤ xs.length) : (lay xs b bs).take b = xs.take b := by
  unfold lay
  rw [List.append_assoc, List.take_append_of_le_length (by rw [List.length_take]; omega), List.take_take, Nat.min_self]
theorem lay_drop (xs bs : List Int) (b k : Nat) (hk : bs.length = k) (h : b + k ≤ xs.length) : (lay xs b bs).drop (b + k) = xs.drop (b + k) := by
  unfold lay
  have e : (xs.take b ++ bs).length = b + k := by rw [List.length_append, List.length_take, hk]; omega
  rw [List.drop_append_of_le_length (by rw [e]; exact Nat.le_refl _), List.drop_of_length_le (by rw [e]; exact Nat.le_refl _), List.nil_append, hk]
theorem and_byte (x : Int) (h0 : 0 ≤ x) (h1 : x ≤ 18446744073709551615) : bits .and .u64 x 255 = x % 256 := by
  rw [u64_and x 255 h0 (by omega) (by omega) (by omega), show (255 : Int).toNat = 255 from rfl, nat_mask8]
  omega
theorem word_one (C : Nat → List Int) (a : Nat) (h : (C (a / 4096)).length = 4096) : wordC C a 1 = (C (a / 4096)).getD (a % 4096) 0 := by
  unfold wordC
  rw [List.drop_eq_getElem_cons (by omega), List.take_succ_cons, List.take_zero, le, le, List.getD_eq_getElem?_getD, List.getElem?_eq_getElem (by omega)]
  simp
set_option maxHeartbeats 1000000 in
theorem words_bad (a b : Nat) (s v : Int) (w : World) (ha : a ≤ 18446744073709551615) (hb : b = a % 4096) (he : errL 2 b s ≠ 0) :
    Calls Try.prog 5 #[.int .u64 a, .int .i64 s, .int .u64 v] w fun e w' => e = .returned (.bool true) ∧ Below w.heap.size w w' := by
  have hbi : (a : Int) % 4096 = (b : Int) := by omega
  have hb4 : b < 4096 := by omega
  clear hb
  obtain ⟨p0, p1⟩ := wrd_ok
  have kc := fun (w : World) (C : Array Value) (n c : Nat) => Lib.run_convert_bytes_const (P := Try.prog) w 33 5 C n c Try.underlying33 Try.underlying5
  have hf := first_true w
  have hnew := fun w => (show Calls Try.prog 7 #[.int .i64 2] w _ from newX 2 w (by omega) (by omega))
  have HF := Lib.hid hf; have HN := Lib.hid hnew
  clear hf hnew
  go_enter Try.func5, Try.ntmps5
  go_wp2_with fail
  refine HF.out.mono ?_
  rintro e w1 ⟨rfl, hc1⟩
  have HC1 := Lib.hid hc1; clear hc1
  go_wp2_with fail
  refine (HN.out w1).mono ?_
  rintro e w2 ⟨mp, F2, rfl, hmp, hF2, hM2, hc2⟩
  have hc2' : Chg no w w2 := HC1.out.trans hc2
  have hF2' : ∀ k, F2 k → w.heap.size ≤ k := fun k hk => Nat.le_trans HC1.out.size (hF2 k hk)
  have HM2 := Lib.hid hM2; have HC2 := Lib.hid hc2'; have HF2 := Lib.hid hF2'
  clear hmp hF2 hM2 hc2 hc2' hF2'
  go_wp2_with fail
  have hc3 : Chg no w2 (w2.alloc (.cells #[.int .u8 115, .int .u8 111, .int .u8 109, .int .u8 101, .int .u8 32, .int .u8 98, .int .u8 121, .int .u8 116, .int .u8 101, .int .u8 115, .int .u8 32, .int .u8 116, .int .u8 104, .int .u8 97, .int .u8 116, .int .u8 32, .int .u8 119, .int .u8 101, .int .u8 114, .int .u8 101, .int .u8 32, .int .u8 116, .int .u8 104, .int .u8 101, .int .u8 114, .int .u8 101] 5 (26, 27))) := Chg.alloc _ _ _
  have hM3 := HM2.out.chg hc3 (fun h => h) (fun _ _ h => h)
  have hr3 : Rd (w2.alloc (.cells #[.int .u8 115, .int .u8 111, .int .u8 109, .int .u8 101, .int .u8 32, .int .u8 98, .int .u8 121, .int .u8 116, .int .u8 101, .int .u8 115, .int .u8 32, .int .u8 116, .int .u8 104, .int .u8 97, .int .u8 116, .int .u8 32, .int .u8 119, .int .u8 101, .int .u8 114, .int .u8 101, .int .u8 32, .int .u8 116, .int .u8 104, .int .u8 101, .int .u8 114, .int .u8 101] 5 (26, 27))) (some ⟨w2.heap.size, 0, none⟩) wrd := rd_lit w2 wrd 26 (26, 27) p0 p1 (by omega)
  have hsp : Calls Try.prog 12 #[.pointer (some ⟨mp, 0, none⟩), .int .i64 0, .slice (some ⟨w2.heap.size, 0, none⟩) 26 26] (w2.alloc (.cells #[.int .u8 115, .int .u8 111, .int .u8 109, .int .u8 101, .int .u8 32, .int .u8 98, .int .u8 121, .int .u8 116, .int .u8 101, .int .u8 115, .int .u8 32, .int .u8 116, .int .u8 104, .int .u8 97, .int .u8 116, .int .u8 32, .int .u8 119, .int .u8 101, .int .u8 114, .int .u8 101, .int .u8 32, .int .u8 116, .int .u8 104, .int .u8 101, .int .u8 114, .int .u8 101] 5 (26, 27))) _ := setpage_ok mp 2 0 0 26 26 (some ⟨w2.heap.size, 0, none⟩) wrd _ F2 _ hM3 (by omega) (by omega) hr3 p1 (by omega) (fun b off e h => by injection e with e; injection e with e; have := HM2.out.lt _ h; omega)
  have hc3' : Chg no w (w2.alloc (.cells #[.int .u8 115, .int .u8 111, .int .u8 109, .int .u8 101, .int .u8 32, .int .u8 98, .int .u8 121, .int .u8 116, .int .u8 101, .int .u8 115, .int .u8 32, .int .u8 116, .int .u8 104, .int .u8 97, .int .u8 116, .int .u8 32, .int .u8 119, .int .u8 101, .int .u8 114, .int .u8 101, .int .u8 32, .int .u8 116, .int .u8 104, .int .u8 101, .int .u8 114, .int .u8 101] 5 (26, 27))) := HC2.out.trans hc3
  have HS := Lib.hid hsp; have HC3 := Lib.hid hc3'
  clear hc3 hM3 hr3 hsp hc3' p0 p1
  refine HS.out.mono ?_
  rintro e w4 ⟨rfl, F4, hM4, hx4, hc4⟩
  have hs3 := HC3.out.size
  have hF4 : ∀ k, F4 k → w.heap.size ≤ k := fun k hk => (hx4 k hk).elim (HF2.out k) (fun h => Nat.le_trans hs3 h)
  have hc4' : Chg no w w4 := HC3.out.thenExt hc4 (fun j hj => .inr (HF2.out j hj))
  obtain ⟨C1, hC1⟩ : ∃ C, C = updC (fun _ => List.replicate 4096 0) 0 (pageOf wrd) := ⟨_, rfl⟩
  rw [← hC1] at hM4
  have hz1 : C1 1 = List.replicate 4096 0 := by rw [hC1]; rfl
  have hpg : Calls Try.prog 14 #[.pointer (some ⟨mp, 0, none⟩), .int .i64 0] w4 _ := page_ok mp 2 1 0 _ F4 w4 hM4 (by omega)
  have HP := Lib.hid hpg; have HM4 := Lib.hid hM4; have HF4 := Lib.hid hF4; have HC4 := Lib.hid hc4'; have HZ1 := Lib.hid hz1
  clear hM4 hx4 hc4 hF4 hc4' hpg hC1 HM2 HS HC3 HC2 hs3 HZ1 hz1
  go_wp2_with fail
  refine HP.out.mono ?_
  rintro e w5 ⟨rfl, hb5, hc5⟩
  obtain ⟨g, hg⟩ : ∃ g, g = w4.heap.size := ⟨_, rfl⟩
  rw [← hg] at hb5 ⊢
  have hgw : w.heap.size ≤ g := hg ▸ HC4.out.size
  have hgF : ¬ F4 g := fun h => by have := HM4.out.lt _ h; omega
  have hM5 := HM4.out.chg hc5 (fun h => h) (fun _ _ h => h)
  have hc5' : Chg no w w5 := HC4.out.trans hc5
  have HB5 := Lib.hid hb5; have HM5 := Lib.hid hM5; have HC5 := Lib.hid hc5'; have HGF := Lib.hid hgF
  clear hb5 hM5 hc5 hc5' HM4 HC4 HP hg hgF
  have hst := store_bad mp 2 b s v w5 HM5.out.c0 (by omega) (by omega) he
  have hne : ((errL 2 b s : Nat) : Int) ≠ 0 := by omega
  obtain ⟨E, hE⟩ : ∃ E : Int, E = ((errL 2 b s : Nat) : Int) := ⟨_, rfl⟩
  rw [← hE] at hst hne
  have hne' : (E == 0) = false := by simpa using hne
  have HST := Lib.hid hst
  clear hst hE he
  go_wp2_with fail
  refine HST.out.mono ?_
  rintro e w6 ⟨rfl, rfl⟩
  have hpg : Calls Try.prog 14 #[.pointer (some ⟨mp, 0, none⟩), .int .i64 0] w5 _ := page_ok mp 2 1 0 _ F4 w5 HM5.out (by omega)
  have HP := Lib.hid hpg; clear hpg
  go_wp2_with fail
  refine HP.out.mono ?_
  rintro e w6 ⟨rfl, hb6, hc6⟩
  obtain ⟨hby, hl⟩ := HM5.out.byt 0
  have hcv1 := (Rd.blk hb6 hby (by omega)).conv 4096 4096 hl
  have hcv2 := (Rd.blk (HB5.out.chg hc6 (fun h => h)) hby (by omega)).conv 4096 4096 hl
  have HC6 := Lib.hid (HC5.out.trans hc6)
  clear hb6 hc6 hby hl
  generalize strOfNums (C1 0) = T at hcv1 hcv2
  go_wp2
  go_ret
  exact ⟨by simp, HC6.out.none⟩
set_option maxHeartbeats 2000000 in
theorem words_in (a b k : Nat) (v : Int) (w : World) (ha : a ≤ 18446744073709551615) (hb : b = a % 4096) (he : errL 2 b k = 0) (hv0 : 0 ≤ v) (hv1 : v ≤ 18446744073709551615) (hcase : b + k < 4096) :
    Calls Try.prog 5 #[.int .u64 a, .int .i64 k, .int .u64 v] w fun e w' => e = .returned (.bool true) ∧ Below w.heap.size w w' := by
  obtain ⟨i0, hi, hz0, hz1, hz2⟩ := info_parts info_u8
  have hbi : (a : Int) % 4096 = (b : Int) := by omega
  have hb4 : b < 4096 := by omega
  have hszs := (errL_ok he).1
  have hk8 : 1 ≤ k ∧ k ≤ 8 := by unfold SzI at hszs; omega
  have hfit := size_fits hszs (errL_ok he).2.1
  rw [Nat.mod_eq_of_lt hb4] at hfit
  clear hb hszs
  obtain ⟨p0, p1⟩ := wrd_ok
  have kc := fun (w : World) (C : Array Value) (n c : Nat) => Lib.run_convert_bytes_const (P := Try.prog) w 33 5 C n c Try.underlying33 Try.underlying5
  have hf := first_true w
  have hnew := fun w => (show Calls Try.prog 7 #[.int .i64 2] w _ from newX 2 w (by omega) (by omega))
  have HF := Lib.hid hf; have HN := Lib.hid hnew
  clear hf hnew
  go_enter Try.func5, Try.ntmps5
  go_wp2_with fail
  refine HF.out.mono ?_
  rintro e w1 ⟨rfl, hc1⟩
  have HC1 := Lib.hid hc1; clear hc1
  go_wp2_with fail
  refine (HN.out w1).mono ?_
  rintro e w2 ⟨mp, F2, rfl, hmp, hF2, hM2, hc2⟩
  have hc2' : Chg no w w2 := HC1.out.trans hc2
  have hF2' : ∀ k, F2 k → w.heap.size ≤ k := fun k hk => Nat.le_trans HC1.out.size (hF2 k hk)
  have HM2 := Lib.hid hM2; have HC2 := Lib.hid hc2'; have HF2 := Lib.hid hF2'
  clear hmp hF2 hM2 hc2 hc2' hF2'
  go_wp2_with fail
  have hc3 : Chg no w2 (w2.alloc (.cells #[.int .u8 115, .int .u8 111, .int .u8 109, .int .u8 101, .int .u8 32, .int .u8 98, .int .u8 121, .int .u8 116, .int .u8 101, .int .u8 115, .int .u8 32, .int .u8 116, .int .u8 104, .int .u8 97, .int .u8 116, .int .u8 32, .int .u8 119, .int .u8 101, .int .u8 114, .int .u8 101, .int .u8 32, .int .u8 116, .int .u8 104, .int .u8 101, .int .u8 114, .int .u8 101] 5 (26, 27))) := Chg.alloc _ _ _
  have hM3 := HM2.out.chg hc3 (fun h => h) (fun _ _ h => h)
  have hr3 : Rd (w2.alloc (.cells #[.int .u8 115, .int .u8 111, .int .u8 109, .int .u8 101, .int .u8 32, .int .u8 98, .int .u8 121, .int .u8 116, .int .u8 101, .int .u8 115, .int .u8 32, .int .u8 116, .int .u8 104, .int .u8 97, .int .u8 116, .int .u8 32, .int .u8 119, .int .u8 101, .int .u8 114, .int .u8 101, .int .u8 32, .int .u8 116, .int .u8 104, .int .u8 101, .int .u8 114, .int .u8 101] 5 (26, 27))) (some ⟨w2.heap.size, 0, none⟩) wrd := rd_lit w2 wrd 26 (26, 27) p0 p1 (by omega)
  have hsp : Calls Try.prog 12 #[.pointer (some ⟨mp, 0, none⟩), .int .i64 0, .slice (some ⟨w2.heap.size, 0, none⟩) 26 26] (w2.alloc (.cells #[.int .u8 115, .int .u8 111, .int .u8 109, .int .u8 101, .int .u8 32, .int .u8 98, .int .u8 121, .int .u8 116, .int .u8 101, .int .u8 115, .int .u8 32, .int .u8 116, .int .u8 104, .int .u8 97, .int .u8 116, .int .u8 32, .int .u8 119, .int .u8 101, .int .u8 114, .int .u8 101, .int .u8 32, .int .u8 116, .int .u8 104, .int .u8 101, .int .u8 114, .int .u8 101] 5 (26, 27))) _ := setpage_ok mp 2 0 0 26 26 (some ⟨w2.heap.size, 0, none⟩) wrd _ F2 _ hM3 (by omega) (by omega) hr3 p1 (by omega) (fun b off e h => by injection e with e; injection e with e; have := HM2.out.lt _ h; omega)
  have hc3' : Chg no w (w2.alloc (.cells #[.int .u8 115, .int .u8 111, .int .u8 109, .int .u8 101, .int .u8 32, .int .u8 98, .int .u8 121, .int .u8 116, .int .u8 101, .int .u8 115, .int .u8 32, .int .u8 116, .int .u8 104, .int .u8 97, .int .u8 116, .int .u8 32, .int .u8 119, .int .u8 101, .int .u8 114, .int .u8 101, .int .u8 32, .int .u8 116, .int .u8 104, .int .u8 101, .int .u8 114, .int .u8 101] 5 (26, 27))) := HC2.out.trans hc3
  have HS := Lib.hid hsp; have HC3 := Lib.hid hc3'
  clear hc3 hM3 hr3 hsp hc3' p0 p1
  refine HS.out.mono ?_
  rintro e w4 ⟨rfl, F4, hM4, hx4, hc4⟩
  have hs3 := HC3.out.size
  have hF4 : ∀ k, F4 k → w.heap.size ≤ k := fun k hk => (hx4 k hk).elim (HF2.out k) (fun h => Nat.le_trans hs3 h)
  have hc4' : Chg no w w4 := HC3.out.thenExt hc4 (fun j hj => .inr (HF2.out j hj))
  obtain ⟨C1, hC1⟩ : ∃ C, C = updC (fun _ => List.replicate 4096 0) 0 (pageOf wrd) := ⟨_, rfl⟩
  rw [← hC1] at hM4
  have hzz1 : C1 1 = List.replicate 4096 0 := by rw [hC1]; rfl
  have hpg : Calls Try.prog 14 #[.pointer (some ⟨mp, 0, none⟩), .int .i64 0] w4 _ := page_ok mp 2 1 0 _ F4 w4 hM4 (by omega)
  have HP := Lib.hid hpg; have HM4 := Lib.hid hM4; have HF4 := Lib.hid hF4; have HC4 := Lib.hid hc4'; have HZ1 := Lib.hid hzz1
  clear hM4 hx4 hc4 hF4 hc4' hpg hC1 HM2 HS HC3 HC2 hs3 hzz1
  go_wp2_with fail
  refine HP.out.mono ?_
  rintro e w5 ⟨rfl, hb5, hc5⟩
  obtain ⟨g, hg⟩ : ∃ g, g = w4.heap.size := ⟨_, rfl⟩
  rw [← hg] at hb5 ⊢
  have hgw : w.heap.size ≤ g := hg ▸ HC4.out.size
  have hgF : ¬ F4 g := fun h => by have := HM4.out.lt _ h; omega
  have hM5 := HM4.out.chg hc5 (fun h => h) (fun _ _ h => h)
  have hc5' : Chg no w w5 := HC4.out.trans hc5
  have HB5 := Lib.hid hb5; have HM5 := Lib.hid hM5; have HC5 := Lib.hid hc5'; have HGF := Lib.hid hgF
  clear hb5 hM5 hc5 hc5' HM4 HC4 HP hg hgF
  have hst := store_ok mp 2 1 b k v C1 F4 w5 HM5.out (by omega) he (by omega) hv0 hv1
  rw [Int.toNat_natCast] at hst
  have HST := Lib.hid hst
  clear hst he
  go_wp2_with fail
  refine HST.out.mono ?_
  rintro e w6 ⟨rfl, F6, hM6, hx6, hc6⟩
  have hb6 := HB5.out.chg hc6 HGF.out
  obtain ⟨hC1b, hC1l⟩ := HM5.out.byt 0
  have hbl := byt_len k v
  obtain ⟨C2, hC2⟩ : ∃ C2, C2 = layC C1 b k v := ⟨_, rfl⟩
  have h20 : C2 0 = lay (C1 0) b (byt v k) := by
    rw [hC2]; unfold layC updC
    rw [Nat.div_eq_of_lt hb4, Nat.mod_eq_of_lt hb4, if_pos rfl]
  have h21 : C2 1 = List.replicate 4096 0 := by
    rw [hC2]; unfold layC updC
    rw [Nat.div_eq_of_lt hb4, if_neg (by omega)]; exact HZ1.out
  rw [← hC2] at hM6
  have hl20 : (C2 0).length = 4096 := (hM6.byt 0).2
  have hone : ∀ j, j < k → wordC C2 (b + j) 1 = v / (256 ^ j : Nat) % 256 := fun j hj => by
    rw [word_one C2 (b + j) (by rw [Nat.div_eq_of_lt (by omega)]; exact hl20), Nat.div_eq_of_lt (by omega), Nat.mod_eq_of_lt (by omega), h20, lay_at _ _ _ _ (by rw [hbl]; omega) (by rw [hbl]; exact hj), byt_at k j v hj]
  have hld : ∀ j, j < k → Calls Try.prog 16 #[.pointer (some ⟨mp, 0, none⟩), .int .u64 ((b + j : Nat) : Int), .int .i64 1] w6 fun e w' => e = .returned (.tuple #[.int .u64 (v / (256 ^ j : Nat) % 256), .int .i64 0]) ∧ w6 = w' := fun j hj => by
    have h := load_ok mp 2 2 (b + j) 1 C2 F6 w6 hM6 (by omega) (by unfold errL; rw [if_pos sz1, show (1 : Int).toNat = 1 from rfl, if_pos (Nat.mod_one _), if_pos (by omega)])
    rw [show (1 : Int).toNat = 1 from rfl, hone j hj] at h
    exact h
  have hF6 : ∀ x, F6 x → w.heap.size ≤ x := fun x hx => (hx6 x hx).elim (HF4.out x) (fun h => Nat.le_trans HC5.out.size h)
  have hc6' : Chg no w w6 := HC5.out.thenExt hc6 (fun j hj => .inr (HF4.out j hj))
  have hgF : ¬ F6 g := fun h => (hx6 g h).elim HGF.out (fun h => by have := HB5.out.lt; omega)
  have HB6 := Lib.hid hb6; have HM6 := Lib.hid hM6; have HC6 := Lib.hid hc6'; have HLD := Lib.hid hld; have H20 := Lib.hid h20; have H21 := Lib.hid h21; have HF6 := Lib.hid hF6; have HCB := Lib.hid hC1b; have HCL := Lib.hid hC1l
  clear hM6 hx6 hc6 hb6 hC1b hC1l hbl hC2 h20 h21 hl20 hone hld hF6 hc6' hgF HST HM5 HC5 HB5 HGF HF4
  go_wp2
  go_loop [55] (fun i => ∃ j : Nat, j ≤ k ∧ i = .int .u64 j) (fun i => k - (intOf i).toNat)
  case atStart => exact ⟨0, Nat.zero_le _, rfl⟩
  case round =>
    obtain ⟨j, hj, rfl⟩ := hrel
    by_cases hlt : j < k
    · have h := HLD.out j hlt
      obtain ⟨q, hq⟩ : ∃ q : Nat, q = b + j := ⟨_, rfl⟩
      rw [← hq] at h
      have hqi : (b : Int) + (j : Int) = (q : Int) := by omega
      have H := Lib.hid h
      have hp8 := pow_8 v j
      rw [← hp8] at H
      have hj8 : j < 8 := by omega
      have hy0 : 0 ≤ v / 2 ^ (8 * j) := Int.ediv_nonneg hv0 (Int.pow_nonneg (by omega))
      have hand := and_byte (v / 2 ^ (8 * j)) hy0 (Int.le_trans (Int.ediv_le_self _ hv0) hv1)
      clear h hq hp8
      go_wp2_with fail
      refine H.out.mono ?_
      rintro e w7 ⟨rfl, rfl⟩
      go_wp2
      go_round
      case rel => exact ⟨j + 1, hlt, by go_num⟩
      case measure => simp [intOf]; omega
    · obtain rfl : j = k := by omega
      clear hlt
      have hp0 : Calls Try.prog 14 #[.pointer (some ⟨mp, 0, none⟩), .int .i64 0] w6 _ := page_ok mp 2 2 0 C2 F6 w6 HM6.out (by omega)
      have HP0 := Lib.hid hp0; clear hp0
      go_wp2_with fail
      refine HP0.out.mono ?_
      rintro e w7 ⟨rfl, hb7, hc7⟩
      have hM7 := HM6.out.chg hc7 (fun h => h) (fun _ _ h => h)
      have hg7 := HB6.out.chg hc7 (fun h => h)
      have hp1 : Calls Try.prog 14 #[.pointer (some ⟨mp, 0, none⟩), .int .i64 1] w7 _ := page_ok mp 2 2 1 C2 F6 w7 hM7 (by omega)
      obtain ⟨g2, hg2⟩ : ∃ x, x = w6.heap.size := ⟨_, rfl⟩
      rw [← hg2] at hb7 ⊢
      have HP1 := Lib.hid hp1; have HB7 := Lib.hid hb7; have HG7 := Lib.hid hg7; have HC7 := Lib.hid (HC6.out.trans hc7)
      clear hp1 hb7 hc7 hM7 hg7 hg2
      go_wp2_with fail
      refine HP1.out.mono ?_
      rintro e w8 ⟨rfl, hb8, hc8⟩
      obtain ⟨g3, hg3⟩ : ∃ x, x = w7.heap.size := ⟨_, rfl⟩
      rw [← hg3] at hb8 ⊢
      have hg8 := HG7.out.chg hc8 (fun h => h)
      have hq8 := HB7.out.chg hc8 (fun h => h)
      have HC8 := Lib.hid (HC7.out.trans hc8)
      have hl20 : (C2 0).length = 4096 := (HM6.out.byt 0).2
      have r1 := Rd.blk hq8 (HM6.out.byt 0).1 (by omega)
      have r2 := Rd.blk hg8 HCB.out (by rw [HCL.out]; omega)
      have r3 := Rd.blk hb8 (HM6.out.byt 1).1 (by rw [(HM6.out.byt 1).2]; omega)
      rw [H21.out] at r3
      obtain ⟨w9, hw9⟩ : ∃ x, x = w8.drew := ⟨_, rfl⟩
      have b9 : Below w8.heap.size w8 w9 := by rw [hw9]; exact (Below.refl _ _).drew
      have r1 := r1.below b9
      have r2 := r2.below b9
      have r3 := r3.below b9
      obtain ⟨T1, hT1⟩ : ∃ T, T = strOfNums ((C1 0).take b) := ⟨_, rfl⟩
      obtain ⟨T2, hT2⟩ : ∃ T, T = strOfNums ((C1 0).drop (b + j)) := ⟨_, rfl⟩
      obtain ⟨T3, hT3⟩ : ∃ T, T = strOfNums (List.replicate 4096 0) := ⟨_, rfl⟩
      have t1 : (C2 0).take b = (C1 0).take b := by rw [H20.out, lay_take _ _ _ (by rw [HCL.out]; omega)]
      have t2 : (C2 0).drop (b + j) = (C1 0).drop (b + j) := by rw [H20.out, lay_drop _ _ _ j (byt_len j v) (by rw [HCL.out]; omega)]
      have hcs : b + j < 4096 := hcase
      have k3 : ∀ w', Below w9.heap.size w9 w' → (convert 33 9 (.slice (some ⟨g2, b + j, none⟩) (4096 - (b + j)) (4096 - (b + j)))).run Try.prog w' = .ok (.string T2) w' := fun w' h => by
        have := ((r1.below h).from_ (b + j)).conv (4096 - (b + j)) (4096 - (b + j)) (by rw [List.length_drop, hl20])
        rwa [Nat.zero_add, t2, ← hT2] at this
      have k4 : ∀ w', Below w9.heap.size w9 w' → (convert 33 9 (.slice (some ⟨g, b + j, none⟩) (4096 - (b + j)) (4096 - (b + j)))).run Try.prog w' = .ok (.string T2) w' := fun w' h => by
        have := ((r2.below h).from_ (b + j)).conv (4096 - (b + j)) (4096 - (b + j)) (by rw [List.length_drop, HCL.out])
        rwa [Nat.zero_add, ← hT2] at this
      have k1 : ∀ w', Below w9.heap.size w9 w' → (convert 33 9 (.slice (some ⟨g2, 0, none⟩) b 4096)).run Try.prog w' = .ok (.string T1) w' := fun w' h => by
        have := ((r1.below h).upto b).conv b 4096 (by rw [List.length_take, hl20]; omega)
        rwa [t1, ← hT1] at this
      have k2 : ∀ w', Below w9.heap.size w9 w' → (convert 33 9 (.slice (some ⟨g, 0, none⟩) b 4096)).run Try.prog w' = .ok (.string T1) w' := fun w' h => by
        have := ((r2.below h).upto b).conv b 4096 (by rw [List.length_take, HCL.out]; omega)
        rwa [← hT1] at this
      have k5 : ∀ w', Below w9.heap.size w9 w' → (convert 33 9 (.slice (some ⟨g3, 0, none⟩) 4096 4096)).run Try.prog w' = .ok (.string T3) w' := fun w' h => by
        have := (r3.below h).conv 4096 4096 List.length_replicate
        rwa [← hT3] at this
      obtain ⟨w10, hrun, hown, hgr⟩ := run_make_full (P := Try.prog) w9 w9.heap.size 33 5 i0 (.int .u8 0) 1 Try.underlying33 hi hz0 hz1 .i64 .i64 4096 (by rw [hz2]; omega) (by unfold maxLen; omega) (Nat.le_refl _)
      have hb10 : Below w9.heap.size w9 w10 := (Below.refl _ _).grown hgr (Nat.le_refl _) (fun j hj => by cases hj)
      have k6 : (convert 33 9 (.slice (some ⟨w9.heap.size, 0, none⟩) 4096 4096)).run Try.prog w10 = .ok (.string T3) w10 := by
        rw [Nat.mul_one, show (Value.int .u8 0).cells = #[.int .u8 0] from rfl, made_zero] at hown
        have hbk := (own_blk hown).1
        rw [show List.replicate 4096 (Value.int .u8 0) = (List.replicate 4096 (0 : Int)).map (Value.int .u8) from by rw [List.map_replicate]] at hbk
        have := (Rd.blk hbk (rep_Byt 4096) (by rw [List.length_replicate]; omega)).conv 4096 4096 List.length_replicate
        rwa [← hT3] at this
      have hb9 : Below w.heap.size w w9 := HC8.out.none.trans (b9.mono HC8.out.size)
      replace hrun : (Instr.makeSlice 33 (.int .i64 4096) (.int .i64 4096)).run Try.prog w9 = .ok (.slice (some ⟨w9.heap.size, 0, none⟩) 4096 4096) w10 := hrun
      have HRUN := Lib.hid hrun; have HB10 := Lib.hid hb10; have K6 := Lib.hid k6; have HB9 := Lib.hid hb9
      obtain ⟨q, hq⟩ : ∃ q : Nat, q = b + j := ⟨_, rfl⟩
      have hqi : (b : Int) + (j : Int) = (q : Int) := by omega
      have hq4 : (q : Int) ≤ 4096 := by omega
      have hb5 : (b : Int) ≤ 4096 := by omega
      rw [← hq] at k3 k4 hcs
      have hqn : ¬ (4096 = q) := by omega
      have hwq : IntKind.u64.wrap ((b : Int) + IntKind.u64.wrap (j : Int)) = (q : Int) := by rw [wrap_u64, wrap_u64]; omega
      clear hT1 hT2 hT3 t1 t2 hrun hown hgr hb10 k6 hb9 r1 r2 r3 hb8 hc8 hg8 hq8 hg3 HM6 HB6 HC6 HLD H20 H21 HCB HCL HG7 HB7 HC7 HC8 HP0 HP1 kc HF HN hl20 hq b9
      go_wp2_with fail
      refine wp_region_held_drew (S := fun w' => Below w9.heap.size w9 w') (by kernel_rfl) (by rw [hw9]; exact Below.refl _ _) (fun hHeld => ?_)
      rw [← hw9] at hHeld ⊢
      clear hw9
      simp only [List.size_toArray, List.length_cons, List.length_nil, Nat.reduceAdd]
      rw [show Array.replicate 34 false = [false, false, false, false, false, false, false, false, false, false, false, false, false, false, false, false, false, false, false, false, false, false, false, false, false, false, false, false, false, false, false, false, false, false].toArray from rfl]
      refine wpAnyH_take (i := 0) (v := ?_) rfl (by kernel_rfl) (by kernel_rfl) (by kernel_rfl) (fun _ _ _ h => h) (Or.inl ⟨by rfl, ?yldq⟩) (by assumption) ?_
      case yldq => (intro w hSw; (try dsimp only at hSw); go_simp; try with_reducible rfl)
      try simp only [Act.put, List.setIfInBounds_toArray, List.set_cons_zero, List.set_cons_succ, List.getElem_toArray, List.getElem_cons_succ, List.getElem_cons_zero]
      refine wpAnyH_take (i := 1) (v := ?_) rfl (by kernel_rfl) (by kernel_rfl) (by kernel_rfl) (fun _ _ _ h => h) (Or.inl ⟨by rfl, ?yldq⟩) (by assumption) ?_
      case yldq => (intro w hSw; (try dsimp only at hSw); go_simp; try with_reducible rfl)
      try simp only [Act.put, List.setIfInBounds_toArray, List.set_cons_zero, List.set_cons_succ, List.getElem_toArray, List.getElem_cons_succ, List.getElem_cons_zero]
      refine wpAnyH_take (i := 2) (v := ?_) rfl (by kernel_rfl) (by kernel_rfl) (by kernel_rfl) (fun _ _ _ h => h) (Or.inl ⟨by rfl, ?yldq⟩) (by assumption) ?_
      case yldq => (intro w hSw; (try dsimp only at hSw); go_simp; try with_reducible rfl)
      try simp only [Act.put, List.setIfInBounds_toArray, List.set_cons_zero, List.set_cons_succ, List.getElem_toArray, List.getElem_cons_succ, List.getElem_cons_zero]
      refine wpAnyH_take (i := 3) (v := ?_) rfl (by kernel_rfl) (by kernel_rfl) (by kernel_rfl) (fun _ _ _ h => h) (Or.inl ⟨by rfl, ?yldq⟩) (by assumption) ?_
      case yldq => (intro w hSw; (try dsimp only at hSw); go_simp; try with_reducible rfl)
      try simp only [Act.put, List.setIfInBounds_toArray, List.set_cons_zero, List.set_cons_succ, List.getElem_toArray, List.getElem_cons_succ, List.getElem_cons_zero]
      refine wpAnyH_take (i := 4) (v := ?_) rfl (by kernel_rfl) (by kernel_rfl) (by kernel_rfl) (fun _ _ _ h => h) (Or.inl ⟨by rfl, ?yldq⟩) (by assumption) ?_
      case yldq => (intro w hSw; (try dsimp only at hSw); go_simp; try with_reducible rfl)
      try simp only [Act.put, List.setIfInBounds_toArray, List.set_cons_zero, List.set_cons_succ, List.getElem_toArray, List.getElem_cons_succ, List.getElem_cons_zero]
      refine wpAnyH_take (i := 5) (v := ?_) rfl (by kernel_rfl) (by kernel_rfl) (by kernel_rfl) (fun _ _ _ h => h) (Or.inl ⟨by rfl, ?yldq⟩) (by assumption) ?_
      case yldq => (intro w hSw; (try dsimp only at hSw); go_simp; try with_reducible rfl)
      try simp only [Act.put, List.setIfInBounds_toArray, List.set_cons_zero, List.set_cons_succ, List.getElem_toArray, List.getElem_cons_succ, List.getElem_cons_zero]
      refine wpAnyH_take (i := 6) (v := ?_) rfl (by kernel_rfl) (by kernel_rfl) (by kernel_rfl) (fun _ _ _ h => h) (Or.inl ⟨by rfl, ?yldq⟩) (by assumption) ?_
      case yldq => (intro w hSw; (try dsimp only at hSw); go_simp; try with_reducible rfl)
      try simp only [Act.put, List.setIfInBounds_toArray, List.set_cons_zero, List.set_cons_succ, List.getElem_toArray, List.getElem_cons_succ, List.getElem_cons_zero]
      refine wpAnyH_take (i := 7) (v := ?_) rfl (by kernel_rfl) (by kernel_rfl) (by kernel_rfl) (fun _ _ _ h => h) (Or.inl ⟨by rfl, ?yldq⟩) (by assumption) ?_
      case yldq => (intro w hSw; (try dsimp only at hSw); go_simp; try with_reducible rfl)
      try simp only [Act.put, List.setIfInBounds_toArray, List.set_cons_zero, List.set_cons_succ, List.getElem_toArray, List.getElem_cons_succ, List.getElem_cons_zero]
      refine wpAnyH_take (i := 8) (v := ?_) rfl (by kernel_rfl) (by kernel_rfl) (by kernel_rfl) (fun _ _ _ h => h) (Or.inl ⟨by rfl, ?yldq⟩) (by assumption) ?_
      case yldq => (intro w hSw; (try dsimp only at hSw); go_simp; try with_reducible rfl)
      try simp only [Act.put, List.setIfInBounds_toArray, List.set_cons_zero, List.set_cons_succ, List.getElem_toArray, List.getElem_cons_succ, List.getElem_cons_zero]
      refine wpAnyH_take (i := 9) (v := ?_) rfl (by kernel_rfl) (by kernel_rfl) (by kernel_rfl) (fun _ _ _ h => h) (Or.inl ⟨by rfl, ?yldq⟩) (by assumption) ?_
      case yldq => (intro w hSw; (try dsimp only at hSw); go_simp; try with_reducible rfl)
      try simp only [Act.put, List.setIfInBounds_toArray, List.set_cons_zero, List.set_cons_succ, List.getElem_toArray, List.getElem_cons_succ, List.getElem_cons_zero]
      refine wpAnyH_take (i := 10) (v := ?_) rfl (by kernel_rfl) (by kernel_rfl) (by kernel_rfl) (fun _ _ _ h => h) (Or.inl ⟨by rfl, ?yldq⟩) (by assumption) ?_
      case yldq => (intro w hSw; (try dsimp only at hSw); go_simp; try with_reducible rfl)
      try simp only [Act.put, List.setIfInBounds_toArray, List.set_cons_zero, List.set_cons_succ, List.getElem_toArray, List.getElem_cons_succ, List.getElem_cons_zero]
      refine wpAnyH_take (i := 11) (v := ?_) rfl (by kernel_rfl) (by kernel_rfl) (by kernel_rfl) (fun _ _ _ h => h) (Or.inl ⟨by rfl, ?yldq⟩) (by assumption) ?_
      case yldq => (intro w hSw; (try dsimp only at hSw); go_simp; try with_reducible rfl)
      try simp only [Act.put, List.setIfInBounds_toArray, List.set_cons_zero, List.set_cons_succ, List.getElem_toArray, List.getElem_cons_succ, List.getElem_cons_zero]
      refine wpAnyH_take (i := 12) (v := ?_) rfl (by kernel_rfl) (by kernel_rfl) (by kernel_rfl) (fun _ _ _ h => h) (Or.inl ⟨by rfl, ?yldq⟩) (by assumption) ?_
      case yldq => (intro w hSw; (try dsimp only at hSw); go_simp; try with_reducible rfl)
      try simp only [Act.put, List.setIfInBounds_toArray, List.set_cons_zero, List.set_cons_succ, List.getElem_toArray, List.getElem_cons_succ, List.getElem_cons_zero]
      refine wpAnyH_take (i := 13) (v := ?_) rfl (by kernel_rfl) (by kernel_rfl) (by kernel_rfl) (fun _ _ _ h => h) (Or.inl ⟨by rfl, ?yldq⟩) (by assumption) ?_
      case yldq => (intro w hSw; (try dsimp only at hSw); go_simp; try with_reducible rfl)
      try simp only [Act.put, List.setIfInBounds_toArray, List.set_cons_zero, List.set_cons_succ, List.getElem_toArray, List.getElem_cons_succ, List.getElem_cons_zero]
      refine wpAnyH_take (i := 14) (v := ?_) rfl (by kernel_rfl) (by kernel_rfl) (by kernel_rfl) (fun _ _ _ h => h) (Or.inl ⟨by rfl, ?yldq⟩) (by assumption) ?_
      case yldq => (intro w hSw; (try dsimp only at hSw); go_simp; try with_reducible rfl)
      try simp only [Act.put, List.setIfInBounds_toArray, List.set_cons_zero, List.set_cons_succ, List.getElem_toArray, List.getElem_cons_succ, List.getElem_cons_zero]
      refine wpAnyH_take (i := 15) (v := ?_) rfl (by kernel_rfl) (by kernel_rfl) (by kernel_rfl) (fun _ _ _ h => h) (Or.inl ⟨by rfl, ?yldq⟩) (by assumption) ?_
      case yldq => (intro w hSw; (try dsimp only at hSw); go_simp; try with_reducible rfl)
      try simp only [Act.put, List.setIfInBounds_toArray, List.set_cons_zero, List.set_cons_succ, List.getElem_toArray, List.getElem_cons_succ, List.getElem_cons_zero]
      refine wpAnyH_take (i := 16) (v := ?_) rfl (by kernel_rfl) (by kernel_rfl) (by kernel_rfl) (fun _ _ _ h => h) (Or.inl ⟨by rfl, ?yldq⟩) (by assumption) ?_
      case yldq => (intro w hSw; (try dsimp only at hSw); go_simp; try with_reducible rfl)
      try simp only [Act.put, List.setIfInBounds_toArray, List.set_cons_zero, List.set_cons_succ, List.getElem_toArray, List.getElem_cons_succ, List.getElem_cons_zero]
      refine wpAnyH_take (i := 17) (v := ?_) rfl (by kernel_rfl) (by kernel_rfl) (by kernel_rfl) (fun _ _ _ h => h) (Or.inl ⟨by rfl, ?yldq⟩) (by assumption) ?_
      case yldq => (intro w hSw; (try dsimp only at hSw); go_simp; try with_reducible rfl)
      try simp only [Act.put, List.setIfInBounds_toArray, List.set_cons_zero, List.set_cons_succ, List.getElem_toArray, List.getElem_cons_succ, List.getElem_cons_zero]
      refine wpAnyH_take (i := 18) (v := ?_) rfl (by kernel_rfl) (by kernel_rfl) (by kernel_rfl) (fun _ _ _ h => h) (Or.inl ⟨by rfl, ?yldq⟩) (by assumption) ?_
      case yldq => (intro w hSw; (try dsimp only at hSw); go_simp; try with_reducible rfl)
      try simp only [Act.put, List.setIfInBounds_toArray, List.set_cons_zero, List.set_cons_succ, List.getElem_toArray, List.getElem_cons_succ, List.getElem_cons_zero]
      refine wpAnyH_take (i := 19) (v := ?_) rfl (by kernel_rfl) (by kernel_rfl) (by kernel_rfl) (fun _ _ _ h => h) (Or.inl ⟨by rfl, ?yldq⟩) (by assumption) ?_
      case yldq => (intro w hSw; (try dsimp only at hSw); go_simp; try with_reducible rfl)
      try simp only [Act.put, List.setIfInBounds_toArray, List.set_cons_zero, List.set_cons_succ, List.getElem_toArray, List.getElem_cons_succ, List.getElem_cons_zero]
      refine wpAnyH_take (i := 20) (v := ?_) rfl (by kernel_rfl) (by kernel_rfl) (by kernel_rfl) (fun _ _ _ h => h) (Or.inl ⟨by rfl, ?yldq⟩) (by assumption) ?_
      case yldq => (intro w hSw; (try dsimp only at hSw); go_simp; try with_reducible rfl)
      try simp only [Act.put, List.setIfInBounds_toArray, List.set_cons_zero, List.set_cons_succ, List.getElem_toArray, List.getElem_cons_succ, List.getElem_cons_zero]
      refine wpAnyH_take (i := 21) (v := ?_) rfl (by kernel_rfl) (by kernel_rfl) (by kernel_rfl) (fun _ _ _ h => h) (Or.inl ⟨by rfl, ?yldq⟩) (by assumption) ?_
      case yldq => (intro w hSw; (try dsimp only at hSw); go_simp; try with_reducible rfl)
      try simp only [Act.put, List.setIfInBounds_toArray, List.set_cons_zero, List.set_cons_succ, List.getElem_toArray, List.getElem_cons_succ, List.getElem_cons_zero]
      refine wpAnyH_take (i := 22) (v := ?_) rfl (by kernel_rfl) (by kernel_rfl) (by kernel_rfl) (fun _ _ _ h => h) (Or.inl ⟨by rfl, ?yldq⟩) (by assumption) ?_
      case yldq => (intro w hSw; (try dsimp only at hSw); go_simp; try with_reducible rfl)
      try simp only [Act.put, List.setIfInBounds_toArray, List.set_cons_zero, List.set_cons_succ, List.getElem_toArray, List.getElem_cons_succ, List.getElem_cons_zero]
      refine wpAnyH_take (i := 23) (v := ?_) rfl (by kernel_rfl) (by kernel_rfl) (by kernel_rfl) (fun _ _ _ h => h) (Or.inl ⟨by rfl, ?yldq⟩) (by assumption) ?_
      case yldq => (intro w hSw; (try dsimp only at hSw); go_simp; try with_reducible rfl)
      try simp only [Act.put, List.setIfInBounds_toArray, List.set_cons_zero, List.set_cons_succ, List.getElem_toArray, List.getElem_cons_succ, List.getElem_cons_zero]
      refine wpAnyH_take (i := 24) (v := ?_) rfl (by kernel_rfl) (by kernel_rfl) (by kernel_rfl) (fun _ _ _ h => h) (Or.inl ⟨by rfl, ?yldq⟩) (by assumption) ?_
      case yldq => (intro w hSw; (try dsimp only at hSw); go_simp; try with_reducible rfl)
      try simp only [Act.put, List.setIfInBounds_toArray, List.set_cons_zero, List.set_cons_succ, List.getElem_toArray, List.getElem_cons_succ, List.getElem_cons_zero]
      refine wpAnyH_take (i := 25) (v := ?_) rfl (by kernel_rfl) (by kernel_rfl) (by kernel_rfl) (fun _ _ _ h => h) (Or.inl ⟨by rfl, ?yldq⟩) (by assumption) ?_
      case yldq => (intro w hSw; (try dsimp only at hSw); go_simp; try with_reducible rfl)
      try simp only [Act.put, List.setIfInBounds_toArray, List.set_cons_zero, List.set_cons_succ, List.getElem_toArray, List.getElem_cons_succ, List.getElem_cons_zero]
      refine wpAnyH_take (i := 26) (v := ?_) rfl (by kernel_rfl) (by kernel_rfl) (by kernel_rfl) (fun _ _ _ h => h) (Or.inl ⟨by rfl, ?yldq⟩) (by assumption) ?_
      case yldq => (intro w hSw; (try dsimp only at hSw); go_simp; try with_reducible rfl)
      try simp only [Act.put, List.setIfInBounds_toArray, List.set_cons_zero, List.set_cons_succ, List.getElem_toArray, List.getElem_cons_succ, List.getElem_cons_zero]
      refine wpAnyH_take (i := 27) (v := ?_) rfl (by kernel_rfl) (by kernel_rfl) (by kernel_rfl) (fun _ _ _ h => h) (Or.inl ⟨by rfl, ?yldq⟩) (by assumption) ?_
      case yldq => (intro w hSw; (try dsimp only at hSw); go_simp; try with_reducible rfl)
      try simp only [Act.put, List.setIfInBounds_toArray, List.set_cons_zero, List.set_cons_succ, List.getElem_toArray, List.getElem_cons_succ, List.getElem_cons_zero]
      refine wpAnyH_take (i := 28) (v := ?_) rfl (by kernel_rfl) (by kernel_rfl) (by kernel_rfl) (fun _ _ _ h => h) (Or.inl ⟨by rfl, ?yldq⟩) (by assumption) ?_
      case yldq => (intro w hSw; (try dsimp only at hSw); go_simp; try with_reducible rfl)
      try simp only [Act.put, List.setIfInBounds_toArray, List.set_cons_zero, List.set_cons_succ, List.getElem_toArray, List.getElem_cons_succ, List.getElem_cons_zero]
      have hrun := HRUN.out
      refine wpAnyH_ready (rs := [29]) (by kernel_rfl) (by simp) ?_
      refine AllReadyH.cons rfl (fun K hK => ?_) AllReadyH.nil
      go_simp
      refine hK.out _ _ HB10.out (fun _ => ?_)
      clear hK K
      refine wpAnyH_more (S' := fun w' => (convert 33 9 (.slice (some ⟨w9.heap.size, 0, none⟩) 4096 4096)).run Try.prog w' = .ok (.string T3) w' ∧ Below w9.heap.size w9 w') (fun w' h => h.2) _ _ _ _ ?_
      have hS10 := And.intro K6.out HB10.out
      clear hrun hHeld
      refine wpAnyH_take (i := 30) (v := ?_) rfl (by kernel_rfl) (by kernel_rfl) (by kernel_rfl) (fun _ _ _ h => h) (Or.inl ⟨by rfl, ?yldq⟩) (by assumption) ?_
      case yldq => (intro w hSw; (try dsimp only at hSw); go_simp; try with_reducible rfl)
      try simp only [Act.put, List.setIfInBounds_toArray, List.set_cons_zero, List.set_cons_succ, List.getElem_toArray, List.getElem_cons_succ, List.getElem_cons_zero]
      refine wpAnyH_take (i := 31) (v := ?_) rfl (by kernel_rfl) (by kernel_rfl) (by kernel_rfl) (fun _ _ _ h => h) (Or.inl ⟨by rfl, ?yldq⟩) (by assumption) ?_
      case yldq => (intro w hSw; (try dsimp only at hSw); go_simp; try with_reducible rfl)
      try simp only [Act.put, List.setIfInBounds_toArray, List.set_cons_zero, List.set_cons_succ, List.getElem_toArray, List.getElem_cons_succ, List.getElem_cons_zero]
      refine wpAnyH_take (i := 32) (v := ?_) rfl (by kernel_rfl) (by kernel_rfl) (by kernel_rfl) (fun _ _ _ h => h) (Or.inl ⟨by rfl, ?yldq⟩) (by assumption) ?_
      case yldq => (intro w hSw; (try dsimp only at hSw); go_simp; try with_reducible rfl)
      try simp only [Act.put, List.setIfInBounds_toArray, List.set_cons_zero, List.set_cons_succ, List.getElem_toArray, List.getElem_cons_succ, List.getElem_cons_zero]
      refine wpAnyH_take (i := 33) (v := ?_) rfl (by kernel_rfl) (by kernel_rfl) (by kernel_rfl) (fun _ _ _ h => h) (Or.inl ⟨by rfl, ?yldq⟩) (by assumption) ?_
      case yldq => (intro w hSw; (try dsimp only at hSw); go_simp; try with_reducible rfl)
      try simp only [Act.put, List.setIfInBounds_toArray, List.set_cons_zero, List.set_cons_succ, List.getElem_toArray, List.getElem_cons_succ, List.getElem_cons_zero]
      refine wpAnyH_done (by kernel_rfl) ?_ _
      clear hS10
      go_wp2
      go_ret
      exact ⟨by simp, HB9.out.trans (HB10.out.mono HB9.out.size)⟩
set_option maxHeartbeats 2000000 in
theorem words_end (a b k : Nat) (v : Int) (w : World) (ha : a ≤ 18446744073709551615) (hb : b = a % 4096) (he : errL 2 b k = 0) (hv0 : 0 ≤ v) (hv1 : v ≤ 18446744073709551615) (hcase : b + k = 4096) :
    Calls Try.prog 5 #[.int .u64 a, .int .i64 k, .int .u64 v] w fun e w' => e = .returned (.bool true) ∧ Below w.heap.size w w' := by
  obtain ⟨i0, hi, hz0, hz1, hz2⟩ := info_parts info_u8
  have hbi : (a : Int) % 4096 = (b : Int) := by omega
  have hb4 : b < 4096 := by omega
  have hszs := (errL_ok he).1
  have hk8 : 1 ≤ k ∧ k ≤ 8 := by unfold SzI at hszs; omega
  have hfit := size_fits hszs (errL_ok he).2.1
  rw [Nat.mod_eq_of_lt hb4] at hfit
  clear hb hszs
  obtain ⟨p0, p1⟩ := wrd_ok
  have kc := fun (w : World) (C : Array Value) (n c : Nat) => Lib.run_convert_bytes_const (P := Try.prog) w 33 5 C n c Try.underlying33 Try.underlying5
  have hf := first_true w
  have hnew := fun w => (show Calls Try.prog 7 #[.int .i64 2] w _ from newX 2 w (by omega) (by omega))
  have HF := Lib.hid hf; have HN := Lib.hid hnew
  clear hf hnew
  go_enter Try.func5, Try.ntmps5
  go_wp2_with fail
  refine HF.out.mono ?_
  rintro e w1 ⟨rfl, hc1⟩
  have HC1 := Lib.hid hc1; clear hc1
  go_wp2_with fail
  refine (HN.out w1).mono ?_
  rintro e w2 ⟨mp, F2, rfl, hmp, hF2, hM2, hc2⟩
  have hc2' : Chg no w w2 := HC1.out.trans hc2
  have hF2' : ∀ k, F2 k → w.heap.size ≤ k := fun k hk => Nat.le_trans HC1.out.size (hF2 k hk)
  have HM2 := Lib.hid hM2; have HC2 := Lib.hid hc2'; have HF2 := Lib.hid hF2'
  clear hmp hF2 hM2 hc2 hc2' hF2'
  go_wp2_with fail
  have hc3 : Chg no w2 (w2.alloc (.cells #[.int .u8 115, .int .u8 111, .int .u8 109, .int .u8 101, .int .u8 32, .int .u8 98, .int .u8 121, .int .u8 116, .int .u8 101, .int .u8 115, .int .u8 32, .int .u8 116, .int .u8 104, .int .u8 97, .int .u8 116, .int .u8 32, .int .u8 119, .int .u8 101, .int .u8 114, .int .u8 101, .int .u8 32, .int .u8 116, .int .u8 104, .int .u8 101, .int .u8 114, .int .u8 101] 5 (26, 27))) := Chg.alloc _ _ _
  have hM3 := HM2.out.chg hc3 (fun h => h) (fun _ _ h => h)
  have hr3 : Rd (w2.alloc (.cells #[.int .u8 115, .int .u8 111, .int .u8 109, .int .u8 101, .int .u8 32, .int .u8 98, .int .u8 121, .int .u8 116, .int .u8 101, .int .u8 115, .int .u8 32, .int .u8 116, .int .u8 104, .int .u8 97, .int .u8 116, .int .u8 32, .int .u8 119, .int .u8 101, .int .u8 114, .int .u8 101, .int .u8 32, .int .u8 116, .int .u8 104, .int .u8 101, .int .u8 114, .int .u8 101] 5 (26, 27))) (some ⟨w2.heap.size, 0, none⟩) wrd := rd_lit w2 wrd 26 (26, 27) p0 p1 (by omega)
  have hsp : Calls Try.prog 12 #[.pointer (some ⟨mp, 0, none⟩), .int .i64 0, .slice (some ⟨w2.heap.size, 0, none⟩) 26 26] (w2.alloc (.cells #[.int .u8 115, .int .u8 111, .int .u8 109, .int .u8 101, .int .u8 32, .int .u8 98, .int .u8 121, .int .u8 116, .int .u8 101, .int .u8 115, .int .u8 32, .int .u8 116, .int .u8 104, .int .u8 97, .int .u8 116, .int .u8 32, .int .u8 119, .int .u8 101, .int .u8 114, .int .u8 101, .int .u8 32, .int .u8 116, .int .u8 104, .int .u8 101, .int .u8 114, .int .u8 101] 5 (26, 27))) _ := setpage_ok mp 2 0 0 26 26 (some ⟨w2.heap.size, 0, none⟩) wrd _ F2 _ hM3 (by omega) (by omega) hr3 p1 (by omega) (fun b off e h => by injection e with e; injection e with e; have := HM2.out.lt _ h; omega)
  have hc3' : Chg no w (w2.alloc (.cells #[.int .u8 115, .int .u8 111, .int .u8 109, .int .u8 101, .int .u8 32, .int .u8 98, .int .u8 121, .int .u8 116, .int .u8 101, .int .u8 115, .int .u8 32, .int .u8 116, .int .u8 104, .int .u8 97, .int .u8 116, .int .u8 32, .int .u8 119, .int .u8 101, .int .u8 114, .int .u8 101, .int .u8 32, .int .u8 116, .int .u8 104, .int .u8 101, .int .u8 114, .int .u8 101] 5 (26, 27))) := HC2.out.trans hc3
  have HS := Lib.hid hsp; have HC3 := Lib.hid hc3'
  clear hc3 hM3 hr3 hsp hc3' p0 p1
  refine HS.out.mono ?_
  rintro e w4 ⟨rfl, F4, hM4, hx4, hc4⟩
  have hs3 := HC3.out.size
  have hF4 : ∀ k, F4 k → w.heap.size ≤ k := fun k hk => (hx4 k hk).elim (HF2.out k) (fun h => Nat.le_trans hs3 h)
  have hc4' : Chg no w w4 := HC3.out.thenExt hc4 (fun j hj => .inr (HF2.out j hj))
  obtain ⟨C1, hC1⟩ : ∃ C, C = updC (fun _ => List.replicate 4096 0) 0 (pageOf wrd) := ⟨_, rfl⟩
  rw [← hC1] at hM4
  have hzz1 : C1 1 = List.replicate 4096 0 := by rw [hC1]; rfl
  have hpg : Calls Try.prog 14 #[.pointer (some ⟨mp, 0, none⟩), .int .i64 0] w4 _ := page_ok mp 2 1 0 _ F4 w4 hM4 (by omega)
  have HP := Lib.hid hpg; have HM4 := Lib.hid hM4; have HF4 := Lib.hid hF4; have HC4 := Lib.hid hc4'; have HZ1 := Lib.hid hzz1
  clear hM4 hx4 hc4 hF4 hc4' hpg hC1 HM2 HS HC3 HC2 hs3 hzz1
  go_wp2_with fail
  refine HP.out.mono ?_
  rintro e w5 ⟨rfl, hb5, hc5⟩
  obtain ⟨g, hg⟩ : ∃ g, g = w4.heap.size := ⟨_, rfl⟩
  rw [← hg] at hb5 ⊢
  have hgw : w.heap.size ≤ g := hg ▸ HC4.out.size
  have hgF : ¬ F4 g := fun h => by have := HM4.out.lt _ h; omega
  have hM5 := HM4.out.chg hc5 (fun h => h) (fun _ _ h => h)
  have hc5' : Chg no w w5 := HC4.out.trans hc5
  have HB5 := Lib.hid hb5; have HM5 := Lib.hid hM5; have HC5 := Lib.hid hc5'; have HGF := Lib.hid hgF
  clear hb5 hM5 hc5 hc5' HM4 HC4 HP hg hgF
  have hst := store_ok mp 2 1 b k v C1 F4 w5 HM5.out (by omega) he (by omega) hv0 hv1
  rw [Int.toNat_natCast] at hst
  have HST := Lib.hid hst
  clear hst he
  go_wp2_with fail
  refine HST.out.mono ?_
  rintro e w6 ⟨rfl, F6, hM6, hx6, hc6⟩
  have hb6 := HB5.out.chg hc6 HGF.out
  obtain ⟨hC1b, hC1l⟩ := HM5.out.byt 0
  have hbl := byt_len k v
  obtain ⟨C2, hC2⟩ : ∃ C2, C2 = layC C1 b k v := ⟨_, rfl⟩
  have h20 : C2 0 = lay (C1 0) b (byt v k) := by
    rw [hC2]; unfold layC updC
    rw [Nat.div_eq_of_lt hb4, Nat.mod_eq_of_lt hb4, if_pos rfl]
  have h21 : C2 1 = List.replicate 4096 0 := by
    rw [hC2]; unfold layC updC
    rw [Nat.div_eq_of_lt hb4, if_neg (by omega)]; exact HZ1.out
  rw [← hC2] at hM6
  have hl20 : (C2 0).length = 4096 := (hM6.byt 0).2
  have hone : ∀ j, j < k → wordC C2 (b + j) 1 = v / (256 ^ j : Nat) % 256 := fun j hj => by
    rw [word_one C2 (b + j) (by rw [Nat.div_eq_of_lt (by omega)]; exact hl20), Nat.div_eq_of_lt (by omega), Nat.mod_eq_of_lt (by omega), h20, lay_at _ _ _ _ (by rw [hbl]; omega) (by rw [hbl]; exact hj), byt_at k j v hj]
  have hld : ∀ j, j < k → Calls Try.prog 16 #[.pointer (some ⟨mp, 0, none⟩), .int .u64 ((b + j : Nat) : Int), .int .i64 1] w6 fun e w' => e = .returned (.tuple #[.int .u64 (v / (256 ^ j : Nat) % 256), .int .i64 0]) ∧ w6 = w' := fun j hj => by
    have h := load_ok mp 2 2 (b + j) 1 C2 F6 w6 hM6 (by omega) (by unfold errL; rw [if_pos sz1, show (1 : Int).toNat = 1 from rfl, if_pos (Nat.mod_one _), if_pos (by omega)])
    rw [show (1 : Int).toNat = 1 from rfl, hone j hj] at h
    exact h
  have hF6 : ∀ x, F6 x → w.heap.size ≤ x := fun x hx => (hx6 x hx).elim (HF4.out x) (fun h => Nat.le_trans HC5.out.size h)
  have hc6' : Chg no w w6 := HC5.out.thenExt hc6 (fun j hj => .inr (HF4.out j hj))
  have hgF : ¬ F6 g := fun h => (hx6 g h).elim HGF.out (fun h => by have := HB5.out.lt; omega)
  have HB6 := Lib.hid hb6; have HM6 := Lib.hid hM6; have HC6 := Lib.hid hc6'; have HLD := Lib.hid hld; have H20 := Lib.hid h20; have H21 := Lib.hid h21; have HF6 := Lib.hid hF6; have HCB := Lib.hid hC1b; have HCL := Lib.hid hC1l
  clear hM6 hx6 hc6 hb6 hC1b hC1l hbl hC2 h20 h21 hl20 hone hld hF6 hc6' hgF HST HM5 HC5 HB5 HGF HF4
  go_wp2
  go_loop [55] (fun i => ∃ j : Nat, j ≤ k ∧ i = .int .u64 j) (fun i => k - (intOf i).toNat)
  case atStart => exact ⟨0, Nat.zero_le _, rfl⟩
  case round =>
    obtain ⟨j, hj, rfl⟩ := hrel
    by_cases hlt : j < k
    · have h := HLD.out j hlt
      obtain ⟨q, hq⟩ : ∃ q : Nat, q = b + j := ⟨_, rfl⟩
      rw [← hq] at h
      have hqi : (b : Int) + (j : Int) = (q : Int) := by omega
      have H := Lib.hid h
      have hp8 := pow_8 v j
      rw [← hp8] at H
      have hj8 : j < 8 := by omega
      have hy0 : 0 ≤ v / 2 ^ (8 * j) := Int.ediv_nonneg hv0 (Int.pow_nonneg (by omega))
      have hand := and_byte (v / 2 ^ (8 * j)) hy0 (Int.le_trans (Int.ediv_le_self _ hv0) hv1)
      clear h hq hp8
      go_wp2_with fail
      refine H.out.mono ?_
      rintro e w7 ⟨rfl, rfl⟩
      go_wp2
      go_round
      case rel => exact ⟨j + 1, hlt, by go_num⟩
      case measure => simp [intOf]; omega
    · obtain rfl : j = k := by omega
      clear hlt
      have hp0 : Calls Try.prog 14 #[.pointer (some ⟨mp, 0, none⟩), .int .i64 0] w6 _ := page_ok mp 2 2 0 C2 F6 w6 HM6.out (by omega)
      have HP0 := Lib.hid hp0; clear hp0
      go_wp2_with fail
      refine HP0.out.mono ?_
      rintro e w7 ⟨rfl, hb7, hc7⟩
      have hM7 := HM6.out.chg hc7 (fun h => h) (fun _ _ h => h)
      have hg7 := HB6.out.chg hc7 (fun h => h)
      have hp1 : Calls Try.prog 14 #[.pointer (some ⟨mp, 0, none⟩), .int .i64 1] w7 _ := page_ok mp 2 2 1 C2 F6 w7 hM7 (by omega)
      obtain ⟨g2, hg2⟩ : ∃ x, x = w6.heap.size := ⟨_, rfl⟩
      rw [← hg2] at hb7 ⊢
      have HP1 := Lib.hid hp1; have HB7 := Lib.hid hb7; have HG7 := Lib.hid hg7; have HC7 := Lib.hid (HC6.out.trans hc7)
      clear hp1 hb7 hc7 hM7 hg7 hg2
      go_wp2_with fail
      refine HP1.out.mono ?_
      rintro e w8 ⟨rfl, hb8, hc8⟩
      obtain ⟨g3, hg3⟩ : ∃ x, x = w7.heap.size := ⟨_, rfl⟩
      rw [← hg3] at hb8 ⊢
      have hg8 := HG7.out.chg hc8 (fun h => h)
      have hq8 := HB7.out.chg hc8 (fun h => h)
      have HC8 := Lib.hid (HC7.out.trans hc8)
      have hl20 : (C2 0).length = 4096 := (HM6.out.byt 0).2
      have r1 := Rd.blk hq8 (HM6.out.byt 0).1 (by omega)
      have r2 := Rd.blk hg8 HCB.out (by rw [HCL.out]; omega)
      have r3 := Rd.blk hb8 (HM6.out.byt 1).1 (by rw [(HM6.out.byt 1).2]; omega)
      rw [H21.out] at r3
      obtain ⟨w9, hw9⟩ : ∃ x, x = w8.drew := ⟨_, rfl⟩
      have b9 : Below w8.heap.size w8 w9 := by rw [hw9]; exact (Below.refl _ _).drew
      have r1 := r1.below b9
      have r2 := r2.below b9
      have r3 := r3.below b9
      obtain ⟨T1, hT1⟩ : ∃ T, T = strOfNums ((C1 0).take b) := ⟨_, rfl⟩
      obtain ⟨T2, hT2⟩ : ∃ T, T = strOfNums ((C1 0).drop (b + j)) := ⟨_, rfl⟩
      obtain ⟨T3, hT3⟩ : ∃ T, T = strOfNums (List.replicate 4096 0) := ⟨_, rfl⟩
      have t1 : (C2 0).take b = (C1 0).take b := by rw [H20.out, lay_take _ _ _ (by rw [HCL.out]; omega)]
      have t2 : (C2 0).drop (b + j) = (C1 0).drop (b + j) := by rw [H20.out, lay_drop _ _ _ j (byt_len j v) (by rw [HCL.out]; omega)]
      have hcs : b + j = 4096 := hcase
      have k3 : ∀ w', Below w9.heap.size w9 w' → (convert 33 9 (.slice (some ⟨g2, 0, none⟩) 0 0)).run Try.prog w' = .ok (.string T2) w' := fun w' h => by
        rw [hT2, List.drop_of_length_le (by rw [HCL.out, hcs]; exact Nat.le_refl _)]
        exact Rd.conv (l := []) ⟨Byt.nil, by decide, fun h => by simp at h⟩ 0 0 rfl
      have k4 : ∀ w', Below w9.heap.size w9 w' → (convert 33 9 (.slice (some ⟨g, 0, none⟩) 0 0)).run Try.prog w' = .ok (.string T2) w' := fun w' h => by
        rw [hT2, List.drop_of_length_le (by rw [HCL.out, hcs]; exact Nat.le_refl _)]
        exact Rd.conv (l := []) ⟨Byt.nil, by decide, fun h => by simp at h⟩ 0 0 rfl
      have k1 : ∀ w', Below w9.heap.size w9 w' → (convert 33 9 (.slice (some ⟨g2, 0, none⟩) b 4096)).run Try.prog w' = .ok (.string T1) w' := fun w' h => by
        have := ((r1.below h).upto b).conv b 4096 (by rw [List.length_take, hl20]; omega)
        rwa [t1, ← hT1] at this
      have k2 : ∀ w', Below w9.heap.size w9 w' → (convert 33 9 (.slice (some ⟨g, 0, none⟩) b 4096)).run Try.prog w' = .ok (.string T1) w' := fun w' h => by
        have := ((r2.below h).upto b).conv b 4096 (by rw [List.length_take, HCL.out]; omega)
        rwa [← hT1] at this
      have k5 : ∀ w', Below w9.heap.size w9 w' → (convert 33 9 (.slice (some ⟨g3, 0, none⟩) 4096 4096)).run Try.prog w' = .ok (.string T3) w' := fun w' h => by
        have := (r3.below h).conv 4096 4096 List.length_replicate
        rwa [← hT3] at this
      obtain ⟨w10, hrun, hown, hgr⟩ := run_make_full (P := Try.prog) w9 w9.heap.size 33 5 i0 (.int .u8 0) 1 Try.underlying33 hi hz0 hz1 .i64 .i64 4096 (by rw [hz2]; omega) (by unfold maxLen; omega) (Nat.le_refl _)
      have hb10 : Below w9.heap.size w9 w10 := (Below.refl _ _).grown hgr (Nat.le_refl _) (fun j hj => by cases hj)
      have k6 : (convert 33 9 (.slice (some ⟨w9.heap.size, 0, none⟩) 4096 4096)).run Try.prog w10 = .ok (.string T3) w10 := by
        rw [Nat.mul_one, show (Value.int .u8 0).cells = #[.int .u8 0] from rfl, made_zero] at hown
        have hbk := (own_blk hown).1
        rw [show List.replicate 4096 (Value.int .u8 0) = (List.replicate 4096 (0 : Int)).map (Value.int .u8) from by rw [List.map_replicate]] at hbk
        have := (Rd.blk hbk (rep_Byt 4096) (by rw [List.length_replicate]; omega)).conv 4096 4096 List.length_replicate
        rwa [← hT3] at this
      have hb9 : Below w.heap.size w w9 := HC8.out.none.trans (b9.mono HC8.out.size)
      replace hrun : (Instr.makeSlice 33 (.int .i64 4096) (.int .i64 4096)).run Try.prog w9 = .ok (.slice (some ⟨w9.heap.size, 0, none⟩) 4096 4096) w10 := hrun
      have HRUN := Lib.hid hrun; have HB10 := Lib.hid hb10; have K6 := Lib.hid k6; have HB9 := Lib.hid hb9
      obtain ⟨q, hq⟩ : ∃ q : Nat, q = b + j := ⟨_, rfl⟩
      have hqi : (b : Int) + (j : Int) = (q : Int) := by omega
      have hq4 : (q : Int) ≤ 4096 := by omega
      have hb5 : (b : Int) ≤ 4096 := by omega
      skip
      have hwq : IntKind.u64.wrap ((b : Int) + IntKind.u64.wrap (j : Int)) = 4096 := by rw [wrap_u64, wrap_u64]; omega
      clear hqi hq4
      clear hT1 hT2 hT3 t1 t2 hrun hown hgr hb10 k6 hb9 r1 r2 r3 hb8 hc8 hg8 hq8 hg3 HM6 HB6 HC6 HLD H20 H21 HCB HCL HG7 HB7 HC7 HC8 HP0 HP1 kc HF HN hl20 hq b9
      go_wp2_with fail
      refine wp_region_held_drew (S := fun w' => Below w9.heap.size w9 w') (by kernel_rfl) (by rw [hw9]; exact Below.refl _ _) (fun hHeld => ?_)
      rw [← hw9] at hHeld ⊢
      clear hw9
      simp only [List.size_toArray, List.length_cons, List.length_nil, Nat.reduceAdd]
      rw [show Array.replicate 34 false = [false, false, false, false, false, false, false, false, false, false, false, false, false, false, false, false, false, false, false, false, false, false, false, false, false, false, false, false, false, false, false, false, false, false].toArray from rfl]
      refine wpAnyH_take (i := 0) (v := ?_) rfl (by kernel_rfl) (by kernel_rfl) (by kernel_rfl) (fun _ _ _ h => h) (Or.inl ⟨by rfl, ?yldq⟩) (by assumption) ?_
      case yldq => (intro w hSw; (try dsimp only at hSw); go_simp; try with_reducible rfl)
      try simp only [Act.put, List.setIfInBounds_toArray, List.set_cons_zero, List.set_cons_succ, List.getElem_toArray, List.getElem_cons_succ, List.getElem_cons_zero]
      refine wpAnyH_take (i := 1) (v := ?_) rfl (by kernel_rfl) (by kernel_rfl) (by kernel_rfl) (fun _ _ _ h => h) (Or.inl ⟨by rfl, ?yldq⟩) (by assumption) ?_
      case yldq => (intro w hSw; (try dsimp only at hSw); go_simp; try with_reducible rfl)
      try simp only [Act.put, List.setIfInBounds_toArray, List.set_cons_zero, List.set_cons_succ, List.getElem_toArray, List.getElem_cons_succ, List.getElem_cons_zero]
      refine wpAnyH_take (i := 2) (v := ?_) rfl (by kernel_rfl) (by kernel_rfl) (by kernel_rfl) (fun _ _ _ h => h) (Or.inl ⟨by rfl, ?yldq⟩) (by assumption) ?_
      case yldq => (intro w hSw; (try dsimp only at hSw); go_simp; try with_reducible rfl)
      try simp only [Act.put, List.setIfInBounds_toArray, List.set_cons_zero, List.set_cons_succ, List.getElem_toArray, List.getElem_cons_succ, List.getElem_cons_zero]
      refine wpAnyH_take (i := 3) (v := ?_) rfl (by kernel_rfl) (by kernel_rfl) (by kernel_rfl) (fun _ _ _ h => h) (Or.inl ⟨by rfl, ?yldq⟩) (by assumption) ?_
      case yldq => (intro w hSw; (try dsimp only at hSw); go_simp; try with_reducible rfl)
      try simp only [Act.put, List.setIfInBounds_toArray, List.set_cons_zero, List.set_cons_succ, List.getElem_toArray, List.getElem_cons_succ, List.getElem_cons_zero]
      refine wpAnyH_take (i := 4) (v := ?_) rfl (by kernel_rfl) (by kernel_rfl) (by kernel_rfl) (fun _ _ _ h => h) (Or.inl ⟨by rfl, ?yldq⟩) (by assumption) ?_
      case yldq => (intro w hSw; (try dsimp only at hSw); go_simp; try with_reducible rfl)
      try simp only [Act.put, List.setIfInBounds_toArray, List.set_cons_zero, List.set_cons_succ, List.getElem_toArray, List.getElem_cons_succ, List.getElem_cons_zero]
      refine wpAnyH_take (i := 5) (v := ?_) rfl (by kernel_rfl) (by kernel_rfl) (by kernel_rfl) (fun _ _ _ h => h) (Or.inl ⟨by rfl, ?yldq⟩) (by assumption) ?_
      case yldq => (intro w hSw; (try dsimp only at hSw); go_simp; try with_reducible rfl)
      try simp only [Act.put, List.setIfInBounds_toArray, List.set_cons_zero, List.set_cons_succ, List.getElem_toArray, List.getElem_cons_succ, List.getElem_cons_zero]
      refine wpAnyH_take (i := 6) (v := ?_) rfl (by kernel_rfl) (by kernel_rfl) (by kernel_rfl) (fun _ _ _ h => h) (Or.inl ⟨by rfl, ?yldq⟩) (by assumption) ?_
      case yldq => (intro w hSw; (try dsimp only at hSw); go_simp; try with_reducible rfl)
      try simp only [Act.put, List.setIfInBounds_toArray, List.set_cons_zero, List.set_cons_succ, List.getElem_toArray, List.getElem_cons_succ, List.getElem_cons_zero]
      refine wpAnyH_take (i := 7) (v := ?_) rfl (by kernel_rfl) (by kernel_rfl) (by kernel_rfl) (fun _ _ _ h => h) (Or.inl ⟨by rfl, ?yldq⟩) (by assumption) ?_
      case yldq => (intro w hSw; (try dsimp only at hSw); go_simp; try with_reducible rfl)
      try simp only [Act.put, List.setIfInBounds_toArray, List.set_cons_zero, List.set_cons_succ, List.getElem_toArray, List.getElem_cons_succ, List.getElem_cons_zero]
      refine wpAnyH_take (i := 8) (v := ?_) rfl (by kernel_rfl) (by kernel_rfl) (by kernel_rfl) (fun _ _ _ h => h) (Or.inl ⟨by rfl, ?yldq⟩) (by assumption) ?_
      case yldq => (intro w hSw; (try dsimp only at hSw); go_simp; try with_reducible rfl)
      try simp only [Act.put, List.setIfInBounds_toArray, List.set_cons_zero, List.set_cons_succ, List.getElem_toArray, List.getElem_cons_succ, List.getElem_cons_zero]
      refine wpAnyH_take (i := 9) (v := ?_) rfl (by kernel_rfl) (by kernel_rfl) (by kernel_rfl) (fun _ _ _ h => h) (Or.inl ⟨by rfl, ?yldq⟩) (by assumption) ?_
      case yldq => (intro w hSw; (try dsimp only at hSw); go_simp; try with_reducible rfl)
      try simp only [Act.put, List.setIfInBounds_toArray, List.set_cons_zero, List.set_cons_succ, List.getElem_toArray, List.getElem_cons_succ, List.getElem_cons_zero]
      refine wpAnyH_take (i := 10) (v := ?_) rfl (by kernel_rfl) (by kernel_rfl) (by kernel_rfl) (fun _ _ _ h => h) (Or.inl ⟨by rfl, ?yldq⟩) (by assumption) ?_
      case yldq => (intro w hSw; (try dsimp only at hSw); go_simp; try with_reducible rfl)
      try simp only [Act.put, List.setIfInBounds_toArray, List.set_cons_zero, List.set_cons_succ, List.getElem_toArray, List.getElem_cons_succ, List.getElem_cons_zero]
      refine wpAnyH_take (i := 11) (v := ?_) rfl (by kernel_rfl) (by kernel_rfl) (by kernel_rfl) (fun _ _ _ h => h) (Or.inl ⟨by rfl, ?yldq⟩) (by assumption) ?_
      case yldq => (intro w hSw; (try dsimp only at hSw); go_simp; try with_reducible rfl)
      try simp only [Act.put, List.setIfInBounds_toArray, List.set_cons_zero, List.set_cons_succ, List.getElem_toArray, List.getElem_cons_succ, List.getElem_cons_zero]
      refine wpAnyH_take (i := 12) (v := ?_) rfl (by kernel_rfl) (by kernel_rfl) (by kernel_rfl) (fun _ _ _ h => h) (Or.inl ⟨by rfl, ?yldq⟩) (by assumption) ?_
      case yldq => (intro w hSw; (try dsimp only at hSw); go_simp; try with_reducible rfl)
      try simp only [Act.put, List.setIfInBounds_toArray, List.set_cons_zero, List.set_cons_succ, List.getElem_toArray, List.getElem_cons_succ, List.getElem_cons_zero]
      refine wpAnyH_take (i := 13) (v := ?_) rfl (by kernel_rfl) (by kernel_rfl) (by kernel_rfl) (fun _ _ _ h => h) (Or.inl ⟨by rfl, ?yldq⟩) (by assumption) ?_
      case yldq => (intro w hSw; (try dsimp only at hSw); go_simp; try with_reducible rfl)
      try simp only [Act.put, List.setIfInBounds_toArray, List.set_cons_zero, List.set_cons_succ, List.getElem_toArray, List.getElem_cons_succ, List.getElem_cons_zero]
      refine wpAnyH_take (i := 14) (v := ?_) rfl (by kernel_rfl) (by kernel_rfl) (by kernel_rfl) (fun _ _ _ h => h) (Or.inl ⟨by rfl, ?yldq⟩) (by assumption) ?_
      case yldq => (intro w hSw; (try dsimp only at hSw); go_simp; try with_reducible rfl)
      try simp only [Act.put, List.setIfInBounds_toArray, List.set_cons_zero, List.set_cons_succ, List.getElem_toArray, List.getElem_cons_succ, List.getElem_cons_zero]
      refine wpAnyH_take (i := 15) (v := ?_) rfl (by kernel_rfl) (by kernel_rfl) (by kernel_rfl) (fun _ _ _ h => h) (Or.inl ⟨by rfl, ?yldq⟩) (by assumption) ?_
      case yldq => (intro w hSw; (try dsimp only at hSw); go_simp; try with_reducible rfl)
      try simp only [Act.put, List.setIfInBounds_toArray, List.set_cons_zero, List.set_cons_succ, List.getElem_toArray, List.getElem_cons_succ, List.getElem_cons_zero]
      refine wpAnyH_take (i := 16) (v := ?_) rfl (by kernel_rfl) (by kernel_rfl) (by kernel_rfl) (fun _ _ _ h => h) (Or.inl ⟨by rfl, ?yldq⟩) (by assumption) ?_
      case yldq => (intro w hSw; (try dsimp only at hSw); go_simp; try with_reducible rfl)
      try simp only [Act.put, List.setIfInBounds_toArray, List.set_cons_zero, List.set_cons_succ, List.getElem_toArray, List.getElem_cons_succ, List.getElem_cons_zero]
      refine wpAnyH_take (i := 17) (v := ?_) rfl (by kernel_rfl) (by kernel_rfl) (by kernel_rfl) (fun _ _ _ h => h) (Or.inl ⟨by rfl, ?yldq⟩) (by assumption) ?_
      case yldq => (intro w hSw; (try dsimp only at hSw); go_simp; try with_reducible rfl)
      try simp only [Act.put, List.setIfInBounds_toArray, List.set_cons_zero, List.set_cons_succ, List.getElem_toArray, List.getElem_cons_succ, List.getElem_cons_zero]
      refine wpAnyH_take (i := 18) (v := ?_) rfl (by kernel_rfl) (by kernel_rfl) (by kernel_rfl) (fun _ _ _ h => h) (Or.inl ⟨by rfl, ?yldq⟩) (by assumption) ?_
      case yldq => (intro w hSw; (try dsimp only at hSw); go_simp; try with_reducible rfl)
      try simp only [Act.put, List.setIfInBounds_toArray, List.set_cons_zero, List.set_cons_succ, List.getElem_toArray, List.getElem_cons_succ, List.getElem_cons_zero]
      refine wpAnyH_take (i := 19) (v := ?_) rfl (by kernel_rfl) (by kernel_rfl) (by kernel_rfl) (fun _ _ _ h => h) (Or.inl ⟨by rfl, ?yldq⟩) (by assumption) ?_
      case yldq => (intro w hSw; (try dsimp only at hSw); go_simp; try with_reducible rfl)
      try simp only [Act.put, List.setIfInBounds_toArray, List.set_cons_zero, List.set_cons_succ, List.getElem_toArray, List.getElem_cons_succ, List.getElem_cons_zero]
      refine wpAnyH_take (i := 20) (v := ?_) rfl (by kernel_rfl) (by kernel_rfl) (by kernel_rfl) (fun _ _ _ h => h) (Or.inl ⟨by rfl, ?yldq⟩) (by assumption) ?_
      case yldq => (intro w hSw; (try dsimp only at hSw); go_simp; try with_reducible rfl)
      try simp only [Act.put, List.setIfInBounds_toArray, List.set_cons_zero, List.set_cons_succ, List.getElem_toArray, List.getElem_cons_succ, List.getElem_cons_zero]
      refine wpAnyH_take (i := 21) (v := ?_) rfl (by kernel_rfl) (by kernel_rfl) (by kernel_rfl) (fun _ _ _ h => h) (Or.inl ⟨by rfl, ?yldq⟩) (by assumption) ?_
      case yldq => (intro w hSw; (try dsimp only at hSw); go_simp; try with_reducible rfl)
      try simp only [Act.put, List.setIfInBounds_toArray, List.set_cons_zero, List.set_cons_succ, List.getElem_toArray, List.getElem_cons_succ, List.getElem_cons_zero]
      refine wpAnyH_take (i := 22) (v := ?_) rfl (by kernel_rfl) (by kernel_rfl) (by kernel_rfl) (fun _ _ _ h => h) (Or.inl ⟨by rfl, ?yldq⟩) (by assumption) ?_
      case yldq => (intro w hSw; (try dsimp only at hSw); go_simp; try with_reducible rfl)
      try simp only [Act.put, List.setIfInBounds_toArray, List.set_cons_zero, List.set_cons_succ, List.getElem_toArray, List.getElem_cons_succ, List.getElem_cons_zero]
      refine wpAnyH_take (i := 23) (v := ?_) rfl (by kernel_rfl) (by kernel_rfl) (by kernel_rfl) (fun _ _ _ h => h) (Or.inl ⟨by rfl, ?yldq⟩) (by assumption) ?_
      case yldq => (intro w hSw; (try dsimp only at hSw); go_simp; try with_reducible rfl)
      try simp only [Act.put, List.setIfInBounds_toArray, List.set_cons_zero, List.set_cons_succ, List.getElem_toArray, List.getElem_cons_succ, List.getElem_cons_zero]
      refine wpAnyH_take (i := 24) (v := ?_) rfl (by kernel_rfl) (by kernel_rfl) (by kernel_rfl) (fun _ _ _ h => h) (Or.inl ⟨by rfl, ?yldq⟩) (by assumption) ?_
      case yldq => (intro w hSw; (try dsimp only at hSw); go_simp; try with_reducible rfl)
      try simp only [Act.put, List.setIfInBounds_toArray, List.set_cons_zero, List.set_cons_succ, List.getElem_toArray, List.getElem_cons_succ, List.getElem_cons_zero]
      refine wpAnyH_take (i := 25) (v := ?_) rfl (by kernel_rfl) (by kernel_rfl) (by kernel_rfl) (fun _ _ _ h => h) (Or.inl ⟨by rfl, ?yldq⟩) (by assumption) ?_
      case yldq => (intro w hSw; (try dsimp only at hSw); go_simp; try with_reducible rfl)
      try simp only [Act.put, List.setIfInBounds_toArray, List.set_cons_zero, List.set_cons_succ, List.getElem_toArray, List.getElem_cons_succ, List.getElem_cons_zero]
      refine wpAnyH_take (i := 26) (v := ?_) rfl (by kernel_rfl) (by kernel_rfl) (by kernel_rfl) (fun _ _ _ h => h) (Or.inl ⟨by rfl, ?yldq⟩) (by assumption) ?_
      case yldq => (intro w hSw; (try dsimp only at hSw); go_simp; try with_reducible rfl)
      try simp only [Act.put, List.setIfInBounds_toArray, List.set_cons_zero, List.set_cons_succ, List.getElem_toArray, List.getElem_cons_succ, List.getElem_cons_zero]
      refine wpAnyH_take (i := 27) (v := ?_) rfl (by kernel_rfl) (by kernel_rfl) (by kernel_rfl) (fun _ _ _ h => h) (Or.inl ⟨by rfl, ?yldq⟩) (by assumption) ?_
      case yldq => (intro w hSw; (try dsimp only at hSw); go_simp; try with_reducible rfl)
      try simp only [Act.put, List.setIfInBounds_toArray, List.set_cons_zero, List.set_cons_succ, List.getElem_toArray, List.getElem_cons_succ, List.getElem_cons_zero]
      refine wpAnyH_take (i := 28) (v := ?_) rfl (by kernel_rfl) (by kernel_rfl) (by kernel_rfl) (fun _ _ _ h => h) (Or.inl ⟨by rfl, ?yldq⟩) (by assumption) ?_
      case yldq => (intro w hSw; (try dsimp only at hSw); go_simp; try with_reducible rfl)
      try simp only [Act.put, List.setIfInBounds_toArray, List.set_cons_zero, List.set_cons_succ, List.getElem_toArray, List.getElem_cons_succ, List.getElem_cons_zero]
      have hrun := HRUN.out
      refine wpAnyH_ready (rs := [29]) (by kernel_rfl) (by simp) ?_
      refine AllReadyH.cons rfl (fun K hK => ?_) AllReadyH.nil
      go_simp
      refine hK.out _ _ HB10.out (fun _ => ?_)
      clear hK K
      refine wpAnyH_more (S' := fun w' => (convert 33 9 (.slice (some ⟨w9.heap.size, 0, none⟩) 4096 4096)).run Try.prog w' = .ok (.string T3) w' ∧ Below w9.heap.size w9 w') (fun w' h => h.2) _ _ _ _ ?_
      have hS10 := And.intro K6.out HB10.out
      clear hrun hHeld
      refine wpAnyH_take (i := 30) (v := ?_) rfl (by kernel_rfl) (by kernel_rfl) (by kernel_rfl) (fun _ _ _ h => h) (Or.inl ⟨by rfl, ?yldq⟩) (by assumption) ?_
      case yldq => (intro w hSw; (try dsimp only at hSw); go_simp; try with_reducible rfl)
      try simp only [Act.put, List.setIfInBounds_toArray, List.set_cons_zero, List.set_cons_succ, List.getElem_toArray, List.getElem_cons_succ, List.getElem_cons_zero]
      refine wpAnyH_take (i := 31) (v := ?_) rfl (by kernel_rfl) (by kernel_rfl) (by kernel_rfl) (fun _ _ _ h => h) (Or.inl ⟨by rfl, ?yldq⟩) (by assumption) ?_
      case yldq => (intro w hSw; (try dsimp only at hSw); go_simp; try with_reducible rfl)
      try simp only [Act.put, List.setIfInBounds_toArray, List.set_cons_zero, List.set_cons_succ, List.getElem_toArray, List.getElem_cons_succ, List.getElem_cons_zero]
      refine wpAnyH_take (i := 32) (v := ?_) rfl (by kernel_rfl) (by kernel_rfl) (by kernel_rfl) (fun _ _ _ h => h) (Or.inl ⟨by rfl, ?yldq⟩) (by assumption) ?_
      case yldq => (intro w hSw; (try dsimp only at hSw); go_simp; try with_reducible rfl)
      try simp only [Act.put, List.setIfInBounds_toArray, List.set_cons_zero, List.set_cons_succ, List.getElem_toArray, List.getElem_cons_succ, List.getElem_cons_zero]
      refine wpAnyH_take (i := 33) (v := ?_) rfl (by kernel_rfl) (by kernel_rfl) (by kernel_rfl) (fun _ _ _ h => h) (Or.inl ⟨by rfl, ?yldq⟩) (by assumption) ?_
      case yldq => (intro w hSw; (try dsimp only at hSw); go_simp; try with_reducible rfl)
      try simp only [Act.put, List.setIfInBounds_toArray, List.set_cons_zero, List.set_cons_succ, List.getElem_toArray, List.getElem_cons_succ, List.getElem_cons_zero]
      refine wpAnyH_done (by kernel_rfl) ?_ _
      clear hS10
      go_wp2
      go_ret
      exact ⟨by simp, HB9.out.trans (HB10.out.mono HB9.out.size)⟩
theorem words_walk (a s v : Int) (w : World) (ha0 : 0 ≤ a) (ha : a ≤ 18446744073709551615) (hv0 : 0 ≤ v) (hv1 : v ≤ 18446744073709551615) :
    Calls Try.prog 5 #[.int .u64 a, .int .i64 s, .int .u64 v] w fun e w' => e = .returned (.bool true) ∧ Below w.heap.size w w' := by
  obtain ⟨n, rfl⟩ : ∃ n : Nat, a = n := ⟨a.toNat, by omega⟩
  by_cases he : errL 2 (n % 4096) s = 0
  · have hs := (errL_ok he).1
    obtain ⟨k, rfl, hk⟩ := hs.nat
    have hfit := size_fits hs (errL_ok he).2.1
    rcases Nat.lt_or_ge (n % 4096 + k) 4096 with h | h
    · exact words_in n _ k v w (by omega) rfl he hv0 hv1 h
    · exact words_end n _ k v w (by omega) rfl he hv0 hv1 (by omega)
  · exact words_bad n _ s v w (by omega) rfl he
end Go.Proofs.Ytkkhecaajbgggaa
