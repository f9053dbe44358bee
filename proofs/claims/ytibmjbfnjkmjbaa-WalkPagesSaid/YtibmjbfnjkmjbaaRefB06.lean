/-
  What Check, Load and Store of package runrigref06 answer and leave in memory: contracts over the translation. Each says its own conditions.
-/
import Derived.Test.YtibmjbfnjkmjbaaRefA06
namespace Go.Proofs.Ytibmjbfnjkmjbaa
open Go.RowKit
set_option linter.unusedVariables false
set_option linter.unusedSimpArgs false

theorem mcheck_any (rm fr a : Nat) (s : Int) (w : World) (h : w.cell? ⟨rm, 0, none⟩ = some (.int .i64 fr)) (ha : a ≤ 18446744073709551615) (hfr : fr ≤ 1048576) :
    Calls Try.prog 38 #[.pointer (some ⟨rm, 0, none⟩), .int .u64 a, .int .i64 s] w fun e w' => e = .returned (.int .i64 (errL fr a s)) ∧ Chg no w w' := by
  have hrm := cell_lt h
  unfold errL
  by_cases hs : SzI s
  · have hz := rsize_yes s w hs
    rw [if_pos hs]
    obtain ⟨k, rfl, hk⟩ := hs.nat
    rw [Int.toNat_natCast]
    have HZ := Lib.hid hz; clear hz hs
    have k1 : 1 ≤ k := by omega
    have k2 : k ≤ 8 := by omega
    have kd : ((k : Int) == 0) = false := by simp; omega
    by_cases hm : a % k = 0
    · rw [if_pos hm]
      have e1 : (((a : Int) % (k : Int)) == 0) = true := by
        have : ((a % k : Nat) : Int) = 0 := by rw [hm]; rfl
        simpa using this
      by_cases hb : a / 4096 < fr
      · rw [if_pos hb]
        have hb' : (a : Int) < 4096 * (fr : Int) := by omega
        clear hm hb hk
        go_enter Try.func38, Try.ntmps38
        go_wp2_with fail
        refine HZ.out.mono ?_
        rintro e w1 ⟨rfl, hb1⟩
        have h1 : w1.cell? ⟨rm, 0, none⟩ = some (.int .i64 fr) := (hb1.cell (p := ⟨rm, 0, none⟩) hrm).trans h
        have HB := Lib.hid hb1; clear hb1 h
        go_wp2
        go_ret
        exact ⟨rfl, Chg.of_below HB.out⟩
      · rw [if_neg hb]
        have hb' : 4096 * (fr : Int) ≤ (a : Int) := by omega
        clear hm hb hk
        go_enter Try.func38, Try.ntmps38
        go_wp2_with fail
        refine HZ.out.mono ?_
        rintro e w1 ⟨rfl, hb1⟩
        have h1 : w1.cell? ⟨rm, 0, none⟩ = some (.int .i64 fr) := (hb1.cell (p := ⟨rm, 0, none⟩) hrm).trans h
        have HB := Lib.hid hb1; clear hb1 h
        go_wp2
        go_ret
        exact ⟨rfl, Chg.of_below HB.out⟩
    · rw [if_neg hm]
      have e1 : (((a : Int) % (k : Int)) == 0) = false := by
        have : ((a % k : Nat) : Int) ≠ 0 := by omega
        simpa using this
      clear hm hk
      go_enter Try.func38, Try.ntmps38
      go_wp2_with fail
      refine HZ.out.mono ?_
      rintro e w1 ⟨rfl, hb1⟩
      have HB := Lib.hid hb1; clear hb1 h
      go_wp2
      go_ret
      exact ⟨rfl, Chg.of_below HB.out⟩
  · have hz := rsize_no s w hs
    rw [if_neg hs]
    have HZ := Lib.hid hz; clear hz hs
    go_enter Try.func38, Try.ntmps38
    go_wp2_with fail
    refine HZ.out.mono ?_
    rintro e w1 ⟨rfl, hb1⟩
    have HB := Lib.hid hb1; clear hb1 h
    go_wp2
    go_ret
    exact ⟨rfl, Chg.of_below HB.out⟩
theorem rload_bad (rm fr a : Nat) (s : Int) (w : World) (h : w.cell? ⟨rm, 0, none⟩ = some (.int .i64 fr)) (ha : a ≤ 18446744073709551615) (hfr : fr ≤ 1048576) (he : errL fr a s ≠ 0) :
    Calls Try.prog 23 #[.pointer (some ⟨rm, 0, none⟩), .int .u64 a, .int .i64 s] w fun e w' => e = .returned (.tuple #[.int .u64 0, .int .i64 (errL fr a s)]) ∧ Chg no w w' := by
  have hf := mcheck_any rm fr a s w h ha hfr
  have hne : ((errL fr a s : Nat) : Int) ≠ 0 := by omega
  obtain ⟨E, hE⟩ : ∃ E : Int, E = ((errL fr a s : Nat) : Int) := ⟨_, rfl⟩
  rw [← hE] at hf hne ⊢
  have hne' : (E == 0) = false := by simpa using hne
  have HF := Lib.hid hf
  clear hf hE he
  go_enter Try.func23, Try.ntmps23
  go_wp2_with fail
  refine HF.out.mono ?_
  rintro e w1 ⟨rfl, hc⟩
  have HC := Lib.hid hc; clear hc
  go_wp2
  go_ret2
  exact ⟨rfl, HC.out⟩
theorem bytesB_Byt {L : List (Nat × Int)} (h : ∀ p ∈ L, 0 ≤ p.2 ∧ p.2 ≤ 255) (a s : Nat) : Byt (bytesB L a s) := by
  intro x hx
  unfold bytesB at hx
  obtain ⟨i, _, rfl⟩ := List.mem_map.1 hx
  exact getB_byte h
theorem bytesB_len (L : List (Nat × Int)) (a s : Nat) : (bytesB L a s).length = s := by simp [bytesB]
theorem rload_ok (rm fr a : Nat) (s : Int) (v : Value) (L : List (Nat × Int)) (w : World) (h : RefM w rm fr v L) (hL : ∀ p ∈ L, 0 ≤ p.2 ∧ p.2 ≤ 255) (ha : a ≤ 18446744073709551615) (hfr : fr ≤ 1048576) (he : errL fr a s = 0) :
    Calls Try.prog 23 #[.pointer (some ⟨rm, 0, none⟩), .int .u64 a, .int .i64 s] w fun e w' => e = .returned (.tuple #[.int .u64 (le (bytesB L a s.toNat)), .int .i64 0]) ∧ Chg no w w' := by
  have hf := mcheck_any rm fr a s w (h.blk.cell 0) ha hfr
  obtain ⟨hs, hm, hlt⟩ := errL_ok he
  rw [he] at hf
  obtain ⟨s, rfl, hk⟩ := hs.nat
  rw [Int.toNat_natCast] at hm ⊢
  have hs8 : 1 ≤ s ∧ s ≤ 8 := by omega
  have hfit : a + s ≤ 4294967296 := by
    have := size_fits hs hm
    omega
  have HF := Lib.hid hf
  have H := Lib.hid h; have HL := Lib.hid hL
  clear hf he hs hm hlt hk h hL
  go_enter Try.func23, Try.ntmps23
  go_wp2_with fail
  refine HF.out.mono ?_
  rintro e w1 ⟨rfl, hc⟩
  have HC := Lib.hid hc; clear hc
  go_wp2
  go_loopw [9, 10] (fun v i wr => ∃ k : Nat, k ≤ s ∧ i = .int .i64 ((k : Int) - 1) ∧ v = .int .u64 (le ((bytesB L a s).drop k)) ∧ Chg no w wr) (fun _ i _ => ((intOf i) + 1).toNat)
  case atStart => exact ⟨s, Nat.le_refl _, rfl, by rw [List.drop_eq_nil_of_le (by rw [bytesB_len]; exact Nat.le_refl _)]; rfl, HC.out⟩
  case round =>
    obtain ⟨k, hk, rfl, rfl, hcw⟩ := hrel
    by_cases h0 : 1 ≤ k
    · have hbl := bytesB_len L a s
      have hn : Byt ((bytesB L a s).drop k) := (bytesB_Byt HL.out a s).drop k
      have b1 := le_nn _ hn
      have b2 := le_lt7 _ hn (by rw [List.length_drop, hbl]; omega)
      have h1 := le_drop (bytesB L a s) (k - 1) (by rw [hbl]; omega)
      have hg : (bytesB L a s).getD (k - 1) 0 = getB L (a + (k - 1)) := by
        unfold bytesB
        rw [List.getD_eq_getElem?_getD, List.getElem?_map, List.getElem?_range (by omega)]; rfl
      rw [show k - 1 + 1 = k from by omega, hg] at h1
      obtain ⟨M, hM⟩ : ∃ M, M = le ((bytesB L a s).drop k) := ⟨_, rfl⟩
      obtain ⟨M2, hM2⟩ : ∃ M2, M2 = le ((bytesB L a s).drop (k - 1)) := ⟨_, rfl⟩
      rw [← hM] at b1 b2 h1 ⊢
      rw [← hM2] at h1
      have hq := getB_byte (a := a + (k - 1)) HL.out
      have hget := fun w' (h : RefM w' rm fr v L) => mget_any rm fr (a + (k - 1)) v L w' h
      obtain ⟨c, hC⟩ : ∃ c, c = getB L (a + (k - 1)) := ⟨_, rfl⟩
      rw [← hC] at h1 hq hget
      have HG := Lib.hid hget; have H1 := Lib.hid h1; have HCW := Lib.hid hcw; have HM2 := Lib.hid hM2
      obtain ⟨q, hqe⟩ : ∃ q : Nat, q = a + (k - 1) := ⟨_, rfl⟩
      rw [← hqe] at HG
      have hqi : (a : Int) + ((k : Int) - 1) = (q : Int) := by omega
      clear hn hget h1 hcw hC hM hg hbl hM2 hqe
      go_wp2_with fail
      refine (HG.out wr (H.out.chg HCW.out (fun h => h) (fun _ _ h => h))).mono ?_
      rintro e w2 ⟨rfl, hc2⟩
      have HC2 := Lib.hid hc2; clear hc2
      go_wp2
      go_roundw
      case rel => exact ⟨k - 1, by omega, int_eq (by omega), int_eq (by rw [← HM2.out, H1.out]; omega), HCW.out.trans HC2.out⟩
      case measure => simp [intOf]; omega
    · go_wp2
      obtain rfl : k = 0 := by omega
      go_ret2
      exact ⟨rfl, hcw⟩
theorem rstore_bad (rm fr a : Nat) (s v : Int) (w : World) (h : w.cell? ⟨rm, 0, none⟩ = some (.int .i64 fr)) (ha : a ≤ 18446744073709551615) (hfr : fr ≤ 1048576) (he : errL fr a s ≠ 0) :
    Calls Try.prog 16 #[.pointer (some ⟨rm, 0, none⟩), .int .u64 a, .int .i64 s, .int .u64 v] w fun e w' => e = .returned (.int .i64 (errL fr a s)) ∧ Chg no w w' := by
  have hf := mcheck_any rm fr a s w h ha hfr
  have hne : ((errL fr a s : Nat) : Int) ≠ 0 := by omega
  obtain ⟨E, hE⟩ : ∃ E : Int, E = ((errL fr a s : Nat) : Int) := ⟨_, rfl⟩
  rw [← hE] at hf hne ⊢
  have hne' : (E == 0) = false := by simpa using hne
  have HF := Lib.hid hf
  clear hf hE he
  go_enter Try.func16, Try.ntmps16
  go_wp2_with fail
  refine HF.out.mono ?_
  rintro e w1 ⟨rfl, hc⟩
  have HC := Lib.hid hc; clear hc
  go_wp2
  go_ret
  exact ⟨rfl, HC.out⟩
/-- where a list lies is new, or as it was -/
def NewV (w : World) (v v' : Value) : Prop := ∀ k, v'.ownBlock = some k → v.ownBlock = some k ∨ w.heap.size ≤ k
theorem rstore_ok (rm fr a : Nat) (s x : Int) (v : Value) (L : List (Nat × Int)) (w : World) (h : RefM w rm fr v L) (hL : L.length ≤ 900000) (ha : a ≤ 18446744073709551615) (hfr : fr ≤ 1048576) (he : errL fr a s = 0) (h0 : 0 ≤ x) (h1 : x ≤ 18446744073709551615) :
    Calls Try.prog 16 #[.pointer (some ⟨rm, 0, none⟩), .int .u64 a, .int .i64 s, .int .u64 x] w fun e w' => e = .returned (.int .i64 0) ∧ ∃ v', RefM w' rm fr v' (putsB L a (byt x s.toNat)) ∧ NewV w v v' ∧ Chg (fun k => k = rm) w w' := by
  have hf := mcheck_any rm fr a s w (h.blk.cell 0) ha hfr
  obtain ⟨hs, hm, hlt⟩ := errL_ok he
  rw [he] at hf
  obtain ⟨s, rfl, hk⟩ := hs.nat
  rw [Int.toNat_natCast] at hm ⊢
  have hs8 : 1 ≤ s ∧ s ≤ 8 := by omega
  have hfit : a + s ≤ 4294967296 := by
    have := size_fits hs hm
    omega
  have hby := fun w => rbytes_yes x s w hs h0 h1
  have hrm := h.blk.lt
  have HF := Lib.hid hf
  have H := Lib.hid h; have HBY := Lib.hid hby
  clear hf he hs hm hlt hk h hby
  go_enter Try.func16, Try.ntmps16
  go_wp2_with fail
  refine HF.out.mono ?_
  rintro e w1 ⟨rfl, hc⟩
  have hs1 := hc.size
  have HC := Lib.hid hc; clear hc
  go_wp2_with fail
  refine (HBY.out w1).mono ?_
  rintro e w2 ⟨bv, rfl, hown, hb2⟩
  have hs2 := hb2.size
  have hfrom := hown.lt
  obtain ⟨A, cap, rfl, hrd⟩ := hown.rd (byt_Byt s x) (by rw [byt_len]; omega)
  rw [byt_len] at *
  have hA : ∀ b off, A = some ⟨b, off, none⟩ → w.heap.size ≤ b := fun b off e => by
    have := (hfrom b (by rw [e]; rfl)).1
    omega
  have hc2 : Chg no w w2 := HC.out.trans (Chg.of_below hb2)
  have HRD := Lib.hid hrd; have HC2 := Lib.hid hc2; have HA := Lib.hid hA
  clear hown hb2 hfrom hrd hc2 hA
  go_wp2
  go_loopw [22] (fun i wr => ∃ (k : Nat) (vv : Value), k ≤ s ∧ i = .int .i64 k ∧ RefM wr rm fr vv (putsB L a ((byt x s).take k)) ∧ NewV w v vv ∧ Chg (fun k => k = rm) w2 wr) (fun i _ => s - (intOf i).toNat)
  case atStart => exact ⟨0, v, Nat.zero_le _, rfl, H.out.chg HC2.out (fun h => h) (fun _ _ h => h), fun k hk => .inl hk, Chg.refl _ _⟩
  case round =>
    obtain ⟨k, vv, hk, rfl, hr, hnv, hcw⟩ := hrel
    by_cases hlt : k < s
    · obtain ⟨b, off, rfl, hcl⟩ := HRD.out.2.2 (by rw [byt_len]; omega)
      have hAb := HA.out b off rfl
      have hc1 := hcl k (by rw [byt_len]; exact hlt)
      have hw2 := cell_lt hc1
      have hcr : wr.cell? ⟨b, off + k, none⟩ = some (.int .u8 ((byt x s).getD k 0)) :=
        (World.cell?_of_block (w := w2) (a := ⟨b, off + k, none⟩) (hcw.block b hw2 (by omega))).trans hc1
      have hpl := putsB_len ((byt x s).take k) L a
      rw [List.length_take, byt_len] at hpl
      have hput := mput_any rm fr (a + k) ((byt x s).getD k 0) vv _ wr hr (by omega)
      have esn : putB (putsB L a ((byt x s).take k)) (a + k) ((byt x s).getD k 0) = putsB L a ((byt x s).take (k + 1)) := by
        have hkb : k < (byt x s).length := by rw [byt_len]; exact hlt
        have hg : (byt x s).getD k 0 = (byt x s)[k] := by simp [List.getD_eq_getElem?_getD, hkb]
        rw [List.take_succ_eq_append_getElem hkb, putsB_snoc, show ((byt x s).take k).length = k from by rw [List.length_take, byt_len]; omega, hg]
      rw [esn] at hput
      have hq := (byt_Byt s x).getD k
      obtain ⟨c, hC⟩ : ∃ c, c = (byt x s).getD k 0 := ⟨_, rfl⟩
      rw [← hC] at hcr hput hq
      have hs3 : w.heap.size ≤ wr.heap.size := Nat.le_trans HC2.out.size hcw.size
      obtain ⟨q, hqe⟩ : ∃ q : Nat, q = a + k := ⟨_, rfl⟩
      rw [← hqe] at hput
      have hqi : (a : Int) + (k : Int) = (q : Int) := by omega
      have HP := Lib.hid hput; have HNV := Lib.hid hnv; have HCW := Lib.hid hcw
      clear hcl hc1 hpl hput esn hC hr hnv hcw hqe
      go_wp2_with fail
      refine HP.out.mono ?_
      rintro e w3 ⟨rfl, v3, hr3, hn3, hc3⟩
      have HR3 := Lib.hid hr3; have HN3 := Lib.hid hn3; have HC3 := Lib.hid hc3
      clear hr3 hn3 hc3
      go_wp2
      go_roundw
      case rel => exact ⟨k + 1, v3, hlt, by go_num, HR3.out, fun j hj => .inr (Nat.le_trans hs3 (HN3.out j hj)), HCW.out.trans HC3.out⟩
      case measure => simp [intOf]; omega
    · obtain rfl : k = s := by omega
      have e1 : (byt x k).take k = byt x k := List.take_of_length_le (by rw [byt_len]; exact Nat.le_refl _)
      rw [e1] at hr
      have HR := Lib.hid hr; have HNV := Lib.hid hnv; have HCW := Lib.hid hcw; clear hr hnv hcw e1
      go_wp2
      go_ret
      exact ⟨rfl, vv, HR.out, HNV.out, HC2.out.of_no.trans HCW.out⟩
end Go.Proofs.Ytibmjbfnjkmjbaa
