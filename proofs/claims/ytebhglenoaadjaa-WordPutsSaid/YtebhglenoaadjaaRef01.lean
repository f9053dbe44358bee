/-
  What each function of the document's answer for layer 1 (package runrigref01) answers and leaves in memory: contracts over the translation. Each says its own conditions.
-/
import Derived.Test.YtebhglenoaadjaaWord
import Derived.Deep.Onto
namespace Go.Proofs.Ytebhglenoaadjaa
open Go.RowKit
set_option linter.unusedVariables false

theorem rsize_yes (n : Int) (w : World) (h : SzI n) : Calls Try.prog 11 #[.int .i64 n] w fun e w' => e = .returned (.bool true) ∧ Below w.heap.size w w' := by
  rcases h with rfl | rfl | rfl | rfl
  all_goals
    go_enter Try.func11, Try.ntmps11
    go_wp2
    refine wp_loop_rounds 5 ?_
    repeat (rw [rounds_succ]; go_wp2)
    go_ret
    exact ⟨rfl, (Below.refl _ _).alloc (Nat.le_refl _) _⟩
theorem rsize_no (n : Int) (w : World) (h : ¬ SzI n) : Calls Try.prog 11 #[.int .i64 n] w fun e w' => e = .returned (.bool false) ∧ Below w.heap.size w w' := by
  have h1 : ¬ n = 1 := fun e => h (.inl e)
  have h2 : ¬ n = 2 := fun e => h (.inr (.inl e))
  have h4 : ¬ n = 4 := fun e => h (.inr (.inr (.inl e)))
  have h8 : ¬ n = 8 := fun e => h (.inr (.inr (.inr e)))
  clear h
  go_enter Try.func11, Try.ntmps11
  go_wp2
  refine wp_loop_rounds 5 ?_
  repeat (rw [rounds_succ]; go_wp2)
  go_ret
  exact ⟨rfl, (Below.refl _ _).alloc (Nat.le_refl _) _⟩

theorem cell_lt {w : World} {b o : Nat} {v : Value} (h : w.cell? ⟨b, o, none⟩ = some v) : b < w.heap.size := by
  rcases Nat.lt_or_ge b w.heap.size with hlt | hge
  · exact hlt
  · have : w.cell? ⟨b, o, none⟩ = none := by simp [World.cell?, Array.getElem?_eq_none hge]
    rw [this] at h; cases h
theorem Rd.below {w w' : World} {A : Option Addr} {l : List Int} (h : Rd w A l) (hb : Below w.heap.size w w') : Rd w' A l := by
  refine ⟨h.1, h.2.1, fun hl => ?_⟩
  obtain ⟨b, off, rfl, hc⟩ := h.2.2 hl
  exact ⟨b, off, rfl, fun i hi => (hb.cell (p := ⟨b, off + i, none⟩) (cell_lt (hc i hi))).trans (hc i hi)⟩
theorem rget_no (A : Option Addr) (n cap : Nat) (a s : Int) (w : World) (hn : n ≤ 9223372036854775807) (h : ¬ InB n a s) : Calls Try.prog 9 #[.slice A n cap, .int .i64 a, .int .i64 s] w fun e w' => e = .returned (.tuple #[.int .u64 0, .bool false]) ∧ Below w.heap.size w w' := by
  by_cases hs : SzI s
  · have hs8 : 1 ≤ s ∧ s ≤ 8 := by rcases hs with h | h | h | h <;> omega
    have hs1 := hs8.1
    have hs2 := hs8.2
    clear hs8
    by_cases ha : a < 0
    · clear h
      go_enter Try.func9, Try.ntmps9
      go_wp2_with (go_at_call 11; refine (rsize_yes _ _ hs).mono ?_; rintro e w' ⟨rfl, hb⟩)
      go_ret2
      exact ⟨rfl, hb⟩
    · by_cases hx : (n : Int) < a
      · clear h
        go_enter Try.func9, Try.ntmps9
        go_wp2_with (go_at_call 11; refine (rsize_yes _ _ hs).mono ?_; rintro e w' ⟨rfl, hb⟩)
        go_ret2
        exact ⟨rfl, hb⟩
      · have hy : (n : Int) - a < s := by
          rcases Int.lt_or_le (n - a) s with h' | h'
          · exact h'
          · exact absurd ⟨hs, by omega, by omega⟩ h
        clear h
        go_enter Try.func9, Try.ntmps9
        go_wp2_with (go_at_call 11; refine (rsize_yes _ _ hs).mono ?_; rintro e w' ⟨rfl, hb⟩)
        go_ret2
        exact ⟨rfl, hb⟩
  · clear h
    go_enter Try.func9, Try.ntmps9
    go_wp2_with (go_at_call 11; refine (rsize_no _ _ hs).mono ?_; rintro e w' ⟨rfl, hb⟩)
    go_ret2
    exact ⟨rfl, hb⟩
theorem wrap_add (x y z : Int) (h : IntKind.u64.wrap y = z) : IntKind.u64.wrap (x + y) = IntKind.u64.wrap (x + z) := by
  subst h; rw [wrap_u64, wrap_u64, wrap_u64]; omega
theorem wrap_mul_r (x y : Int) : IntKind.u64.wrap (x * IntKind.u64.wrap y) = IntKind.u64.wrap (x * y) := by
  simp only [wrap_u64, Int.mul_emod, Int.emod_emod]
theorem wrap_mul_l (x y : Int) : IntKind.u64.wrap (IntKind.u64.wrap x * y) = IntKind.u64.wrap (x * y) := by
  simp only [wrap_u64, Int.mul_emod, Int.emod_emod]
theorem wrap_fit (x : Int) (h0 : 0 ≤ x) (h1 : x ≤ 18446744073709551615) : IntKind.u64.wrap x = x := by rw [wrap_u64]; omega
theorem rget_run (b off : Nat) (l : List Int) (cap a s : Nat) (w : World) (hb : Byt l) (hm : l.length ≤ 9223372036854775807) (hc : ∀ i, i < l.length → w.cell? ⟨b, off + i, none⟩ = some (.int .u8 (l.getD i 0))) (hs : s = 1 ∨ s = 2 ∨ s = 4 ∨ s = 8) (hx : a + s ≤ l.length) :
    Calls Try.prog 9 #[.slice (some ⟨b, off, none⟩) l.length cap, .int .i64 a, .int .i64 s] w fun e w' => e = .returned (.tuple #[.int .u64 (le ((l.drop a).take s)), .bool true]) ∧ Below w.heap.size w w' := by
  have hl : ((l.drop a).take s).length = s := by simp; omega
  have hsz : SzI s := by unfold SzI; omega
  have hs8 : s ≤ 8 := by omega
  clear hs
  go_enter Try.func9, Try.ntmps9
  go_wp2_with fail
  refine (rsize_yes _ _ hsz).mono ?_
  rintro e w1 ⟨rfl, hbl⟩
  have hc' : ∀ i, i < l.length → w1.cell? ⟨b, off + i, none⟩ = some (.int .u8 (l.getD i 0)) := fun i hi => (hbl.cell (p := ⟨b, off + i, none⟩) (cell_lt (hc i hi))).trans (hc i hi)
  have HL := Lib.hid hl; have HB := Lib.hid hbl; clear hl hbl hc hsz
  go_wp2
  go_loop [8, 9, 10] (fun v f i => ∃ k : Nat, k ≤ s ∧ i = .int .i64 k ∧ v = .int .u64 (le (((l.drop a).take s).take k)) ∧ f = .int .u64 (IntKind.u64.wrap ((256 ^ k : Nat) : Int))) (fun _ _ i => s - (intOf i).toNat)
  case atStart => exact ⟨0, Nat.zero_le _, rfl, rfl, rfl⟩
  case round =>
    obtain ⟨k, hk, rfl, rfl, rfl⟩ := hrel
    by_cases h0 : k < s
    · have hcell := hc' (a + k) (by omega)
      have hq := hb.getD (a + k)
      obtain ⟨c, hC⟩ : ∃ c, c = l.getD (a + k) 0 := ⟨_, rfl⟩
      rw [← hC] at hcell hq
      obtain ⟨L, hL⟩ : ∃ L, L = le (((l.drop a).take s).take k) := ⟨_, rfl⟩
      obtain ⟨F, hF⟩ : ∃ F, F = IntKind.u64.wrap ((256 ^ k : Nat) : Int) := ⟨_, rfl⟩
      have h1 := le_take ((l.drop a).take s) k (by rw [HL.out]; omega)
      rw [← hL, show ((l.drop a).take s).getD k 0 = c from by rw [hC]; simp [List.getD_eq_getElem?_getD, h0]] at h1
      have hn : Byt (((l.drop a).take s).take (k + 1)) := ((hb.drop a).take s).take _
      have b3 : le (((l.drop a).take s).take (k + 1)) ≤ 18446744073709551615 := le_lt8 _ hn (by rw [List.length_take]; omega)
      have b4 := le_nn _ hn
      rw [← hL, ← hF]
      have e1 : IntKind.u64.wrap (L + IntKind.u64.wrap (c * F)) = le (((l.drop a).take s).take (k + 1)) := by
        rw [wrap_add _ (IntKind.u64.wrap (c * F)) (IntKind.u64.wrap (c * F)) (by rw [wrap_u64, wrap_u64]; omega), hF, wrap_mul_r, ← wrap_add _ _ _ rfl, ← h1]
        exact wrap_fit _ b4 b3
      have e2 : IntKind.u64.wrap (F * 256) = IntKind.u64.wrap ((256 ^ (k + 1) : Nat) : Int) := by
        rw [hF, wrap_mul_l, Nat.pow_succ, Int.natCast_mul]; rfl
      have E1 := Lib.hid e1; have E2 := Lib.hid e2
      clear h1 hn hc' hb hC hL hF b3 b4 e1 e2
      go_wp2
      go_round
      case rel => exact ⟨k + 1, by omega, by go_num, int_eq E1.out, int_eq E2.out⟩
      case measure => simp [intOf]; omega
    · clear hc'
      go_wp2
      obtain rfl : k = s := by omega
      go_ret2
      refine ⟨?_, HB.out⟩
      rw [List.take_of_length_le (by rw [HL.out]; exact Nat.le_refl _)]
      rfl
theorem rget_yes (A : Option Addr) (n : Nat) (l : List Int) (cap a s : Nat) (w : World) (hr : Rd w A l) (hn : l.length = n) (hin : InB n a s) :
    Calls Try.prog 9 #[.slice A n cap, .int .i64 a, .int .i64 s] w fun e w' => e = .returned (.tuple #[.int .u64 (le ((l.drop a).take s)), .bool true]) ∧ Below w.heap.size w w' := by
  subst hn
  obtain ⟨hs, _, hx⟩ := hin
  have hs' : s = 1 ∨ s = 2 ∨ s = 4 ∨ s = 8 := by unfold SzI at hs; omega
  obtain ⟨b, off, rfl, hc⟩ := hr.2.2 (by omega)
  exact rget_run b off l cap a s w hr.1 hr.2.1 hc hs' (by omega)
/-- a slice of bytes of the call's own, nil let in -/
def OwnV (B : Nat) (l : List Int) (v : Value) (w : World) : Prop := w.ownsRow B 5 1 v l.length (l.map (Value.int .u8))
def Owned (B : Nat) (l : List Int) (e : Ending) (w w' : World) : Prop := ∃ v, e = .returned v ∧ OwnV B l v w' ∧ Below B w w'
theorem grown_of_below {w w' : World} (h : Below w.heap.size w w') : w.grownBy w' none := ⟨h.os, h.tape, h.output, h.size, fun k hk _ => h.block k hk⟩
theorem OwnV.below {B : Nat} {l : List Int} {v : Value} {w w' : World} (h : OwnV B l v w) (hb : Below w.heap.size w w') : OwnV B l v w' := World.ownsRow.kept h (grown_of_below hb) (Classical.em _)
theorem rbytes_no (v s : Int) (w : World) (h : ¬ SzI s) : Calls Try.prog 13 #[.int .u64 v, .int .i64 s] w fun e w' => e = .returned (.slice none 0 0) ∧ Below w.heap.size w w' := by
  go_enter Try.func13, Try.ntmps13
  go_wp2
  refine wp_loop_rounds 1 ?_
  rw [rounds_succ]
  go_wp2_with (go_at_call 11; refine (rsize_no _ _ h).mono ?_; rintro e w' ⟨rfl, hb⟩)
  go_ret
  exact ⟨rfl, hb⟩
theorem rbytes_yes (v : Int) (s : Nat) (w : World) (h : SzI s) (h0 : 0 ≤ v) (h1 : v ≤ 18446744073709551615) : Calls Try.prog 13 #[.int .u64 v, .int .i64 s] w fun e w' => Owned w.heap.size (byt v s) e w w' := by
  obtain ⟨i0, hi, hz0, hz1, hz2⟩ := info_parts info_u8
  have hs8 : s ≤ 8 := by unfold SzI at h; omega
  go_enter Try.func13, Try.ntmps13
  go_wp2
  go_loopw [0, 5, 6] (fun x b c wr => ∃ (k : Nat) (y : Value), k ≤ s ∧ c = .int .i64 k ∧ x = .int .u64 (v / (256 ^ k : Nat)) ∧ y = b ∧ OwnV w.heap.size (byt v k) y wr ∧ Below w.heap.size w wr) (fun _ _ c _ => s - (intOf c).toNat)
  case atStart => exact ⟨0, _, Nat.zero_le _, rfl, by simp, rfl, World.ownsRow_nil _ _ _ _, Below.refl _ _⟩
  case round =>
    obtain ⟨k, b, hk, rfl, rfl, rfl, ho, hb⟩ := hrel
    obtain ⟨x, hX⟩ : ∃ x, x = v / (256 ^ k : Nat) := ⟨_, rfl⟩
    have x0 : 0 ≤ x := by rw [hX]; exact Int.ediv_nonneg h0 (Int.natCast_nonneg _)
    have x1 : x ≤ 18446744073709551615 := by rw [hX]; exact Int.le_trans (Int.ediv_le_self _ h0) h1
    rw [← hX]
    have HX := Lib.hid hX
    have HO := Lib.hid ho
    have HB := Lib.hid hb
    clear hX ho hb
    by_cases hlt : k < s
    · go_wp2_with fail
      refine (rsize_yes _ _ h).mono ?_
      rintro e w1 ⟨rfl, hb1⟩
      have HB1 := Lib.hid hb1; clear hb1
      have ho1 : w1.ownsRow w.heap.size 5 1 b k ((byt v k).map (Value.int .u8)) := by have := HO.out.below HB1.out; unfold OwnV at this; rwa [byt_len] at this
      have HO1 := Lib.hid ho1; clear ho1
      go_wp2_with (at_builtin; refine wpList_append_own _ rfl _ _ 22 rfl w.heap.size 5 i0 (.int .u8 0) 1 1 Try.underlying22 hi hz0 hz1 hz2 rfl (by decide) _ k _ rfl (HO1.out.alloc _) ⟨w1.heap.size, 0, none⟩ 1 1 [.int .u8 (x % 256)] rfl rfl ?c1 ?c2 ?c3 ?c4 ?c5 ?_)
      case c1 => exact cell_one_new _ _ _
      case c2 => intro u hu; simp at hu; subst hu; rfl
      case c3 => unfold maxLen; omega
      case c4 => omega
      case c5 => have := HB.out.size; have := HB1.out.size; simp; omega
      intro v' w2 hown' hgrow _
      have HO2 := Lib.hid hown'; have HG := Lib.hid hgrow; clear hown' hgrow
      go_wp2
      go_roundw
      case rel =>
        refine ⟨k + 1, v', by omega, by go_num, int_eq ?_, rfl, ?_, ?_⟩
        · rw [HX.out, Int.ediv_ediv_of_nonneg (Int.natCast_nonneg _), Nat.pow_succ, Int.natCast_mul]; rfl
        · have := HO2.out
          unfold OwnV
          rw [byt_len, byt_snoc, List.map_append, ← HX.out]
          exact this
        · have hs1 := HB1.out.size
          have hs2 := HB.out.size
          exact ((HB.out.trans (HB1.out.mono hs2)).alloc (by omega) _).grown HG.out (by simp; omega) (fun j hj => (HO1.out.lt j hj).1)
      case measure => simp [intOf]; omega
    · go_wp2_with fail
      refine (rsize_yes _ _ h).mono ?_
      rintro e w1 ⟨rfl, hb1⟩
      have HB1 := Lib.hid hb1; clear hb1
      go_wp2
      obtain rfl : k = s := by omega
      go_ret
      exact ⟨_, rfl, HO.out.below HB1.out, HB.out.trans (HB1.out.mono HB.out.size)⟩
theorem OwnV.rd {B : Nat} {l : List Int} {v : Value} {w : World} (h : OwnV B l v w) (hb : Byt l) (hm : l.length ≤ 9223372036854775807) : ∃ A cap, v = .slice A l.length cap ∧ Rd w A l := by
  unfold OwnV at h
  rcases h.2 with ⟨rfl, h0⟩ | ⟨g, cap, cur, rfl, _, hg, hn, _, hcs, ht⟩
  · rw [h0]; exact ⟨none, 0, rfl, hb, hm, fun hl => by omega⟩
  · refine ⟨_, cap, rfl, hb, hm, fun _ => ⟨g, 0, rfl, fun i hi => ?_⟩⟩
    rw [Nat.zero_add, cell_of_row w g i cur _ _ hg]
    have e : (cur.toList.take (l.length * 1))[i]? = some (.int .u8 (l.getD i 0)) := by
      rw [ht, List.getElem?_map, List.getD_eq_getElem?_getD, List.getElem?_eq_getElem hi]; rfl
    rw [List.getElem?_take_of_lt (by omega)] at e
    simpa using e
theorem MadeV.own {B : Nat} {l : List Int} {v : Value} {w : World} (h : MadeV B l v w) : OwnV B l v w := by
  obtain ⟨g, cap, rfl, h⟩ := h; exact h
theorem rcut_no (v s : Int) (w : World) (h : ¬ SzI s) : Calls Try.prog 15 #[.int .u64 v, .int .i64 s] w fun e w' => e = .returned (.int .u64 v) ∧ Below w.heap.size w w' := by
  go_enter Try.func15, Try.ntmps15
  go_wp2_with (go_at_call 11; refine (rsize_no _ _ h).mono ?_; rintro e w' ⟨rfl, hb⟩)
  go_ret
  exact ⟨rfl, hb⟩
theorem rcut_yes (v : Int) (s : Nat) (w : World) (h : SzI s) (h0 : 0 ≤ v) (h1 : v ≤ 18446744073709551615) : Calls Try.prog 15 #[.int .u64 v, .int .i64 s] w fun e w' => e = .returned (.int .u64 (cutN v s)) ∧ Below w.heap.size w w' := by
  have hs8 : s ≤ 8 := by unfold SzI at h; omega
  have hin : InB s 0 s := ⟨h, by omega, by omega⟩
  go_enter Try.func15, Try.ntmps15
  go_wp2_with fail
  refine (rsize_yes _ _ h).mono ?_
  rintro e w1 ⟨rfl, hb1⟩
  have HB1 := Lib.hid hb1; clear hb1
  go_wp2_with fail
  refine (rbytes_yes _ _ _ h h0 h1).mono ?_
  rintro e w2 ⟨y, rfl, ho, hb2⟩
  obtain ⟨A, cap, rfl, hr⟩ := ho.rd (byt_Byt _ _) (by rw [byt_len]; omega)
  have HB2 := Lib.hid hb2; have HR := Lib.hid hr; clear hb2 hr ho
  rw [byt_len]
  go_wp2_with fail
  refine (rget_yes A s _ cap 0 s _ HR.out (byt_len _ _) hin).mono ?_
  rintro e w3 ⟨rfl, hb3⟩
  have HB3 := Lib.hid hb3; clear hb3
  go_wp2
  go_ret
  refine ⟨congrArg Ending.returned (int_eq ?_), ?_⟩
  · rw [List.take_of_length_le (by rw [byt_len]; exact Nat.le_refl _), le_byt]; rfl
  · have a1 := HB1.out.size
    have a2 := HB2.out.size
    exact (HB1.out.trans (HB2.out.mono a1)).trans (HB3.out.mono (by omega))
theorem rsign_id (v s : Int) (w : World) (h : ¬ SzI s ∨ s = 8) : Calls Try.prog 17 #[.int .u64 v, .int .i64 s] w fun e w' => e = .returned (.int .u64 v) ∧ Below w.heap.size w w' := by
  by_cases hs : SzI s
  · obtain rfl : s = 8 := by rcases h with h | h; exact absurd hs h; exact h
    clear h
    go_enter Try.func17, Try.ntmps17
    go_wp2_with (go_at_call 11; refine (rsize_yes _ _ hs).mono ?_; rintro e w' ⟨rfl, hb⟩)
    go_ret
    exact ⟨rfl, hb⟩
  · clear h
    go_enter Try.func17, Try.ntmps17
    go_wp2_with (go_at_call 11; refine (rsize_no _ _ hs).mono ?_; rintro e w' ⟨rfl, hb⟩)
    go_ret
    exact ⟨rfl, hb⟩
theorem rsign_hi (v : Int) (s : Nat) (w : World) (ht : 127 < (byt v s).getD (s - 1) 0) (h : SzI s) (h8 : s < 8) (h0 : 0 ≤ v) (h1 : v ≤ 18446744073709551615) : Calls Try.prog 17 #[.int .u64 v, .int .i64 s] w fun e w' => e = .returned (.int .u64 (sgnN v s)) ∧ Below w.heap.size w w' := by
  obtain ⟨i0, hi, hz0, hz1, hz2⟩ := info_parts info_u8
  have hs1 : 1 ≤ s := by unfold SzI at h; omega
  have HTT := Lib.hid ht; clear ht
  go_enter Try.func17, Try.ntmps17
  go_wp2_with fail
  refine (rsize_yes _ _ h).mono ?_
  rintro e w1 ⟨rfl, hb1⟩
  have HB1 := Lib.hid hb1; clear hb1
  go_wp2_with fail
  refine (rbytes_yes _ _ _ h h0 h1).mono ?_
  rintro e w2 ⟨y, rfl, ho, hb2⟩
  obtain ⟨A, cap, rfl, hr⟩ := ho.rd (byt_Byt _ _) (by rw [byt_len]; omega)
  obtain ⟨bk, off, rfl, hc⟩ := hr.2.2 (by rw [byt_len]; omega)
  have hcell := hc (s - 1) (by rw [byt_len]; omega)
  have HB12 : Hid (Below w.heap.size w w2) := HB1.out.trans (hb2.mono HB1.out.size)
  have HO : Hid (OwnV w.heap.size (byt v s ++ List.replicate 0 255) (.slice (some ⟨bk, off, none⟩) s cap) w2) := by
    rw [byt_len] at ho
    rw [List.replicate_zero, List.append_nil]; exact World.ownsRow.mono ho HB1.out.size
  clear hb2 hr ho hc
  rw [byt_len]
  obtain ⟨t, hT⟩ : ∃ t, t = (byt v s).getD (s - 1) 0 := ⟨_, rfl⟩
  have ht := HTT.out
  rw [← hT] at hcell ht
  clear hT
  go_wp2
  clear hcell
  go_loopw [5] (fun b wr => ∃ (k : Nat) (A : Option Addr) (cap : Nat), k ≤ 8 - s ∧ b = .slice A (s + k) cap ∧ OwnV w.heap.size (byt v s ++ List.replicate k 255) (.slice A (s + k) cap) wr ∧ Below w.heap.size w wr) (fun b _ => match b with | .slice _ n _ => 8 - n | _ => 0)
  case atStart => exact ⟨0, _, cap, Nat.zero_le _, rfl, HO.out, HB12.out⟩
  case round =>
    obtain ⟨k, A, cap, hk, rfl, ho, hb⟩ := hrel
    have HO := Lib.hid ho; have HB := Lib.hid hb; clear ho hb
    by_cases hlt : s + k < 8
    · have ho1 : wr.ownsRow w.heap.size 5 1 (.slice A (s + k) cap) (s + k) ((byt v s ++ List.replicate k (255 : Int)).map (Value.int .u8)) := by have := HO.out; unfold OwnV at this; simpa only [List.length_append, byt_len, List.length_replicate] using this
      have HO1 := Lib.hid ho1; clear ho1
      go_wp2_with (at_builtin; refine wpList_append_own _ rfl _ _ 22 rfl w.heap.size 5 i0 (.int .u8 0) 1 1 Try.underlying22 hi hz0 hz1 hz2 rfl (by decide) _ (s + k) _ rfl (HO1.out.alloc _) ⟨wr.heap.size, 0, none⟩ 1 1 [.int .u8 255] rfl rfl ?c1 ?c2 ?c3 ?c4 ?c5 ?_)
      case c1 => exact cell_one_new _ _ _
      case c2 => intro u hu; simp at hu; subst hu; rfl
      case c3 => unfold maxLen; omega
      case c4 => omega
      case c5 => have := HB.out.size; simp; omega
      intro v' w3 hown' hgrow _
      have ho3 : OwnV w.heap.size (byt v s ++ List.replicate (k + 1) 255) v' w3 := by
        unfold OwnV
        rw [List.replicate_succ', ← List.append_assoc, List.map_append, List.length_append, List.length_append, byt_len, List.length_replicate, List.map_append, List.map_replicate, List.append_assoc]
        exact hown'
      obtain ⟨A', cap', rfl, _⟩ := ho3.rd ((byt_Byt _ _).app (fun n hn => by rw [List.eq_of_mem_replicate hn]; omega)) (by simp [byt_len]; omega)
      have HO3 := Lib.hid ho3; have HG := Lib.hid hgrow; clear hown' hgrow ho3
      rw [show (byt v s ++ List.replicate (k + 1) (255 : Int)).length = s + (k + 1) from by rw [List.length_append, byt_len, List.length_replicate]] at HO3 ⊢
      go_wp2
      go_roundw
      case rel =>
        refine ⟨k + 1, A', cap', by omega, rfl, HO3.out, ?_⟩
        have := HB.out.size
        exact (HB.out.alloc (by omega) _).grown HG.out (by simp; omega) (fun j hj => (HO1.out.lt j hj).1)
      case measure => simp; omega
    · obtain rfl : k = 8 - s := by omega
      have ho1 := HO.out
      obtain ⟨A2, cap2, e2, hr⟩ := ho1.rd ((byt_Byt _ _).app (fun n hn => by rw [List.eq_of_mem_replicate hn]; omega)) (by simp [byt_len]; omega)
      have HR : Hid (Rd wr A (byt v s ++ List.replicate (8 - s) 255)) := by injection e2 with e2 _ _; rw [e2]; exact hr
      clear e2 hr ho1
      go_wp2_with fail
      refine (rget_yes A _ _ cap 0 8 _ HR.out (by rw [List.length_append, byt_len, List.length_replicate]) ⟨by unfold SzI; omega, by omega, by omega⟩).mono ?_
      rintro e w3 ⟨rfl, hb3⟩
      have HB3 := Lib.hid hb3; clear hb3
      go_wp2
      go_ret
      refine ⟨congrArg Ending.returned (int_eq ?_), HB.out.trans (HB3.out.mono HB.out.size)⟩
      rw [List.take_of_length_le (by rw [List.length_append, byt_len, List.length_replicate]; omega)]
      unfold sgnN
      first | rw [if_pos HTT.out] | rw [if_neg (by have := HTT.out; omega)]
theorem rsign_lo (v : Int) (s : Nat) (w : World) (ht : ¬ 127 < (byt v s).getD (s - 1) 0) (h : SzI s) (h8 : s < 8) (h0 : 0 ≤ v) (h1 : v ≤ 18446744073709551615) : Calls Try.prog 17 #[.int .u64 v, .int .i64 s] w fun e w' => e = .returned (.int .u64 (sgnN v s)) ∧ Below w.heap.size w w' := by
  obtain ⟨i0, hi, hz0, hz1, hz2⟩ := info_parts info_u8
  have hs1 : 1 ≤ s := by unfold SzI at h; omega
  have HTT := Lib.hid ht; clear ht
  go_enter Try.func17, Try.ntmps17
  go_wp2_with fail
  refine (rsize_yes _ _ h).mono ?_
  rintro e w1 ⟨rfl, hb1⟩
  have HB1 := Lib.hid hb1; clear hb1
  go_wp2_with fail
  refine (rbytes_yes _ _ _ h h0 h1).mono ?_
  rintro e w2 ⟨y, rfl, ho, hb2⟩
  obtain ⟨A, cap, rfl, hr⟩ := ho.rd (byt_Byt _ _) (by rw [byt_len]; omega)
  obtain ⟨bk, off, rfl, hc⟩ := hr.2.2 (by rw [byt_len]; omega)
  have hcell := hc (s - 1) (by rw [byt_len]; omega)
  have HB12 : Hid (Below w.heap.size w w2) := HB1.out.trans (hb2.mono HB1.out.size)
  have HO : Hid (OwnV w.heap.size (byt v s ++ List.replicate 0 0) (.slice (some ⟨bk, off, none⟩) s cap) w2) := by
    rw [byt_len] at ho
    rw [List.replicate_zero, List.append_nil]; exact World.ownsRow.mono ho HB1.out.size
  clear hb2 hr ho hc
  rw [byt_len]
  obtain ⟨t, hT⟩ : ∃ t, t = (byt v s).getD (s - 1) 0 := ⟨_, rfl⟩
  have ht := HTT.out
  rw [← hT] at hcell ht
  clear hT
  go_wp2
  clear hcell
  go_loopw [5] (fun b wr => ∃ (k : Nat) (A : Option Addr) (cap : Nat), k ≤ 8 - s ∧ b = .slice A (s + k) cap ∧ OwnV w.heap.size (byt v s ++ List.replicate k 0) (.slice A (s + k) cap) wr ∧ Below w.heap.size w wr) (fun b _ => match b with | .slice _ n _ => 8 - n | _ => 0)
  case atStart => exact ⟨0, _, cap, Nat.zero_le _, rfl, HO.out, HB12.out⟩
  case round =>
    obtain ⟨k, A, cap, hk, rfl, ho, hb⟩ := hrel
    have HO := Lib.hid ho; have HB := Lib.hid hb; clear ho hb
    by_cases hlt : s + k < 8
    · have ho1 : wr.ownsRow w.heap.size 5 1 (.slice A (s + k) cap) (s + k) ((byt v s ++ List.replicate k (0 : Int)).map (Value.int .u8)) := by have := HO.out; unfold OwnV at this; simpa only [List.length_append, byt_len, List.length_replicate] using this
      have HO1 := Lib.hid ho1; clear ho1
      go_wp2_with (at_builtin; refine wpList_append_own _ rfl _ _ 22 rfl w.heap.size 5 i0 (.int .u8 0) 1 1 Try.underlying22 hi hz0 hz1 hz2 rfl (by decide) _ (s + k) _ rfl (HO1.out.alloc _) ⟨wr.heap.size, 0, none⟩ 1 1 [.int .u8 0] rfl rfl ?c1 ?c2 ?c3 ?c4 ?c5 ?_)
      case c1 => exact cell_one_new _ _ _
      case c2 => intro u hu; simp at hu; subst hu; rfl
      case c3 => unfold maxLen; omega
      case c4 => omega
      case c5 => have := HB.out.size; simp; omega
      intro v' w3 hown' hgrow _
      have ho3 : OwnV w.heap.size (byt v s ++ List.replicate (k + 1) 0) v' w3 := by
        unfold OwnV
        rw [List.replicate_succ', ← List.append_assoc, List.map_append, List.length_append, List.length_append, byt_len, List.length_replicate, List.map_append, List.map_replicate, List.append_assoc]
        exact hown'
      obtain ⟨A', cap', rfl, _⟩ := ho3.rd ((byt_Byt _ _).app (fun n hn => by rw [List.eq_of_mem_replicate hn]; omega)) (by simp [byt_len]; omega)
      have HO3 := Lib.hid ho3; have HG := Lib.hid hgrow; clear hown' hgrow ho3
      rw [show (byt v s ++ List.replicate (k + 1) (0 : Int)).length = s + (k + 1) from by rw [List.length_append, byt_len, List.length_replicate]] at HO3 ⊢
      go_wp2
      go_roundw
      case rel =>
        refine ⟨k + 1, A', cap', by omega, rfl, HO3.out, ?_⟩
        have := HB.out.size
        exact (HB.out.alloc (by omega) _).grown HG.out (by simp; omega) (fun j hj => (HO1.out.lt j hj).1)
      case measure => simp; omega
    · obtain rfl : k = 8 - s := by omega
      have ho1 := HO.out
      obtain ⟨A2, cap2, e2, hr⟩ := ho1.rd ((byt_Byt _ _).app (fun n hn => by rw [List.eq_of_mem_replicate hn]; omega)) (by simp [byt_len]; omega)
      have HR : Hid (Rd wr A (byt v s ++ List.replicate (8 - s) 0)) := by injection e2 with e2 _ _; rw [e2]; exact hr
      clear e2 hr ho1
      go_wp2_with fail
      refine (rget_yes A _ _ cap 0 8 _ HR.out (by rw [List.length_append, byt_len, List.length_replicate]) ⟨by unfold SzI; omega, by omega, by omega⟩).mono ?_
      rintro e w3 ⟨rfl, hb3⟩
      have HB3 := Lib.hid hb3; clear hb3
      go_wp2
      go_ret
      refine ⟨congrArg Ending.returned (int_eq ?_), HB.out.trans (HB3.out.mono HB.out.size)⟩
      rw [List.take_of_length_le (by rw [List.length_append, byt_len, List.length_replicate]; omega)]
      unfold sgnN
      first | rw [if_pos HTT.out] | rw [if_neg (by have := HTT.out; omega)]
end Go.Proofs.Ytebhglenoaadjaa
