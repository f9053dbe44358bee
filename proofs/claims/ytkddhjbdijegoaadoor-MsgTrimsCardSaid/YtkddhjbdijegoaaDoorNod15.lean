/-
  What each function of package nodes answers and leaves in memory: contracts over the translation. Each says its own conditions.
-/
import Derived.Test.YtkddhjbdijegoaaDoorProg
import Derived.Test.YtkddhjbdijegoaaDoorSets
import Derived.Test.YtkddhjbdijegoaaDoorShelf
import Derived.WalkKit
import Derived.WalkLawsBesides
import Derived.WalkSpells
import Derived.Lib.Hide
import Derived.Lib.LaidTab
import Derived.Lib.Tables
import Derived.Deep.QuietTactic
import Derived.BigQuiet
import Derived.Below
import Derived.OpenShut
import Derived.OwnWalk
import Derived.ScopeJumps
import Derived.WalkMore
namespace Go.Proofs.YtkddhjbdijegoaaDoor
open Go.RowKit
set_option linter.unusedVariables false

theorem int_eqN {k : IntKind} {a b : Int} (h : a = b) : Value.int k a = .int k b := by rw [h]
theorem wrap_u16 (x : Int) : IntKind.u16.wrap x = x % 65536 := by simp [IntKind.wrap, IntKind.signed, IntKind.bits]

theorem cell_ltN {w : World} {b o : Nat} {v : Value} (h : w.cell? ⟨b, o, none⟩ = some v) : b < w.heap.size := by
  rcases Nat.lt_or_ge b w.heap.size with hlt | hge
  · exact hlt
  · have : w.cell? ⟨b, o, none⟩ = none := by simp [World.cell?, Array.getElem?_eq_none hge]
    rw [this] at h; cases h
/-- the library's table of 32 numbers reads as its text lays it -/
def Tz (w : World) : Prop := ∀ i : Nat, i < 32 → w.cell? ⟨3, i, none⟩ = some (.int .u8 (deB.getD i 0 : Nat))
theorem Tz.below {w w' : World} (h : Tz w) (hb : Below w.heap.size w w') : Tz w' := fun i hi => (hb.cell (p := ⟨3, i, none⟩) (cell_ltN (h i hi))).trans (h i hi)
theorem below_drewNT (w : World) : ∀ n, Below w.heap.size w (w.drewN n)
  | 0 => Below.refl _ _
  | n + 1 => (below_drewNT w n).drew
theorem pc8_all : ((List.range 256).all fun i => Lib.pop8 (i : Int) == ((upto i 8).length : Int)) = true := by decide +kernel
theorem pc8 (i : Nat) (h : i < 256) : Lib.pop8 (i : Int) = (upto i 8).length := by
  have := List.all_eq_true.1 pc8_all i (List.mem_range.2 h)
  exact eq_of_beq this
theorem ones_any (s : Nat) (w : World) (hs : s < 65536) : Calls Tryd.prog 52 #[.int .u16 s] w fun e w' => e = .returned (.int .i64 (upto s 16).length) ∧ Below w.heap.size w w' := by
  have e1 : bits .and .u16 (s : Int) 255 = ((s % 256 : Nat) : Int) := (u16_and_nat s 255 hs (by decide)).trans (by rw [nat_mask8])
  have e2 : (s : Int) / 256 = ((s / 256 : Nat) : Int) := by omega
  have q1 : Lib.pop8 (s / 256 : Nat) = _ := pc8 (s / 256) (by omega)
  have q2 : Lib.pop8 (s % 256 : Nat) = _ := pc8 (s % 256) (by omega)
  have q3 := len_bytes s
  have q4 := upto_len (s / 256) 8
  have q5 := upto_len (s % 256) 8
  have r1 : 0 ≤ (s : Int) / 256 := by omega
  have r2 : (s : Int) / 256 ≤ 255 := by omega
  have r3 : 0 ≤ ((s % 256 : Nat) : Int) := by omega
  have r4 : ((s % 256 : Nat) : Int) ≤ 255 := by omega
  have Q3 := Lib.hid q3; have E2 := Lib.hid e2
  clear q3 e2
  go_enter Tryd.func52, Tryd.ntmps52
  go_wp2
  go_quiet (fail)
  go_wp2
  go_ret
  refine ⟨congrArg Ending.returned (int_eqN ?_), below_drewNT _ _⟩
  have := Q3.out
  rw [E2.out, show (s : Int) % 256 = ((s % 256 : Nat) : Int) from by omega, q1, q2]
  omega
theorem tz_int (s : Nat) (hs : s < 65536) : bits .and .u16 (s : Int) (IntKind.u16.wrap (-(s : Int))) % 4294967296 * 125613361 % 4294967296 / 134217728 = (tzI s : Nat) := by
  by_cases h0 : s = 0
  · subst h0; kernel_rfl
  have e0 : IntKind.u16.wrap (-(s : Int)) = ((65536 - s : Nat) : Int) := by rw [wrap_u16]; omega
  rw [e0, u16_and_nat _ _ hs (by omega)]
  have h1 : s &&& (65536 - s) ≤ s := Nat.and_le_left
  unfold tzI
  generalize s &&& (65536 - s) = x at h1
  omega
theorem tz_any (s : Nat) (w : World) (hs : s < 65536) (h0 : s ≠ 0) (hT : Tz w) : Calls Tryd.prog 53 #[.int .u16 s] w fun e w' => e = .returned (.int .i64 (deB.getD (tzI s) 0 : Nat)) ∧ w = w' := by
  have h32 := (tz_ok s hs h0).1
  have e1 := tz_int s hs
  have hC := hT (tzI s) h32
  have hv : deB.getD (tzI s) 0 < 32 := by
    have : ∀ i, i < 32 → deB.getD i 0 < 32 := by decide
    exact this _ h32
  generalize deB.getD (tzI s) 0 = v at hC hv ⊢
  generalize tzI s = T at e1 h32 hC
  have hc : w.cell? ⟨3, (bits .and .u16 (s : Int) (IntKind.u16.wrap (-(s : Int))) % 4294967296 * 125613361 % 4294967296 / 134217728).toNat, none⟩ = some (.int .u8 v) := by rw [e1, Int.toNat_natCast]; exact hC
  have l0 : 0 ≤ bits .and .u16 (s : Int) (IntKind.u16.wrap (-(s : Int))) % 4294967296 * 125613361 % 4294967296 / 134217728 := by omega
  have l1 : bits .and .u16 (s : Int) (IntKind.u16.wrap (-(s : Int))) % 4294967296 * 125613361 % 4294967296 / 134217728 < 32 := by omega
  have hd : ((s : Int) == 0) = false := by simpa using h0
  clear e1 hT hC
  go_enter Tryd.func53, Tryd.ntmps53
  go_wp2
  go_ret
  refine ⟨congrArg Ending.returned (int_eqN ?_), rfl⟩
  first | rfl | (unfold wrap64; omega)
theorem len_any (s : Nat) (w : World) (hs : s < 65536) : Calls Tryd.prog 42 #[.int .u16 s] w fun e w' => e = .returned (.int .i64 (upto s 16).length) ∧ Below w.heap.size w w' := by
  go_enter Tryd.func42, Tryd.ntmps42
  go_wp2_with fail
  refine (ones_any s _ hs).mono ?_
  rintro e w' ⟨rfl, hb⟩
  have HB := Lib.hid hb; clear hb
  go_wp2
  go_ret
  exact ⟨rfl, HB.out⟩
theorem from_tb (s n k : Nat) : (s / 2 ^ n * 2 ^ n).testBit k = (decide (n ≤ k) && s.testBit k) := by
  rw [Nat.mul_comm, Nat.testBit_two_pow_mul, Nat.testBit_div_two_pow]
  by_cases h : n ≤ k
  · rw [show k - n + n = k from by omega]
  · simp [h]
theorem next_hi (s : Nat) (n : Int) (w : World) (h : 16 ≤ n) : Calls Tryd.prog 43 #[.int .u16 s, .int .i64 n] w fun e w' => e = .returned (.int .i64 (-1)) ∧ w = w' := by
  go_enter Tryd.func43, Tryd.ntmps43
  go_wp2
  go_ret
  exact ⟨rfl, rfl⟩
theorem next_from (s : Nat) (n : Int) (hs : s < 65536) (h : n < 16) : IntKind.u16.wrap ((s : Int) / 2 ^ (max n 0).toNat * 2 ^ (max n 0).toNat) = ((s / 2 ^ (max n 0).toNat * 2 ^ (max n 0).toNat : Nat) : Int) := by
  have h1 : s / 2 ^ (max n 0).toNat * 2 ^ (max n 0).toNat ≤ s := Nat.div_mul_le_self _ _
  rw [wrap_u16, Int.natCast_mul, Int.natCast_ediv, Int.natCast_pow]
  have h2 : ((s / 2 ^ (max n 0).toNat * 2 ^ (max n 0).toNat : Nat) : Int) = (s : Int) / 2 ^ (max n 0).toNat * 2 ^ (max n 0).toNat := by
    rw [Int.natCast_mul, Int.natCast_ediv, Int.natCast_pow]; rfl
  have h3 : (((2:Nat):Int)) = 2 := rfl
  rw [h3, ← h2]
  omega
theorem next_lo (s : Nat) (n : Int) (w : World) (hs : s < 65536) (h : n < 16) (hT : Tz w) : Calls Tryd.prog 43 #[.int .u16 s, .int .i64 n] w fun e w' => ∃ r, e = .returned (.int .i64 r) ∧ NextIs s n r ∧ w = w' := by
  have hF := next_from s n hs h
  obtain ⟨F, eF⟩ : ∃ F, F = s / 2 ^ (max n 0).toNat * 2 ^ (max n 0).toNat := ⟨_, rfl⟩
  have hlt : F < 65536 := by rw [eF]; exact Nat.lt_of_le_of_lt (Nat.div_mul_le_self _ _) hs
  have htb : ∀ k, F.testBit k = (decide ((max n 0).toNat ≤ k) && s.testBit k) := fun k => by rw [eF]; exact from_tb _ _ _
  rw [← eF] at hF
  clear eF
  by_cases hz : F = 0
  · have hd : (IntKind.u16.wrap ((s : Int) / 2 ^ (max n 0).toNat * 2 ^ (max n 0).toNat) == 0) = true := by rw [hF, hz]; rfl
    have hr : NextIs s n (-1) := .inl ⟨rfl, fun i h1 h2 => by
      have := htb i
      rw [hz, Nat.zero_testBit, decide_eq_true (by omega), Bool.true_and] at this
      exact this.symm⟩
    have HR := Lib.hid hr
    clear hF htb hr hz
    go_enter Tryd.func43, Tryd.ntmps43
    go_wp2
    go_ret
    exact ⟨_, rfl, HR.out, rfl⟩
  · have hd : (IntKind.u16.wrap ((s : Int) / 2 ^ (max n 0).toNat * 2 ^ (max n 0).toNat) == 0) = false := by rw [hF]; simpa using hz
    obtain ⟨_, q1, q2⟩ := tz_ok F hlt hz
    have hv : deB.getD (tzI F) 0 < 16 := by
      rcases Nat.lt_or_ge (deB.getD (tzI F) 0) 16 with h | h
      · exact h
      · rw [tb_high hlt h] at q1; cases q1
    have hr : NextIs s n (deB.getD (tzI F) 0 : Nat) := by
      generalize deB.getD (tzI F) 0 = v at q1 q2 hv ⊢
      rw [htb, Bool.and_eq_true, decide_eq_true_eq] at q1
      refine .inr ⟨v, rfl, by omega, hv, q1.2, fun j h1 h2 => ?_⟩
      have := q2 j h2
      rwa [htb, decide_eq_true (by omega), Bool.true_and] at this
    have HF := Lib.hid hF; have HR := Lib.hid hr; have HZ := Lib.hid hz; have HT := Lib.hid hT
    clear hF htb hr q1 q2 hv hz hT
    go_enter Tryd.func43, Tryd.ntmps43
    go_wp2_with fail
    rw [HF.out]
    refine (tz_any F _ hlt HZ.out HT.out).mono ?_
    rintro e w' ⟨rfl, rfl⟩
    go_wp2
    go_ret
    exact ⟨_, rfl, HR.out, rfl⟩
theorem next_any (s : Nat) (n : Int) (w : World) (hs : s < 65536) (hT : Tz w) : Calls Tryd.prog 43 #[.int .u16 s, .int .i64 n] w fun e w' => ∃ r, e = .returned (.int .i64 r) ∧ NextIs s n r ∧ w = w' := by
  by_cases h : n < 16
  · exact next_lo s n w hs h hT
  · refine (next_hi s n w (by omega)).mono ?_
    rintro e w' ⟨rfl, rfl⟩
    exact ⟨_, rfl, .inl ⟨rfl, fun i h1 h2 => by omega⟩, rfl⟩
/-- a slice of ints that can be read: its numbers are l -/
def RdN (w : World) (A : Option Addr) (l : List Int) : Prop :=
  l.length ≤ 9223372036854775807 ∧ (∀ n ∈ l, -9223372036854775808 ≤ n ∧ n ≤ 9223372036854775807) ∧ (0 < l.length → ∃ b off, A = some ⟨b, off, none⟩ ∧ ∀ i, i < l.length → w.cell? ⟨b, off + i, none⟩ = some (.int .i64 (l.getD i 0)))
theorem RdN.below {w w' : World} {A : Option Addr} {l : List Int} (h : RdN w A l) (hb : Below w.heap.size w w') : RdN w' A l := by
  refine ⟨h.1, h.2.1, fun hl => ?_⟩
  obtain ⟨b, off, rfl, hc⟩ := h.2.2 hl
  exact ⟨b, off, rfl, fun i hi => (hb.cell (p := ⟨b, off + i, none⟩) (cell_ltN (hc i hi))).trans (hc i hi)⟩
theorem getD_memN {l : List Int} {k : Nat} (h : k < l.length) : l.getD k 0 ∈ l := by
  rw [List.getD_eq_getElem?_getD, List.getElem?_eq_getElem h]; exact List.getElem_mem h
/-- a slice of ints of the call's own, nil let in -/
def OwnN (B : Nat) (l : List Int) (v : Value) (w : World) : Prop := w.ownsRow B 3 1 v l.length (l.map (Value.int .i64))
def OwnedN (B : Nat) (l : List Int) (e : Ending) (w w' : World) : Prop := ∃ v, e = .returned v ∧ OwnN B l v w' ∧ Below B w w'
theorem grown_of_belowN {w w' : World} (h : Below w.heap.size w w') : w.grownBy w' none := ⟨h.os, h.tape, h.output, h.size, fun k hk _ => h.block k hk⟩
theorem OwnN.below {B : Nat} {l : List Int} {v : Value} {w w' : World} (h : OwnN B l v w) (hb : Below w.heap.size w w') : OwnN B l v w' := World.ownsRow.kept h (grown_of_belowN hb) (Classical.em _)
theorem OwnN.rd {B : Nat} {l : List Int} {v : Value} {w : World} (h : OwnN B l v w) (hb : ∀ n ∈ l, -9223372036854775808 ≤ n ∧ n ≤ 9223372036854775807) (hm : l.length ≤ 9223372036854775807) : ∃ A cap, v = .slice A l.length cap ∧ RdN w A l := by
  unfold OwnN at h
  rcases h.2 with ⟨rfl, h0⟩ | ⟨g, cap, cur, rfl, _, hg, hn, _, hcs, ht⟩
  · rw [h0]; exact ⟨none, 0, rfl, hm, hb, fun hl => by omega⟩
  · refine ⟨_, cap, rfl, hm, hb, fun _ => ⟨g, 0, rfl, fun i hi => ?_⟩⟩
    rw [Nat.zero_add, cell_of_row w g i cur _ _ hg]
    have e : (cur.toList.take (l.length * 1))[i]? = some (.int .i64 (l.getD i 0)) := by
      rw [ht, List.getElem?_map, List.getD_eq_getElem?_getD, List.getElem?_eq_getElem hi]; rfl
    rw [List.getElem?_take_of_lt (by omega)] at e
    simpa using e
theorem info_int : (Tryd.prog.info? 3).map (fun i => (i.zero, i.size, i.bytes)) = some (some (.int .i64 0), 1, 8) := by kernel_rfl
def ints (l : List Nat) : List Int := l.map fun i : Nat => (i : Int)
theorem ints_len (l : List Nat) : (ints l).length = l.length := List.length_map _
theorem ints_succ {s k i : Nat} (hki : k ≤ i) (h : s.testBit i = true) (hn : ∀ j, k ≤ j → j < i → s.testBit j = false) : ints (upto s (i + 1)) = ints (upto s k) ++ [(i : Int)] := by
  unfold ints; rw [upto_next hki h hn, List.map_append]; rfl
theorem list_any (s : Nat) (w : World) (hs : s < 65536) (hT : Tz w) : Calls Tryd.prog 34 #[.int .u16 s] w fun e w' => OwnedN w.heap.size (ints (upto s 16)) e w w' := by
  obtain ⟨i0, hi, hz0, hz1, hz2⟩ := info_parts info_int
  have h16 := upto_len s 16
  have HT := Lib.hid hT; clear hT
  go_enter Tryd.func34, Tryd.ntmps34
  go_wp2
  refine wp_scope_jumps 0 (fun a' w' => ∃ (k : Nat) (r : Int) (vl u5 u6 u7 u8 u9 u10 u11 u12 u13 u14 u15 u16 u17 u18 u19 u20 : Value), a' = { tmps := #[.int .u16 s, undef, .slice none 0 0, vl, .int .i64 r, u5, u6, u7, u8, u9, u10, u11, u12, u13, u14, u15, u16, u17, u18, u19, u20], defers := [] } ∧ k ≤ 16 ∧ OwnN w.heap.size (ints (upto s k)) vl w' ∧ NextIs s k r ∧ Below w.heap.size w w')
    (fun a' _ => if intOf (a'.tmps.getD 4 undef) < 0 then 0 else (17 - intOf (a'.tmps.getD 4 undef)).toNat) rfl ?_ ?_
  · go_wp2_with fail
    refine (len_any s _ hs).mono ?_
    rintro e w1 ⟨rfl, hb1⟩
    have hT1 := HT.out.below hb1
    have HB1 := Lib.hid hb1; clear hb1
    have HT1 := Lib.hid hT1; clear hT1
    go_wp2_with (at_make; refine wpList_make_own _ rfl _ _ 56 rfl w.heap.size 3 i0 (.int .i64 0) 1 Tryd.underlying56 hi hz0 hz1 .i64 .i64 _ (upto s 16).length rfl rfl rfl ?c1 ?c2 ?c3 ?_)
    case c1 => rw [hz2]; omega
    case c2 => unfold maxLen; omega
    case c3 => have := HB1.out.size; omega
    intro w2 hown2 hgr2
    have ho : OwnN w.heap.size (ints (upto s 0)) (.slice (some ⟨w1.heap.size, 0, none⟩) 0 (upto s 16).length) w2 := hown2
    have hb2 : Below w.heap.size w w2 := HB1.out.grown hgr2 HB1.out.size (fun k hk => by cases hk)
    have hT2 := HT.out.below hb2
    generalize Value.slice (some ⟨w1.heap.size, 0, none⟩) 0 (upto s 16).length = VL at ho ⊢
    have HB := Lib.hid hb2; clear hb2 hown2 hgr2 HB1
    have HT2 := Lib.hid hT2; clear hT2
    go_wp2_with fail
    refine (next_any s _ _ hs HT2.out).mono ?_
    rintro e w3 ⟨r, rfl, hn, rfl⟩
    have HN := Lib.hid hn; clear hn
    go_wp2
    go_step3
    have hn := HN.out; clear HN
    rcases hn with ⟨rfl, hn⟩ | ⟨i, rfl, q1, q2, q3, q4⟩
    · have he := upto_end (s := s) (k := 0) (by omega) (fun j h1 h2 => hn j (by omega) h2)
      have HE := Lib.hid he; have HO := Lib.hid ho
      clear he ho hn
      go_wp2
      try simp only [Exit.jump]
      go_ret
      refine ⟨_, rfl, ?_, HB.out⟩
      rw [HE.out]; exact HO.out
    · have hs1 : ints (upto s (i + 1)) = ints (upto s 0) ++ [(i : Int)] := ints_succ (by omega) q3 (fun j h1 h2 => q4 j (by omega) h2)
      have hl1 := upto_len s 0
      have ho1 : w2.ownsRow w.heap.size 3 1 VL (upto s 0).length ((ints (upto s 0)).map (Value.int .i64)) := by have := ho; unfold OwnN at this; rwa [ints_len] at this
      have HS := Lib.hid hs1; have HO := Lib.hid ho1
      clear hs1 ho ho1 q1 q3 q4
      go_wp2_with (at_builtin; refine wpList_append_own _ rfl _ _ 56 rfl w.heap.size 3 i0 (.int .i64 0) 1 8 Tryd.underlying56 hi hz0 hz1 hz2 rfl (by decide) _ (upto s 0).length _ rfl (HO.out.alloc _) ⟨w2.heap.size, 0, none⟩ 1 1 [.int .i64 i] rfl rfl ?c1 ?c2 ?c3 ?c4 ?c5 ?_)
      case c1 => exact cell_one_new _ _ _
      case c2 => intro u hu; simp at hu; subst hu; rfl
      case c3 => unfold maxLen; omega
      case c4 => omega
      case c5 => have := HB.out.size; simp; omega
      intro v' w5 hown' hgrow _
      have ho5 : OwnN w.heap.size (ints (upto s (i + 1))) v' w5 := by
        unfold OwnN
        rw [HS.out, List.map_append, List.length_append, ints_len]
        exact hown'
      have hb5 : Below w.heap.size w w5 := (HB.out.alloc (by have := HB.out.size; omega) _).grown hgrow (by have := HB.out.size; simp; omega) (fun j hj => (HO.out.lt j hj).1)
      have hT5 : Tz w5 := HT.out.below hb5
      have HO5 := Lib.hid ho5; have HB5 := Lib.hid hb5; have HT5 := Lib.hid hT5; clear hown' hgrow ho5 hb5 hT5 HO HS
      have hl2 := upto_len s (i + 1)
      go_wp2_with fail
      refine (next_any s _ _ hs HT5.out).mono ?_
      rintro e w6 ⟨r6, rfl, hn6, rfl⟩
      have HN6 := Lib.hid hn6; clear hn6
      go_wp2
      go_step3
      exact ⟨rfl, i + 1, r6, v', _, _, _, _, _, _, _, _, _, _, _, _, _, _, _, _, rfl, by omega, HO5.out, HN6.out, HB5.out⟩
  · rintro a' wr ⟨k, r, VL, u5, u6, u7, u8, u9, u10, u11, u12, u13, u14, u15, u16, u17, u18, u19, u20, rfl, hk, ho, hn, hb⟩
    have HB := Lib.hid hb; clear hb
    rcases hn with ⟨rfl, hn⟩ | ⟨i, rfl, q1, q2, q3, q4⟩
    · have he := upto_end (s := s) (k := k) (by omega) (fun j h1 h2 => hn j (by omega) h2)
      have HE := Lib.hid he; have HO := Lib.hid ho
      clear he ho hn
      go_wp2
      try simp only [Exit.jump]
      go_ret
      refine ⟨_, rfl, ?_, HB.out⟩
      rw [HE.out]; exact HO.out
    · have hs1 : ints (upto s (i + 1)) = ints (upto s k) ++ [(i : Int)] := ints_succ (by omega) q3 (fun j h1 h2 => q4 j (by omega) h2)
      have hl1 := upto_len s k
      have ho1 : wr.ownsRow w.heap.size 3 1 VL (upto s k).length ((ints (upto s k)).map (Value.int .i64)) := by have := ho; unfold OwnN at this; rwa [ints_len] at this
      have HS := Lib.hid hs1; have HO := Lib.hid ho1
      clear hs1 ho ho1 q1 q3 q4
      go_wp2_with (at_builtin; refine wpList_append_own _ rfl _ _ 56 rfl w.heap.size 3 i0 (.int .i64 0) 1 8 Tryd.underlying56 hi hz0 hz1 hz2 rfl (by decide) _ (upto s k).length _ rfl (HO.out.alloc _) ⟨wr.heap.size, 0, none⟩ 1 1 [.int .i64 i] rfl rfl ?c1 ?c2 ?c3 ?c4 ?c5 ?_)
      case c1 => exact cell_one_new _ _ _
      case c2 => intro u hu; simp at hu; subst hu; rfl
      case c3 => unfold maxLen; omega
      case c4 => omega
      case c5 => have := HB.out.size; simp; omega
      intro v' w5 hown' hgrow _
      have ho5 : OwnN w.heap.size (ints (upto s (i + 1))) v' w5 := by
        unfold OwnN
        rw [HS.out, List.map_append, List.length_append, ints_len]
        exact hown'
      have hb5 : Below w.heap.size w w5 := (HB.out.alloc (by have := HB.out.size; omega) _).grown hgrow (by have := HB.out.size; simp; omega) (fun j hj => (HO.out.lt j hj).1)
      have hT5 : Tz w5 := HT.out.below hb5
      have HO5 := Lib.hid ho5; have HB5 := Lib.hid hb5; have HT5 := Lib.hid hT5; clear hown' hgrow ho5 hb5 hT5 HO HS
      have hl2 := upto_len s (i + 1)
      go_wp2_with fail
      refine (next_any s _ _ hs HT5.out).mono ?_
      rintro e w6 ⟨r6, rfl, hn6, rfl⟩
      have HN6 := Lib.hid hn6; clear hn6
      go_wp2
      go_step3
      refine ⟨rfl, ⟨i + 1, r6, v', _, _, _, _, _, _, _, _, _, _, _, _, _, _, _, _, rfl, by omega, HO5.out, HN6.out, HB5.out⟩, ?_⟩
      have h6 : r6 < 0 ∨ (i : Int) + 1 ≤ r6 := by
        rcases HN6.out with ⟨rfl, _⟩ | ⟨j, rfl, h, _⟩
        · left; omega
        · right; exact h
      show (if r6 < 0 then 0 else (17 - r6).toNat) < (if (i : Int) < 0 then 0 else (17 - (i : Int)).toNat)
      rw [if_neg (show ¬ (i : Int) < 0 by omega)]
      split <;> omega
end Go.Proofs.YtkddhjbdijegoaaDoor
