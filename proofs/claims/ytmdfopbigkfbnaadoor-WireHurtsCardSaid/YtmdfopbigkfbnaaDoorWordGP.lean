/-
  What the functions of package word that this layer calls answer and leave in memory: contracts over the translation. Each says its own conditions.
-/
import Derived.Test.YtmdfopbigkfbnaaDoorMem
namespace Go.Proofs.YtmdfopbigkfbnaaDoor
open Go.RowKit
set_option linter.unusedVariables false

theorem size_yes (n : Int) (w : World) (h : SzI n) : Calls Tryd.prog 29 #[.int .i64 n] w fun e w' => e = .returned (.bool true) ∧ w = w' := by
  rcases h with rfl | rfl | rfl | rfl
  all_goals
    go_enter Tryd.func29, Tryd.ntmps29
    go_wp2
    go_ret
    exact ⟨rfl, rfl⟩
theorem size_no (n : Int) (w : World) (h : ¬ SzI n) : Calls Tryd.prog 29 #[.int .i64 n] w fun e w' => e = .returned (.bool false) ∧ w = w' := by
  have h1 : ¬ n = 1 := fun e => h (.inl e)
  have h2 : ¬ n = 2 := fun e => h (.inr (.inl e))
  have h4 : ¬ n = 4 := fun e => h (.inr (.inr (.inl e)))
  have h8 : ¬ n = 8 := fun e => h (.inr (.inr (.inr e)))
  clear h
  go_enter Tryd.func29, Tryd.ntmps29
  go_wp2
  go_ret
  refine ⟨?_, rfl⟩
  simp [h1, h2, h4, h8]
theorem within_yes (n a s : Int) (w : World) (h : InB n a s) (hn : n ≤ 9223372036854775807) : Calls Tryd.prog 36 #[.int .i64 n, .int .i64 a, .int .i64 s] w fun e w' => e = .returned (.bool true) ∧ w = w' := by
  obtain ⟨hs, ha, hx⟩ := h
  have hs8 : 1 ≤ s ∧ s ≤ 8 := by rcases hs with h | h | h | h <;> omega
  have hs1 := hs8.1
  have hs2 := hs8.2
  clear hs8
  go_enter Tryd.func36, Tryd.ntmps36
  go_wp2_with (go_at_call 29; refine (size_yes _ _ hs).mono ?_; rintro e w' ⟨rfl, rfl⟩)
  go_ret
  refine ⟨?_, rfl⟩
  simp
theorem within_no (n a s : Int) (w : World) (h : ¬ InB n a s) (h0 : 0 ≤ n) (hn : n ≤ 9223372036854775807) : Calls Tryd.prog 36 #[.int .i64 n, .int .i64 a, .int .i64 s] w fun e w' => e = .returned (.bool false) ∧ w = w' := by
  by_cases hs : SzI s
  · have hs8 : 1 ≤ s ∧ s ≤ 8 := by rcases hs with h | h | h | h <;> omega
    have hs1 := hs8.1
    have hs2 := hs8.2
    clear hs8
    by_cases ha : 0 ≤ a
    · have hx : ¬ a ≤ n - s := fun hx => h ⟨hs, ha, hx⟩
      clear h
      go_enter Tryd.func36, Tryd.ntmps36
      go_wp2_with (go_at_call 29; refine (size_yes _ _ hs).mono ?_; rintro e w' ⟨rfl, rfl⟩)
      go_ret
      refine ⟨?_, rfl⟩
      simp
      omega
    · clear h
      go_enter Tryd.func36, Tryd.ntmps36
      go_wp2_with (go_at_call 29; refine (size_yes _ _ hs).mono ?_; rintro e w' ⟨rfl, rfl⟩)
      go_ret
      exact ⟨rfl, rfl⟩
  · clear h
    go_enter Tryd.func36, Tryd.ntmps36
    go_wp2_with (go_at_call 29; refine (size_no _ _ hs).mono ?_; rintro e w' ⟨rfl, rfl⟩)
    go_ret
    exact ⟨rfl, rfl⟩
theorem get_no (A : Option Addr) (n cap : Nat) (a s : Int) (w : World) (hn : n ≤ 9223372036854775807) (h : ¬ InB n a s) : Calls Tryd.prog 32 #[.slice A n cap, .int .i64 a, .int .i64 s] w fun e w' => e = .returned (.tuple #[.int .u64 0, .bool false]) ∧ w = w' := by
  go_enter Tryd.func32, Tryd.ntmps32
  go_wp2_with (go_at_call 36; refine (within_no _ _ _ _ h (by omega) (by omega)).mono ?_; rintro e w' ⟨rfl, rfl⟩)
  go_ret2
  exact ⟨rfl, rfl⟩
theorem get_run (b off : Nat) (l : List Int) (cap a s : Nat) (w : World) (hb : Byt l) (hm : l.length ≤ 9223372036854775807) (hc : ∀ i, i < l.length → w.cell? ⟨b, off + i, none⟩ = some (.int .u8 (l.getD i 0))) (hs : s = 1 ∨ s = 2 ∨ s = 4 ∨ s = 8) (hx : a + s ≤ l.length) :
    Calls Tryd.prog 32 #[.slice (some ⟨b, off, none⟩) l.length cap, .int .i64 a, .int .i64 s] w fun e w' => e = .returned (.tuple #[.int .u64 (le ((l.drop a).take s)), .bool true]) ∧ w = w' := by
  have hl : ((l.drop a).take s).length = s := by simp; omega
  have hin : InB l.length a s := ⟨by unfold SzI; omega, by omega, by omega⟩
  have hs8 : s ≤ 8 := by omega
  go_enter Tryd.func32, Tryd.ntmps32
  go_wp2_with fail
  refine (within_yes _ _ _ _ hin (by omega)).mono ?_
  rintro e w' ⟨rfl, rfl⟩
  have HL := Lib.hid hl; clear hl hs hin
  go_wp2
  go_loop [8, 9] (fun v i => ∃ k : Nat, k ≤ s ∧ i = .int .i64 ((k : Int) - 1) ∧ v = .int .u64 (le ((((l.drop a).take s)).drop k))) (fun _ i => ((intOf i) + 1).toNat)
  case atStart => exact ⟨s, Nat.le_refl _, rfl, by rw [List.drop_eq_nil_of_le (by rw [HL.out]; exact Nat.le_refl _)]; rfl⟩
  case round =>
    obtain ⟨k, hk, rfl, rfl⟩ := hrel
    by_cases h0 : 1 ≤ k
    · have hcell := hc (a + (k - 1)) (by omega)
      have hq := hb.getD (a + (k - 1))
      obtain ⟨c, hC⟩ : ∃ c, c = l.getD (a + (k - 1)) 0 := ⟨_, rfl⟩
      rw [← hC] at hcell hq
      have hn : Byt (((l.drop a).take s).drop k) := ((hb.drop a).take s).drop k
      obtain ⟨L, hL⟩ : ∃ L, L = le (((l.drop a).take s).drop k) := ⟨_, rfl⟩
      have b1 : 0 ≤ L := hL ▸ le_nn _ hn
      have b2 : L < 72057594037927936 := hL ▸ le_lt7 _ hn (by rw [List.length_drop, HL.out]; omega)
      have h1 := le_drop ((l.drop a).take s) (k - 1) (by rw [HL.out]; omega)
      rw [show k - 1 + 1 = k from by omega, ← hL, show ((l.drop a).take s).getD (k - 1) 0 = c from by rw [hC]; simp [List.getD_eq_getElem?_getD, show k - 1 < s from by omega]] at h1
      rw [← hL]
      have H1 := Lib.hid h1; clear h1
      clear hn hc hb hC hL
      go_wp2
      go_round
      case rel => exact ⟨k - 1, by omega, int_eq (by omega), int_eq ((or_byte _ _ b1 b2 hq.1 hq.2).trans H1.out.symm)⟩
      case measure => simp [intOf]; omega
    · go_wp2
      obtain rfl : k = 0 := by omega
      go_ret2
      exact ⟨rfl, rfl⟩
theorem get_yes (A : Option Addr) (n : Nat) (l : List Int) (cap a s : Nat) (w : World) (hr : Rd w A l) (hn : l.length = n) (hin : InB n a s) :
    Calls Tryd.prog 32 #[.slice A n cap, .int .i64 a, .int .i64 s] w fun e w' => e = .returned (.tuple #[.int .u64 (le ((l.drop a).take s)), .bool true]) ∧ w = w' := by
  subst hn
  obtain ⟨hs, _, hx⟩ := hin
  have hs' : s = 1 ∨ s = 2 ∨ s = 4 ∨ s = 8 := by unfold SzI at hs; omega
  obtain ⟨b, off, rfl, hc⟩ := hr.2.2 (by omega)
  exact get_run b off l cap a s w hr.1 hr.2.1 hc hs' (by omega)
theorem wrap_u64 (x : Int) : IntKind.u64.wrap x = x % 18446744073709551616 := by simp [IntKind.wrap, IntKind.signed, IntKind.bits]
theorem pow_8 (v : Int) (k : Nat) : v / 2 ^ (8 * k) % 256 = v / (256 ^ k : Nat) % 256 := by
  rw [Int.pow_mul]; simp
theorem put_no (A : Option Addr) (n cap : Nat) (a s v : Int) (w : World) (hn : n ≤ 9223372036854775807) (h : ¬ InB n a s) : Calls Tryd.prog 30 #[.slice A n cap, .int .i64 a, .int .i64 s, .int .u64 v] w fun e w' => e = .returned (.bool false) ∧ w = w' := by
  go_enter Tryd.func30, Tryd.ntmps30
  go_wp2_with (go_at_call 36; refine (within_no _ _ _ _ h (by omega) (by omega)).mono ?_; rintro e w' ⟨rfl, rfl⟩)
  go_ret
  exact ⟨rfl, rfl⟩
theorem put_yes (g n cap a s : Nat) (v : Int) (xs : List Int) (base : Nat) (w : World) (h0 : 0 ≤ v) (h1 : v ≤ 18446744073709551615) (hn : n ≤ 9223372036854775807) (hin : InB n a s)
    (hown : w.ownsRow base 5 1 (.slice (some ⟨g, 0, none⟩) n cap) n (xs.map (Value.int .u8))) :
    Calls Tryd.prog 30 #[.slice (some ⟨g, 0, none⟩) n cap, .int .i64 a, .int .i64 s, .int .u64 v] w fun e w' => e = .returned (.bool true) ∧ w'.ownsRow base 5 1 (.slice (some ⟨g, 0, none⟩) n cap) n ((lay xs a (byt v s)).map (Value.int .u8)) ∧ Below base w w' := by
  have hs8 : a + s ≤ n ∧ s ≤ 8 := by obtain ⟨h, h2, h3⟩ := hin; unfold SzI at h; omega
  obtain ⟨hs1, hs2⟩ := hs8
  go_enter Tryd.func30, Tryd.ntmps30
  go_wp2_with fail
  refine (within_yes _ _ _ _ hin (by omega)).mono ?_
  rintro e w' ⟨rfl, rfl⟩
  clear hin
  go_wp2
  go_loopw [9, 17] (fun x c wr => ∃ k : Nat, k ≤ s ∧ c = .int .i64 k ∧ wr.ownsRow base 5 1 (.slice (some ⟨g, 0, none⟩) n cap) n ((lay xs a (byt v k)).map (Value.int .u8)) ∧ Below base w wr) (fun _ c _ => s - (intOf c).toNat)
  case atStart => exact ⟨0, Nat.zero_le _, rfl, by rw [byt, lay_nil]; exact hown, Below.refl _ _⟩
  case round =>
    obtain ⟨k, hk, rfl, ho, hb⟩ := hrel
    have hl : (lay xs a (byt v k)).length = n := by
      rw [lay_len _ _ _ (by rw [byt_len]; have := hown.1; simp at this; omega)]; have := hown.1; simpa using this
    by_cases hlt : k < s
    · have hc : wr.cell? ⟨g, a + k, none⟩ = some (.int .u8 ((lay xs a (byt v k)).getD (a + k) 0)) := by
        rw [ho.cellAt (a + k) (by omega), List.getElem?_map, List.getD_eq_getElem?_getD, List.getElem?_eq_getElem (by omega)]; rfl
      have hf := ho.frozenAt (a + k)
      have ho' := ho.stored (a + k) (.int .u8 (v / 2 ^ (8 * k) % 256))
      have e1 : ((lay xs a (byt v k)).map (Value.int .u8)).set (a + k) (.int .u8 (v / 2 ^ (8 * k) % 256)) = (lay xs a (byt v (k + 1))).map (Value.int .u8) := by
        rw [byt_snoc, ← lay_snoc _ _ _ _ (by rw [byt_len]; have := hown.1; simp at this; omega), byt_len, List.map_set, pow_8]
      rw [e1] at ho'
      have hg : base ≤ g := (ho.lt g rfl).1
      have HO := Lib.hid ho'
      have HN := Lib.hid hown
      clear e1 ho' hl hown
      obtain ⟨c, hC⟩ : ∃ c, c = (lay xs a (byt v k)).getD (a + k) 0 := ⟨_, rfl⟩
      rw [← hC] at hc
      clear hC
      have H := Lib.hid ho; clear ho
      go_wp2
      go_roundw
      case rel => exact ⟨k + 1, by omega, by go_num, HO.out.1, hb.setCell hg _⟩
      case measure => simp [intOf]; omega
    · obtain rfl : k = s := by omega
      go_wp2
      go_ret
      exact ⟨rfl, ho, hb⟩
end Go.Proofs.YtmdfopbigkfbnaaDoor
