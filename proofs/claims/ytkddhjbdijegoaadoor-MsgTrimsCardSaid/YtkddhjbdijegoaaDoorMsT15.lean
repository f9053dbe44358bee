/-
  Numbers written: what strconv.Itoa and runrigref15.Num answer; a kind's name. Contracts over the translation; each says its own conditions.
-/
import Derived.Test.YtkddhjbdijegoaaDoorPlT15
import Derived.Test.YtkddhjbdijegoaaDoorMsB15
import Derived.Test.YtkddhjbdijegoaaDoorRtx15
import Derived.Lib.LaidTab
import Derived.Lib.AppendIntMem
namespace Go.Proofs.YtkddhjbdijegoaaDoor
open Go.RowKit
set_option linter.unusedVariables false
set_option linter.unusedSimpArgs false

/-- the library's powers of ten read as its text lays them -/
def Pw (w : World) : Prop := Lib.TabIs Tryd.prog w "internal/strconv.uint64pow10" .u64 Lib.pow10Tab
theorem Pw.below {w w' : World} (h : Pw w) (hb : Below w.heap.size w w') : Pw w' := by
  have hgn : Tryd.prog.globalNamed "internal/strconv.uint64pow10" = some 2 := by kernel_rfl
  unfold Pw Lib.TabIs World.var? at h ⊢
  rw [hgn] at h ⊢
  simp only [Option.bind_some] at h ⊢
  have hlt : 2 < w.heap.size := by
    rcases Nat.lt_or_ge 2 w.heap.size with h' | h'
    · exact h'
    · rw [Array.getElem?_eq_none h'] at h; cases h
  rw [hb.block _ hlt]; exact h
theorem itoa_any (n : Int) (w : World) (h0 : -9223372036854775808 ≤ n) (h1 : n ≤ 9223372036854775807) (hP : Pw w) : Calls Tryd.prog 26 #[.int .i64 n] w fun e w' => e = .returned (.string (bs (Lib.itoa n))) ∧ Below w.heap.size w w' :=
  (Tryd.strconv_Itoa n h0 h1 w hP).mono fun e w' ⟨he, k, os, hw⟩ => ⟨he, hw ▸ Lib.below_grow _ _ (Nat.le_refl _) _ _⟩
theorem piece15 (d : Nat) (h : d < 10) : ByteArray.extract ⟨#[48, 49, 50, 51, 52, 53, 54, 55, 56, 57]⟩ d (d + 1) = bs [UInt8.ofNat (48 + d)] := by
  match d, h with
  | 0, _ | 1, _ | 2, _ | 3, _ | 4, _ | 5, _ | 6, _ | 7, _ | 8, _ | 9, _ => decide
theorem bs_size (l : List UInt8) : (bs l).size = l.length := by simp [bs, ByteArray.size]
theorem dd_len (u : Nat) (h : u < 18446744073709551616) : (Lib.decDigits u).length ≤ 20 := by rw [Lib.decDigits_length]; exact Lib.nDigits_le20 u h
theorem dd_big (u : Nat) (h : ¬ u < 10) : Lib.decDigits u = Lib.decDigits (u / 10) ++ [UInt8.ofNat (48 + u % 10)] := by rw [Lib.decDigits, dif_neg h]
set_option maxHeartbeats 4000000 in
theorem rdig_any (m : Nat) : ∀ (more : Nat), more ≤ 1 → m ≤ 9223372036854775807 → ∀ w, Calls Tryd.prog 36 #[.int .i64 (m : Int), .int .i64 (more : Int)] w fun e w' => e = .returned (.string (bs (Lib.decDigits (m + more)))) ∧ Below w.heap.size w w' := by
  induction m using Nat.strongRecOn with
  | ind m ih =>
    intro more h1 hm w
    have hw1 : IntKind.i64.wrap ((m : Int) % 10 + (more : Int)) = ((m % 10 + more : Nat) : Int) := by simp [IntKind.wrap, IntKind.signed, IntKind.bits]; omega
    have hq : (m : Int) / 10 = ((m / 10 : Nat) : Int) := by omega
    by_cases hd : m % 10 + more = 10
    · have hih := ih (m / 10) (by omega) 1 (by omega) (by omega)
      have hdd : Lib.decDigits (m + more) = Lib.decDigits (m / 10 + 1) ++ [48] := by
        rw [dd_big _ (by omega), show (m + more) / 10 = m / 10 + 1 from by omega, show (m + more) % 10 = 0 from by omega]; rfl
      have hln := dd_len (m / 10 + 1) (by omega)
      rw [hdd]
      rw [hd] at hw1
      generalize m / 10 = q at hq hih hln hdd
      have hsz := bs_size (Lib.decDigits (q + 1))
      rw [← bs_app]
      generalize bs (Lib.decDigits (q + 1)) = S at hih hsz
      have hsz2 : S.size ≤ 20 := by omega
      have HI := Lib.hid hih
      clear hih ih hdd hsz hln hd
      go_enter Tryd.func36, Tryd.ntmps36
      go_wp2_with fail
      refine (HI.out _).mono ?_
      rintro e w' ⟨rfl, hb⟩
      have HB := Lib.hid hb
      clear hb
      go_wp2
      go_ret
      exact ⟨rfl, HB.out⟩
    · have hd10 : m % 10 + more < 10 := by omega
      have hpc := piece15 (m % 10 + more) hd10
      by_cases hz : m / 10 = 0
      · have hdd : Lib.decDigits (m + more) = [UInt8.ofNat (48 + (m % 10 + more))] := by
          rw [Lib.decDigits_one (by omega), show m % 10 + more = m + more from by omega]
        rw [hdd]
        rw [hz] at hq
        generalize m % 10 + more = c at hw1 hd hd10 hpc
        have hne : ((c : Int) == 10) = false := by simp; omega
        have hc1 : (c : Int) + 1 ≤ 10 := by omega
        have HP := Lib.hid hpc
        clear hpc ih hdd
        go_enter Tryd.func36, Tryd.ntmps36
        go_wp2
        go_ret
        exact ⟨by rw [← HP.out]; rfl, Below.refl _ _⟩
      · have hih := ih (m / 10) (by omega) 0 (by omega) (by omega)
        have hdd : Lib.decDigits (m + more) = Lib.decDigits (m / 10) ++ [UInt8.ofNat (48 + (m % 10 + more))] := by
          rw [dd_big _ (by omega), show (m + more) / 10 = m / 10 from by omega, show (m + more) % 10 = m % 10 + more from by omega]
        have hln := dd_len (m / 10) (by omega)
        rw [hdd, ← bs_app, ← hpc]
        rw [Nat.add_zero] at hih
        have hsz := bs_size (Lib.decDigits (m / 10))
        generalize bs (Lib.decDigits (m / 10)) = S at hih hsz
        have hsz2 : S.size ≤ 20 := by omega
        have hzb : (((m / 10 : Nat) : Int) == 0) = false := by simp; omega
        generalize m / 10 = q at hq hih hln hdd hz hzb
        generalize m % 10 + more = c at hw1 hd hd10
        have hne : ((c : Int) == 10) = false := by simp; omega
        have hps : (ByteArray.extract ⟨#[48, 49, 50, 51, 52, 53, 54, 55, 56, 57]⟩ c (c + 1)).size = 1 := by rw [piece15 c hd10, bs_size]; rfl
        have HI := Lib.hid hih
        clear hih ih hdd hsz hln hpc
        go_enter Tryd.func36, Tryd.ntmps36
        go_wp2_with fail
        refine (HI.out _).mono ?_
        rintro e w' ⟨rfl, hb⟩
        have HB := Lib.hid hb
        clear hb
        go_wp2
        go_ret
        exact ⟨rfl, HB.out⟩
end Go.Proofs.YtkddhjbdijegoaaDoor
