/-
  What Same of package runrigref13 answers of two rows of the same pages: a contract over the translation, which says its own conditions.
-/
import Derived.Test.YtdakfgefnapglaaRefQ13
namespace Go.Proofs.Ytdakfgefnapglaa
open Go.RowKit
set_option linter.unusedVariables false
set_option linter.unusedSimpArgs false
attribute [local go_sem] setCell_drewN alloc_drewN

set_option maxHeartbeats 4000000 in
theorem rsame_yes (vA vB : Value) (L : List Pg) (w : World) (hA : LiesS pgC 12 w vA L) (hB : LiesS pgC 12 w vB L) (hlen : L.length ≤ 100000) :
    Calls Try.prog 22 #[vA, vB] w fun e w' => e = .returned (.bool true) ∧ Chg no w w' := by
  obtain ⟨A, ca, rfl, hna, hma, hca⟩ := hA
  obtain ⟨B, cb, rfl, hnb, hmb, hcb⟩ := hB
  obtain ⟨len, hle⟩ : ∃ k, k = L.length := ⟨_, rfl⟩
  rw [← hle] at hna hnb hlen ⊢
  unfold maxLen at hma hmb
  have HCA := Lib.hid hca; have HCB := Lib.hid hcb; have HN := Lib.hid hle
  clear hca hcb hle
  go_enter Try.func22, Try.ntmps22
  go_wp2
  go_loopw [13] (fun i wr => ∃ (k : Nat), k ≤ len ∧ i = .int .i64 (k : Int) ∧ Chg no w wr) (fun i _ => len - (intOf i).toNat)
  case atStart => exact ⟨0, Nat.zero_le _, rfl, Chg.refl _ _⟩
  case round =>
    obtain ⟨k, hk, rfl, hc⟩ := hrel
    by_cases hlt : k < len
    · have hkl : k < L.length := by rw [← HN.out]; exact hlt
      obtain ⟨ga, rfl, hcl⟩ := HCA.out (by have := HN.out; omega)
      obtain ⟨gb, rfl, hcm⟩ := HCB.out (by have := HN.out; omega)
      replace hcl := hcl k hkl
      replace hcm := hcm k hkl
      generalize L[k] = m at hcl hcm
      obtain ⟨xv, xl, ev, er, ew, ex, eu, eg, ea, ed, rs, pp⟩ := m
      have hga : ga < w.heap.size := cell_lt (hcl 0 (by omega))
      have hgb : gb < w.heap.size := cell_lt (hcm 0 (by omega))
      have f0 : wr.cell? ⟨ga, k * 12, none⟩ = some (.int .u64 (xv : Int)) := (World.cell?_of_block (w := w) (a := ⟨ga, k * 12, none⟩) (hc.block ga hga (fun h => h))).trans (hcl 0 (by omega))
      have f1 : wr.cell? ⟨ga, k * 12 + 1, none⟩ = some (.int .i64 (xl : Int)) := (World.cell?_of_block (w := w) (a := ⟨ga, k * 12 + 1, none⟩) (hc.block ga hga (fun h => h))).trans (hcl 1 (by omega))
      have f2 : wr.cell? ⟨ga, k * 12 + 2, none⟩ = some (.bool ev) := (World.cell?_of_block (w := w) (a := ⟨ga, k * 12 + 2, none⟩) (hc.block ga hga (fun h => h))).trans (hcl 2 (by omega))
      have f3 : wr.cell? ⟨ga, k * 12 + 3, none⟩ = some (.bool er) := (World.cell?_of_block (w := w) (a := ⟨ga, k * 12 + 3, none⟩) (hc.block ga hga (fun h => h))).trans (hcl 3 (by omega))
      have f4 : wr.cell? ⟨ga, k * 12 + 4, none⟩ = some (.bool ew) := (World.cell?_of_block (w := w) (a := ⟨ga, k * 12 + 4, none⟩) (hc.block ga hga (fun h => h))).trans (hcl 4 (by omega))
      have f5 : wr.cell? ⟨ga, k * 12 + 5, none⟩ = some (.bool ex) := (World.cell?_of_block (w := w) (a := ⟨ga, k * 12 + 5, none⟩) (hc.block ga hga (fun h => h))).trans (hcl 5 (by omega))
      have f6 : wr.cell? ⟨ga, k * 12 + 6, none⟩ = some (.bool eu) := (World.cell?_of_block (w := w) (a := ⟨ga, k * 12 + 6, none⟩) (hc.block ga hga (fun h => h))).trans (hcl 6 (by omega))
      have f7 : wr.cell? ⟨ga, k * 12 + 7, none⟩ = some (.bool eg) := (World.cell?_of_block (w := w) (a := ⟨ga, k * 12 + 7, none⟩) (hc.block ga hga (fun h => h))).trans (hcl 7 (by omega))
      have f8 : wr.cell? ⟨ga, k * 12 + 8, none⟩ = some (.bool ea) := (World.cell?_of_block (w := w) (a := ⟨ga, k * 12 + 8, none⟩) (hc.block ga hga (fun h => h))).trans (hcl 8 (by omega))
      have f9 : wr.cell? ⟨ga, k * 12 + 9, none⟩ = some (.bool ed) := (World.cell?_of_block (w := w) (a := ⟨ga, k * 12 + 9, none⟩) (hc.block ga hga (fun h => h))).trans (hcl 9 (by omega))
      have f10 : wr.cell? ⟨ga, k * 12 + 10, none⟩ = some (.int .i64 rs) := (World.cell?_of_block (w := w) (a := ⟨ga, k * 12 + 10, none⟩) (hc.block ga hga (fun h => h))).trans (hcl 10 (by omega))
      have f11 : wr.cell? ⟨ga, k * 12 + 11, none⟩ = some (.int .u64 (pp : Int)) := (World.cell?_of_block (w := w) (a := ⟨ga, k * 12 + 11, none⟩) (hc.block ga hga (fun h => h))).trans (hcl 11 (by omega))
      have d0 : wr.cell? ⟨gb, k * 12, none⟩ = some (.int .u64 (xv : Int)) := (World.cell?_of_block (w := w) (a := ⟨gb, k * 12, none⟩) (hc.block gb hgb (fun h => h))).trans (hcm 0 (by omega))
      have d1 : wr.cell? ⟨gb, k * 12 + 1, none⟩ = some (.int .i64 (xl : Int)) := (World.cell?_of_block (w := w) (a := ⟨gb, k * 12 + 1, none⟩) (hc.block gb hgb (fun h => h))).trans (hcm 1 (by omega))
      have d2 : wr.cell? ⟨gb, k * 12 + 2, none⟩ = some (.bool ev) := (World.cell?_of_block (w := w) (a := ⟨gb, k * 12 + 2, none⟩) (hc.block gb hgb (fun h => h))).trans (hcm 2 (by omega))
      have d3 : wr.cell? ⟨gb, k * 12 + 3, none⟩ = some (.bool er) := (World.cell?_of_block (w := w) (a := ⟨gb, k * 12 + 3, none⟩) (hc.block gb hgb (fun h => h))).trans (hcm 3 (by omega))
      have d4 : wr.cell? ⟨gb, k * 12 + 4, none⟩ = some (.bool ew) := (World.cell?_of_block (w := w) (a := ⟨gb, k * 12 + 4, none⟩) (hc.block gb hgb (fun h => h))).trans (hcm 4 (by omega))
      have d5 : wr.cell? ⟨gb, k * 12 + 5, none⟩ = some (.bool ex) := (World.cell?_of_block (w := w) (a := ⟨gb, k * 12 + 5, none⟩) (hc.block gb hgb (fun h => h))).trans (hcm 5 (by omega))
      have d6 : wr.cell? ⟨gb, k * 12 + 6, none⟩ = some (.bool eu) := (World.cell?_of_block (w := w) (a := ⟨gb, k * 12 + 6, none⟩) (hc.block gb hgb (fun h => h))).trans (hcm 6 (by omega))
      have d7 : wr.cell? ⟨gb, k * 12 + 7, none⟩ = some (.bool eg) := (World.cell?_of_block (w := w) (a := ⟨gb, k * 12 + 7, none⟩) (hc.block gb hgb (fun h => h))).trans (hcm 7 (by omega))
      have d8 : wr.cell? ⟨gb, k * 12 + 8, none⟩ = some (.bool ea) := (World.cell?_of_block (w := w) (a := ⟨gb, k * 12 + 8, none⟩) (hc.block gb hgb (fun h => h))).trans (hcm 8 (by omega))
      have d9 : wr.cell? ⟨gb, k * 12 + 9, none⟩ = some (.bool ed) := (World.cell?_of_block (w := w) (a := ⟨gb, k * 12 + 9, none⟩) (hc.block gb hgb (fun h => h))).trans (hcm 9 (by omega))
      have d10 : wr.cell? ⟨gb, k * 12 + 10, none⟩ = some (.int .i64 rs) := (World.cell?_of_block (w := w) (a := ⟨gb, k * 12 + 10, none⟩) (hc.block gb hgb (fun h => h))).trans (hcm 10 (by omega))
      have d11 : wr.cell? ⟨gb, k * 12 + 11, none⟩ = some (.int .u64 (pp : Int)) := (World.cell?_of_block (w := w) (a := ⟨gb, k * 12 + 11, none⟩) (hc.block gb hgb (fun h => h))).trans (hcm 11 (by omega))
      have HCH := Lib.hid hc
      have b1 : (k : Int) < (len : Int) := by omega
      clear hc hcl hcm
      go_wp2_with fail
      go_quiet (fail)
      go_wp2
      go_roundw
      case rel => exact ⟨k + 1, hlt, by go_num, HCH.out.trans (Chg.drewN _ _ _)⟩
      case measure => first | (simp [intOf]; done) | (simp [intOf]; omega)
    · obtain rfl : k = len := by omega
      have HCH := Lib.hid hc
      clear hc
      go_wp2
      go_ret
      exact ⟨rfl, HCH.out⟩
end Go.Proofs.Ytdakfgefnapglaa
