/-
  What perm.Text, perm.Flags and the reference's Text answer: contracts over the translation. Each says its own conditions.
-/
import Derived.Test.YtbdfibckbibhnaaPerm09
import Derived.Laws.BytesArg
namespace Go.Proofs.Ytbdfibckbibhnaa
open Go.RowKit
set_option linter.unusedVariables false
set_option linter.unusedSimpArgs false
attribute [local go_sem] setCell_drewN alloc_drewN

/-- a flag's sign -/
def sg (b : Bool) (c : Int) : Int := if b then c else 45
/-- an entry's text, as numbers -/
def txt (e : Ent) : List Int := [sg e.v 118, sg e.r 114, sg e.w 119, sg e.x 120, sg e.u 117, sg e.g 103, sg e.a 97, sg e.d 100]
/-- what of it is laid behind k places -/
def laid (e : Ent) (k : Nat) : List Value := ((txt e).take k ++ List.replicate (8 - k) 0).map (Value.int .u8)
theorem conv_blk {w : World} {g t : Nat} {xs : List Int} (h : Blk w g (xs.map (Value.int .u8)) t) (n cap : Nat) (hn : xs.length = n) : (convert 45 9 (.slice (some ⟨g, 0, none⟩) n cap)).run Try.prog w = .ok (.string (strOfNums xs)) w := by
  subst hn
  refine run_convert_bytes_arg w 45 5 Try.underlying45 Try.underlying5 g 0 _ cap xs rfl (fun i hi => ?_) _ Try.underlying9
  rw [Nat.zero_add, h.cell i, List.getElem?_map, List.getD_eq_getElem?_getD, List.getElem?_eq_getElem hi]; rfl
set_option maxHeartbeats 4000000 in
theorem text_any (e : Ent) (w : World) : Calls Try.prog 15 #[pv e] w fun r w' => r = .returned (.string (strOfNums (txt e))) ∧ Below w.heap.size w w' := by
  obtain ⟨v, r, x1, x, u, g, a, d, rsw, ppn⟩ := e
  unfold pv
  dsimp only
  generalize hX : strOfNums (txt ⟨v, r, x1, x, u, g, a, d, rsw, ppn⟩) = X
  have HX := Lib.hid hX; clear hX
  go_enter Try.func15, Try.ntmps15
  go_wp2_with fail
  have nb0 : Blk (w.alloc (.cells #[.bool v, .bool r, .bool x1, .bool x, .bool u, .bool g, .bool a, .bool d, .int .i64 rsw, .int .u64 (ppn : Int)] 24)) (w.heap.size) [.bool v, .bool r, .bool x1, .bool x, .bool u, .bool g, .bool a, .bool d, .int .i64 rsw, .int .u64 (ppn : Int)] 24 := Blk.new w [.bool v, .bool r, .bool x1, .bool x, .bool u, .bool g, .bool a, .bool d, .int .i64 rsw, .int .u64 (ppn : Int)] 24
  replace nb0 := nb0.alloc (.cells #[.int .u8 0, .int .u8 0, .int .u8 0, .int .u8 0, .int .u8 0, .int .u8 0, .int .u8 0, .int .u8 0] 44)
  have nb1 : Blk ((w.alloc (.cells #[.bool v, .bool r, .bool x1, .bool x, .bool u, .bool g, .bool a, .bool d, .int .i64 rsw, .int .u64 (ppn : Int)] 24)).alloc (.cells #[.int .u8 0, .int .u8 0, .int .u8 0, .int .u8 0, .int .u8 0, .int .u8 0, .int .u8 0, .int .u8 0] 44)) (w.heap.size + 1) [.int .u8 0, .int .u8 0, .int .u8 0, .int .u8 0, .int .u8 0, .int .u8 0, .int .u8 0, .int .u8 0] 44 := Blk.nextn (w.alloc (.cells #[.bool v, .bool r, .bool x1, .bool x, .bool u, .bool g, .bool a, .bool d, .int .i64 rsw, .int .u64 (ppn : Int)] 24)) (w.heap.size + 1) [.int .u8 0, .int .u8 0, .int .u8 0, .int .u8 0, .int .u8 0, .int .u8 0, .int .u8 0, .int .u8 0] 44 (by simp)
  have nl0 := (Below.refl w.heap.size w).alloc (Nat.le_refl w.heap.size) (.cells #[.bool v, .bool r, .bool x1, .bool x, .bool u, .bool g, .bool a, .bool d, .int .i64 rsw, .int .u64 (ppn : Int)] 24)
  have nl1 := nl0.alloc nl0.size (.cells #[.int .u8 0, .int .u8 0, .int .u8 0, .int .u8 0, .int .u8 0, .int .u8 0, .int .u8 0, .int .u8 0] 44)
  have nl := nl1; clear nl0 nl1
  obtain ⟨B1_1, hB1⟩ : ∃ B, B = w.heap.size + 1 := ⟨_, rfl⟩
  obtain ⟨B1_0, hB0⟩ : ∃ B, B = w.heap.size := ⟨_, rfl⟩
  obtain ⟨W1, hW⟩ : ∃ W, W = ((w.alloc (.cells #[.bool v, .bool r, .bool x1, .bool x, .bool u, .bool g, .bool a, .bool d, .int .i64 rsw, .int .u64 (ppn : Int)] 24)).alloc (.cells #[.int .u8 0, .int .u8 0, .int .u8 0, .int .u8 0, .int .u8 0, .int .u8 0, .int .u8 0, .int .u8 0] 44)) := ⟨_, rfl⟩
  rw [← hW] at nl nb0 nb1
  rw [← hB1] at nb1
  rw [← hB0] at nb0
  rw [← hW]
  try rw [← hB1]
  try rw [← hB0]
  have K1_0 := Lib.hid nb0
  have G1_0 : Hid (w.heap.size ≤ B1_0) := Lib.hid (by have := (Nat.le_refl w.heap.size); omega)
  have K1_1 := Lib.hid nb1
  have G1_1 : Hid (w.heap.size ≤ B1_1) := Lib.hid (by have := (Nat.le_refl w.heap.size); omega)
  have y1_0_1 : B1_0 ≠ B1_1 := by omega
  have Y1_0_1 := Lib.hid y1_0_1; clear y1_0_1
  have L1 := Lib.hid nl
  clear nl hW nb0 hB0 nb1 hB1
  go_loopw [23] (fun i wr => ∃ k : Nat, k ≤ 8 ∧ i = .int .i64 k ∧ Blk wr B1_1 (laid ⟨v, r, x1, x, u, g, a, d, rsw, ppn⟩ k) 44 ∧ Below w.heap.size w wr) (fun i _ => 8 - (intOf i).toNat)
  case atStart => exact ⟨0, Nat.zero_le _, rfl, K1_1.out, L1.out⟩
  case round =>
    obtain ⟨k, hk, rfl, ho, hb⟩ := hrel
    have hk' : k = 0 ∨ k = 1 ∨ k = 2 ∨ k = 3 ∨ k = 4 ∨ k = 5 ∨ k = 6 ∨ k = 7 ∨ k = 8 := by omega
    clear hk
    rcases hk' with rfl | rfl | rfl | rfl | rfl | rfl | rfl | rfl | rfl
    · cases v
      · have ho' := ho.set 0 (.int .u8 45)
        replace ho' : Blk _ B1_1 (laid ⟨false, r, x1, x, u, g, a, d, rsw, ppn⟩ 1) 44 := ho'
        have hc : wr.cell? ⟨B1_1, 0, none⟩ = some (.int .u8 0) := ho.cell 0
        have hf := ho.free 0
        have hlt := ho.lt
        have hix : ∀ w, (Instr.index 43 (.agg #[.bool false, .bool r, .bool x1, .bool x, .bool u, .bool g, .bool a, .bool d]) (.int .i64 0)).run Try.prog w = .ok (.bool false) w := fun _ => by kernel_rfl
        have HN := Lib.hid ho'; have HB := Lib.hid hb; clear ho' hb ho
        go_wp2
        go_roundw
        case rel =>
          refine ⟨1, by omega, rfl, HN.out, ?_⟩
          have hge := G1_1.out
          repeat (first | (with_reducible refine Below.setCell ?_ ?ybel _; case ybel => (first | omega | (simp <;> omega))) | (with_reducible refine Below.alloc ?_ ?ybel _; case ybel => (first | omega | (simp <;> omega))) | (with_reducible refine below_drewNs ?_ _) | (with_reducible refine Below.drew ?_) | (with_reducible exact Below.refl _ _))
          exact HB.out
        case measure => simp [intOf]
      · have ho' := ho.set 0 (.int .u8 45)
        replace ho' := ho'.set 0 (.int .u8 118)
        replace ho' : Blk _ B1_1 (laid ⟨true, r, x1, x, u, g, a, d, rsw, ppn⟩ 1) 44 := ho'
        have hc : wr.cell? ⟨B1_1, 0, none⟩ = some (.int .u8 0) := ho.cell 0
        have hf := ho.free 0
        have hlt := ho.lt
        have hix : ∀ w, (Instr.index 43 (.agg #[.bool true, .bool r, .bool x1, .bool x, .bool u, .bool g, .bool a, .bool d]) (.int .i64 0)).run Try.prog w = .ok (.bool true) w := fun _ => by kernel_rfl
        have HN := Lib.hid ho'; have HB := Lib.hid hb; clear ho' hb ho
        go_wp2
        go_roundw
        case rel =>
          refine ⟨1, by omega, rfl, HN.out, ?_⟩
          have hge := G1_1.out
          repeat (first | (with_reducible refine Below.setCell ?_ ?ybel _; case ybel => (first | omega | (simp <;> omega))) | (with_reducible refine Below.alloc ?_ ?ybel _; case ybel => (first | omega | (simp <;> omega))) | (with_reducible refine below_drewNs ?_ _) | (with_reducible refine Below.drew ?_) | (with_reducible exact Below.refl _ _))
          exact HB.out
        case measure => simp [intOf]
    · cases r
      · have ho' := ho.set 1 (.int .u8 45)
        replace ho' : Blk _ B1_1 (laid ⟨v, false, x1, x, u, g, a, d, rsw, ppn⟩ 2) 44 := ho'
        have hc : wr.cell? ⟨B1_1, 1, none⟩ = some (.int .u8 0) := ho.cell 1
        have hf := ho.free 1
        have hlt := ho.lt
        have hix : ∀ w, (Instr.index 43 (.agg #[.bool v, .bool false, .bool x1, .bool x, .bool u, .bool g, .bool a, .bool d]) (.int .i64 1)).run Try.prog w = .ok (.bool false) w := fun _ => by kernel_rfl
        have HN := Lib.hid ho'; have HB := Lib.hid hb; clear ho' hb ho
        go_wp2
        go_roundw
        case rel =>
          refine ⟨2, by omega, rfl, HN.out, ?_⟩
          have hge := G1_1.out
          repeat (first | (with_reducible refine Below.setCell ?_ ?ybel _; case ybel => (first | omega | (simp <;> omega))) | (with_reducible refine Below.alloc ?_ ?ybel _; case ybel => (first | omega | (simp <;> omega))) | (with_reducible refine below_drewNs ?_ _) | (with_reducible refine Below.drew ?_) | (with_reducible exact Below.refl _ _))
          exact HB.out
        case measure => simp [intOf]
      · have ho' := ho.set 1 (.int .u8 45)
        replace ho' := ho'.set 1 (.int .u8 114)
        replace ho' : Blk _ B1_1 (laid ⟨v, true, x1, x, u, g, a, d, rsw, ppn⟩ 2) 44 := ho'
        have hc : wr.cell? ⟨B1_1, 1, none⟩ = some (.int .u8 0) := ho.cell 1
        have hf := ho.free 1
        have hlt := ho.lt
        have hix : ∀ w, (Instr.index 43 (.agg #[.bool v, .bool true, .bool x1, .bool x, .bool u, .bool g, .bool a, .bool d]) (.int .i64 1)).run Try.prog w = .ok (.bool true) w := fun _ => by kernel_rfl
        have HN := Lib.hid ho'; have HB := Lib.hid hb; clear ho' hb ho
        go_wp2
        go_roundw
        case rel =>
          refine ⟨2, by omega, rfl, HN.out, ?_⟩
          have hge := G1_1.out
          repeat (first | (with_reducible refine Below.setCell ?_ ?ybel _; case ybel => (first | omega | (simp <;> omega))) | (with_reducible refine Below.alloc ?_ ?ybel _; case ybel => (first | omega | (simp <;> omega))) | (with_reducible refine below_drewNs ?_ _) | (with_reducible refine Below.drew ?_) | (with_reducible exact Below.refl _ _))
          exact HB.out
        case measure => simp [intOf]
    · cases x1
      · have ho' := ho.set 2 (.int .u8 45)
        replace ho' : Blk _ B1_1 (laid ⟨v, r, false, x, u, g, a, d, rsw, ppn⟩ 3) 44 := ho'
        have hc : wr.cell? ⟨B1_1, 2, none⟩ = some (.int .u8 0) := ho.cell 2
        have hf := ho.free 2
        have hlt := ho.lt
        have hix : ∀ w, (Instr.index 43 (.agg #[.bool v, .bool r, .bool false, .bool x, .bool u, .bool g, .bool a, .bool d]) (.int .i64 2)).run Try.prog w = .ok (.bool false) w := fun _ => by kernel_rfl
        have HN := Lib.hid ho'; have HB := Lib.hid hb; clear ho' hb ho
        go_wp2
        go_roundw
        case rel =>
          refine ⟨3, by omega, rfl, HN.out, ?_⟩
          have hge := G1_1.out
          repeat (first | (with_reducible refine Below.setCell ?_ ?ybel _; case ybel => (first | omega | (simp <;> omega))) | (with_reducible refine Below.alloc ?_ ?ybel _; case ybel => (first | omega | (simp <;> omega))) | (with_reducible refine below_drewNs ?_ _) | (with_reducible refine Below.drew ?_) | (with_reducible exact Below.refl _ _))
          exact HB.out
        case measure => simp [intOf]
      · have ho' := ho.set 2 (.int .u8 45)
        replace ho' := ho'.set 2 (.int .u8 119)
        replace ho' : Blk _ B1_1 (laid ⟨v, r, true, x, u, g, a, d, rsw, ppn⟩ 3) 44 := ho'
        have hc : wr.cell? ⟨B1_1, 2, none⟩ = some (.int .u8 0) := ho.cell 2
        have hf := ho.free 2
        have hlt := ho.lt
        have hix : ∀ w, (Instr.index 43 (.agg #[.bool v, .bool r, .bool true, .bool x, .bool u, .bool g, .bool a, .bool d]) (.int .i64 2)).run Try.prog w = .ok (.bool true) w := fun _ => by kernel_rfl
        have HN := Lib.hid ho'; have HB := Lib.hid hb; clear ho' hb ho
        go_wp2
        go_roundw
        case rel =>
          refine ⟨3, by omega, rfl, HN.out, ?_⟩
          have hge := G1_1.out
          repeat (first | (with_reducible refine Below.setCell ?_ ?ybel _; case ybel => (first | omega | (simp <;> omega))) | (with_reducible refine Below.alloc ?_ ?ybel _; case ybel => (first | omega | (simp <;> omega))) | (with_reducible refine below_drewNs ?_ _) | (with_reducible refine Below.drew ?_) | (with_reducible exact Below.refl _ _))
          exact HB.out
        case measure => simp [intOf]
    · cases x
      · have ho' := ho.set 3 (.int .u8 45)
        replace ho' : Blk _ B1_1 (laid ⟨v, r, x1, false, u, g, a, d, rsw, ppn⟩ 4) 44 := ho'
        have hc : wr.cell? ⟨B1_1, 3, none⟩ = some (.int .u8 0) := ho.cell 3
        have hf := ho.free 3
        have hlt := ho.lt
        have hix : ∀ w, (Instr.index 43 (.agg #[.bool v, .bool r, .bool x1, .bool false, .bool u, .bool g, .bool a, .bool d]) (.int .i64 3)).run Try.prog w = .ok (.bool false) w := fun _ => by kernel_rfl
        have HN := Lib.hid ho'; have HB := Lib.hid hb; clear ho' hb ho
        go_wp2
        go_roundw
        case rel =>
          refine ⟨4, by omega, rfl, HN.out, ?_⟩
          have hge := G1_1.out
          repeat (first | (with_reducible refine Below.setCell ?_ ?ybel _; case ybel => (first | omega | (simp <;> omega))) | (with_reducible refine Below.alloc ?_ ?ybel _; case ybel => (first | omega | (simp <;> omega))) | (with_reducible refine below_drewNs ?_ _) | (with_reducible refine Below.drew ?_) | (with_reducible exact Below.refl _ _))
          exact HB.out
        case measure => simp [intOf]
      · have ho' := ho.set 3 (.int .u8 45)
        replace ho' := ho'.set 3 (.int .u8 120)
        replace ho' : Blk _ B1_1 (laid ⟨v, r, x1, true, u, g, a, d, rsw, ppn⟩ 4) 44 := ho'
        have hc : wr.cell? ⟨B1_1, 3, none⟩ = some (.int .u8 0) := ho.cell 3
        have hf := ho.free 3
        have hlt := ho.lt
        have hix : ∀ w, (Instr.index 43 (.agg #[.bool v, .bool r, .bool x1, .bool true, .bool u, .bool g, .bool a, .bool d]) (.int .i64 3)).run Try.prog w = .ok (.bool true) w := fun _ => by kernel_rfl
        have HN := Lib.hid ho'; have HB := Lib.hid hb; clear ho' hb ho
        go_wp2
        go_roundw
        case rel =>
          refine ⟨4, by omega, rfl, HN.out, ?_⟩
          have hge := G1_1.out
          repeat (first | (with_reducible refine Below.setCell ?_ ?ybel _; case ybel => (first | omega | (simp <;> omega))) | (with_reducible refine Below.alloc ?_ ?ybel _; case ybel => (first | omega | (simp <;> omega))) | (with_reducible refine below_drewNs ?_ _) | (with_reducible refine Below.drew ?_) | (with_reducible exact Below.refl _ _))
          exact HB.out
        case measure => simp [intOf]
    · cases u
      · have ho' := ho.set 4 (.int .u8 45)
        replace ho' : Blk _ B1_1 (laid ⟨v, r, x1, x, false, g, a, d, rsw, ppn⟩ 5) 44 := ho'
        have hc : wr.cell? ⟨B1_1, 4, none⟩ = some (.int .u8 0) := ho.cell 4
        have hf := ho.free 4
        have hlt := ho.lt
        have hix : ∀ w, (Instr.index 43 (.agg #[.bool v, .bool r, .bool x1, .bool x, .bool false, .bool g, .bool a, .bool d]) (.int .i64 4)).run Try.prog w = .ok (.bool false) w := fun _ => by kernel_rfl
        have HN := Lib.hid ho'; have HB := Lib.hid hb; clear ho' hb ho
        go_wp2
        go_roundw
        case rel =>
          refine ⟨5, by omega, rfl, HN.out, ?_⟩
          have hge := G1_1.out
          repeat (first | (with_reducible refine Below.setCell ?_ ?ybel _; case ybel => (first | omega | (simp <;> omega))) | (with_reducible refine Below.alloc ?_ ?ybel _; case ybel => (first | omega | (simp <;> omega))) | (with_reducible refine below_drewNs ?_ _) | (with_reducible refine Below.drew ?_) | (with_reducible exact Below.refl _ _))
          exact HB.out
        case measure => simp [intOf]
      · have ho' := ho.set 4 (.int .u8 45)
        replace ho' := ho'.set 4 (.int .u8 117)
        replace ho' : Blk _ B1_1 (laid ⟨v, r, x1, x, true, g, a, d, rsw, ppn⟩ 5) 44 := ho'
        have hc : wr.cell? ⟨B1_1, 4, none⟩ = some (.int .u8 0) := ho.cell 4
        have hf := ho.free 4
        have hlt := ho.lt
        have hix : ∀ w, (Instr.index 43 (.agg #[.bool v, .bool r, .bool x1, .bool x, .bool true, .bool g, .bool a, .bool d]) (.int .i64 4)).run Try.prog w = .ok (.bool true) w := fun _ => by kernel_rfl
        have HN := Lib.hid ho'; have HB := Lib.hid hb; clear ho' hb ho
        go_wp2
        go_roundw
        case rel =>
          refine ⟨5, by omega, rfl, HN.out, ?_⟩
          have hge := G1_1.out
          repeat (first | (with_reducible refine Below.setCell ?_ ?ybel _; case ybel => (first | omega | (simp <;> omega))) | (with_reducible refine Below.alloc ?_ ?ybel _; case ybel => (first | omega | (simp <;> omega))) | (with_reducible refine below_drewNs ?_ _) | (with_reducible refine Below.drew ?_) | (with_reducible exact Below.refl _ _))
          exact HB.out
        case measure => simp [intOf]
    · cases g
      · have ho' := ho.set 5 (.int .u8 45)
        replace ho' : Blk _ B1_1 (laid ⟨v, r, x1, x, u, false, a, d, rsw, ppn⟩ 6) 44 := ho'
        have hc : wr.cell? ⟨B1_1, 5, none⟩ = some (.int .u8 0) := ho.cell 5
        have hf := ho.free 5
        have hlt := ho.lt
        have hix : ∀ w, (Instr.index 43 (.agg #[.bool v, .bool r, .bool x1, .bool x, .bool u, .bool false, .bool a, .bool d]) (.int .i64 5)).run Try.prog w = .ok (.bool false) w := fun _ => by kernel_rfl
        have HN := Lib.hid ho'; have HB := Lib.hid hb; clear ho' hb ho
        go_wp2
        go_roundw
        case rel =>
          refine ⟨6, by omega, rfl, HN.out, ?_⟩
          have hge := G1_1.out
          repeat (first | (with_reducible refine Below.setCell ?_ ?ybel _; case ybel => (first | omega | (simp <;> omega))) | (with_reducible refine Below.alloc ?_ ?ybel _; case ybel => (first | omega | (simp <;> omega))) | (with_reducible refine below_drewNs ?_ _) | (with_reducible refine Below.drew ?_) | (with_reducible exact Below.refl _ _))
          exact HB.out
        case measure => simp [intOf]
      · have ho' := ho.set 5 (.int .u8 45)
        replace ho' := ho'.set 5 (.int .u8 103)
        replace ho' : Blk _ B1_1 (laid ⟨v, r, x1, x, u, true, a, d, rsw, ppn⟩ 6) 44 := ho'
        have hc : wr.cell? ⟨B1_1, 5, none⟩ = some (.int .u8 0) := ho.cell 5
        have hf := ho.free 5
        have hlt := ho.lt
        have hix : ∀ w, (Instr.index 43 (.agg #[.bool v, .bool r, .bool x1, .bool x, .bool u, .bool true, .bool a, .bool d]) (.int .i64 5)).run Try.prog w = .ok (.bool true) w := fun _ => by kernel_rfl
        have HN := Lib.hid ho'; have HB := Lib.hid hb; clear ho' hb ho
        go_wp2
        go_roundw
        case rel =>
          refine ⟨6, by omega, rfl, HN.out, ?_⟩
          have hge := G1_1.out
          repeat (first | (with_reducible refine Below.setCell ?_ ?ybel _; case ybel => (first | omega | (simp <;> omega))) | (with_reducible refine Below.alloc ?_ ?ybel _; case ybel => (first | omega | (simp <;> omega))) | (with_reducible refine below_drewNs ?_ _) | (with_reducible refine Below.drew ?_) | (with_reducible exact Below.refl _ _))
          exact HB.out
        case measure => simp [intOf]
    · cases a
      · have ho' := ho.set 6 (.int .u8 45)
        replace ho' : Blk _ B1_1 (laid ⟨v, r, x1, x, u, g, false, d, rsw, ppn⟩ 7) 44 := ho'
        have hc : wr.cell? ⟨B1_1, 6, none⟩ = some (.int .u8 0) := ho.cell 6
        have hf := ho.free 6
        have hlt := ho.lt
        have hix : ∀ w, (Instr.index 43 (.agg #[.bool v, .bool r, .bool x1, .bool x, .bool u, .bool g, .bool false, .bool d]) (.int .i64 6)).run Try.prog w = .ok (.bool false) w := fun _ => by kernel_rfl
        have HN := Lib.hid ho'; have HB := Lib.hid hb; clear ho' hb ho
        go_wp2
        go_roundw
        case rel =>
          refine ⟨7, by omega, rfl, HN.out, ?_⟩
          have hge := G1_1.out
          repeat (first | (with_reducible refine Below.setCell ?_ ?ybel _; case ybel => (first | omega | (simp <;> omega))) | (with_reducible refine Below.alloc ?_ ?ybel _; case ybel => (first | omega | (simp <;> omega))) | (with_reducible refine below_drewNs ?_ _) | (with_reducible refine Below.drew ?_) | (with_reducible exact Below.refl _ _))
          exact HB.out
        case measure => simp [intOf]
      · have ho' := ho.set 6 (.int .u8 45)
        replace ho' := ho'.set 6 (.int .u8 97)
        replace ho' : Blk _ B1_1 (laid ⟨v, r, x1, x, u, g, true, d, rsw, ppn⟩ 7) 44 := ho'
        have hc : wr.cell? ⟨B1_1, 6, none⟩ = some (.int .u8 0) := ho.cell 6
        have hf := ho.free 6
        have hlt := ho.lt
        have hix : ∀ w, (Instr.index 43 (.agg #[.bool v, .bool r, .bool x1, .bool x, .bool u, .bool g, .bool true, .bool d]) (.int .i64 6)).run Try.prog w = .ok (.bool true) w := fun _ => by kernel_rfl
        have HN := Lib.hid ho'; have HB := Lib.hid hb; clear ho' hb ho
        go_wp2
        go_roundw
        case rel =>
          refine ⟨7, by omega, rfl, HN.out, ?_⟩
          have hge := G1_1.out
          repeat (first | (with_reducible refine Below.setCell ?_ ?ybel _; case ybel => (first | omega | (simp <;> omega))) | (with_reducible refine Below.alloc ?_ ?ybel _; case ybel => (first | omega | (simp <;> omega))) | (with_reducible refine below_drewNs ?_ _) | (with_reducible refine Below.drew ?_) | (with_reducible exact Below.refl _ _))
          exact HB.out
        case measure => simp [intOf]
    · cases d
      · have ho' := ho.set 7 (.int .u8 45)
        replace ho' : Blk _ B1_1 (laid ⟨v, r, x1, x, u, g, a, false, rsw, ppn⟩ 8) 44 := ho'
        have hc : wr.cell? ⟨B1_1, 7, none⟩ = some (.int .u8 0) := ho.cell 7
        have hf := ho.free 7
        have hlt := ho.lt
        have hix : ∀ w, (Instr.index 43 (.agg #[.bool v, .bool r, .bool x1, .bool x, .bool u, .bool g, .bool a, .bool false]) (.int .i64 7)).run Try.prog w = .ok (.bool false) w := fun _ => by kernel_rfl
        have HN := Lib.hid ho'; have HB := Lib.hid hb; clear ho' hb ho
        go_wp2
        go_roundw
        case rel =>
          refine ⟨8, by omega, rfl, HN.out, ?_⟩
          have hge := G1_1.out
          repeat (first | (with_reducible refine Below.setCell ?_ ?ybel _; case ybel => (first | omega | (simp <;> omega))) | (with_reducible refine Below.alloc ?_ ?ybel _; case ybel => (first | omega | (simp <;> omega))) | (with_reducible refine below_drewNs ?_ _) | (with_reducible refine Below.drew ?_) | (with_reducible exact Below.refl _ _))
          exact HB.out
        case measure => simp [intOf]
      · have ho' := ho.set 7 (.int .u8 45)
        replace ho' := ho'.set 7 (.int .u8 100)
        replace ho' : Blk _ B1_1 (laid ⟨v, r, x1, x, u, g, a, true, rsw, ppn⟩ 8) 44 := ho'
        have hc : wr.cell? ⟨B1_1, 7, none⟩ = some (.int .u8 0) := ho.cell 7
        have hf := ho.free 7
        have hlt := ho.lt
        have hix : ∀ w, (Instr.index 43 (.agg #[.bool v, .bool r, .bool x1, .bool x, .bool u, .bool g, .bool a, .bool true]) (.int .i64 7)).run Try.prog w = .ok (.bool true) w := fun _ => by kernel_rfl
        have HN := Lib.hid ho'; have HB := Lib.hid hb; clear ho' hb ho
        go_wp2
        go_roundw
        case rel =>
          refine ⟨8, by omega, rfl, HN.out, ?_⟩
          have hge := G1_1.out
          repeat (first | (with_reducible refine Below.setCell ?_ ?ybel _; case ybel => (first | omega | (simp <;> omega))) | (with_reducible refine Below.alloc ?_ ?ybel _; case ybel => (first | omega | (simp <;> omega))) | (with_reducible refine below_drewNs ?_ _) | (with_reducible refine Below.drew ?_) | (with_reducible exact Below.refl _ _))
          exact HB.out
        case measure => simp [intOf]
    · have hcv := conv_blk (xs := txt ⟨v, r, x1, x, u, g, a, d, rsw, ppn⟩) ho 8 8 rfl
      rw [HX.out] at hcv
      go_wp2
      go_ret
      exact ⟨rfl, hb⟩
theorem str_size (xs : List Int) : (strOfNums xs).size = xs.length := by simp [strOfNums, ByteArray.size]
theorem str_snoc (xs : List Int) (c : Int) (b : UInt8) (h : UInt8.ofNat c.toNat = b) : strOfNums xs ++ ⟨#[b]⟩ = strOfNums (xs ++ [c]) := by
  subst h
  apply ByteArray.ext
  simp [strOfNums]
set_option maxHeartbeats 4000000 in
theorem rtext_any (e : Ent) (w : World) : Calls Try.prog 16 #[pv e] w fun r w' => r = .returned (.string (strOfNums (txt e))) ∧ Below w.heap.size w w' := by
  obtain ⟨v, r, x1, x, u, g, a, d, rsw, ppn⟩ := e
  unfold pv
  dsimp only
  generalize hX : strOfNums (txt ⟨v, r, x1, x, u, g, a, d, rsw, ppn⟩) = X
  have HX := Lib.hid hX; clear hX
  go_enter Try.func16, Try.ntmps16
  go_wp2_with fail
  have nb0 : Blk (w.alloc (.cells #[.bool v, .bool r, .bool x1, .bool x, .bool u, .bool g, .bool a, .bool d, .int .i64 rsw, .int .u64 (ppn : Int)] 24)) (w.heap.size) [.bool v, .bool r, .bool x1, .bool x, .bool u, .bool g, .bool a, .bool d, .int .i64 rsw, .int .u64 (ppn : Int)] 24 := Blk.new w [.bool v, .bool r, .bool x1, .bool x, .bool u, .bool g, .bool a, .bool d, .int .i64 rsw, .int .u64 (ppn : Int)] 24
  replace nb0 := nb0.alloc (.cells #[.bool v, .bool r, .bool x1, .bool x, .bool u, .bool g, .bool a, .bool d] 4)
  have nb1 : Blk ((w.alloc (.cells #[.bool v, .bool r, .bool x1, .bool x, .bool u, .bool g, .bool a, .bool d, .int .i64 rsw, .int .u64 (ppn : Int)] 24)).alloc (.cells #[.bool v, .bool r, .bool x1, .bool x, .bool u, .bool g, .bool a, .bool d] 4)) (w.heap.size + 1) [.bool v, .bool r, .bool x1, .bool x, .bool u, .bool g, .bool a, .bool d] 4 := Blk.nextn (w.alloc (.cells #[.bool v, .bool r, .bool x1, .bool x, .bool u, .bool g, .bool a, .bool d, .int .i64 rsw, .int .u64 (ppn : Int)] 24)) (w.heap.size + 1) [.bool v, .bool r, .bool x1, .bool x, .bool u, .bool g, .bool a, .bool d] 4 (by simp)
  have nl0 := (Below.refl w.heap.size w).alloc (Nat.le_refl w.heap.size) (.cells #[.bool v, .bool r, .bool x1, .bool x, .bool u, .bool g, .bool a, .bool d, .int .i64 rsw, .int .u64 (ppn : Int)] 24)
  have nl1 := nl0.alloc nl0.size (.cells #[.bool v, .bool r, .bool x1, .bool x, .bool u, .bool g, .bool a, .bool d] 4)
  have nl := nl1; clear nl0 nl1
  obtain ⟨B1_1, hB1⟩ : ∃ B, B = w.heap.size + 1 := ⟨_, rfl⟩
  obtain ⟨B1_0, hB0⟩ : ∃ B, B = w.heap.size := ⟨_, rfl⟩
  obtain ⟨W1, hW⟩ : ∃ W, W = ((w.alloc (.cells #[.bool v, .bool r, .bool x1, .bool x, .bool u, .bool g, .bool a, .bool d, .int .i64 rsw, .int .u64 (ppn : Int)] 24)).alloc (.cells #[.bool v, .bool r, .bool x1, .bool x, .bool u, .bool g, .bool a, .bool d] 4)) := ⟨_, rfl⟩
  rw [← hW] at nl nb0 nb1
  rw [← hB1] at nb1
  rw [← hB0] at nb0
  rw [← hW]
  try rw [← hB1]
  try rw [← hB0]
  have K1_0 := Lib.hid nb0
  have G1_0 : Hid (w.heap.size ≤ B1_0) := Lib.hid (by have := (Nat.le_refl w.heap.size); omega)
  have K1_1 := Lib.hid nb1
  have G1_1 : Hid (w.heap.size ≤ B1_1) := Lib.hid (by have := (Nat.le_refl w.heap.size); omega)
  have y1_0_1 : B1_0 ≠ B1_1 := by omega
  have Y1_0_1 := Lib.hid y1_0_1; clear y1_0_1
  have L1 := Lib.hid nl
  clear nl hW nb0 hB0 nb1 hB1
  have m1_0 : W1.cell? ⟨B1_1, 0, none⟩ = some _ := K1_1.out.cell 0
  have m1_1 : W1.cell? ⟨B1_1, 1, none⟩ = some _ := K1_1.out.cell 1
  have m1_2 : W1.cell? ⟨B1_1, 2, none⟩ = some _ := K1_1.out.cell 2
  have m1_3 : W1.cell? ⟨B1_1, 3, none⟩ = some _ := K1_1.out.cell 3
  have m1_4 : W1.cell? ⟨B1_1, 4, none⟩ = some _ := K1_1.out.cell 4
  have m1_5 : W1.cell? ⟨B1_1, 5, none⟩ = some _ := K1_1.out.cell 5
  have m1_6 : W1.cell? ⟨B1_1, 6, none⟩ = some _ := K1_1.out.cell 6
  have m1_7 : W1.cell? ⟨B1_1, 7, none⟩ = some _ := K1_1.out.cell 7
  have mlt1 : B1_1 < W1.heap.size := K1_1.out.lt
  go_loop [3, 24] (fun z i => ∃ k : Nat, k ≤ 8 ∧ i = .int .i64 k ∧ z = .string (strOfNums ((txt ⟨v, r, x1, x, u, g, a, d, rsw, ppn⟩).take k))) (fun _ i => 8 - (intOf i).toNat)
  case atStart => exact ⟨0, Nat.zero_le _, rfl, rfl⟩
  case round =>
    obtain ⟨k, hk, rfl, rfl⟩ := hrel
    have hk' : k = 0 ∨ k = 1 ∨ k = 2 ∨ k = 3 ∨ k = 4 ∨ k = 5 ∨ k = 6 ∨ k = 7 ∨ k = 8 := by omega
    clear hk
    rcases hk' with rfl | rfl | rfl | rfl | rfl | rfl | rfl | rfl | rfl
    · cases v
      · have hs := str_snoc ((txt ⟨false, r, x1, x, u, g, a, d, rsw, ppn⟩).take 0) 45 45 rfl
        have hsz : (strOfNums ((txt ⟨false, r, x1, x, u, g, a, d, rsw, ppn⟩).take 0)).size = 0 := str_size _
        generalize strOfNums ((txt ⟨false, r, x1, x, u, g, a, d, rsw, ppn⟩).take 0) = Z at hs hsz
        have HS := Lib.hid hs; clear hs
        go_wp2
        go_round
        case rel => exact ⟨1, by omega, rfl, by rw [HS.out]; rfl⟩
        case measure => simp [intOf]
      · have hs := str_snoc ((txt ⟨true, r, x1, x, u, g, a, d, rsw, ppn⟩).take 0) 118 118 rfl
        have hsz : (strOfNums ((txt ⟨true, r, x1, x, u, g, a, d, rsw, ppn⟩).take 0)).size = 0 := str_size _
        generalize strOfNums ((txt ⟨true, r, x1, x, u, g, a, d, rsw, ppn⟩).take 0) = Z at hs hsz
        have HS := Lib.hid hs; clear hs
        have hx : ByteArray.extract ⟨#[118, 114, 119, 120, 117, 103, 97, 100]⟩ 0 1 = ⟨#[118]⟩ := by decide
        go_wp2
        go_round
        case rel => exact ⟨1, by omega, rfl, by rw [HS.out]; rfl⟩
        case measure => simp [intOf]
    · cases r
      · have hs := str_snoc ((txt ⟨v, false, x1, x, u, g, a, d, rsw, ppn⟩).take 1) 45 45 rfl
        have hsz : (strOfNums ((txt ⟨v, false, x1, x, u, g, a, d, rsw, ppn⟩).take 1)).size = 1 := str_size _
        generalize strOfNums ((txt ⟨v, false, x1, x, u, g, a, d, rsw, ppn⟩).take 1) = Z at hs hsz
        have HS := Lib.hid hs; clear hs
        go_wp2
        go_round
        case rel => exact ⟨2, by omega, rfl, by rw [HS.out]; rfl⟩
        case measure => simp [intOf]
      · have hs := str_snoc ((txt ⟨v, true, x1, x, u, g, a, d, rsw, ppn⟩).take 1) 114 114 rfl
        have hsz : (strOfNums ((txt ⟨v, true, x1, x, u, g, a, d, rsw, ppn⟩).take 1)).size = 1 := str_size _
        generalize strOfNums ((txt ⟨v, true, x1, x, u, g, a, d, rsw, ppn⟩).take 1) = Z at hs hsz
        have HS := Lib.hid hs; clear hs
        have hx : ByteArray.extract ⟨#[118, 114, 119, 120, 117, 103, 97, 100]⟩ 1 2 = ⟨#[114]⟩ := by decide
        go_wp2
        go_round
        case rel => exact ⟨2, by omega, rfl, by rw [HS.out]; rfl⟩
        case measure => simp [intOf]
    · cases x1
      · have hs := str_snoc ((txt ⟨v, r, false, x, u, g, a, d, rsw, ppn⟩).take 2) 45 45 rfl
        have hsz : (strOfNums ((txt ⟨v, r, false, x, u, g, a, d, rsw, ppn⟩).take 2)).size = 2 := str_size _
        generalize strOfNums ((txt ⟨v, r, false, x, u, g, a, d, rsw, ppn⟩).take 2) = Z at hs hsz
        have HS := Lib.hid hs; clear hs
        go_wp2
        go_round
        case rel => exact ⟨3, by omega, rfl, by rw [HS.out]; rfl⟩
        case measure => simp [intOf]
      · have hs := str_snoc ((txt ⟨v, r, true, x, u, g, a, d, rsw, ppn⟩).take 2) 119 119 rfl
        have hsz : (strOfNums ((txt ⟨v, r, true, x, u, g, a, d, rsw, ppn⟩).take 2)).size = 2 := str_size _
        generalize strOfNums ((txt ⟨v, r, true, x, u, g, a, d, rsw, ppn⟩).take 2) = Z at hs hsz
        have HS := Lib.hid hs; clear hs
        have hx : ByteArray.extract ⟨#[118, 114, 119, 120, 117, 103, 97, 100]⟩ 2 3 = ⟨#[119]⟩ := by decide
        go_wp2
        go_round
        case rel => exact ⟨3, by omega, rfl, by rw [HS.out]; rfl⟩
        case measure => simp [intOf]
    · cases x
      · have hs := str_snoc ((txt ⟨v, r, x1, false, u, g, a, d, rsw, ppn⟩).take 3) 45 45 rfl
        have hsz : (strOfNums ((txt ⟨v, r, x1, false, u, g, a, d, rsw, ppn⟩).take 3)).size = 3 := str_size _
        generalize strOfNums ((txt ⟨v, r, x1, false, u, g, a, d, rsw, ppn⟩).take 3) = Z at hs hsz
        have HS := Lib.hid hs; clear hs
        go_wp2
        go_round
        case rel => exact ⟨4, by omega, rfl, by rw [HS.out]; rfl⟩
        case measure => simp [intOf]
      · have hs := str_snoc ((txt ⟨v, r, x1, true, u, g, a, d, rsw, ppn⟩).take 3) 120 120 rfl
        have hsz : (strOfNums ((txt ⟨v, r, x1, true, u, g, a, d, rsw, ppn⟩).take 3)).size = 3 := str_size _
        generalize strOfNums ((txt ⟨v, r, x1, true, u, g, a, d, rsw, ppn⟩).take 3) = Z at hs hsz
        have HS := Lib.hid hs; clear hs
        have hx : ByteArray.extract ⟨#[118, 114, 119, 120, 117, 103, 97, 100]⟩ 3 4 = ⟨#[120]⟩ := by decide
        go_wp2
        go_round
        case rel => exact ⟨4, by omega, rfl, by rw [HS.out]; rfl⟩
        case measure => simp [intOf]
    · cases u
      · have hs := str_snoc ((txt ⟨v, r, x1, x, false, g, a, d, rsw, ppn⟩).take 4) 45 45 rfl
        have hsz : (strOfNums ((txt ⟨v, r, x1, x, false, g, a, d, rsw, ppn⟩).take 4)).size = 4 := str_size _
        generalize strOfNums ((txt ⟨v, r, x1, x, false, g, a, d, rsw, ppn⟩).take 4) = Z at hs hsz
        have HS := Lib.hid hs; clear hs
        go_wp2
        go_round
        case rel => exact ⟨5, by omega, rfl, by rw [HS.out]; rfl⟩
        case measure => simp [intOf]
      · have hs := str_snoc ((txt ⟨v, r, x1, x, true, g, a, d, rsw, ppn⟩).take 4) 117 117 rfl
        have hsz : (strOfNums ((txt ⟨v, r, x1, x, true, g, a, d, rsw, ppn⟩).take 4)).size = 4 := str_size _
        generalize strOfNums ((txt ⟨v, r, x1, x, true, g, a, d, rsw, ppn⟩).take 4) = Z at hs hsz
        have HS := Lib.hid hs; clear hs
        have hx : ByteArray.extract ⟨#[118, 114, 119, 120, 117, 103, 97, 100]⟩ 4 5 = ⟨#[117]⟩ := by decide
        go_wp2
        go_round
        case rel => exact ⟨5, by omega, rfl, by rw [HS.out]; rfl⟩
        case measure => simp [intOf]
    · cases g
      · have hs := str_snoc ((txt ⟨v, r, x1, x, u, false, a, d, rsw, ppn⟩).take 5) 45 45 rfl
        have hsz : (strOfNums ((txt ⟨v, r, x1, x, u, false, a, d, rsw, ppn⟩).take 5)).size = 5 := str_size _
        generalize strOfNums ((txt ⟨v, r, x1, x, u, false, a, d, rsw, ppn⟩).take 5) = Z at hs hsz
        have HS := Lib.hid hs; clear hs
        go_wp2
        go_round
        case rel => exact ⟨6, by omega, rfl, by rw [HS.out]; rfl⟩
        case measure => simp [intOf]
      · have hs := str_snoc ((txt ⟨v, r, x1, x, u, true, a, d, rsw, ppn⟩).take 5) 103 103 rfl
        have hsz : (strOfNums ((txt ⟨v, r, x1, x, u, true, a, d, rsw, ppn⟩).take 5)).size = 5 := str_size _
        generalize strOfNums ((txt ⟨v, r, x1, x, u, true, a, d, rsw, ppn⟩).take 5) = Z at hs hsz
        have HS := Lib.hid hs; clear hs
        have hx : ByteArray.extract ⟨#[118, 114, 119, 120, 117, 103, 97, 100]⟩ 5 6 = ⟨#[103]⟩ := by decide
        go_wp2
        go_round
        case rel => exact ⟨6, by omega, rfl, by rw [HS.out]; rfl⟩
        case measure => simp [intOf]
    · cases a
      · have hs := str_snoc ((txt ⟨v, r, x1, x, u, g, false, d, rsw, ppn⟩).take 6) 45 45 rfl
        have hsz : (strOfNums ((txt ⟨v, r, x1, x, u, g, false, d, rsw, ppn⟩).take 6)).size = 6 := str_size _
        generalize strOfNums ((txt ⟨v, r, x1, x, u, g, false, d, rsw, ppn⟩).take 6) = Z at hs hsz
        have HS := Lib.hid hs; clear hs
        go_wp2
        go_round
        case rel => exact ⟨7, by omega, rfl, by rw [HS.out]; rfl⟩
        case measure => simp [intOf]
      · have hs := str_snoc ((txt ⟨v, r, x1, x, u, g, true, d, rsw, ppn⟩).take 6) 97 97 rfl
        have hsz : (strOfNums ((txt ⟨v, r, x1, x, u, g, true, d, rsw, ppn⟩).take 6)).size = 6 := str_size _
        generalize strOfNums ((txt ⟨v, r, x1, x, u, g, true, d, rsw, ppn⟩).take 6) = Z at hs hsz
        have HS := Lib.hid hs; clear hs
        have hx : ByteArray.extract ⟨#[118, 114, 119, 120, 117, 103, 97, 100]⟩ 6 7 = ⟨#[97]⟩ := by decide
        go_wp2
        go_round
        case rel => exact ⟨7, by omega, rfl, by rw [HS.out]; rfl⟩
        case measure => simp [intOf]
    · cases d
      · have hs := str_snoc ((txt ⟨v, r, x1, x, u, g, a, false, rsw, ppn⟩).take 7) 45 45 rfl
        have hsz : (strOfNums ((txt ⟨v, r, x1, x, u, g, a, false, rsw, ppn⟩).take 7)).size = 7 := str_size _
        generalize strOfNums ((txt ⟨v, r, x1, x, u, g, a, false, rsw, ppn⟩).take 7) = Z at hs hsz
        have HS := Lib.hid hs; clear hs
        go_wp2
        go_round
        case rel => exact ⟨8, by omega, rfl, by rw [HS.out]; rfl⟩
        case measure => simp [intOf]
      · have hs := str_snoc ((txt ⟨v, r, x1, x, u, g, a, true, rsw, ppn⟩).take 7) 100 100 rfl
        have hsz : (strOfNums ((txt ⟨v, r, x1, x, u, g, a, true, rsw, ppn⟩).take 7)).size = 7 := str_size _
        generalize strOfNums ((txt ⟨v, r, x1, x, u, g, a, true, rsw, ppn⟩).take 7) = Z at hs hsz
        have HS := Lib.hid hs; clear hs
        have hx : ByteArray.extract ⟨#[118, 114, 119, 120, 117, 103, 97, 100]⟩ 7 8 = ⟨#[100]⟩ := by decide
        go_wp2
        go_round
        case rel => exact ⟨8, by omega, rfl, by rw [HS.out]; rfl⟩
        case measure => simp [intOf]
    · have hl : strOfNums ((txt ⟨v, r, x1, x, u, g, a, d, rsw, ppn⟩).take 8) = X := HX.out
      rw [hl]
      go_wp2
      go_ret
      exact ⟨rfl, L1.out⟩
end Go.Proofs.Ytbdfibckbibhnaa
