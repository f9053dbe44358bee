/-
  A leaf: an entry, its level, where it stands; as the program has it. No function of the program stands here.
-/
import Derived.Test.YtgnjbjbgfhjakaaGreatBits08
import Derived.Test.YtgnjbjbgfhjakaaGreatHeap
namespace Go.Proofs.YtgnjbjbgfhjakaaGreat
open Go.RowKit
set_option linter.unusedVariables false
set_option linter.unusedSimpArgs false

/-- a leaf: an entry, its level, where it stands -/
structure Lf where
  e : Ent
  lv : Nat
  pl : Nat
def lfC (l : Lf) : List Value := [.bool l.e.v, .bool l.e.r, .bool l.e.w, .bool l.e.x, .bool l.e.u, .bool l.e.g, .bool l.e.a, .bool l.e.d, .int .i64 l.e.rsw, .int .u64 (l.e.ppn : Int), .int .i64 (l.lv : Int), .int .u64 (l.pl : Int)]
/-- a leaf as the program has it -/
def lfv (l : Lf) : Value := .agg #[.bool l.e.v, .bool l.e.r, .bool l.e.w, .bool l.e.x, .bool l.e.u, .bool l.e.g, .bool l.e.a, .bool l.e.d, .int .i64 l.e.rsw, .int .u64 (l.e.ppn : Int), .int .i64 (l.lv : Int), .int .u64 (l.pl : Int)]
def zl : Lf := ⟨⟨false, false, false, false, false, false, false, false, 0, 0⟩, 0, 0⟩
theorem load_leaf {w : World} {b : Nat} {c0 c1 c2 c3 c4 c5 c6 c7 c8 c9 c10 c11 : Value} (h : Blk w b [c0, c1, c2, c3, c4, c5, c6, c7, c8, c9, c10, c11] 41) :
    (Instr.loadAt 41 (.pointer (some ⟨b, 0, none⟩))).run Tryz.prog w = .ok (.agg #[c0, c1, c2, c3, c4, c5, c6, c7, c8, c9, c10, c11]) w := by
  have h0 : w.cell? ⟨b, 0, none⟩ = some c0 := h.cell 0
  have h1 : w.cell? ⟨b, 1, none⟩ = some c1 := h.cell 1
  have h2 : w.cell? ⟨b, 2, none⟩ = some c2 := h.cell 2
  have h3 : w.cell? ⟨b, 3, none⟩ = some c3 := h.cell 3
  have h4 : w.cell? ⟨b, 4, none⟩ = some c4 := h.cell 4
  have h5 : w.cell? ⟨b, 5, none⟩ = some c5 := h.cell 5
  have h6 : w.cell? ⟨b, 6, none⟩ = some c6 := h.cell 6
  have h7 : w.cell? ⟨b, 7, none⟩ = some c7 := h.cell 7
  have h8 : w.cell? ⟨b, 8, none⟩ = some c8 := h.cell 8
  have h9 : w.cell? ⟨b, 9, none⟩ = some c9 := h.cell 9
  have h10 : w.cell? ⟨b, 10, none⟩ = some c10 := h.cell 10
  have h11 : w.cell? ⟨b, 11, none⟩ = some c11 := h.cell 11
  clear h
  go_simp
theorem yield_leaf {w : World} {b : Nat} {c0 c1 c2 c3 c4 c5 c6 c7 c8 c9 c10 c11 : Value} (a : Act) (o : Oper) (x : Operand) (ho : o.op = .load 41 x) (hx : a.eval x = .pointer (some ⟨b, 0, none⟩)) (h : Blk w b [c0, c1, c2, c3, c4, c5, c6, c7, c8, c9, c10, c11] 41) :
    (execOp a.eval o).run Tryz.prog w = .ok (.value (.agg #[c0, c1, c2, c3, c4, c5, c6, c7, c8, c9, c10, c11])) w := by
  have e := load_leaf h
  obtain ⟨op, _, _, _, _, _⟩ := o
  dsimp only at ho
  subst ho
  unfold execOp
  simp only [hx]
  simp [e]
end Go.Proofs.YtgnjbjbgfhjakaaGreat
