/-
  The text of a message as plain values: no function of the program stands here.
-/
import Derived.Test.YtkddhjbdijegoaaDoorPl15
import Derived.Test.YtkddhjbdijegoaaDoorTxt15
import Derived.Lib.ItoaNum
import Derived.Lib.ItoaMem
import Derived.Lib.ItoaLen
namespace Go.Proofs.YtkddhjbdijegoaaDoor
open Go.RowKit
set_option linter.unusedVariables false

/-- the texts -/
def nam15 (k : Int) : List UInt8 :=
  if k = 1 then [114, 101, 97, 100] else if k = 2 then [119, 114, 105, 116, 101] else if k = 3 then [99, 111, 112, 121] else if k = 4 then [103, 114, 97, 110, 116] else if k = 5 then [102, 111, 114, 103, 101, 116] else if k = 6 then [102, 111, 114, 103, 111, 116] else [63]
def bs (l : List UInt8) : ByteArray := ⟨l.toArray⟩
theorem bs_app (a b : List UInt8) : bs a ++ bs b = bs (a ++ b) := by
  have e : ∀ s t : ByteArray, s.data.toList = t.data.toList → s = t := fun s t h => by
    cases s; cases t; simp at h; subst h; rfl
  apply e
  simp [bs]
def txtM (m : Mg) : List UInt8 :=
  nam15 m.k ++ [32, 112, 97, 103, 101, 32] ++ Lib.itoa m.p ++ [32, 110, 111, 100, 101, 32] ++ Lib.itoa m.n
    ++ (if m.h = 0 then [] else [32, 104, 111, 112, 115, 32] ++ Lib.itoa m.h)
    ++ (if m.k = 4 then [32, 115, 101, 116, 32] ++ txt m.s.toNat else [])
    ++ (if m.d.length = 0 then [] else [32, 98, 121, 116, 101, 115, 32] ++ Lib.itoa m.d.length)
end Go.Proofs.YtkddhjbdijegoaaDoor
