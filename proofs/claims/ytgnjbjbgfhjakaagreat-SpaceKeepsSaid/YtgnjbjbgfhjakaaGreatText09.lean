/-
  What perm.Text, perm.Flags and the reference's Text answer: contracts over the translation. Each says its own conditions.
-/
import Derived.Test.YtgnjbjbgfhjakaaGreatPerm09
import Derived.Laws.BytesArg
namespace Go.Proofs.YtgnjbjbgfhjakaaGreat
open Go.RowKit
set_option linter.unusedVariables false
set_option linter.unusedSimpArgs false
attribute [local go_sem] setCell_drewN alloc_drewN

/-- a flag's sign -/
def sg (b : Bool) (c : Int) : Int := if b then c else 45
/-- an entry's text, as numbers -/
def txt (e : Ent) : List Int := [sg e.v 118, sg e.r 114, sg e.w 119, sg e.x 120, sg e.u 117, sg e.g 103, sg e.a 97, sg e.d 100]
/-- what of it is laid behind k places -/
def laid (e : Ent) (k : Nat) : List Value := ((txt e).take k ++ List.replicate (8 - k) 0).map (Value.int .u8)
end Go.Proofs.YtgnjbjbgfhjakaaGreat
