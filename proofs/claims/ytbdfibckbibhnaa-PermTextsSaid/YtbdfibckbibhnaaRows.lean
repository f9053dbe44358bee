/-
  No cell of these rows narrows 'for every input' (looked for: loops, veiled, ifaces, maps, wideKeys, modest, calm, conditions, laid).
  DERIVED. THE GIVEN ROWS OF THIS SEAT. 4 by the template 'for every input the law returns true; each argument reads behind the call as it read before'; 0 by the template 'total and deterministic' (their statements: YtbdfibckbibhnaaTotals.lean).
  GIVEN WITH THE SEED: the statements are not yours to turn. If you find one false, say at which input.
  Laid BY PROGRAM, IN A SANDBOX (cutbox-rows.mjs): the forced cells as the released guide's own fill.sh prints them over the translation 521e8096f45a5b1e… (all of the seat's roots in one cut). By AI agents, Wed Nov 11 2026. No macro, syntax, notation, axiom, sorry.
-/
import Derived.Test.YtbdfibckbibhnaaChecked
import GoSem.Claim
import GoSem.ClaimJoined
import GoSem.ClaimMapViews
import Derived.JoinedTies
import Derived.KernelRfl
namespace Go.Proofs.Ytbdfibckbibhnaa
/- THE CELL 'sum', in the pinned program and in every row, IS THE sha256 OF THE DUMP (.gsa) THAT YtbdfibckbibhnaaProg.lean LOADS. Nothing in Lean hashes anything: it is a label: what it is worth is what the hold of that sum in a sandbox is worth. -/
noncomputable def Try.pinned : Pinned := { name := "ytbdfibckbibhnaa", sum := "521e8096f45a5b1e1fc590ffa9297e1c328730932d3c1e1e5e19c5a0102026f4", checked := Try.checked }
namespace Rows
def none {H : Type} : Left H := { results := [], args := [] }

/-- 'runriglaw09.PermChecks': WHATEVER THE INPUT: true; the input reads as it did. -/
def permChecksSpec : ChangeSpec := { name := "permChecks", fn := fun _ => fun
  | [d1, d2, d3] => { results := [.lit (.bool true)], args := [d1, d2, d3] }
  | _ => none }
def permChecksRow : OpenClaim := { program := "ytbdfibckbibhnaa", sum := "521e8096f45a5b1e1fc590ffa9297e1c328730932d3c1e1e5e19c5a0102026f4", func := "runrig/runriglaw09.PermChecks", spec := "permChecks", apart := false }
def PermChecksSaid : Prop := permChecksRow.holds Try.pinned (OpenSpec.ofChange permChecksSpec)

/-- ITS FALSE NEIGHBOUR: 'it returns false'. Refute it at one input. -/
def permChecksWrong : ChangeSpec := { name := "permChecks", fn := fun _ => fun
  | [d1, d2, d3] => { results := [.lit (.bool false)], args := [d1, d2, d3] }
  | _ => none }
def PermChecksWrongFalsely : Prop := permChecksRow.holds Try.pinned (OpenSpec.ofChange permChecksWrong)

/-- 'runriglaw09.PermCauses': WHATEVER THE INPUT: true; the input reads as it did. -/
def permCausesSpec : ChangeSpec := { name := "permCauses", fn := fun _ => fun
  | [d] => { results := [.lit (.bool true)], args := [d] }
  | _ => none }
def permCausesRow : OpenClaim := { program := "ytbdfibckbibhnaa", sum := "521e8096f45a5b1e1fc590ffa9297e1c328730932d3c1e1e5e19c5a0102026f4", func := "runrig/runriglaw09.PermCauses", spec := "permCauses", apart := false }
def PermCausesSaid : Prop := permCausesRow.holds Try.pinned (OpenSpec.ofChange permCausesSpec)

/-- ITS FALSE NEIGHBOUR: 'it returns false'. Refute it at one input. -/
def permCausesWrong : ChangeSpec := { name := "permCauses", fn := fun _ => fun
  | [d] => { results := [.lit (.bool false)], args := [d] }
  | _ => none }
def PermCausesWrongFalsely : Prop := permCausesRow.holds Try.pinned (OpenSpec.ofChange permCausesWrong)

/-- 'runriglaw09.PermTexts': WHATEVER THE INPUT: true; the input reads as it did. -/
def permTextsSpec : ChangeSpec := { name := "permTexts", fn := fun _ => fun
  | [d1, d2] => { results := [.lit (.bool true)], args := [d1, d2] }
  | _ => none }
def permTextsRow : OpenClaim := { program := "ytbdfibckbibhnaa", sum := "521e8096f45a5b1e1fc590ffa9297e1c328730932d3c1e1e5e19c5a0102026f4", func := "runrig/runriglaw09.PermTexts", spec := "permTexts", apart := false }
def PermTextsSaid : Prop := permTextsRow.holds Try.pinned (OpenSpec.ofChange permTextsSpec)

/-- ITS FALSE NEIGHBOUR: 'it returns false'. Refute it at one input. -/
def permTextsWrong : ChangeSpec := { name := "permTexts", fn := fun _ => fun
  | [d1, d2] => { results := [.lit (.bool false)], args := [d1, d2] }
  | _ => none }
def PermTextsWrongFalsely : Prop := permTextsRow.holds Try.pinned (OpenSpec.ofChange permTextsWrong)

/-- 'runriglaw09.PermMore': WHATEVER THE INPUT: true; the input reads as it did. -/
def permMoreSpec : ChangeSpec := { name := "permMore", fn := fun _ => fun
  | [d1, d2, d3] => { results := [.lit (.bool true)], args := [d1, d2, d3] }
  | _ => none }
def permMoreRow : OpenClaim := { program := "ytbdfibckbibhnaa", sum := "521e8096f45a5b1e1fc590ffa9297e1c328730932d3c1e1e5e19c5a0102026f4", func := "runrig/runriglaw09.PermMore", spec := "permMore", apart := false }
def PermMoreSaid : Prop := permMoreRow.holds Try.pinned (OpenSpec.ofChange permMoreSpec)

/-- ITS FALSE NEIGHBOUR: 'it returns false'. Refute it at one input. -/
def permMoreWrong : ChangeSpec := { name := "permMore", fn := fun _ => fun
  | [d1, d2, d3] => { results := [.lit (.bool false)], args := [d1, d2, d3] }
  | _ => none }
def PermMoreWrongFalsely : Prop := permMoreRow.holds Try.pinned (OpenSpec.ofChange permMoreWrong)

/- THE SECOND FORM. 'bulk': how many values and letters a reading holds, each counted each time it is reached (what is shared counts as often as it is met; a slice's spare places count too). A statement '..UptoSaid' is the law's where the arguments, and the package variables that the reading takes, are together of bulk at most 1048576: NARROWER than '..Said'. Prove '..Said' where nothing that the law and all that it calls make is longer than what came in: it says more and counts as full. Else prove '..UptoSaid'. A law counts once. -/
mutual
def uptoBulk {H : Type} : DataW H → Nat
  | .lit (.string bytes) => bytes.length + 1
  | .lit _ => 1
  | .nil => 1
  | .ptr d => uptoBulk d + 1
  | .slice elems spare => uptoBulkAll elems + uptoBulkAll spare + 1
  | .agg parts => uptoBulkAll parts + 1
  | .iface _ d => uptoBulk d + 1
  | .map entries => uptoBulkEntries entries + 1
  | .held _ => 1
def uptoBulkAll {H : Type} : List (DataW H) → Nat
  | [] => 0
  | d :: r => uptoBulk d + uptoBulkAll r
def uptoBulkEntries {H : Type} : List (Lit × DataW H) → Nat
  | [] => 0
  | x :: r => uptoBulkEntry x + uptoBulkEntries r
def uptoBulkEntry {H : Type} : Lit × DataW H → Nat
  | (.string bytes, d) => bytes.length + uptoBulk d + 1
  | (_, d) => uptoBulk d + 1
 end
def uptoSmall : (H : Type) → List (DataW H) → Bool := fun _ ds => decide (uptoBulkAll ds ≤ 1048576)
def OpenSpec.upto (s : _root_.Go.ChangeSpec) : _root_.Go.OpenSpec := { _root_.Go.OpenSpec.ofChange s with cond := some uptoSmall }

/-- 'runriglaw09.PermChecks', WHERE WHAT IT READS IS OF BULK AT MOST 1048576: true; the input reads as it did. -/
def permChecksUptoRow : OpenClaim := { program := "ytbdfibckbibhnaa", sum := "521e8096f45a5b1e1fc590ffa9297e1c328730932d3c1e1e5e19c5a0102026f4", func := "runrig/runriglaw09.PermChecks", spec := "permChecks", apart := false, narrowed := true }
def PermChecksUptoSaid : Prop := permChecksUptoRow.holds Try.pinned (OpenSpec.upto permChecksSpec)

/-- 'runriglaw09.PermCauses', WHERE WHAT IT READS IS OF BULK AT MOST 1048576: true; the input reads as it did. -/
def permCausesUptoRow : OpenClaim := { program := "ytbdfibckbibhnaa", sum := "521e8096f45a5b1e1fc590ffa9297e1c328730932d3c1e1e5e19c5a0102026f4", func := "runrig/runriglaw09.PermCauses", spec := "permCauses", apart := false, narrowed := true }
def PermCausesUptoSaid : Prop := permCausesUptoRow.holds Try.pinned (OpenSpec.upto permCausesSpec)

/-- 'runriglaw09.PermTexts', WHERE WHAT IT READS IS OF BULK AT MOST 1048576: true; the input reads as it did. -/
def permTextsUptoRow : OpenClaim := { program := "ytbdfibckbibhnaa", sum := "521e8096f45a5b1e1fc590ffa9297e1c328730932d3c1e1e5e19c5a0102026f4", func := "runrig/runriglaw09.PermTexts", spec := "permTexts", apart := false, narrowed := true }
def PermTextsUptoSaid : Prop := permTextsUptoRow.holds Try.pinned (OpenSpec.upto permTextsSpec)

/-- 'runriglaw09.PermMore', WHERE WHAT IT READS IS OF BULK AT MOST 1048576: true; the input reads as it did. -/
def permMoreUptoRow : OpenClaim := { program := "ytbdfibckbibhnaa", sum := "521e8096f45a5b1e1fc590ffa9297e1c328730932d3c1e1e5e19c5a0102026f4", func := "runrig/runriglaw09.PermMore", spec := "permMore", apart := false, narrowed := true }
def PermMoreUptoSaid : Prop := permMoreUptoRow.holds Try.pinned (OpenSpec.upto permMoreSpec)

end Rows
end Go.Proofs.Ytbdfibckbibhnaa
