/-
  NARROWER THAN 'FOR EVERY INPUT', by the rows' own cells (each row's printed sentence says how): WirePuts: laid · WireGets: laid · WireHurts: laid.
  DERIVED. THE GIVEN ROWS OF THIS SEAT. 3 by the template 'for every input the law returns true; each argument reads behind the call as it read before'; 0 by the template 'total and deterministic' (their statements: YtmdfopbigkfbnaaDoorTotals.lean).
  GIVEN WITH THE SEED: the statements are not yours to turn. If you find one false, say at which input.
  Laid BY PROGRAM, IN A SANDBOX (cutbox-rows.mjs): the forced cells as the released guide's own fill.sh prints them over the translation ba729d29e707e1b7… (all of the seat's roots in one cut). By AI agents, Wed Nov 11 2026. No macro, syntax, notation, axiom, sorry.
-/
import Derived.Test.YtmdfopbigkfbnaaDoorChecked
import GoSem.Claim
import GoSem.ClaimJoined
import GoSem.ClaimMapViews
import Derived.JoinedTies
import Derived.KernelRfl
namespace Go.Proofs.YtmdfopbigkfbnaaDoor
/- THE CELL 'sum', in the pinned program and in every row, IS THE sha256 OF THE DUMP (.gsa) THAT YtmdfopbigkfbnaaDoorProg.lean LOADS. Nothing in Lean hashes anything: it is a label: what it is worth is what the hold of that sum in a sandbox is worth. -/
noncomputable def Tryd.pinned : Pinned := { name := "ytmdfopbigkfbnaadoor", sum := "ba729d29e707e1b720bfc7fa2601872a64fe0339e7055870b442e2b8570aa745", checked := Tryd.checked }
namespace Rows
def none {H : Type} : Left H := { results := [], args := [] }

/- WHAT THE LISTED PACKAGE-LEVEL VARIABLES READ AS WHEN THE CALL BEGINS. Each datum BY PROGRAM (the guide's laid-datum.mjs) off the statement by which the dump's own 'gosem.cut.vars' lays the variable. In a bare row this is a premise. The card (YtmdfopbigkfbnaaDoorCards.lean) ties it to the program's text. -/
def laid_runrig_check_moved {H : Type} : DataW H := .agg [.lit (.int .u32 0), .lit (.int .u32 498536548), .lit (.int .u32 997073096), .lit (.int .u32 651767980), .lit (.int .u32 1994146192), .lit (.int .u32 1802195444), .lit (.int .u32 1303535960), .lit (.int .u32 1342533948), .lit (.int .u32 3988292384), .lit (.int .u32 4027552580), .lit (.int .u32 3604390888), .lit (.int .u32 3412177804), .lit (.int .u32 2607071920), .lit (.int .u32 2262029012), .lit (.int .u32 2685067896), .lit (.int .u32 3183342108)]
def laid_runrig_wire_sizes {H : Type} : DataW H := .agg [.lit (.int .i64 2), .lit (.int .i64 1), .lit (.int .i64 1), .lit (.int .i64 1), .lit (.int .i64 8), .lit (.int .i64 8), .lit (.int .i64 2)]

/-- 'runriglaw16.WirePuts': WHATEVER THE INPUT: true; the input reads as it did. -/
def wirePutsSpec : ChangeSpec := { name := "wirePuts", fn := fun _ => fun
  | [d] => { results := [.lit (.bool true)], args := [d] }
  | _ => none }
def wirePutsRow : OpenClaim := { program := "ytmdfopbigkfbnaadoor", sum := "ba729d29e707e1b720bfc7fa2601872a64fe0339e7055870b442e2b8570aa745", func := "runrig/runriglaw16.WirePuts", spec := "wirePuts", named := ["runrig/wire.sizes", "runrig/check.moved"], apart := false, laid := [("runrig/check.moved", laid_runrig_check_moved), ("runrig/wire.sizes", laid_runrig_wire_sizes)] }
def WirePutsSaid : Prop := wirePutsRow.holds Tryd.pinned (OpenSpec.ofChange wirePutsSpec)

/-- ITS FALSE NEIGHBOUR: 'it returns false'. Refute it at one input. -/
def wirePutsWrong : ChangeSpec := { name := "wirePuts", fn := fun _ => fun
  | [d] => { results := [.lit (.bool false)], args := [d] }
  | _ => none }
def WirePutsWrongFalsely : Prop := wirePutsRow.holds Tryd.pinned (OpenSpec.ofChange wirePutsWrong)

/-- 'runriglaw16.WireGets': WHATEVER THE INPUT: true; the input reads as it did. -/
def wireGetsSpec : ChangeSpec := { name := "wireGets", fn := fun _ => fun
  | [d] => { results := [.lit (.bool true)], args := [d] }
  | _ => none }
def wireGetsRow : OpenClaim := { program := "ytmdfopbigkfbnaadoor", sum := "ba729d29e707e1b720bfc7fa2601872a64fe0339e7055870b442e2b8570aa745", func := "runrig/runriglaw16.WireGets", spec := "wireGets", named := ["runrig/wire.sizes", "runrig/check.moved"], apart := false, laid := [("runrig/check.moved", laid_runrig_check_moved), ("runrig/wire.sizes", laid_runrig_wire_sizes)] }
def WireGetsSaid : Prop := wireGetsRow.holds Tryd.pinned (OpenSpec.ofChange wireGetsSpec)

/-- ITS FALSE NEIGHBOUR: 'it returns false'. Refute it at one input. -/
def wireGetsWrong : ChangeSpec := { name := "wireGets", fn := fun _ => fun
  | [d] => { results := [.lit (.bool false)], args := [d] }
  | _ => none }
def WireGetsWrongFalsely : Prop := wireGetsRow.holds Tryd.pinned (OpenSpec.ofChange wireGetsWrong)

/-- 'runriglaw16.WireHurts': WHATEVER THE INPUT: true; the input reads as it did. -/
def wireHurtsSpec : ChangeSpec := { name := "wireHurts", fn := fun _ => fun
  | [d1, d2, d3] => { results := [.lit (.bool true)], args := [d1, d2, d3] }
  | _ => none }
def wireHurtsRow : OpenClaim := { program := "ytmdfopbigkfbnaadoor", sum := "ba729d29e707e1b720bfc7fa2601872a64fe0339e7055870b442e2b8570aa745", func := "runrig/runriglaw16.WireHurts", spec := "wireHurts", named := ["runrig/wire.sizes", "runrig/check.moved"], apart := false, laid := [("runrig/check.moved", laid_runrig_check_moved), ("runrig/wire.sizes", laid_runrig_wire_sizes)] }
def WireHurtsSaid : Prop := wireHurtsRow.holds Tryd.pinned (OpenSpec.ofChange wireHurtsSpec)

/-- ITS FALSE NEIGHBOUR: 'it returns false'. Refute it at one input. -/
def wireHurtsWrong : ChangeSpec := { name := "wireHurts", fn := fun _ => fun
  | [d1, d2, d3] => { results := [.lit (.bool false)], args := [d1, d2, d3] }
  | _ => none }
def WireHurtsWrongFalsely : Prop := wireHurtsRow.holds Tryd.pinned (OpenSpec.ofChange wireHurtsWrong)

/- THE SECOND FORM. 'bulk': how many values and letters a reading holds, each counted each time it is reached (what is shared counts as often as it is met; a slice's spare places count too). A statement '..UptoSaid' is the law's where the arguments, and the package variables that the reading takes, are together of bulk at most 1048576: NARROWER than '..Said'. Prove '..Said' where nothing that the law and all that it calls make is longer than what came in: it says more and counts as full. Else prove '..UptoSaid'. A law counts once. -/
mutual
def uptoBulk {H : Type} : DataW H → Nat
  | .lit (.string bytes) => bytes.length + 1
  | .lit _ => 1
  | .nil => 1
  | .ptr d => uptoBulk d + 1
  | .slice elems spare => uptoBulkAll elems + uptoBulkAll spare + 1
  | .agg parts => uptoBulkAll parts + 1
  | .iface _ d => uptoBulk d + 1
  | .map entries => uptoBulkEntries entries + 1
  | .held _ => 1
def uptoBulkAll {H : Type} : List (DataW H) → Nat
  | [] => 0
  | d :: r => uptoBulk d + uptoBulkAll r
def uptoBulkEntries {H : Type} : List (Lit × DataW H) → Nat
  | [] => 0
  | x :: r => uptoBulkEntry x + uptoBulkEntries r
def uptoBulkEntry {H : Type} : Lit × DataW H → Nat
  | (.string bytes, d) => bytes.length + uptoBulk d + 1
  | (_, d) => uptoBulk d + 1
 end
def uptoSmall : (H : Type) → List (DataW H) → Bool := fun _ ds => decide (uptoBulkAll ds ≤ 1048576)
def OpenSpec.upto (s : _root_.Go.ChangeSpec) : _root_.Go.OpenSpec := { _root_.Go.OpenSpec.ofChange s with cond := some uptoSmall }

/-- 'runriglaw16.WirePuts', WHERE WHAT IT READS IS OF BULK AT MOST 1048576: true; the input reads as it did. -/
def wirePutsUptoRow : OpenClaim := { program := "ytmdfopbigkfbnaadoor", sum := "ba729d29e707e1b720bfc7fa2601872a64fe0339e7055870b442e2b8570aa745", func := "runrig/runriglaw16.WirePuts", spec := "wirePuts", named := ["runrig/wire.sizes", "runrig/check.moved"], apart := false, laid := [("runrig/check.moved", laid_runrig_check_moved), ("runrig/wire.sizes", laid_runrig_wire_sizes)], narrowed := true }
def WirePutsUptoSaid : Prop := wirePutsUptoRow.holds Tryd.pinned (OpenSpec.upto wirePutsSpec)

/-- 'runriglaw16.WireGets', WHERE WHAT IT READS IS OF BULK AT MOST 1048576: true; the input reads as it did. -/
def wireGetsUptoRow : OpenClaim := { program := "ytmdfopbigkfbnaadoor", sum := "ba729d29e707e1b720bfc7fa2601872a64fe0339e7055870b442e2b8570aa745", func := "runrig/runriglaw16.WireGets", spec := "wireGets", named := ["runrig/wire.sizes", "runrig/check.moved"], apart := false, laid := [("runrig/check.moved", laid_runrig_check_moved), ("runrig/wire.sizes", laid_runrig_wire_sizes)], narrowed := true }
def WireGetsUptoSaid : Prop := wireGetsUptoRow.holds Tryd.pinned (OpenSpec.upto wireGetsSpec)

/-- 'runriglaw16.WireHurts', WHERE WHAT IT READS IS OF BULK AT MOST 1048576: true; the input reads as it did. -/
def wireHurtsUptoRow : OpenClaim := { program := "ytmdfopbigkfbnaadoor", sum := "ba729d29e707e1b720bfc7fa2601872a64fe0339e7055870b442e2b8570aa745", func := "runrig/runriglaw16.WireHurts", spec := "wireHurts", named := ["runrig/wire.sizes", "runrig/check.moved"], apart := false, laid := [("runrig/check.moved", laid_runrig_check_moved), ("runrig/wire.sizes", laid_runrig_wire_sizes)], narrowed := true }
def WireHurtsUptoSaid : Prop := wireHurtsUptoRow.holds Tryd.pinned (OpenSpec.upto wireHurtsSpec)

end Rows
end Go.Proofs.YtmdfopbigkfbnaaDoor
