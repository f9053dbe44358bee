/-
  No cell of these rows narrows 'for every input' (looked for: loops, veiled, ifaces, maps, wideKeys, modest, calm, conditions, laid).
  DERIVED. THE GIVEN ROWS OF THIS SEAT. 4 by the template 'for every input the law returns true; each argument reads behind the call as it read before'; 0 by the template 'total and deterministic' (their statements: YtjghhgkgjeedeaaTotals.lean).
  GIVEN WITH THE SEED: the statements are not yours to turn. If you find one false, say at which input.
  Laid BY PROGRAM, IN A SANDBOX (cutbox-rows.mjs): the forced cells as the released guide's own fill.sh prints them over the translation bdfb776c488e894c… (all of the seat's roots in one cut). By AI agents, Wed Nov 11 2026. No macro, syntax, notation, axiom, sorry.
-/
import Derived.Test.YtjghhgkgjeedeaaChecked
import GoSem.Claim
import GoSem.ClaimJoined
import GoSem.ClaimMapViews
import Derived.JoinedTies
import Derived.KernelRfl
namespace Go.Proofs.Ytjghhgkgjeedeaa
/- THE CELL 'sum', in the pinned program and in every row, IS THE sha256 OF THE DUMP (.gsa) THAT YtjghhgkgjeedeaaProg.lean LOADS. Nothing in Lean hashes anything: it is a label: what it is worth is what the hold of that sum in a sandbox is worth. -/
noncomputable def Try.pinned : Pinned := { name := "ytjghhgkgjeedeaa", sum := "bdfb776c488e894c09f6d40412b5d56984f6d9b4bcff2c5b15614590ea33bd38", checked := Try.checked }
namespace Rows
def none {H : Type} : Left H := { results := [], args := [] }

/-- 'runriglaw08.PteWords': WHATEVER THE INPUT: true; the input reads as it did. -/
def pteWordsSpec : ChangeSpec := { name := "pteWords", fn := fun _ => fun
  | [d1, d2] => { results := [.lit (.bool true)], args := [d1, d2] }
  | _ => none }
def pteWordsRow : OpenClaim := { program := "ytjghhgkgjeedeaa", sum := "bdfb776c488e894c09f6d40412b5d56984f6d9b4bcff2c5b15614590ea33bd38", func := "runrig/runriglaw08.PteWords", spec := "pteWords", apart := false }
def PteWordsSaid : Prop := pteWordsRow.holds Try.pinned (OpenSpec.ofChange pteWordsSpec)

/-- ITS FALSE NEIGHBOUR: 'it returns false'. Refute it at one input. -/
def pteWordsWrong : ChangeSpec := { name := "pteWords", fn := fun _ => fun
  | [d1, d2] => { results := [.lit (.bool false)], args := [d1, d2] }
  | _ => none }
def PteWordsWrongFalsely : Prop := pteWordsRow.holds Try.pinned (OpenSpec.ofChange pteWordsWrong)

/-- 'runriglaw08.PteSatps': WHATEVER THE INPUT: true; the input reads as it did. -/
def pteSatpsSpec : ChangeSpec := { name := "pteSatps", fn := fun _ => fun
  | [d1, d2] => { results := [.lit (.bool true)], args := [d1, d2] }
  | _ => none }
def pteSatpsRow : OpenClaim := { program := "ytjghhgkgjeedeaa", sum := "bdfb776c488e894c09f6d40412b5d56984f6d9b4bcff2c5b15614590ea33bd38", func := "runrig/runriglaw08.PteSatps", spec := "pteSatps", apart := false }
def PteSatpsSaid : Prop := pteSatpsRow.holds Try.pinned (OpenSpec.ofChange pteSatpsSpec)

/-- ITS FALSE NEIGHBOUR: 'it returns false'. Refute it at one input. -/
def pteSatpsWrong : ChangeSpec := { name := "pteSatps", fn := fun _ => fun
  | [d1, d2] => { results := [.lit (.bool false)], args := [d1, d2] }
  | _ => none }
def PteSatpsWrongFalsely : Prop := pteSatpsRow.holds Try.pinned (OpenSpec.ofChange pteSatpsWrong)

/-- 'runriglaw08.PteAddresses': WHATEVER THE INPUT: true; the input reads as it did. -/
def pteAddressesSpec : ChangeSpec := { name := "pteAddresses", fn := fun _ => fun
  | [d1, d2, d3] => { results := [.lit (.bool true)], args := [d1, d2, d3] }
  | _ => none }
def pteAddressesRow : OpenClaim := { program := "ytjghhgkgjeedeaa", sum := "bdfb776c488e894c09f6d40412b5d56984f6d9b4bcff2c5b15614590ea33bd38", func := "runrig/runriglaw08.PteAddresses", spec := "pteAddresses", apart := false }
def PteAddressesSaid : Prop := pteAddressesRow.holds Try.pinned (OpenSpec.ofChange pteAddressesSpec)

/-- ITS FALSE NEIGHBOUR: 'it returns false'. Refute it at one input. -/
def pteAddressesWrong : ChangeSpec := { name := "pteAddresses", fn := fun _ => fun
  | [d1, d2, d3] => { results := [.lit (.bool false)], args := [d1, d2, d3] }
  | _ => none }
def PteAddressesWrongFalsely : Prop := pteAddressesRow.holds Try.pinned (OpenSpec.ofChange pteAddressesWrong)

/-- 'runriglaw08.PteSpells': WHATEVER THE INPUT: true; the input reads as it did. -/
def pteSpellsSpec : ChangeSpec := { name := "pteSpells", fn := fun _ => fun
  | [d] => { results := [.lit (.bool true)], args := [d] }
  | _ => none }
def pteSpellsRow : OpenClaim := { program := "ytjghhgkgjeedeaa", sum := "bdfb776c488e894c09f6d40412b5d56984f6d9b4bcff2c5b15614590ea33bd38", func := "runrig/runriglaw08.PteSpells", spec := "pteSpells", apart := false }
def PteSpellsSaid : Prop := pteSpellsRow.holds Try.pinned (OpenSpec.ofChange pteSpellsSpec)

/-- ITS FALSE NEIGHBOUR: 'it returns false'. Refute it at one input. -/
def pteSpellsWrong : ChangeSpec := { name := "pteSpells", fn := fun _ => fun
  | [d] => { results := [.lit (.bool false)], args := [d] }
  | _ => none }
def PteSpellsWrongFalsely : Prop := pteSpellsRow.holds Try.pinned (OpenSpec.ofChange pteSpellsWrong)

/- THE SECOND FORM. 'bulk': how many values and letters a reading holds, each counted each time it is reached (what is shared counts as often as it is met; a slice's spare places count too). A statement '..UptoSaid' is the law's where the arguments, and the package variables that the reading takes, are together of bulk at most 1048576: NARROWER than '..Said'. Prove '..Said' where nothing that the law and all that it calls make is longer than what came in: it says more and counts as full. Else prove '..UptoSaid'. A law counts once. -/
mutual
def uptoBulk {H : Type} : DataW H → Nat
  | .lit (.string bytes) => bytes.length + 1
  | .lit _ => 1
  | .nil => 1
  | .ptr d => uptoBulk d + 1
  | .slice elems spare => uptoBulkAll elems + uptoBulkAll spare + 1
  | .agg parts => uptoBulkAll parts + 1
  | .iface _ d => uptoBulk d + 1
  | .map entries => uptoBulkEntries entries + 1
  | .held _ => 1
def uptoBulkAll {H : Type} : List (DataW H) → Nat
  | [] => 0
  | d :: r => uptoBulk d + uptoBulkAll r
def uptoBulkEntries {H : Type} : List (Lit × DataW H) → Nat
  | [] => 0
  | x :: r => uptoBulkEntry x + uptoBulkEntries r
def uptoBulkEntry {H : Type} : Lit × DataW H → Nat
  | (.string bytes, d) => bytes.length + uptoBulk d + 1
  | (_, d) => uptoBulk d + 1
 end
def uptoSmall : (H : Type) → List (DataW H) → Bool := fun _ ds => decide (uptoBulkAll ds ≤ 1048576)
def OpenSpec.upto (s : _root_.Go.ChangeSpec) : _root_.Go.OpenSpec := { _root_.Go.OpenSpec.ofChange s with cond := some uptoSmall }

/-- 'runriglaw08.PteWords', WHERE WHAT IT READS IS OF BULK AT MOST 1048576: true; the input reads as it did. -/
def pteWordsUptoRow : OpenClaim := { program := "ytjghhgkgjeedeaa", sum := "bdfb776c488e894c09f6d40412b5d56984f6d9b4bcff2c5b15614590ea33bd38", func := "runrig/runriglaw08.PteWords", spec := "pteWords", apart := false, narrowed := true }
def PteWordsUptoSaid : Prop := pteWordsUptoRow.holds Try.pinned (OpenSpec.upto pteWordsSpec)

/-- 'runriglaw08.PteSatps', WHERE WHAT IT READS IS OF BULK AT MOST 1048576: true; the input reads as it did. -/
def pteSatpsUptoRow : OpenClaim := { program := "ytjghhgkgjeedeaa", sum := "bdfb776c488e894c09f6d40412b5d56984f6d9b4bcff2c5b15614590ea33bd38", func := "runrig/runriglaw08.PteSatps", spec := "pteSatps", apart := false, narrowed := true }
def PteSatpsUptoSaid : Prop := pteSatpsUptoRow.holds Try.pinned (OpenSpec.upto pteSatpsSpec)

/-- 'runriglaw08.PteAddresses', WHERE WHAT IT READS IS OF BULK AT MOST 1048576: true; the input reads as it did. -/
def pteAddressesUptoRow : OpenClaim := { program := "ytjghhgkgjeedeaa", sum := "bdfb776c488e894c09f6d40412b5d56984f6d9b4bcff2c5b15614590ea33bd38", func := "runrig/runriglaw08.PteAddresses", spec := "pteAddresses", apart := false, narrowed := true }
def PteAddressesUptoSaid : Prop := pteAddressesUptoRow.holds Try.pinned (OpenSpec.upto pteAddressesSpec)

/-- 'runriglaw08.PteSpells', WHERE WHAT IT READS IS OF BULK AT MOST 1048576: true; the input reads as it did. -/
def pteSpellsUptoRow : OpenClaim := { program := "ytjghhgkgjeedeaa", sum := "bdfb776c488e894c09f6d40412b5d56984f6d9b4bcff2c5b15614590ea33bd38", func := "runrig/runriglaw08.PteSpells", spec := "pteSpells", apart := false, narrowed := true }
def PteSpellsUptoSaid : Prop := pteSpellsUptoRow.holds Try.pinned (OpenSpec.upto pteSpellsSpec)

end Rows
end Go.Proofs.Ytjghhgkgjeedeaa
