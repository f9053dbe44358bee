/-
  DERIVED. GIVEN WITH THE SEED: THE CARDS: each row of YtmdfopbigkfbnaaDoorRows.lean that lists a variable, with what it lists TIED to the program's text (the seventh form; the later family's looks); each row that meets fmt, with fmt's text TOLD by the authors' own Lean function (tested against real Go, not proved from fmt's source: count such statements apart). THE CARD IS WHAT COUNTS. Prove the row's statement (the work); the ties are given (YtmdfopbigkfbnaaDoorTie.lean); close each card by the builder's one call (the guide's Derived/Test/ToyasCard.lean, 'card_holds'). Laid BY PROGRAM, IN A SANDBOX (cutbox-door.mjs). By AI agents, Wed Nov 11 2026. No macro, syntax, notation, axiom, sorry.
-/
import Derived.Test.YtmdfopbigkfbnaaDoorRows
import GoSem.ClaimSeven
namespace Go.Proofs.YtmdfopbigkfbnaaDoor
namespace Rows

/-- THE TIED CARD OF 'runriglaw16.WirePuts'. -/
def wirePutsCard : Claim7 := { stood := { row := wirePutsRow, standIns := [], harness := (true, "f2325bff2aaf31cd0326a0c8a126b3dab524c400865e46113e19466962f59e5e"), looks := false }, kinds := [], alts := [], laidByText := true, laidKinds := [.data, .data], laidTests := true, laidLooks := .later }
def WirePutsCardSaid : Prop := Claim7.holds Tryd.pinned (.plain (OpenSpec.ofChange wirePutsSpec)) wirePutsCard

/-- THE TIED CARD OF 'runriglaw16.WireGets'. -/
def wireGetsCard : Claim7 := { stood := { row := wireGetsRow, standIns := [], harness := (true, "f2325bff2aaf31cd0326a0c8a126b3dab524c400865e46113e19466962f59e5e"), looks := false }, kinds := [], alts := [], laidByText := true, laidKinds := [.data, .data], laidTests := true, laidLooks := .later }
def WireGetsCardSaid : Prop := Claim7.holds Tryd.pinned (.plain (OpenSpec.ofChange wireGetsSpec)) wireGetsCard

/-- THE TIED CARD OF 'runriglaw16.WireHurts'. -/
def wireHurtsCard : Claim7 := { stood := { row := wireHurtsRow, standIns := [], harness := (true, "f2325bff2aaf31cd0326a0c8a126b3dab524c400865e46113e19466962f59e5e"), looks := false }, kinds := [], alts := [], laidByText := true, laidKinds := [.data, .data], laidTests := true, laidLooks := .later }
def WireHurtsCardSaid : Prop := Claim7.holds Tryd.pinned (.plain (OpenSpec.ofChange wireHurtsSpec)) wireHurtsCard

/-- THE SECOND FORM's CARD OF 'runriglaw16.WirePuts'. -/
def wirePutsUptoCard : Claim7 := { stood := { row := wirePutsUptoRow, standIns := [], harness := (true, "f2325bff2aaf31cd0326a0c8a126b3dab524c400865e46113e19466962f59e5e"), looks := false }, kinds := [], alts := [], laidByText := true, laidKinds := [.data, .data], laidTests := true, laidLooks := .later }
def WirePutsUptoCardSaid : Prop := Claim7.holds Tryd.pinned (.plain (OpenSpec.upto wirePutsSpec)) wirePutsUptoCard

/-- THE SECOND FORM's CARD OF 'runriglaw16.WireGets'. -/
def wireGetsUptoCard : Claim7 := { stood := { row := wireGetsUptoRow, standIns := [], harness := (true, "f2325bff2aaf31cd0326a0c8a126b3dab524c400865e46113e19466962f59e5e"), looks := false }, kinds := [], alts := [], laidByText := true, laidKinds := [.data, .data], laidTests := true, laidLooks := .later }
def WireGetsUptoCardSaid : Prop := Claim7.holds Tryd.pinned (.plain (OpenSpec.upto wireGetsSpec)) wireGetsUptoCard

/-- THE SECOND FORM's CARD OF 'runriglaw16.WireHurts'. -/
def wireHurtsUptoCard : Claim7 := { stood := { row := wireHurtsUptoRow, standIns := [], harness := (true, "f2325bff2aaf31cd0326a0c8a126b3dab524c400865e46113e19466962f59e5e"), looks := false }, kinds := [], alts := [], laidByText := true, laidKinds := [.data, .data], laidTests := true, laidLooks := .later }
def WireHurtsUptoCardSaid : Prop := Claim7.holds Tryd.pinned (.plain (OpenSpec.upto wireHurtsSpec)) wireHurtsUptoCard
end Rows
end Go.Proofs.YtmdfopbigkfbnaaDoor
