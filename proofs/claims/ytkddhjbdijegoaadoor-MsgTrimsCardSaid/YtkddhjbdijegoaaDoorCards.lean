/-
  DERIVED. GIVEN WITH THE SEED: THE CARDS: each row of YtkddhjbdijegoaaDoorRows.lean that lists a variable, with what it lists TIED to the program's text (the seventh form; the later family's looks); each row that meets fmt, with fmt's text TOLD by the authors' own Lean function (tested against real Go, not proved from fmt's source: count such statements apart). THE CARD IS WHAT COUNTS. Prove the row's statement (the work); the ties are given (YtkddhjbdijegoaaDoorTie.lean); close each card by the builder's one call (the guide's Derived/Test/ToyasCard.lean, 'card_holds'). Laid BY PROGRAM, IN A SANDBOX (cutbox-door.mjs). By AI agents, Wed Nov 11 2026. No macro, syntax, notation, axiom, sorry.
-/
import Derived.Test.YtkddhjbdijegoaaDoorRows
import GoSem.ClaimSeven
namespace Go.Proofs.YtkddhjbdijegoaaDoor
namespace Rows

/-- THE TIED CARD OF 'runriglaw15.MsgPuts'. -/
def msgPutsCard : Claim7 := { stood := { row := msgPutsRow, standIns := [], harness := (true, "05e6dd42eafa6ff7fd4c8f2715c9823924f440ac40bd0e50bc5981fe4dd83719"), looks := false }, kinds := [], alts := [], laidByText := true, laidKinds := [.data, .data, .data, .data, .data], laidTests := true, laidLooks := .later }
def MsgPutsCardSaid : Prop := Claim7.holds Tryd.pinned (.plain (OpenSpec.ofChange msgPutsSpec)) msgPutsCard

/-- THE TIED CARD OF 'runriglaw15.MsgGets'. -/
def msgGetsCard : Claim7 := { stood := { row := msgGetsRow, standIns := [], harness := (true, "05e6dd42eafa6ff7fd4c8f2715c9823924f440ac40bd0e50bc5981fe4dd83719"), looks := false }, kinds := [], alts := [], laidByText := true, laidKinds := [.data, .data, .data, .data, .data], laidTests := true, laidLooks := .later }
def MsgGetsCardSaid : Prop := Claim7.holds Tryd.pinned (.plain (OpenSpec.ofChange msgGetsSpec)) msgGetsCard

/-- THE TIED CARD OF 'runriglaw15.MsgTexts'. -/
def msgTextsCard : Claim7 := { stood := { row := msgTextsRow, standIns := [], harness := (true, "05e6dd42eafa6ff7fd4c8f2715c9823924f440ac40bd0e50bc5981fe4dd83719"), looks := false }, kinds := [], alts := [], laidByText := true, laidKinds := [.data, .data, .data, .data, .data], laidTests := true, laidLooks := .later }
def MsgTextsCardSaid : Prop := Claim7.holds Tryd.pinned (.plain (OpenSpec.ofChange msgTextsSpec)) msgTextsCard

/-- THE TIED CARD OF 'runriglaw15.MsgTrims'. -/
def msgTrimsCard : Claim7 := { stood := { row := msgTrimsRow, standIns := [], harness := (true, "05e6dd42eafa6ff7fd4c8f2715c9823924f440ac40bd0e50bc5981fe4dd83719"), looks := false }, kinds := [], alts := [], laidByText := true, laidKinds := [.data, .data, .data, .data, .data], laidTests := true, laidLooks := .later }
def MsgTrimsCardSaid : Prop := Claim7.holds Tryd.pinned (.plain (OpenSpec.ofChange msgTrimsSpec)) msgTrimsCard

/-- THE SECOND FORM's CARD OF 'runriglaw15.MsgPuts'. -/
def msgPutsUptoCard : Claim7 := { stood := { row := msgPutsUptoRow, standIns := [], harness := (true, "05e6dd42eafa6ff7fd4c8f2715c9823924f440ac40bd0e50bc5981fe4dd83719"), looks := false }, kinds := [], alts := [], laidByText := true, laidKinds := [.data, .data, .data, .data, .data], laidTests := true, laidLooks := .later }
def MsgPutsUptoCardSaid : Prop := Claim7.holds Tryd.pinned (.plain (OpenSpec.upto msgPutsSpec)) msgPutsUptoCard

/-- THE SECOND FORM's CARD OF 'runriglaw15.MsgGets'. -/
def msgGetsUptoCard : Claim7 := { stood := { row := msgGetsUptoRow, standIns := [], harness := (true, "05e6dd42eafa6ff7fd4c8f2715c9823924f440ac40bd0e50bc5981fe4dd83719"), looks := false }, kinds := [], alts := [], laidByText := true, laidKinds := [.data, .data, .data, .data, .data], laidTests := true, laidLooks := .later }
def MsgGetsUptoCardSaid : Prop := Claim7.holds Tryd.pinned (.plain (OpenSpec.upto msgGetsSpec)) msgGetsUptoCard

/-- THE SECOND FORM's CARD OF 'runriglaw15.MsgTexts'. -/
def msgTextsUptoCard : Claim7 := { stood := { row := msgTextsUptoRow, standIns := [], harness := (true, "05e6dd42eafa6ff7fd4c8f2715c9823924f440ac40bd0e50bc5981fe4dd83719"), looks := false }, kinds := [], alts := [], laidByText := true, laidKinds := [.data, .data, .data, .data, .data], laidTests := true, laidLooks := .later }
def MsgTextsUptoCardSaid : Prop := Claim7.holds Tryd.pinned (.plain (OpenSpec.upto msgTextsSpec)) msgTextsUptoCard

/-- THE SECOND FORM's CARD OF 'runriglaw15.MsgTrims'. -/
def msgTrimsUptoCard : Claim7 := { stood := { row := msgTrimsUptoRow, standIns := [], harness := (true, "05e6dd42eafa6ff7fd4c8f2715c9823924f440ac40bd0e50bc5981fe4dd83719"), looks := false }, kinds := [], alts := [], laidByText := true, laidKinds := [.data, .data, .data, .data, .data], laidTests := true, laidLooks := .later }
def MsgTrimsUptoCardSaid : Prop := Claim7.holds Tryd.pinned (.plain (OpenSpec.upto msgTrimsSpec)) msgTrimsUptoCard
end Rows
end Go.Proofs.YtkddhjbdijegoaaDoor
