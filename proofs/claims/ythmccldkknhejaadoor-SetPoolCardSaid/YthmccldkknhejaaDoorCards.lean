/-
  DERIVED. GIVEN WITH THE SEED: THE CARDS: each row of YthmccldkknhejaaDoorRows.lean that lists a variable, with what it lists TIED to the program's text (the seventh form; the later family's looks); each row that meets fmt, with fmt's text TOLD by the authors' own Lean function (tested against real Go, not proved from fmt's source: count such statements apart). THE CARD IS WHAT COUNTS. Prove the row's statement (the work); the ties are given (YthmccldkknhejaaDoorTie.lean); close each card by the builder's one call (the guide's Derived/Test/ToyasCard.lean, 'card_holds'). Laid BY PROGRAM, IN A SANDBOX (cutbox-door.mjs). By AI agents, Wed Nov 11 2026. No macro, syntax, notation, axiom, sorry.
-/
import Derived.Test.YthmccldkknhejaaDoorRows
import GoSem.ClaimSeven
namespace Go.Proofs.YthmccldkknhejaaDoor
namespace Rows

/-- THE TIED CARD OF 'concordatlaw06.SetAnswers'. -/
def setAnswersCard : Claim7 := { stood := { row := setAnswersRow, standIns := [], harness := (true, "17b44cf162a4910bd3c6160ab74f6b7b945a49529ce471c005ff24e72ea1042b"), looks := true }, kinds := [], alts := [], laidByText := true, laidKinds := [.data, .data, .data, .data, .sentinel, .sentinel, .pinned], laidTests := true, laidLooks := .later }
def SetAnswersCardSaid : Prop := Claim7.holds Tryd.pinned (.plain (OpenSpec.ofChange setAnswersSpec)) setAnswersCard

/-- THE TIED CARD OF 'concordatlaw06.SetBack'. -/
def setBackCard : Claim7 := { stood := { row := setBackRow, standIns := [], harness := (true, "17b44cf162a4910bd3c6160ab74f6b7b945a49529ce471c005ff24e72ea1042b"), looks := true }, kinds := [], alts := [], laidByText := true, laidKinds := [.data, .data, .data, .data, .sentinel, .sentinel, .pinned], laidTests := true, laidLooks := .later }
def SetBackCardSaid : Prop := Claim7.holds Tryd.pinned (.plain (OpenSpec.ofChange setBackSpec)) setBackCard

/-- THE TIED CARD OF 'concordatlaw06.SetOrder'. -/
def setOrderCard : Claim7 := { stood := { row := setOrderRow, standIns := [], harness := (true, "17b44cf162a4910bd3c6160ab74f6b7b945a49529ce471c005ff24e72ea1042b"), looks := true }, kinds := [], alts := [], laidByText := true, laidKinds := [.data, .data, .data, .data, .sentinel, .sentinel, .pinned], laidTests := true, laidLooks := .later }
def SetOrderCardSaid : Prop := Claim7.holds Tryd.pinned (.plain (OpenSpec.ofChange setOrderSpec)) setOrderCard

/-- THE TIED CARD OF 'concordatlaw06.SetPool'. -/
def setPoolCard : Claim7 := { stood := { row := setPoolRow, standIns := [], harness := (true, "17b44cf162a4910bd3c6160ab74f6b7b945a49529ce471c005ff24e72ea1042b"), looks := true }, kinds := [], alts := [], laidByText := true, laidKinds := [.data, .data, .data, .data, .sentinel, .sentinel, .pinned], laidTests := true, laidLooks := .later }
def SetPoolCardSaid : Prop := Claim7.holds Tryd.pinned (.plain (OpenSpec.ofChange setPoolSpec)) setPoolCard

/-- THE TIED CARD OF 'concordatlaw06.SetTexts'. -/
def setTextsCard : Claim7 := { stood := { row := setTextsRow, standIns := [], harness := (true, "17b44cf162a4910bd3c6160ab74f6b7b945a49529ce471c005ff24e72ea1042b"), looks := true }, kinds := [], alts := [], laidByText := true, laidKinds := [.data, .data, .data, .data, .sentinel, .sentinel, .pinned], laidTests := true, laidLooks := .later }
def SetTextsCardSaid : Prop := Claim7.holds Tryd.pinned (.plain (OpenSpec.ofChange setTextsSpec)) setTextsCard

/-- THE TIED CARD OF 'concordatlaw06.SetLists'. -/
def setListsCard : Claim7 := { stood := { row := setListsRow, standIns := [], harness := (true, "17b44cf162a4910bd3c6160ab74f6b7b945a49529ce471c005ff24e72ea1042b"), looks := true }, kinds := [], alts := [], laidByText := true, laidKinds := [.data, .data, .data, .data, .sentinel, .sentinel, .pinned], laidTests := true, laidLooks := .later }
def SetListsCardSaid : Prop := Claim7.holds Tryd.pinned (.plain (OpenSpec.ofChange setListsSpec)) setListsCard

/-- THE SECOND FORM's CARD OF 'concordatlaw06.SetAnswers'. -/
def setAnswersUptoCard : Claim7 := { stood := { row := setAnswersUptoRow, standIns := [], harness := (true, "17b44cf162a4910bd3c6160ab74f6b7b945a49529ce471c005ff24e72ea1042b"), looks := true }, kinds := [], alts := [], laidByText := true, laidKinds := [.data, .data, .data, .data, .sentinel, .sentinel, .pinned], laidTests := true, laidLooks := .later }
def SetAnswersUptoCardSaid : Prop := Claim7.holds Tryd.pinned (.plain (OpenSpec.upto setAnswersSpec)) setAnswersUptoCard

/-- THE SECOND FORM's CARD OF 'concordatlaw06.SetBack'. -/
def setBackUptoCard : Claim7 := { stood := { row := setBackUptoRow, standIns := [], harness := (true, "17b44cf162a4910bd3c6160ab74f6b7b945a49529ce471c005ff24e72ea1042b"), looks := true }, kinds := [], alts := [], laidByText := true, laidKinds := [.data, .data, .data, .data, .sentinel, .sentinel, .pinned], laidTests := true, laidLooks := .later }
def SetBackUptoCardSaid : Prop := Claim7.holds Tryd.pinned (.plain (OpenSpec.upto setBackSpec)) setBackUptoCard

/-- THE SECOND FORM's CARD OF 'concordatlaw06.SetOrder'. -/
def setOrderUptoCard : Claim7 := { stood := { row := setOrderUptoRow, standIns := [], harness := (true, "17b44cf162a4910bd3c6160ab74f6b7b945a49529ce471c005ff24e72ea1042b"), looks := true }, kinds := [], alts := [], laidByText := true, laidKinds := [.data, .data, .data, .data, .sentinel, .sentinel, .pinned], laidTests := true, laidLooks := .later }
def SetOrderUptoCardSaid : Prop := Claim7.holds Tryd.pinned (.plain (OpenSpec.upto setOrderSpec)) setOrderUptoCard

/-- THE SECOND FORM's CARD OF 'concordatlaw06.SetPool'. -/
def setPoolUptoCard : Claim7 := { stood := { row := setPoolUptoRow, standIns := [], harness := (true, "17b44cf162a4910bd3c6160ab74f6b7b945a49529ce471c005ff24e72ea1042b"), looks := true }, kinds := [], alts := [], laidByText := true, laidKinds := [.data, .data, .data, .data, .sentinel, .sentinel, .pinned], laidTests := true, laidLooks := .later }
def SetPoolUptoCardSaid : Prop := Claim7.holds Tryd.pinned (.plain (OpenSpec.upto setPoolSpec)) setPoolUptoCard

/-- THE SECOND FORM's CARD OF 'concordatlaw06.SetTexts'. -/
def setTextsUptoCard : Claim7 := { stood := { row := setTextsUptoRow, standIns := [], harness := (true, "17b44cf162a4910bd3c6160ab74f6b7b945a49529ce471c005ff24e72ea1042b"), looks := true }, kinds := [], alts := [], laidByText := true, laidKinds := [.data, .data, .data, .data, .sentinel, .sentinel, .pinned], laidTests := true, laidLooks := .later }
def SetTextsUptoCardSaid : Prop := Claim7.holds Tryd.pinned (.plain (OpenSpec.upto setTextsSpec)) setTextsUptoCard

/-- THE SECOND FORM's CARD OF 'concordatlaw06.SetLists'. -/
def setListsUptoCard : Claim7 := { stood := { row := setListsUptoRow, standIns := [], harness := (true, "17b44cf162a4910bd3c6160ab74f6b7b945a49529ce471c005ff24e72ea1042b"), looks := true }, kinds := [], alts := [], laidByText := true, laidKinds := [.data, .data, .data, .data, .sentinel, .sentinel, .pinned], laidTests := true, laidLooks := .later }
def SetListsUptoCardSaid : Prop := Claim7.holds Tryd.pinned (.plain (OpenSpec.upto setListsSpec)) setListsUptoCard
end Rows
end Go.Proofs.YthmccldkknhejaaDoor
