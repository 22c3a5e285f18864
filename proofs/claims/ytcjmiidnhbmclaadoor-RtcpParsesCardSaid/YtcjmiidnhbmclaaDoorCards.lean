/-
  DERIVED. GIVEN WITH THE SEED: THE CARDS: each row of YtcjmiidnhbmclaaDoorRows.lean that lists a variable, with what it lists TIED to the program's text (the seventh form; the later family's looks); each row that meets fmt, with fmt's text TOLD by the authors' own Lean function (tested against real Go, not proved from fmt's source: count such statements apart). THE CARD IS WHAT COUNTS. Prove the row's statement (the work); the ties are given (YtcjmiidnhbmclaaDoorTie.lean); close each card by the builder's one call (the guide's Derived/Test/ToyasCard.lean, 'card_holds'). Laid BY PROGRAM, IN A SANDBOX (cutbox-door.mjs). By AI agents, Wed Nov 11 2026. No macro, syntax, notation, axiom, sorry.
-/
import Derived.Test.YtcjmiidnhbmclaaDoorRows
import GoSem.ClaimSeven
namespace Go.Proofs.YtcjmiidnhbmclaaDoor
namespace Rows

/-- THE TIED CARD OF 'louverlaw09.RtcpPuts'. -/
def rtcpPutsCard : Claim7 := { stood := { row := rtcpPutsRow, standIns := [], harness := (true, "43220aab9b1970ee321f7e0974090884d79636b54e389793af709f370493d7b1"), looks := false }, kinds := [], alts := [], laidByText := true, laidKinds := [.data], laidTests := true, laidLooks := .later }
def RtcpPutsCardSaid : Prop := Claim7.holds Tryd.pinned (.plain (OpenSpec.ofChange rtcpPutsSpec)) rtcpPutsCard

/-- THE TIED CARD OF 'louverlaw09.RtcpParses'. -/
def rtcpParsesCard : Claim7 := { stood := { row := rtcpParsesRow, standIns := [], harness := (true, "43220aab9b1970ee321f7e0974090884d79636b54e389793af709f370493d7b1"), looks := false }, kinds := [], alts := [], laidByText := true, laidKinds := [.data], laidTests := true, laidLooks := .later }
def RtcpParsesCardSaid : Prop := Claim7.holds Tryd.pinned (.plain (OpenSpec.ofChange rtcpParsesSpec)) rtcpParsesCard

/-- THE TIED CARD OF 'louverlaw09.RtcpBack'. -/
def rtcpBackCard : Claim7 := { stood := { row := rtcpBackRow, standIns := [], harness := (true, "43220aab9b1970ee321f7e0974090884d79636b54e389793af709f370493d7b1"), looks := false }, kinds := [], alts := [], laidByText := true, laidKinds := [.data], laidTests := true, laidLooks := .later }
def RtcpBackCardSaid : Prop := Claim7.holds Tryd.pinned (.plain (OpenSpec.ofChange rtcpBackSpec)) rtcpBackCard

/-- THE TIED CARD OF 'louverlaw09.RtcpCuts'. -/
def rtcpCutsCard : Claim7 := { stood := { row := rtcpCutsRow, standIns := [], harness := (true, "43220aab9b1970ee321f7e0974090884d79636b54e389793af709f370493d7b1"), looks := false }, kinds := [], alts := [], laidByText := true, laidKinds := [.data], laidTests := true, laidLooks := .later }
def RtcpCutsCardSaid : Prop := Claim7.holds Tryd.pinned (.plain (OpenSpec.ofChange rtcpCutsSpec)) rtcpCutsCard

/-- THE TIED CARD OF 'louverlaw09.RtcpJoins'. -/
def rtcpJoinsCard : Claim7 := { stood := { row := rtcpJoinsRow, standIns := [], harness := (true, "43220aab9b1970ee321f7e0974090884d79636b54e389793af709f370493d7b1"), looks := false }, kinds := [], alts := [], laidByText := true, laidKinds := [.data], laidTests := true, laidLooks := .later }
def RtcpJoinsCardSaid : Prop := Claim7.holds Tryd.pinned (.plain (OpenSpec.ofChange rtcpJoinsSpec)) rtcpJoinsCard

/-- THE TIED CARD OF 'louverlaw09.RtcpOthers'. -/
def rtcpOthersCard : Claim7 := { stood := { row := rtcpOthersRow, standIns := [], harness := (true, "43220aab9b1970ee321f7e0974090884d79636b54e389793af709f370493d7b1"), looks := false }, kinds := [], alts := [], laidByText := true, laidKinds := [.data], laidTests := true, laidLooks := .later }
def RtcpOthersCardSaid : Prop := Claim7.holds Tryd.pinned (.plain (OpenSpec.ofChange rtcpOthersSpec)) rtcpOthersCard

/-- THE SECOND FORM's CARD OF 'louverlaw09.RtcpPuts'. -/
def rtcpPutsUptoCard : Claim7 := { stood := { row := rtcpPutsUptoRow, standIns := [], harness := (true, "43220aab9b1970ee321f7e0974090884d79636b54e389793af709f370493d7b1"), looks := false }, kinds := [], alts := [], laidByText := true, laidKinds := [.data], laidTests := true, laidLooks := .later }
def RtcpPutsUptoCardSaid : Prop := Claim7.holds Tryd.pinned (.plain (OpenSpec.upto rtcpPutsSpec)) rtcpPutsUptoCard

/-- THE SECOND FORM's CARD OF 'louverlaw09.RtcpParses'. -/
def rtcpParsesUptoCard : Claim7 := { stood := { row := rtcpParsesUptoRow, standIns := [], harness := (true, "43220aab9b1970ee321f7e0974090884d79636b54e389793af709f370493d7b1"), looks := false }, kinds := [], alts := [], laidByText := true, laidKinds := [.data], laidTests := true, laidLooks := .later }
def RtcpParsesUptoCardSaid : Prop := Claim7.holds Tryd.pinned (.plain (OpenSpec.upto rtcpParsesSpec)) rtcpParsesUptoCard

/-- THE SECOND FORM's CARD OF 'louverlaw09.RtcpBack'. -/
def rtcpBackUptoCard : Claim7 := { stood := { row := rtcpBackUptoRow, standIns := [], harness := (true, "43220aab9b1970ee321f7e0974090884d79636b54e389793af709f370493d7b1"), looks := false }, kinds := [], alts := [], laidByText := true, laidKinds := [.data], laidTests := true, laidLooks := .later }
def RtcpBackUptoCardSaid : Prop := Claim7.holds Tryd.pinned (.plain (OpenSpec.upto rtcpBackSpec)) rtcpBackUptoCard

/-- THE SECOND FORM's CARD OF 'louverlaw09.RtcpCuts'. -/
def rtcpCutsUptoCard : Claim7 := { stood := { row := rtcpCutsUptoRow, standIns := [], harness := (true, "43220aab9b1970ee321f7e0974090884d79636b54e389793af709f370493d7b1"), looks := false }, kinds := [], alts := [], laidByText := true, laidKinds := [.data], laidTests := true, laidLooks := .later }
def RtcpCutsUptoCardSaid : Prop := Claim7.holds Tryd.pinned (.plain (OpenSpec.upto rtcpCutsSpec)) rtcpCutsUptoCard

/-- THE SECOND FORM's CARD OF 'louverlaw09.RtcpJoins'. -/
def rtcpJoinsUptoCard : Claim7 := { stood := { row := rtcpJoinsUptoRow, standIns := [], harness := (true, "43220aab9b1970ee321f7e0974090884d79636b54e389793af709f370493d7b1"), looks := false }, kinds := [], alts := [], laidByText := true, laidKinds := [.data], laidTests := true, laidLooks := .later }
def RtcpJoinsUptoCardSaid : Prop := Claim7.holds Tryd.pinned (.plain (OpenSpec.upto rtcpJoinsSpec)) rtcpJoinsUptoCard

/-- THE SECOND FORM's CARD OF 'louverlaw09.RtcpOthers'. -/
def rtcpOthersUptoCard : Claim7 := { stood := { row := rtcpOthersUptoRow, standIns := [], harness := (true, "43220aab9b1970ee321f7e0974090884d79636b54e389793af709f370493d7b1"), looks := false }, kinds := [], alts := [], laidByText := true, laidKinds := [.data], laidTests := true, laidLooks := .later }
def RtcpOthersUptoCardSaid : Prop := Claim7.holds Tryd.pinned (.plain (OpenSpec.upto rtcpOthersSpec)) rtcpOthersUptoCard
end Rows
end Go.Proofs.YtcjmiidnhbmclaaDoor
