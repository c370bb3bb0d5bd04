/-
  DERIVED. GIVEN WITH THE SEED: THE CARDS: each row of YtepmhejmfbcobaaDoorRows.lean that lists a variable, with what it lists TIED to the program's text (the seventh form; the later family's looks); each row that meets fmt, with fmt's text TOLD by the authors' own Lean function (tested against real Go, not proved from fmt's source: count such statements apart). THE CARD IS WHAT COUNTS. Prove the row's statement (the work); the ties are given (YtepmhejmfbcobaaDoorTie.lean); close each card by the builder's one call (the guide's Derived/Test/ToyasCard.lean, 'card_holds'). Laid BY PROGRAM, IN A SANDBOX (cutbox-door.mjs). By AI agents, Wed Nov 11 2026. No macro, syntax, notation, axiom, sorry.
-/
import Derived.Test.YtepmhejmfbcobaaDoorRows
import GoSem.ClaimSeven
namespace Go.Proofs.YtepmhejmfbcobaaDoor
namespace Rows

/-- THE TIED CARD OF 'flumelaw08.MacSeals'. -/
def macSealsCard : Claim7 := { stood := { row := macSealsRow, standIns := [], harness := (true, "548818a11e97416bfe589dd3bef04e86a870f7a0f927cf50379a9f55926b0257"), looks := false }, kinds := [], alts := [], laidByText := true, laidKinds := [.data, .data], laidTests := true, laidLooks := .later }
def MacSealsCardSaid : Prop := Claim7.holds Tryd.pinned (.plain (OpenSpec.ofChange macSealsSpec)) macSealsCard

/-- THE TIED CARD OF 'flumelaw08.MacKeys'. -/
def macKeysCard : Claim7 := { stood := { row := macKeysRow, standIns := [], harness := (true, "548818a11e97416bfe589dd3bef04e86a870f7a0f927cf50379a9f55926b0257"), looks := false }, kinds := [], alts := [], laidByText := true, laidKinds := [.data, .data], laidTests := true, laidLooks := .later }
def MacKeysCardSaid : Prop := Claim7.holds Tryd.pinned (.plain (OpenSpec.ofChange macKeysSpec)) macKeysCard

/-- THE TIED CARD OF 'flumelaw08.MacAgain'. -/
def macAgainCard : Claim7 := { stood := { row := macAgainRow, standIns := [], harness := (true, "548818a11e97416bfe589dd3bef04e86a870f7a0f927cf50379a9f55926b0257"), looks := false }, kinds := [], alts := [], laidByText := true, laidKinds := [.data, .data], laidTests := true, laidLooks := .later }
def MacAgainCardSaid : Prop := Claim7.holds Tryd.pinned (.plain (OpenSpec.ofChange macAgainSpec)) macAgainCard

/-- THE TIED CARD OF 'flumelaw08.MacChains'. -/
def macChainsCard : Claim7 := { stood := { row := macChainsRow, standIns := [], harness := (true, "548818a11e97416bfe589dd3bef04e86a870f7a0f927cf50379a9f55926b0257"), looks := false }, kinds := [], alts := [], laidByText := true, laidKinds := [.data, .data], laidTests := true, laidLooks := .later }
def MacChainsCardSaid : Prop := Claim7.holds Tryd.pinned (.plain (OpenSpec.ofChange macChainsSpec)) macChainsCard

/-- THE SECOND FORM's CARD OF 'flumelaw08.MacSeals'. -/
def macSealsUptoCard : Claim7 := { stood := { row := macSealsUptoRow, standIns := [], harness := (true, "548818a11e97416bfe589dd3bef04e86a870f7a0f927cf50379a9f55926b0257"), looks := false }, kinds := [], alts := [], laidByText := true, laidKinds := [.data, .data], laidTests := true, laidLooks := .later }
def MacSealsUptoCardSaid : Prop := Claim7.holds Tryd.pinned (.plain (OpenSpec.upto macSealsSpec)) macSealsUptoCard

/-- THE SECOND FORM's CARD OF 'flumelaw08.MacKeys'. -/
def macKeysUptoCard : Claim7 := { stood := { row := macKeysUptoRow, standIns := [], harness := (true, "548818a11e97416bfe589dd3bef04e86a870f7a0f927cf50379a9f55926b0257"), looks := false }, kinds := [], alts := [], laidByText := true, laidKinds := [.data, .data], laidTests := true, laidLooks := .later }
def MacKeysUptoCardSaid : Prop := Claim7.holds Tryd.pinned (.plain (OpenSpec.upto macKeysSpec)) macKeysUptoCard

/-- THE SECOND FORM's CARD OF 'flumelaw08.MacAgain'. -/
def macAgainUptoCard : Claim7 := { stood := { row := macAgainUptoRow, standIns := [], harness := (true, "548818a11e97416bfe589dd3bef04e86a870f7a0f927cf50379a9f55926b0257"), looks := false }, kinds := [], alts := [], laidByText := true, laidKinds := [.data, .data], laidTests := true, laidLooks := .later }
def MacAgainUptoCardSaid : Prop := Claim7.holds Tryd.pinned (.plain (OpenSpec.upto macAgainSpec)) macAgainUptoCard

/-- THE SECOND FORM's CARD OF 'flumelaw08.MacChains'. -/
def macChainsUptoCard : Claim7 := { stood := { row := macChainsUptoRow, standIns := [], harness := (true, "548818a11e97416bfe589dd3bef04e86a870f7a0f927cf50379a9f55926b0257"), looks := false }, kinds := [], alts := [], laidByText := true, laidKinds := [.data, .data], laidTests := true, laidLooks := .later }
def MacChainsUptoCardSaid : Prop := Claim7.holds Tryd.pinned (.plain (OpenSpec.upto macChainsSpec)) macChainsUptoCard
end Rows
end Go.Proofs.YtepmhejmfbcobaaDoor
