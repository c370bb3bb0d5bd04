/-
  DERIVED. GIVEN WITH THE SEED: THE CARDS: each row of YtmbgjijajakgeaaDoorRows.lean that lists a variable, with what it lists TIED to the program's text (the seventh form; the later family's looks); each row that meets fmt, with fmt's text TOLD by the authors' own Lean function (tested against real Go, not proved from fmt's source: count such statements apart). THE CARD IS WHAT COUNTS. Prove the row's statement (the work); the ties are given (YtmbgjijajakgeaaDoorTie.lean); close each card by the builder's one call (the guide's Derived/Test/ToyasCard.lean, 'card_holds'). Laid BY PROGRAM, IN A SANDBOX (cutbox-door.mjs). By AI agents, Wed Nov 11 2026. No macro, syntax, notation, axiom, sorry.
-/
import Derived.Test.YtmbgjijajakgeaaDoorRows
import GoSem.ClaimSeven
namespace Go.Proofs.YtmbgjijajakgeaaDoor
namespace Rows

/-- THE TIED CARD OF 'flumelaw09.CookieMakes'. -/
def cookieMakesCard : Claim7 := { stood := { row := cookieMakesRow, standIns := [], harness := (true, "d1f23317c1d23e5b14195f30f7cff69ffccaf82393da8e2de0426d354ceb044e"), looks := false }, kinds := [], alts := [], laidByText := true, laidKinds := [.data, .data], laidTests := true, laidLooks := .later }
def CookieMakesCardSaid : Prop := Claim7.holds Tryd.pinned (.plain (OpenSpec.ofChange cookieMakesSpec)) cookieMakesCard

/-- THE TIED CARD OF 'flumelaw09.CookieOpens'. -/
def cookieOpensCard : Claim7 := { stood := { row := cookieOpensRow, standIns := [], harness := (true, "d1f23317c1d23e5b14195f30f7cff69ffccaf82393da8e2de0426d354ceb044e"), looks := false }, kinds := [], alts := [], laidByText := true, laidKinds := [.data, .data], laidTests := true, laidLooks := .later }
def CookieOpensCardSaid : Prop := Claim7.holds Tryd.pinned (.plain (OpenSpec.ofChange cookieOpensSpec)) cookieOpensCard

/-- THE TIED CARD OF 'flumelaw09.CookieTurned'. -/
def cookieTurnedCard : Claim7 := { stood := { row := cookieTurnedRow, standIns := [], harness := (true, "d1f23317c1d23e5b14195f30f7cff69ffccaf82393da8e2de0426d354ceb044e"), looks := false }, kinds := [], alts := [], laidByText := true, laidKinds := [.data, .data], laidTests := true, laidLooks := .later }
def CookieTurnedCardSaid : Prop := Claim7.holds Tryd.pinned (.plain (OpenSpec.ofChange cookieTurnedSpec)) cookieTurnedCard

/-- THE TIED CARD OF 'flumelaw09.CookieAges'. -/
def cookieAgesCard : Claim7 := { stood := { row := cookieAgesRow, standIns := [], harness := (true, "d1f23317c1d23e5b14195f30f7cff69ffccaf82393da8e2de0426d354ceb044e"), looks := false }, kinds := [], alts := [], laidByText := true, laidKinds := [.data, .data], laidTests := true, laidLooks := .later }
def CookieAgesCardSaid : Prop := Claim7.holds Tryd.pinned (.plain (OpenSpec.ofChange cookieAgesSpec)) cookieAgesCard

/-- THE SECOND FORM's CARD OF 'flumelaw09.CookieMakes'. -/
def cookieMakesUptoCard : Claim7 := { stood := { row := cookieMakesUptoRow, standIns := [], harness := (true, "d1f23317c1d23e5b14195f30f7cff69ffccaf82393da8e2de0426d354ceb044e"), looks := false }, kinds := [], alts := [], laidByText := true, laidKinds := [.data, .data], laidTests := true, laidLooks := .later }
def CookieMakesUptoCardSaid : Prop := Claim7.holds Tryd.pinned (.plain (OpenSpec.upto cookieMakesSpec)) cookieMakesUptoCard

/-- THE SECOND FORM's CARD OF 'flumelaw09.CookieOpens'. -/
def cookieOpensUptoCard : Claim7 := { stood := { row := cookieOpensUptoRow, standIns := [], harness := (true, "d1f23317c1d23e5b14195f30f7cff69ffccaf82393da8e2de0426d354ceb044e"), looks := false }, kinds := [], alts := [], laidByText := true, laidKinds := [.data, .data], laidTests := true, laidLooks := .later }
def CookieOpensUptoCardSaid : Prop := Claim7.holds Tryd.pinned (.plain (OpenSpec.upto cookieOpensSpec)) cookieOpensUptoCard

/-- THE SECOND FORM's CARD OF 'flumelaw09.CookieTurned'. -/
def cookieTurnedUptoCard : Claim7 := { stood := { row := cookieTurnedUptoRow, standIns := [], harness := (true, "d1f23317c1d23e5b14195f30f7cff69ffccaf82393da8e2de0426d354ceb044e"), looks := false }, kinds := [], alts := [], laidByText := true, laidKinds := [.data, .data], laidTests := true, laidLooks := .later }
def CookieTurnedUptoCardSaid : Prop := Claim7.holds Tryd.pinned (.plain (OpenSpec.upto cookieTurnedSpec)) cookieTurnedUptoCard

/-- THE SECOND FORM's CARD OF 'flumelaw09.CookieAges'. -/
def cookieAgesUptoCard : Claim7 := { stood := { row := cookieAgesUptoRow, standIns := [], harness := (true, "d1f23317c1d23e5b14195f30f7cff69ffccaf82393da8e2de0426d354ceb044e"), looks := false }, kinds := [], alts := [], laidByText := true, laidKinds := [.data, .data], laidTests := true, laidLooks := .later }
def CookieAgesUptoCardSaid : Prop := Claim7.holds Tryd.pinned (.plain (OpenSpec.upto cookieAgesSpec)) cookieAgesUptoCard
end Rows
end Go.Proofs.YtmbgjijajakgeaaDoor
