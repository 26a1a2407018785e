/-
  DERIVED. GIVEN WITH THE SEED: THE CARDS: each row of YtjobphjpfknfeaaDoorRows.lean that lists a variable, with what it lists TIED to the program's text (the seventh form; the later family's looks); each row that meets fmt, with fmt's text TOLD by the authors' own Lean function (tested against real Go, not proved from fmt's source: count such statements apart). THE CARD IS WHAT COUNTS. Prove the row's statement (the work); the ties are given (YtjobphjpfknfeaaDoorTie.lean); close each card by the builder's one call (the guide's Derived/Test/ToyasCard.lean, 'card_holds'). Laid BY PROGRAM, IN A SANDBOX (cutbox-door.mjs). By AI agents, Wed Nov 11 2026. No macro, syntax, notation, axiom, sorry.
-/
import Derived.Test.YtjobphjpfknfeaaDoorRows
import GoSem.ClaimSeven
namespace Go.Proofs.YtjobphjpfknfeaaDoor
namespace Rows

/-- THE TIED CARD OF 'vinculumlaw16.BondRising'. -/
def bondRisingCard : Claim7 := { stood := { row := bondRisingRow, standIns := [], harness := (true, "bacc289297809b29c20305e0dca6e29f819ca57c9c3fee58a8c7bc7d811577f0"), looks := false }, kinds := [], alts := [], laidByText := true, laidKinds := [.data], laidTests := true, laidLooks := .later }
def BondRisingCardSaid : Prop := Claim7.holds Tryd.pinned (.plain (OpenSpec.ofChange bondRisingSpec)) bondRisingCard

/-- THE TIED CARD OF 'vinculumlaw16.BondDooms'. -/
def bondDoomsCard : Claim7 := { stood := { row := bondDoomsRow, standIns := [], harness := (true, "bacc289297809b29c20305e0dca6e29f819ca57c9c3fee58a8c7bc7d811577f0"), looks := false }, kinds := [], alts := [], laidByText := true, laidKinds := [.data], laidTests := true, laidLooks := .later }
def BondDoomsCardSaid : Prop := Claim7.holds Tryd.pinned (.plain (OpenSpec.ofChange bondDoomsSpec)) bondDoomsCard

/-- THE TIED CARD OF 'vinculumlaw16.BondEnds'. -/
def bondEndsCard : Claim7 := { stood := { row := bondEndsRow, standIns := [], harness := (true, "bacc289297809b29c20305e0dca6e29f819ca57c9c3fee58a8c7bc7d811577f0"), looks := false }, kinds := [], alts := [], laidByText := true, laidKinds := [.data], laidTests := true, laidLooks := .later }
def BondEndsCardSaid : Prop := Claim7.holds Tryd.pinned (.plain (OpenSpec.ofChange bondEndsSpec)) bondEndsCard

/-- THE TIED CARD OF 'vinculumlaw16.BondPlays'. -/
def bondPlaysCard : Claim7 := { stood := { row := bondPlaysRow, standIns := [], harness := (true, "bacc289297809b29c20305e0dca6e29f819ca57c9c3fee58a8c7bc7d811577f0"), looks := false }, kinds := [], alts := [], laidByText := true, laidKinds := [.data], laidTests := true, laidLooks := .later }
def BondPlaysCardSaid : Prop := Claim7.holds Tryd.pinned (.plain (OpenSpec.ofChange bondPlaysSpec)) bondPlaysCard

/-- THE TIED CARD OF 'vinculumlaw16.BondChains'. -/
def bondChainsCard : Claim7 := { stood := { row := bondChainsRow, standIns := [], harness := (true, "bacc289297809b29c20305e0dca6e29f819ca57c9c3fee58a8c7bc7d811577f0"), looks := false }, kinds := [], alts := [], laidByText := true, laidKinds := [.data], laidTests := true, laidLooks := .later }
def BondChainsCardSaid : Prop := Claim7.holds Tryd.pinned (.plain (OpenSpec.ofChange bondChainsSpec)) bondChainsCard

/-- THE TIED CARD OF 'vinculumlaw16.BondLoops'. -/
def bondLoopsCard : Claim7 := { stood := { row := bondLoopsRow, standIns := [], harness := (true, "bacc289297809b29c20305e0dca6e29f819ca57c9c3fee58a8c7bc7d811577f0"), looks := false }, kinds := [], alts := [], laidByText := true, laidKinds := [.data], laidTests := true, laidLooks := .later }
def BondLoopsCardSaid : Prop := Claim7.holds Tryd.pinned (.plain (OpenSpec.ofChange bondLoopsSpec)) bondLoopsCard

/-- THE TIED CARD OF 'vinculumlaw16.BondFans'. -/
def bondFansCard : Claim7 := { stood := { row := bondFansRow, standIns := [], harness := (true, "bacc289297809b29c20305e0dca6e29f819ca57c9c3fee58a8c7bc7d811577f0"), looks := false }, kinds := [], alts := [], laidByText := true, laidKinds := [.data], laidTests := true, laidLooks := .later }
def BondFansCardSaid : Prop := Claim7.holds Tryd.pinned (.plain (OpenSpec.ofChange bondFansSpec)) bondFansCard

/-- THE SECOND FORM's CARD OF 'vinculumlaw16.BondRising'. -/
def bondRisingUptoCard : Claim7 := { stood := { row := bondRisingUptoRow, standIns := [], harness := (true, "bacc289297809b29c20305e0dca6e29f819ca57c9c3fee58a8c7bc7d811577f0"), looks := false }, kinds := [], alts := [], laidByText := true, laidKinds := [.data], laidTests := true, laidLooks := .later }
def BondRisingUptoCardSaid : Prop := Claim7.holds Tryd.pinned (.plain (OpenSpec.upto bondRisingSpec)) bondRisingUptoCard

/-- THE SECOND FORM's CARD OF 'vinculumlaw16.BondDooms'. -/
def bondDoomsUptoCard : Claim7 := { stood := { row := bondDoomsUptoRow, standIns := [], harness := (true, "bacc289297809b29c20305e0dca6e29f819ca57c9c3fee58a8c7bc7d811577f0"), looks := false }, kinds := [], alts := [], laidByText := true, laidKinds := [.data], laidTests := true, laidLooks := .later }
def BondDoomsUptoCardSaid : Prop := Claim7.holds Tryd.pinned (.plain (OpenSpec.upto bondDoomsSpec)) bondDoomsUptoCard

/-- THE SECOND FORM's CARD OF 'vinculumlaw16.BondEnds'. -/
def bondEndsUptoCard : Claim7 := { stood := { row := bondEndsUptoRow, standIns := [], harness := (true, "bacc289297809b29c20305e0dca6e29f819ca57c9c3fee58a8c7bc7d811577f0"), looks := false }, kinds := [], alts := [], laidByText := true, laidKinds := [.data], laidTests := true, laidLooks := .later }
def BondEndsUptoCardSaid : Prop := Claim7.holds Tryd.pinned (.plain (OpenSpec.upto bondEndsSpec)) bondEndsUptoCard

/-- THE SECOND FORM's CARD OF 'vinculumlaw16.BondPlays'. -/
def bondPlaysUptoCard : Claim7 := { stood := { row := bondPlaysUptoRow, standIns := [], harness := (true, "bacc289297809b29c20305e0dca6e29f819ca57c9c3fee58a8c7bc7d811577f0"), looks := false }, kinds := [], alts := [], laidByText := true, laidKinds := [.data], laidTests := true, laidLooks := .later }
def BondPlaysUptoCardSaid : Prop := Claim7.holds Tryd.pinned (.plain (OpenSpec.upto bondPlaysSpec)) bondPlaysUptoCard

/-- THE SECOND FORM's CARD OF 'vinculumlaw16.BondChains'. -/
def bondChainsUptoCard : Claim7 := { stood := { row := bondChainsUptoRow, standIns := [], harness := (true, "bacc289297809b29c20305e0dca6e29f819ca57c9c3fee58a8c7bc7d811577f0"), looks := false }, kinds := [], alts := [], laidByText := true, laidKinds := [.data], laidTests := true, laidLooks := .later }
def BondChainsUptoCardSaid : Prop := Claim7.holds Tryd.pinned (.plain (OpenSpec.upto bondChainsSpec)) bondChainsUptoCard

/-- THE SECOND FORM's CARD OF 'vinculumlaw16.BondLoops'. -/
def bondLoopsUptoCard : Claim7 := { stood := { row := bondLoopsUptoRow, standIns := [], harness := (true, "bacc289297809b29c20305e0dca6e29f819ca57c9c3fee58a8c7bc7d811577f0"), looks := false }, kinds := [], alts := [], laidByText := true, laidKinds := [.data], laidTests := true, laidLooks := .later }
def BondLoopsUptoCardSaid : Prop := Claim7.holds Tryd.pinned (.plain (OpenSpec.upto bondLoopsSpec)) bondLoopsUptoCard

/-- THE SECOND FORM's CARD OF 'vinculumlaw16.BondFans'. -/
def bondFansUptoCard : Claim7 := { stood := { row := bondFansUptoRow, standIns := [], harness := (true, "bacc289297809b29c20305e0dca6e29f819ca57c9c3fee58a8c7bc7d811577f0"), looks := false }, kinds := [], alts := [], laidByText := true, laidKinds := [.data], laidTests := true, laidLooks := .later }
def BondFansUptoCardSaid : Prop := Claim7.holds Tryd.pinned (.plain (OpenSpec.upto bondFansSpec)) bondFansUptoCard
end Rows
end Go.Proofs.YtjobphjpfknfeaaDoor
