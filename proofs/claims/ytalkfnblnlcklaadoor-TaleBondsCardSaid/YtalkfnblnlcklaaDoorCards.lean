/-
  DERIVED. GIVEN WITH THE SEED: THE CARDS: each row of YtalkfnblnlcklaaDoorRows.lean that lists a variable, with what it lists TIED to the program's text (the seventh form; the later family's looks); each row that meets fmt, with fmt's text TOLD by the authors' own Lean function (tested against real Go, not proved from fmt's source: count such statements apart). THE CARD IS WHAT COUNTS. Prove the row's statement (the work); the ties are given (YtalkfnblnlcklaaDoorTie.lean); close each card by the builder's one call (the guide's Derived/Test/ToyasCard.lean, 'card_holds'). Laid BY PROGRAM, IN A SANDBOX (cutbox-door.mjs). By AI agents, Wed Nov 11 2026. No macro, syntax, notation, axiom, sorry.
-/
import Derived.Test.YtalkfnblnlcklaaDoorRows
import GoSem.ClaimSeven
namespace Go.Proofs.YtalkfnblnlcklaaDoor
namespace Rows

/-- THE TIED CARD OF 'vinculumlaw20.TaleBonds'. -/
def taleBondsCard : Claim7 := { stood := { row := taleBondsRow, standIns := [], harness := (true, "4778c21c9babcd07d1767dc389ac77a6cf088905dff258ad0889d26174f49a44"), looks := false }, kinds := [], alts := [], laidByText := true, laidKinds := [.data, .data, .data, .data], laidTests := true, laidLooks := .later }
def TaleBondsCardSaid : Prop := Claim7.holds Tryd.pinned (.plain (OpenSpec.ofChange taleBondsSpec)) taleBondsCard

/-- THE TIED CARD OF 'vinculumlaw20.TaleLines'. -/
def taleLinesCard : Claim7 := { stood := { row := taleLinesRow, standIns := [], harness := (true, "4778c21c9babcd07d1767dc389ac77a6cf088905dff258ad0889d26174f49a44"), looks := false }, kinds := [], alts := [], laidByText := true, laidKinds := [.data, .data, .data, .data], laidTests := true, laidLooks := .later }
def TaleLinesCardSaid : Prop := Claim7.holds Tryd.pinned (.plain (OpenSpec.ofChange taleLinesSpec)) taleLinesCard

/-- THE TIED CARD OF 'vinculumlaw20.TaleCuts'. -/
def taleCutsCard : Claim7 := { stood := { row := taleCutsRow, standIns := [], harness := (true, "4778c21c9babcd07d1767dc389ac77a6cf088905dff258ad0889d26174f49a44"), looks := false }, kinds := [], alts := [], laidByText := true, laidKinds := [.data, .data, .data, .data], laidTests := true, laidLooks := .later }
def TaleCutsCardSaid : Prop := Claim7.holds Tryd.pinned (.plain (OpenSpec.ofChange taleCutsSpec)) taleCutsCard

/-- THE SECOND FORM's CARD OF 'vinculumlaw20.TaleBonds'. -/
def taleBondsUptoCard : Claim7 := { stood := { row := taleBondsUptoRow, standIns := [], harness := (true, "4778c21c9babcd07d1767dc389ac77a6cf088905dff258ad0889d26174f49a44"), looks := false }, kinds := [], alts := [], laidByText := true, laidKinds := [.data, .data, .data, .data], laidTests := true, laidLooks := .later }
def TaleBondsUptoCardSaid : Prop := Claim7.holds Tryd.pinned (.plain (OpenSpec.upto taleBondsSpec)) taleBondsUptoCard

/-- THE SECOND FORM's CARD OF 'vinculumlaw20.TaleLines'. -/
def taleLinesUptoCard : Claim7 := { stood := { row := taleLinesUptoRow, standIns := [], harness := (true, "4778c21c9babcd07d1767dc389ac77a6cf088905dff258ad0889d26174f49a44"), looks := false }, kinds := [], alts := [], laidByText := true, laidKinds := [.data, .data, .data, .data], laidTests := true, laidLooks := .later }
def TaleLinesUptoCardSaid : Prop := Claim7.holds Tryd.pinned (.plain (OpenSpec.upto taleLinesSpec)) taleLinesUptoCard

/-- THE SECOND FORM's CARD OF 'vinculumlaw20.TaleCuts'. -/
def taleCutsUptoCard : Claim7 := { stood := { row := taleCutsUptoRow, standIns := [], harness := (true, "4778c21c9babcd07d1767dc389ac77a6cf088905dff258ad0889d26174f49a44"), looks := false }, kinds := [], alts := [], laidByText := true, laidKinds := [.data, .data, .data, .data], laidTests := true, laidLooks := .later }
def TaleCutsUptoCardSaid : Prop := Claim7.holds Tryd.pinned (.plain (OpenSpec.upto taleCutsSpec)) taleCutsUptoCard
end Rows
end Go.Proofs.YtalkfnblnlcklaaDoor
