/-
  DERIVED. GIVEN WITH THE SEED: THE CARDS: each row of YtkoelgkcgkeodaaDoorRows.lean that lists a variable, with what it lists TIED to the program's text (the seventh form; the later family's looks); each row that meets fmt, with fmt's text TOLD by the authors' own Lean function (tested against real Go, not proved from fmt's source: count such statements apart). THE CARD IS WHAT COUNTS. Prove the row's statement (the work); the ties are given (YtkoelgkcgkeodaaDoorTie.lean); close each card by the builder's one call (the guide's Derived/Test/ToyasCard.lean, 'card_holds'). Laid BY PROGRAM, IN A SANDBOX (cutbox-door.mjs). By AI agents, Wed Nov 11 2026. No macro, syntax, notation, axiom, sorry.
-/
import Derived.Test.YtkoelgkcgkeodaaDoorRows
import GoSem.ClaimSeven
namespace Go.Proofs.YtkoelgkcgkeodaaDoor
namespace Rows

/-- THE TIED CARD OF 'rubricklaw03.SealSeals'. -/
def sealSealsCard : Claim7 := { stood := { row := sealSealsRow, standIns := [], harness := (true, "a534ac994dae32937b22ecda5438821d02c00ca224ab7a77876d1c97a2d6040b"), looks := false }, kinds := [], alts := [], laidByText := true, laidKinds := [.data], laidTests := true, laidLooks := .later }
def SealSealsCardSaid : Prop := Claim7.holds Tryd.pinned (.plain (OpenSpec.ofChange sealSealsSpec)) sealSealsCard

/-- THE TIED CARD OF 'rubricklaw03.SealClashes'. -/
def sealClashesCard : Claim7 := { stood := { row := sealClashesRow, standIns := [], harness := (true, "a534ac994dae32937b22ecda5438821d02c00ca224ab7a77876d1c97a2d6040b"), looks := false }, kinds := [], alts := [], laidByText := true, laidKinds := [.data], laidTests := true, laidLooks := .later }
def SealClashesCardSaid : Prop := Claim7.holds Tryd.pinned (.plain (OpenSpec.ofChange sealClashesSpec)) sealClashesCard

/-- THE TIED CARD OF 'rubricklaw03.SealApart'. -/
def sealApartCard : Claim7 := { stood := { row := sealApartRow, standIns := [], harness := (true, "a534ac994dae32937b22ecda5438821d02c00ca224ab7a77876d1c97a2d6040b"), looks := false }, kinds := [], alts := [], laidByText := true, laidKinds := [.data], laidTests := true, laidLooks := .later }
def SealApartCardSaid : Prop := Claim7.holds Tryd.pinned (.plain (OpenSpec.ofChange sealApartSpec)) sealApartCard

/-- THE TIED CARD OF 'rubricklaw03.SealTwo'. -/
def sealTwoCard : Claim7 := { stood := { row := sealTwoRow, standIns := [], harness := (true, "a534ac994dae32937b22ecda5438821d02c00ca224ab7a77876d1c97a2d6040b"), looks := false }, kinds := [], alts := [], laidByText := true, laidKinds := [.data], laidTests := true, laidLooks := .later }
def SealTwoCardSaid : Prop := Claim7.holds Tryd.pinned (.plain (OpenSpec.ofChange sealTwoSpec)) sealTwoCard

/-- THE TIED CARD OF 'rubricklaw03.SealLens'. -/
def sealLensCard : Claim7 := { stood := { row := sealLensRow, standIns := [], harness := (true, "a534ac994dae32937b22ecda5438821d02c00ca224ab7a77876d1c97a2d6040b"), looks := false }, kinds := [], alts := [], laidByText := true, laidKinds := [.data], laidTests := true, laidLooks := .later }
def SealLensCardSaid : Prop := Claim7.holds Tryd.pinned (.plain (OpenSpec.ofChange sealLensSpec)) sealLensCard

/-- THE SECOND FORM's CARD OF 'rubricklaw03.SealSeals'. -/
def sealSealsUptoCard : Claim7 := { stood := { row := sealSealsUptoRow, standIns := [], harness := (true, "a534ac994dae32937b22ecda5438821d02c00ca224ab7a77876d1c97a2d6040b"), looks := false }, kinds := [], alts := [], laidByText := true, laidKinds := [.data], laidTests := true, laidLooks := .later }
def SealSealsUptoCardSaid : Prop := Claim7.holds Tryd.pinned (.plain (OpenSpec.upto sealSealsSpec)) sealSealsUptoCard

/-- THE SECOND FORM's CARD OF 'rubricklaw03.SealClashes'. -/
def sealClashesUptoCard : Claim7 := { stood := { row := sealClashesUptoRow, standIns := [], harness := (true, "a534ac994dae32937b22ecda5438821d02c00ca224ab7a77876d1c97a2d6040b"), looks := false }, kinds := [], alts := [], laidByText := true, laidKinds := [.data], laidTests := true, laidLooks := .later }
def SealClashesUptoCardSaid : Prop := Claim7.holds Tryd.pinned (.plain (OpenSpec.upto sealClashesSpec)) sealClashesUptoCard

/-- THE SECOND FORM's CARD OF 'rubricklaw03.SealApart'. -/
def sealApartUptoCard : Claim7 := { stood := { row := sealApartUptoRow, standIns := [], harness := (true, "a534ac994dae32937b22ecda5438821d02c00ca224ab7a77876d1c97a2d6040b"), looks := false }, kinds := [], alts := [], laidByText := true, laidKinds := [.data], laidTests := true, laidLooks := .later }
def SealApartUptoCardSaid : Prop := Claim7.holds Tryd.pinned (.plain (OpenSpec.upto sealApartSpec)) sealApartUptoCard

/-- THE SECOND FORM's CARD OF 'rubricklaw03.SealTwo'. -/
def sealTwoUptoCard : Claim7 := { stood := { row := sealTwoUptoRow, standIns := [], harness := (true, "a534ac994dae32937b22ecda5438821d02c00ca224ab7a77876d1c97a2d6040b"), looks := false }, kinds := [], alts := [], laidByText := true, laidKinds := [.data], laidTests := true, laidLooks := .later }
def SealTwoUptoCardSaid : Prop := Claim7.holds Tryd.pinned (.plain (OpenSpec.upto sealTwoSpec)) sealTwoUptoCard

/-- THE SECOND FORM's CARD OF 'rubricklaw03.SealLens'. -/
def sealLensUptoCard : Claim7 := { stood := { row := sealLensUptoRow, standIns := [], harness := (true, "a534ac994dae32937b22ecda5438821d02c00ca224ab7a77876d1c97a2d6040b"), looks := false }, kinds := [], alts := [], laidByText := true, laidKinds := [.data], laidTests := true, laidLooks := .later }
def SealLensUptoCardSaid : Prop := Claim7.holds Tryd.pinned (.plain (OpenSpec.upto sealLensSpec)) sealLensUptoCard
end Rows
end Go.Proofs.YtkoelgkcgkeodaaDoor
