/-
  DERIVED. GIVEN WITH THE SEED: THE CARDS: each row of YtldghdbbooopdaaDoorRows.lean that lists a variable, with what it lists TIED to the program's text (the seventh form; the later family's looks); each row that meets fmt, with fmt's text TOLD by the authors' own Lean function (tested against real Go, not proved from fmt's source: count such statements apart). THE CARD IS WHAT COUNTS. Prove the row's statement (the work); the ties are given (YtldghdbbooopdaaDoorTie.lean); close each card by the builder's one call (the guide's Derived/Test/ToyasCard.lean, 'card_holds'). Laid BY PROGRAM, IN A SANDBOX (cutbox-door.mjs). By AI agents, Wed Nov 11 2026. No macro, syntax, notation, axiom, sorry.
-/
import Derived.Test.YtldghdbbooopdaaDoorRows
import GoSem.ClaimSeven
namespace Go.Proofs.YtldghdbbooopdaaDoor
namespace Rows

/-- THE TIED CARD OF 'rubricklaw07.ConsProves'. -/
def consProvesCard : Claim7 := { stood := { row := consProvesRow, standIns := [], harness := (true, "175d175014ce9daeea3226bf175211732ec6684c5b3a12bf1f59a2cecddafc99"), looks := false }, kinds := [], alts := [], laidByText := true, laidKinds := [.data], laidTests := true, laidLooks := .later }
def ConsProvesCardSaid : Prop := Claim7.holds Tryd.pinned (.plain (OpenSpec.ofChange consProvesSpec)) consProvesCard

/-- THE TIED CARD OF 'rubricklaw07.ConsChecks'. -/
def consChecksCard : Claim7 := { stood := { row := consChecksRow, standIns := [], harness := (true, "175d175014ce9daeea3226bf175211732ec6684c5b3a12bf1f59a2cecddafc99"), looks := false }, kinds := [], alts := [], laidByText := true, laidKinds := [.data], laidTests := true, laidLooks := .later }
def ConsChecksCardSaid : Prop := Claim7.holds Tryd.pinned (.plain (OpenSpec.ofChange consChecksSpec)) consChecksCard

/-- THE TIED CARD OF 'rubricklaw07.ConsBack'. -/
def consBackCard : Claim7 := { stood := { row := consBackRow, standIns := [], harness := (true, "175d175014ce9daeea3226bf175211732ec6684c5b3a12bf1f59a2cecddafc99"), looks := false }, kinds := [], alts := [], laidByText := true, laidKinds := [.data], laidTests := true, laidLooks := .later }
def ConsBackCardSaid : Prop := Claim7.holds Tryd.pinned (.plain (OpenSpec.ofChange consBackSpec)) consBackCard

/-- THE TIED CARD OF 'rubricklaw07.ConsLength'. -/
def consLengthCard : Claim7 := { stood := { row := consLengthRow, standIns := [], harness := (true, "175d175014ce9daeea3226bf175211732ec6684c5b3a12bf1f59a2cecddafc99"), looks := false }, kinds := [], alts := [], laidByText := true, laidKinds := [.data], laidTests := true, laidLooks := .later }
def ConsLengthCardSaid : Prop := Claim7.holds Tryd.pinned (.plain (OpenSpec.ofChange consLengthSpec)) consLengthCard

/-- THE TIED CARD OF 'rubricklaw07.ConsEnds'. -/
def consEndsCard : Claim7 := { stood := { row := consEndsRow, standIns := [], harness := (true, "175d175014ce9daeea3226bf175211732ec6684c5b3a12bf1f59a2cecddafc99"), looks := false }, kinds := [], alts := [], laidByText := true, laidKinds := [.data], laidTests := true, laidLooks := .later }
def ConsEndsCardSaid : Prop := Claim7.holds Tryd.pinned (.plain (OpenSpec.ofChange consEndsSpec)) consEndsCard

/-- THE SECOND FORM's CARD OF 'rubricklaw07.ConsProves'. -/
def consProvesUptoCard : Claim7 := { stood := { row := consProvesUptoRow, standIns := [], harness := (true, "175d175014ce9daeea3226bf175211732ec6684c5b3a12bf1f59a2cecddafc99"), looks := false }, kinds := [], alts := [], laidByText := true, laidKinds := [.data], laidTests := true, laidLooks := .later }
def ConsProvesUptoCardSaid : Prop := Claim7.holds Tryd.pinned (.plain (OpenSpec.upto consProvesSpec)) consProvesUptoCard

/-- THE SECOND FORM's CARD OF 'rubricklaw07.ConsChecks'. -/
def consChecksUptoCard : Claim7 := { stood := { row := consChecksUptoRow, standIns := [], harness := (true, "175d175014ce9daeea3226bf175211732ec6684c5b3a12bf1f59a2cecddafc99"), looks := false }, kinds := [], alts := [], laidByText := true, laidKinds := [.data], laidTests := true, laidLooks := .later }
def ConsChecksUptoCardSaid : Prop := Claim7.holds Tryd.pinned (.plain (OpenSpec.upto consChecksSpec)) consChecksUptoCard

/-- THE SECOND FORM's CARD OF 'rubricklaw07.ConsBack'. -/
def consBackUptoCard : Claim7 := { stood := { row := consBackUptoRow, standIns := [], harness := (true, "175d175014ce9daeea3226bf175211732ec6684c5b3a12bf1f59a2cecddafc99"), looks := false }, kinds := [], alts := [], laidByText := true, laidKinds := [.data], laidTests := true, laidLooks := .later }
def ConsBackUptoCardSaid : Prop := Claim7.holds Tryd.pinned (.plain (OpenSpec.upto consBackSpec)) consBackUptoCard

/-- THE SECOND FORM's CARD OF 'rubricklaw07.ConsLength'. -/
def consLengthUptoCard : Claim7 := { stood := { row := consLengthUptoRow, standIns := [], harness := (true, "175d175014ce9daeea3226bf175211732ec6684c5b3a12bf1f59a2cecddafc99"), looks := false }, kinds := [], alts := [], laidByText := true, laidKinds := [.data], laidTests := true, laidLooks := .later }
def ConsLengthUptoCardSaid : Prop := Claim7.holds Tryd.pinned (.plain (OpenSpec.upto consLengthSpec)) consLengthUptoCard

/-- THE SECOND FORM's CARD OF 'rubricklaw07.ConsEnds'. -/
def consEndsUptoCard : Claim7 := { stood := { row := consEndsUptoRow, standIns := [], harness := (true, "175d175014ce9daeea3226bf175211732ec6684c5b3a12bf1f59a2cecddafc99"), looks := false }, kinds := [], alts := [], laidByText := true, laidKinds := [.data], laidTests := true, laidLooks := .later }
def ConsEndsUptoCardSaid : Prop := Claim7.holds Tryd.pinned (.plain (OpenSpec.upto consEndsSpec)) consEndsUptoCard
end Rows
end Go.Proofs.YtldghdbbooopdaaDoor
