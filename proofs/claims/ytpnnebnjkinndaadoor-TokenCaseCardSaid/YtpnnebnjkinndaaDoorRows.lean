/-
  NARROWER THAN 'FOR EVERY INPUT', by the rows' own cells (each row's printed sentence says how): TokenCuts: laid · TokenPlaces: laid · TokenRights: laid · TokenRows: laid · TokenSets: laid · TokenCase: laid.
  DERIVED. THE GIVEN ROWS OF THIS SEAT. 6 by the template 'for every input the law returns true; each argument reads behind the call as it read before'; 0 by the template 'total and deterministic' (their statements: YtpnnebnjkinndaaDoorTotals.lean).
  GIVEN WITH THE SEED: the statements are not yours to turn. If you find one false, say at which input.
  Laid BY PROGRAM, IN A SANDBOX (cutbox-rows.mjs): the forced cells as the released guide's own fill.sh prints them over the translation 4272184c0eaf15f5… (all of the seat's roots in one cut). By AI agents, Wed Nov 11 2026. No macro, syntax, notation, axiom, sorry.
-/
import Derived.Test.YtpnnebnjkinndaaDoorChecked
import GoSem.Claim
import GoSem.ClaimJoined
import GoSem.ClaimMapViews
import Derived.JoinedTies
import Derived.KernelRfl
namespace Go.Proofs.YtpnnebnjkinndaaDoor
/- THE CELL 'sum', in the pinned program and in every row, IS THE sha256 OF THE DUMP (.gsa) THAT YtpnnebnjkinndaaDoorProg.lean LOADS. Nothing in Lean hashes anything: it is a label: what it is worth is what the hold of that sum in a sandbox is worth. -/
noncomputable def Tryd.pinned : Pinned := { name := "ytpnnebnjkinndaadoor", sum := "4272184c0eaf15f5eccef1425be52d77fb413d0ec6b5dd2bb489caf6482f2b74", checked := Tryd.checked }
namespace Rows
def none {H : Type} : Left H := { results := [], args := [] }

/- WHAT THE LISTED PACKAGE-LEVEL VARIABLES READ AS WHEN THE CALL BEGINS. Each datum BY PROGRAM (the guide's laid-datum.mjs) off the statement by which the dump's own 'gosem.cut.vars' lays the variable. In a bare row this is a premise. The card (YtpnnebnjkinndaaDoorCards.lean) ties it to the program's text. -/
def laid_rubrick_utf_classes {H : Type} : DataW H := .agg [.agg [.lit (.int .i64 48), .lit (.int .i64 57), .lit (.int .i64 2)], .agg [.lit (.int .i64 65), .lit (.int .i64 90), .lit (.int .i64 1)], .agg [.lit (.int .i64 97), .lit (.int .i64 122), .lit (.int .i64 1)], .agg [.lit (.int .i64 192), .lit (.int .i64 214), .lit (.int .i64 1)], .agg [.lit (.int .i64 216), .lit (.int .i64 246), .lit (.int .i64 1)], .agg [.lit (.int .i64 248), .lit (.int .i64 255), .lit (.int .i64 1)], .agg [.lit (.int .i64 913), .lit (.int .i64 929), .lit (.int .i64 1)], .agg [.lit (.int .i64 931), .lit (.int .i64 937), .lit (.int .i64 1)], .agg [.lit (.int .i64 945), .lit (.int .i64 969), .lit (.int .i64 1)], .agg [.lit (.int .i64 1024), .lit (.int .i64 1119), .lit (.int .i64 1)]]
def laid_rubrick_utf_capitals {H : Type} : DataW H := .agg [.agg [.lit (.int .i64 65), .lit (.int .i64 90), .lit (.int .i64 32)], .agg [.lit (.int .i64 192), .lit (.int .i64 214), .lit (.int .i64 32)], .agg [.lit (.int .i64 216), .lit (.int .i64 222), .lit (.int .i64 32)], .agg [.lit (.int .i64 913), .lit (.int .i64 929), .lit (.int .i64 32)], .agg [.lit (.int .i64 931), .lit (.int .i64 937), .lit (.int .i64 32)], .agg [.lit (.int .i64 1024), .lit (.int .i64 1039), .lit (.int .i64 80)], .agg [.lit (.int .i64 1040), .lit (.int .i64 1071), .lit (.int .i64 32)]]
def laid_rubrick_utf_shapes {H : Type} : DataW H := .agg [.agg [.lit (.int .i64 0), .lit (.int .i64 0), .lit (.int .i64 128)], .agg [.lit (.int .i64 128), .lit (.int .i64 192), .lit (.int .i64 224)], .agg [.lit (.int .i64 2048), .lit (.int .i64 224), .lit (.int .i64 240)], .agg [.lit (.int .i64 65536), .lit (.int .i64 240), .lit (.int .i64 248)]]

/-- 'rubricklaw05.TokenCuts': WHATEVER THE INPUT: true; the input reads as it did. -/
def tokenCutsSpec : ChangeSpec := { name := "tokenCuts", fn := fun _ => fun
  | [d] => { results := [.lit (.bool true)], args := [d] }
  | _ => none }
def tokenCutsRow : OpenClaim := { program := "ytpnnebnjkinndaadoor", sum := "4272184c0eaf15f5eccef1425be52d77fb413d0ec6b5dd2bb489caf6482f2b74", func := "rubrick/rubricklaw05.TokenCuts", spec := "tokenCuts", inPlace := ["internal/bytealg.abigen_runtime_cmpstring"], unfollowed := true, recurses := true, named := ["rubrick/utf.shapes", "rubrick/utf.classes", "rubrick/utf.capitals"], apart := false, laid := [("rubrick/utf.classes", laid_rubrick_utf_classes), ("rubrick/utf.capitals", laid_rubrick_utf_capitals), ("rubrick/utf.shapes", laid_rubrick_utf_shapes)] }
def TokenCutsSaid : Prop := tokenCutsRow.holds Tryd.pinned (OpenSpec.ofChange tokenCutsSpec)

/-- ITS FALSE NEIGHBOUR: 'it returns false'. Refute it at one input. -/
def tokenCutsWrong : ChangeSpec := { name := "tokenCuts", fn := fun _ => fun
  | [d] => { results := [.lit (.bool false)], args := [d] }
  | _ => none }
def TokenCutsWrongFalsely : Prop := tokenCutsRow.holds Tryd.pinned (OpenSpec.ofChange tokenCutsWrong)

/-- 'rubricklaw05.TokenPlaces': WHATEVER THE INPUT: true; the input reads as it did. -/
def tokenPlacesSpec : ChangeSpec := { name := "tokenPlaces", fn := fun _ => fun
  | [d1, d2] => { results := [.lit (.bool true)], args := [d1, d2] }
  | _ => none }
def tokenPlacesRow : OpenClaim := { program := "ytpnnebnjkinndaadoor", sum := "4272184c0eaf15f5eccef1425be52d77fb413d0ec6b5dd2bb489caf6482f2b74", func := "rubrick/rubricklaw05.TokenPlaces", spec := "tokenPlaces", inPlace := ["internal/bytealg.abigen_runtime_cmpstring"], unfollowed := true, recurses := true, named := ["rubrick/utf.shapes", "rubrick/utf.classes", "rubrick/utf.capitals"], apart := false, laid := [("rubrick/utf.classes", laid_rubrick_utf_classes), ("rubrick/utf.capitals", laid_rubrick_utf_capitals), ("rubrick/utf.shapes", laid_rubrick_utf_shapes)] }
def TokenPlacesSaid : Prop := tokenPlacesRow.holds Tryd.pinned (OpenSpec.ofChange tokenPlacesSpec)

/-- ITS FALSE NEIGHBOUR: 'it returns false'. Refute it at one input. -/
def tokenPlacesWrong : ChangeSpec := { name := "tokenPlaces", fn := fun _ => fun
  | [d1, d2] => { results := [.lit (.bool false)], args := [d1, d2] }
  | _ => none }
def TokenPlacesWrongFalsely : Prop := tokenPlacesRow.holds Tryd.pinned (OpenSpec.ofChange tokenPlacesWrong)

/-- 'rubricklaw05.TokenRights': WHATEVER THE INPUT: true; the input reads as it did. -/
def tokenRightsSpec : ChangeSpec := { name := "tokenRights", fn := fun _ => fun
  | [d1, d2] => { results := [.lit (.bool true)], args := [d1, d2] }
  | _ => none }
def tokenRightsRow : OpenClaim := { program := "ytpnnebnjkinndaadoor", sum := "4272184c0eaf15f5eccef1425be52d77fb413d0ec6b5dd2bb489caf6482f2b74", func := "rubrick/rubricklaw05.TokenRights", spec := "tokenRights", inPlace := ["internal/bytealg.abigen_runtime_cmpstring"], unfollowed := true, recurses := true, named := ["rubrick/utf.shapes", "rubrick/utf.classes", "rubrick/utf.capitals"], apart := false, laid := [("rubrick/utf.classes", laid_rubrick_utf_classes), ("rubrick/utf.capitals", laid_rubrick_utf_capitals), ("rubrick/utf.shapes", laid_rubrick_utf_shapes)] }
def TokenRightsSaid : Prop := tokenRightsRow.holds Tryd.pinned (OpenSpec.ofChange tokenRightsSpec)

/-- ITS FALSE NEIGHBOUR: 'it returns false'. Refute it at one input. -/
def tokenRightsWrong : ChangeSpec := { name := "tokenRights", fn := fun _ => fun
  | [d1, d2] => { results := [.lit (.bool false)], args := [d1, d2] }
  | _ => none }
def TokenRightsWrongFalsely : Prop := tokenRightsRow.holds Tryd.pinned (OpenSpec.ofChange tokenRightsWrong)

/-- 'rubricklaw05.TokenRows': WHATEVER THE INPUT: true; the input reads as it did. -/
def tokenRowsSpec : ChangeSpec := { name := "tokenRows", fn := fun _ => fun
  | [d1, d2, d3] => { results := [.lit (.bool true)], args := [d1, d2, d3] }
  | _ => none }
def tokenRowsRow : OpenClaim := { program := "ytpnnebnjkinndaadoor", sum := "4272184c0eaf15f5eccef1425be52d77fb413d0ec6b5dd2bb489caf6482f2b74", func := "rubrick/rubricklaw05.TokenRows", spec := "tokenRows", inPlace := ["internal/bytealg.abigen_runtime_cmpstring"], unfollowed := true, recurses := true, named := ["rubrick/utf.shapes", "rubrick/utf.classes", "rubrick/utf.capitals"], apart := false, laid := [("rubrick/utf.classes", laid_rubrick_utf_classes), ("rubrick/utf.capitals", laid_rubrick_utf_capitals), ("rubrick/utf.shapes", laid_rubrick_utf_shapes)] }
def TokenRowsSaid : Prop := tokenRowsRow.holds Tryd.pinned (OpenSpec.ofChange tokenRowsSpec)

/-- ITS FALSE NEIGHBOUR: 'it returns false'. Refute it at one input. -/
def tokenRowsWrong : ChangeSpec := { name := "tokenRows", fn := fun _ => fun
  | [d1, d2, d3] => { results := [.lit (.bool false)], args := [d1, d2, d3] }
  | _ => none }
def TokenRowsWrongFalsely : Prop := tokenRowsRow.holds Tryd.pinned (OpenSpec.ofChange tokenRowsWrong)

/-- 'rubricklaw05.TokenSets': WHATEVER THE INPUT: true; the input reads as it did. -/
def tokenSetsSpec : ChangeSpec := { name := "tokenSets", fn := fun _ => fun
  | [d] => { results := [.lit (.bool true)], args := [d] }
  | _ => none }
def tokenSetsRow : OpenClaim := { program := "ytpnnebnjkinndaadoor", sum := "4272184c0eaf15f5eccef1425be52d77fb413d0ec6b5dd2bb489caf6482f2b74", func := "rubrick/rubricklaw05.TokenSets", spec := "tokenSets", inPlace := ["internal/bytealg.abigen_runtime_cmpstring"], unfollowed := true, recurses := true, named := ["rubrick/utf.shapes", "rubrick/utf.classes", "rubrick/utf.capitals"], apart := false, laid := [("rubrick/utf.classes", laid_rubrick_utf_classes), ("rubrick/utf.capitals", laid_rubrick_utf_capitals), ("rubrick/utf.shapes", laid_rubrick_utf_shapes)] }
def TokenSetsSaid : Prop := tokenSetsRow.holds Tryd.pinned (OpenSpec.ofChange tokenSetsSpec)

/-- ITS FALSE NEIGHBOUR: 'it returns false'. Refute it at one input. -/
def tokenSetsWrong : ChangeSpec := { name := "tokenSets", fn := fun _ => fun
  | [d] => { results := [.lit (.bool false)], args := [d] }
  | _ => none }
def TokenSetsWrongFalsely : Prop := tokenSetsRow.holds Tryd.pinned (OpenSpec.ofChange tokenSetsWrong)

/-- 'rubricklaw05.TokenCase': WHATEVER THE INPUT: true; the input reads as it did. -/
def tokenCaseSpec : ChangeSpec := { name := "tokenCase", fn := fun _ => fun
  | [d1, d2] => { results := [.lit (.bool true)], args := [d1, d2] }
  | _ => none }
def tokenCaseRow : OpenClaim := { program := "ytpnnebnjkinndaadoor", sum := "4272184c0eaf15f5eccef1425be52d77fb413d0ec6b5dd2bb489caf6482f2b74", func := "rubrick/rubricklaw05.TokenCase", spec := "tokenCase", inPlace := ["internal/bytealg.abigen_runtime_cmpstring"], unfollowed := true, recurses := true, named := ["rubrick/utf.shapes", "rubrick/utf.classes", "rubrick/utf.capitals"], apart := false, laid := [("rubrick/utf.classes", laid_rubrick_utf_classes), ("rubrick/utf.capitals", laid_rubrick_utf_capitals), ("rubrick/utf.shapes", laid_rubrick_utf_shapes)] }
def TokenCaseSaid : Prop := tokenCaseRow.holds Tryd.pinned (OpenSpec.ofChange tokenCaseSpec)

/-- ITS FALSE NEIGHBOUR: 'it returns false'. Refute it at one input. -/
def tokenCaseWrong : ChangeSpec := { name := "tokenCase", fn := fun _ => fun
  | [d1, d2] => { results := [.lit (.bool false)], args := [d1, d2] }
  | _ => none }
def TokenCaseWrongFalsely : Prop := tokenCaseRow.holds Tryd.pinned (OpenSpec.ofChange tokenCaseWrong)

/- THE SECOND FORM. 'bulk': how many values and letters a reading holds, each counted each time it is reached (what is shared counts as often as it is met; a slice's spare places count too). A statement '..UptoSaid' is the law's where the arguments, and the package variables that the reading takes, are together of bulk at most 1048576: NARROWER than '..Said'. Prove '..Said' where nothing that the law and all that it calls make is longer than what came in: it says more and counts as full. Else prove '..UptoSaid'. A law counts once. -/
mutual
def uptoBulk {H : Type} : DataW H → Nat
  | .lit (.string bytes) => bytes.length + 1
  | .lit _ => 1
  | .nil => 1
  | .ptr d => uptoBulk d + 1
  | .slice elems spare => uptoBulkAll elems + uptoBulkAll spare + 1
  | .agg parts => uptoBulkAll parts + 1
  | .iface _ d => uptoBulk d + 1
  | .map entries => uptoBulkEntries entries + 1
  | .held _ => 1
def uptoBulkAll {H : Type} : List (DataW H) → Nat
  | [] => 0
  | d :: r => uptoBulk d + uptoBulkAll r
def uptoBulkEntries {H : Type} : List (Lit × DataW H) → Nat
  | [] => 0
  | x :: r => uptoBulkEntry x + uptoBulkEntries r
def uptoBulkEntry {H : Type} : Lit × DataW H → Nat
  | (.string bytes, d) => bytes.length + uptoBulk d + 1
  | (_, d) => uptoBulk d + 1
 end
def uptoSmall : (H : Type) → List (DataW H) → Bool := fun _ ds => decide (uptoBulkAll ds ≤ 1048576)
def OpenSpec.upto (s : _root_.Go.ChangeSpec) : _root_.Go.OpenSpec := { _root_.Go.OpenSpec.ofChange s with cond := some uptoSmall }

/-- 'rubricklaw05.TokenCuts', WHERE WHAT IT READS IS OF BULK AT MOST 1048576: true; the input reads as it did. -/
def tokenCutsUptoRow : OpenClaim := { program := "ytpnnebnjkinndaadoor", sum := "4272184c0eaf15f5eccef1425be52d77fb413d0ec6b5dd2bb489caf6482f2b74", func := "rubrick/rubricklaw05.TokenCuts", spec := "tokenCuts", inPlace := ["internal/bytealg.abigen_runtime_cmpstring"], unfollowed := true, recurses := true, named := ["rubrick/utf.shapes", "rubrick/utf.classes", "rubrick/utf.capitals"], apart := false, laid := [("rubrick/utf.classes", laid_rubrick_utf_classes), ("rubrick/utf.capitals", laid_rubrick_utf_capitals), ("rubrick/utf.shapes", laid_rubrick_utf_shapes)], narrowed := true }
def TokenCutsUptoSaid : Prop := tokenCutsUptoRow.holds Tryd.pinned (OpenSpec.upto tokenCutsSpec)

/-- 'rubricklaw05.TokenPlaces', WHERE WHAT IT READS IS OF BULK AT MOST 1048576: true; the input reads as it did. -/
def tokenPlacesUptoRow : OpenClaim := { program := "ytpnnebnjkinndaadoor", sum := "4272184c0eaf15f5eccef1425be52d77fb413d0ec6b5dd2bb489caf6482f2b74", func := "rubrick/rubricklaw05.TokenPlaces", spec := "tokenPlaces", inPlace := ["internal/bytealg.abigen_runtime_cmpstring"], unfollowed := true, recurses := true, named := ["rubrick/utf.shapes", "rubrick/utf.classes", "rubrick/utf.capitals"], apart := false, laid := [("rubrick/utf.classes", laid_rubrick_utf_classes), ("rubrick/utf.capitals", laid_rubrick_utf_capitals), ("rubrick/utf.shapes", laid_rubrick_utf_shapes)], narrowed := true }
def TokenPlacesUptoSaid : Prop := tokenPlacesUptoRow.holds Tryd.pinned (OpenSpec.upto tokenPlacesSpec)

/-- 'rubricklaw05.TokenRights', WHERE WHAT IT READS IS OF BULK AT MOST 1048576: true; the input reads as it did. -/
def tokenRightsUptoRow : OpenClaim := { program := "ytpnnebnjkinndaadoor", sum := "4272184c0eaf15f5eccef1425be52d77fb413d0ec6b5dd2bb489caf6482f2b74", func := "rubrick/rubricklaw05.TokenRights", spec := "tokenRights", inPlace := ["internal/bytealg.abigen_runtime_cmpstring"], unfollowed := true, recurses := true, named := ["rubrick/utf.shapes", "rubrick/utf.classes", "rubrick/utf.capitals"], apart := false, laid := [("rubrick/utf.classes", laid_rubrick_utf_classes), ("rubrick/utf.capitals", laid_rubrick_utf_capitals), ("rubrick/utf.shapes", laid_rubrick_utf_shapes)], narrowed := true }
def TokenRightsUptoSaid : Prop := tokenRightsUptoRow.holds Tryd.pinned (OpenSpec.upto tokenRightsSpec)

/-- 'rubricklaw05.TokenRows', WHERE WHAT IT READS IS OF BULK AT MOST 1048576: true; the input reads as it did. -/
def tokenRowsUptoRow : OpenClaim := { program := "ytpnnebnjkinndaadoor", sum := "4272184c0eaf15f5eccef1425be52d77fb413d0ec6b5dd2bb489caf6482f2b74", func := "rubrick/rubricklaw05.TokenRows", spec := "tokenRows", inPlace := ["internal/bytealg.abigen_runtime_cmpstring"], unfollowed := true, recurses := true, named := ["rubrick/utf.shapes", "rubrick/utf.classes", "rubrick/utf.capitals"], apart := false, laid := [("rubrick/utf.classes", laid_rubrick_utf_classes), ("rubrick/utf.capitals", laid_rubrick_utf_capitals), ("rubrick/utf.shapes", laid_rubrick_utf_shapes)], narrowed := true }
def TokenRowsUptoSaid : Prop := tokenRowsUptoRow.holds Tryd.pinned (OpenSpec.upto tokenRowsSpec)

/-- 'rubricklaw05.TokenSets', WHERE WHAT IT READS IS OF BULK AT MOST 1048576: true; the input reads as it did. -/
def tokenSetsUptoRow : OpenClaim := { program := "ytpnnebnjkinndaadoor", sum := "4272184c0eaf15f5eccef1425be52d77fb413d0ec6b5dd2bb489caf6482f2b74", func := "rubrick/rubricklaw05.TokenSets", spec := "tokenSets", inPlace := ["internal/bytealg.abigen_runtime_cmpstring"], unfollowed := true, recurses := true, named := ["rubrick/utf.shapes", "rubrick/utf.classes", "rubrick/utf.capitals"], apart := false, laid := [("rubrick/utf.classes", laid_rubrick_utf_classes), ("rubrick/utf.capitals", laid_rubrick_utf_capitals), ("rubrick/utf.shapes", laid_rubrick_utf_shapes)], narrowed := true }
def TokenSetsUptoSaid : Prop := tokenSetsUptoRow.holds Tryd.pinned (OpenSpec.upto tokenSetsSpec)

/-- 'rubricklaw05.TokenCase', WHERE WHAT IT READS IS OF BULK AT MOST 1048576: true; the input reads as it did. -/
def tokenCaseUptoRow : OpenClaim := { program := "ytpnnebnjkinndaadoor", sum := "4272184c0eaf15f5eccef1425be52d77fb413d0ec6b5dd2bb489caf6482f2b74", func := "rubrick/rubricklaw05.TokenCase", spec := "tokenCase", inPlace := ["internal/bytealg.abigen_runtime_cmpstring"], unfollowed := true, recurses := true, named := ["rubrick/utf.shapes", "rubrick/utf.classes", "rubrick/utf.capitals"], apart := false, laid := [("rubrick/utf.classes", laid_rubrick_utf_classes), ("rubrick/utf.capitals", laid_rubrick_utf_capitals), ("rubrick/utf.shapes", laid_rubrick_utf_shapes)], narrowed := true }
def TokenCaseUptoSaid : Prop := tokenCaseUptoRow.holds Tryd.pinned (OpenSpec.upto tokenCaseSpec)

end Rows
end Go.Proofs.YtpnnebnjkinndaaDoor
