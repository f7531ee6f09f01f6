/- The tables of utf, as the rows list them. -/
import Derived.Test.YtpnnebnjkinndaaDoorUa
import Derived.Test.YtpnnebnjkinndaaDoorStr
import Derived.Test.YtpnnebnjkinndaaDoorCards
import Derived.Test.YtpnnebnjkinndaaDoorTie
import Derived.ProofKit
import Derived.OpenShut
import Derived.ShutString
import Derived.ChangeOld
import Derived.Deep.DeepHandedRow
import Derived.Lib.LaidTab
import Derived.LaidSub
namespace Go.Proofs.YtpnnebnjkinndaaDoor.TieU
open Go.ChangeShapes Go.WideShapes Go.ChangeAt Go.RowKit
open Go.ChangeMaps (open_string shut_string)
open UtfW
theorem own : ownKnob Tryd.prog.godebug = none := by kernel_rfl
theorem laidOut : laidOutB Tryd.prog = true := by kernel_rfl
theorem gCls : Tryd.prog.globalNamed "rubrick/utf.classes" = some 3 := by kernel_rfl
theorem gCap : Tryd.prog.globalNamed "rubrick/utf.capitals" = some 1 := by kernel_rfl
theorem gShp : Tryd.prog.globalNamed "rubrick/utf.shapes" = some 0 := by kernel_rfl
theorem gClsT : (Tryd.prog.globals[3]?).map (·.type) = some 80 := by kernel_rfl
theorem gCapT : (Tryd.prog.globals[1]?).map (·.type) = some 74 := by kernel_rfl
theorem gShpT : (Tryd.prog.globals[0]?).map (·.type) = some 69 := by kernel_rfl
def fld (name : String) (offset byteOffset : Nat) : Field := { name := name, type := 3, offset := offset, embedded := false, tag := "", pkgPath := "rubrick/utf", byteOffset := byteOffset }
theorem uCls : Tryd.prog.underlying 79 = some (.struct #[fld "first" 0 0, fld "last" 1 8, fld "class" 2 16]) := by kernel_rfl
theorem uCap : Tryd.prog.underlying 73 = some (.struct #[fld "first" 0 0, fld "last" 1 8, fld "add" 2 16]) := by kernel_rfl
theorem uShp : Tryd.prog.underlying 68 = some (.struct #[fld "least" 0 0, fld "mark" 1 8, fld "end" 2 16]) := by kernel_rfl
theorem cCls : Tryd.prog.cellsOf 79 = 3 := by kernel_rfl
theorem cCap : Tryd.prog.cellsOf 73 = 3 := by kernel_rfl
theorem cShp : Tryd.prog.cellsOf 68 = 3 := by kernel_rfl
theorem uInt : Tryd.prog.underlying 3 = some (.int .i64) := by kernel_rfl
theorem cInt : Tryd.prog.cellsOf 3 = 1 := by kernel_rfl
def theRows : List (String × DataW Unit) := [("rubrick/utf.classes", Rows.laid_rubrick_utf_classes), ("rubrick/utf.capitals", Rows.laid_rubrick_utf_capitals), ("rubrick/utf.shapes", Rows.laid_rubrick_utf_shapes)]
theorem onlyCap : theRows.filter (fun x => x.1 == "rubrick/utf.capitals") = [("rubrick/utf.capitals", triData capT)] := by simp [theRows]; rfl
theorem onlyShp : theRows.filter (fun x => x.1 == "rubrick/utf.shapes") = [("rubrick/utf.shapes", triData shapeT)] := by simp [theRows]; rfl
/-- WHAT THE ROW's LIST GIVES: the tables' cells hold their numbers. -/
theorem tabs_of {W : World} (h : laidMetH Tryd.prog [("rubrick/utf.classes", Rows.laid_rubrick_utf_classes), ("rubrick/utf.capitals", Rows.laid_rubrick_utf_capitals), ("rubrick/utf.shapes", Rows.laid_rubrick_utf_shapes)] W) : Tabs W := by
  have h1 : laidMet Tryd.prog theRows W := h
  have h2 := h1.filter (fun x => x.1 == "rubrick/utf.capitals")
  have h3 := h1.filter (fun x => x.1 == "rubrick/utf.shapes")
  rw [onlyCap] at h2
  rw [onlyShp] at h3
  exact ⟨tri_of_head (rest := [_, _]) (zs := classT) gCls gClsT undClasses uCls cCls rfl rfl rfl uInt uInt uInt cInt cInt cInt h1,
    tri_of_head (rest := []) gCap gCapT undCaps uCap cCap rfl rfl rfl uInt uInt uInt cInt cInt cInt h2,
    tri_of_head (rest := []) gShp gShpT undShapes uShp cShp rfl rfl rfl uInt uInt uInt cInt cInt cInt h3⟩
def fill (cs : Array Value) : Obj → Obj
  | .cells _ t frozen => .cells cs t frozen
  | o => o
/-- A WORLD FOR THE WITNESS: the settled one, the tables holding what their initialisers lay. -/
noncomputable def laidWorld (os : Os) : World :=
  { World.holding Tryd.prog os ⟨#[], #[], []⟩ with heap := (((World.holding Tryd.prog os ⟨#[], #[], []⟩).heap.modify 3 (fill (tcells classT).toArray)).modify 1 (fill (tcells capT).toArray)).modify 0 (fill (tcells shapeT).toArray) }
end Go.Proofs.YtpnnebnjkinndaaDoor.TieU
