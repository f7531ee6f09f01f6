/- Arguments []bool read as lists. Nothing of the dump. -/
import Derived.Test.YtmebogaenbjmnaaDoorStr
import Derived.Deep.Grids
namespace Go.Proofs.YtmebogaenbjmnaaDoor
open Go.ChangeShapes Go.WideShapes Go.ChangeAt Go.RowKit
def lcells (l : List Bool) : List Value := l.map Value.bool
theorem lcells_len (l : List Bool) : (lcells l).length = l.length := by simp [lcells]
theorem lcells_get (l : List Bool) (i : Nat) (h : i < l.length) : (lcells l)[i]? = some (.bool (l.getD i false)) := by simp [lcells, h]
/-- An argument []bool as a list. -/
theorem open_booll {P : Program} {H : Type} {enc : TypeId × Value → H} {W : World} {t e : TypeId} (ht : P.underlying t = some (.slice e)) (he : P.underlying e = some .bool) (hc : P.cellsOf e = 1)
    {a : Option Addr} {l c : Nat} {d : DataW H} {p : List MemPlace} (h : DataW.Trod enc P W 0 (fun _ => true) true t (.slice a l c) d p) :
    ∃ bs : List Bool, bs.length = l ∧ Sl W a (lcells bs) ∧ l ≤ c ∧ c ≤ 9223372036854775807 := by
  obtain ⟨fuel, hf⟩ := h
  rcases Go.Deep.open_bools ht he hc hf with ⟨hcs, _⟩ | ⟨x, l', c', B, hcs, _, hl, hm, _, hcell⟩
  · simp [Value.cells] at hcs
    obtain ⟨rfl, rfl, rfl⟩ := hcs
    exact ⟨[], rfl, Sl.nil, Nat.le_refl _, by omega⟩
  · simp [Value.cells] at hcs
    obtain ⟨rfl, rfl, rfl⟩ := hcs
    refine ⟨(List.range l).map B, by simp, ?_, hl, by unfold maxLen at hm; omega⟩
    intro hne
    have hpos : 0 < l := by
      rcases Nat.eq_zero_or_pos l with rfl | h
      · exact absurd (by simp [lcells]) hne
      · exact h
    obtain ⟨b, off, spot⟩ := x
    have hspot : spot = none := by simpa [Addr.add] using World.cell?_spot (hcell 0 (by omega))
    subst hspot
    refine ⟨b, off, rfl, fun j u hu => ?_⟩
    have hj : j < l := by
      have := (List.getElem?_eq_some_iff.1 hu).1
      simpa [lcells] using this
    have hcj := hcell j (by omega)
    rw [add_lit] at hcj
    rw [hcj, ← hu]
    simp [lcells, hj]
end Go.Proofs.YtmebogaenbjmnaaDoor
