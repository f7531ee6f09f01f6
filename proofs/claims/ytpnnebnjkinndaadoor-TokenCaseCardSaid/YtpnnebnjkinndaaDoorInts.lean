/- Arguments []int read as lists. Nothing of the dump. -/
import Derived.Test.YtpnnebnjkinndaaDoorStr
namespace Go.Proofs.YtpnnebnjkinndaaDoor
open Go.ChangeShapes Go.WideShapes Go.ChangeAt Go.RowKit
/-- Integers as cells. -/
def zcells (l : List Int) : List Value := l.map fun z => Value.int .i64 z
theorem zcells_len (l : List Int) : (zcells l).length = l.length := by simp [zcells]
theorem zcells_get (l : List Int) (i : Nat) (h : i < l.length) : (zcells l)[i]? = some (.int .i64 (l.getD i 0)) := by simp [zcells, h]
/-- An argument []int as a list of integers. -/
theorem open_intl {P : Program} {H : Type} {enc : TypeId × Value → H} {W : World} {t e : TypeId} (ht : P.underlying t = some (.slice e)) (he : P.underlying e = some (.int .i64)) (hc : P.cellsOf e = 1)
    {a : Option Addr} {l c : Nat} {d : DataW H} {p : List MemPlace} (h : DataW.Trod enc P W 0 (fun _ => true) true t (.slice a l c) d p) :
    ∃ zs : List Int, zs.length = l ∧ Sl W a (zcells zs) ∧ (∀ z ∈ zs, -9223372036854775808 ≤ z ∧ z ≤ 9223372036854775807) ∧ l ≤ c ∧ c ≤ 9223372036854775807 := by
  obtain ⟨fuel, hf⟩ := h
  rcases open_ints ht he hc hf with ⟨hcs, _⟩ | ⟨x, l', c', zs, hcs, _, hl, hm, hz, _, hcell, hwz⟩
  · simp [Value.cells] at hcs
    obtain ⟨rfl, rfl, rfl⟩ := hcs
    exact ⟨[], rfl, Sl.nil, by simp, Nat.le_refl _, by omega⟩
  · simp [Value.cells] at hcs
    obtain ⟨rfl, rfl, rfl⟩ := hcs
    have hz' : zs.length = c := by simpa using hz
    refine ⟨zs.take l, by rw [List.length_take]; omega, ?_, fun z hz => wf_i64r (hwz z (List.mem_of_mem_take hz)), hl, by unfold maxLen at hm; omega⟩
    intro hne
    have hpos : 0 < l := by
      rcases Nat.eq_zero_or_pos l with rfl | h
      · exact absurd (by simp [zcells]) hne
      · exact h
    obtain ⟨b, off, spot⟩ := x
    have hspot : spot = none := by simpa [Addr.add] using World.cell?_spot (hcell 0 (by omega))
    subst hspot
    refine ⟨b, off, rfl, fun j u hu => ?_⟩
    have hj : j < l := by
      have := (List.getElem?_eq_some_iff.1 hu).1
      rw [zcells_len, List.length_take] at this
      omega
    rw [zcells_get _ _ (by rw [List.length_take]; omega)] at hu
    have e1 : (zs.take l).getD j 0 = zs.getD j 0 := by simp [List.getD, hj]
    rw [e1] at hu
    have hcj := hcell j (by omega)
    rw [add_lit] at hcj
    rw [← hu]
    exact hcj
end Go.Proofs.YtpnnebnjkinndaaDoor
