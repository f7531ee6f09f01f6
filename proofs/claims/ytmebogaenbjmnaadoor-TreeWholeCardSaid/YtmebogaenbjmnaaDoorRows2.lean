/- Arguments [][]byte read as lists of lists. Nothing of the dump. -/
import Derived.Test.YtmebogaenbjmnaaDoorStr
import Derived.Deep.Matrix
namespace Go.Proofs.YtmebogaenbjmnaaDoor
open Go.ChangeShapes Go.WideShapes Go.ChangeAt Go.RowKit Go.Deep
/-- Slices of bytes that read so, each within its own room. -/
def RowsAt (w : World) (vs : List Value) (bss : List (List UInt8)) : Prop :=
  vs.length = bss.length ∧ ∀ j, j < bss.length → ∃ B d, vs[j]? = some (.slice B (bss.getD j []).length d) ∧ Sl w B (bcells (bss.getD j [])) ∧ (bss.getD j []).length ≤ d ∧ d ≤ maxLen
theorem RowsAt.below {w w' : World} {vs : List Value} {bss : List (List UInt8)} (h : RowsAt w vs bss) (hb : Below w.heap.size w w') : RowsAt w' vs bss :=
  ⟨h.1, fun j hj => by obtain ⟨B, d, h1, h2, h3⟩ := h.2 j hj; exact ⟨B, d, h1, h2.below hb, h3⟩⟩
theorem RowsAt.nil (w : World) : RowsAt w [] [] := ⟨rfl, fun j hj => by simp at hj⟩
/-- An argument [][]byte as a list of lists of bytes. -/
theorem open_bytess {P : Program} {H : Type} {enc : TypeId × Value → H} {W : World} {t e q : TypeId} (ht : P.underlying t = some (.slice e)) (he : P.underlying e = some (.slice q)) (hq : P.underlying q = some (.int .u8))
    (ce : P.cellsOf e = 1) (cq : P.cellsOf q = 1) {a : Option Addr} {l c : Nat} {d : DataW H} {p : List MemPlace} (h : DataW.Trod enc P W 0 (fun _ => true) true t (.slice a l c) d p) :
    ∃ (bss : List (List UInt8)) (vs : List Value), bss.length = l ∧ Sl W a vs ∧ RowsAt W vs bss ∧ l ≤ c ∧ c ≤ 9223372036854775807 := by
  obtain ⟨fuel, hf⟩ := h
  rcases open_int_rows ht he hq ce cq hf with ⟨hcs, _⟩ | ⟨x, l', c', A, L, C, Z, hcs, _, hl, hm, _, hrow⟩
  · simp [Value.cells] at hcs
    obtain ⟨rfl, rfl, rfl⟩ := hcs
    exact ⟨[], [], rfl, Sl.nil, RowsAt.nil W, Nat.le_refl _, by omega⟩
  · simp [Value.cells] at hcs
    obtain ⟨rfl, rfl, rfl⟩ := hcs
    have hlen : ∀ r, r < c → ((Z r).take (L r)).length = L r := fun r hr => by
      obtain ⟨_, h1, _, h3, _⟩ := hrow r hr
      rw [List.length_take]; omega
    refine ⟨(List.range l).map fun r => asBytes ((Z r).take (L r)), (List.range l).map fun r => .slice (A r) (L r) (C r), by simp, ?_, ⟨by simp, fun j hj => ?_⟩, hl, by unfold maxLen at hm; omega⟩
    · intro hne
      have hpos : 0 < l := by
        rcases Nat.eq_zero_or_pos l with rfl | h
        · exact absurd (by simp) hne
        · exact h
      obtain ⟨b, off, spot⟩ := x
      have hspot : spot = none := by simpa [Addr.add] using World.cell?_spot (hrow 0 (by omega)).1
      subst hspot
      refine ⟨b, off, rfl, fun j u hu => ?_⟩
      have hj : j < l := by simpa using (List.getElem?_eq_some_iff.1 hu).1
      have := (hrow j (by omega)).1
      rw [add_lit] at this
      rw [this, ← hu]
      simp [hj]
    · have hj' : j < l := by simpa using hj
      have e1 : ((List.range l).map fun r => asBytes ((Z r).take (L r))).getD j [] = asBytes ((Z j).take (L j)) := by simp [List.getD, hj']
      obtain ⟨_, h1, h2, h3, h4, h5, h6⟩ := hrow j (by omega)
      rw [e1, asBytes_len, hlen j (by omega)]
      refine ⟨A j, C j, by simp [hj'], ?_, h1, h2⟩
      rcases hA : A j with _ | a'
      · have h0 : C j = 0 := h5 hA
        have : asBytes ((Z j).take (L j)) = [] := List.eq_nil_of_length_eq_zero (by rw [asBytes_len, hlen j (by omega)]; omega)
        rw [this]; exact Sl.nil
      · exact sl_asBytes (fun i hi => (h6 a' hA).2 i (by omega)) (by omega) h4
end Go.Proofs.YtmebogaenbjmnaaDoor
