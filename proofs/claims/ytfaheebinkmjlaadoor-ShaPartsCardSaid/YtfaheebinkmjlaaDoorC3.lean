import Derived.Test.YtfaheebinkmjlaaDoorC0
import Derived.Test.YtfaheebinkmjlaaDoorE3
namespace Go.Proofs.YtfaheebinkmjlaaDoor
open Go.ChangeShapes Go.WideShapes Go.ChangeAt Go.RowKit
open Sha
theorem wf_u8 {n : Int} (h : (Lit.int .u8 n).wf = true) : 0 ≤ n ∧ n ≤ 255 := by
  have : IntKind.u8.min ≤ n ∧ n ≤ IntKind.u8.max := by simpa [Lit.wf] using h
  exact this
/-- Numbers of a row of bytes, as bytes. -/
def asBytes (zs : List Int) : List UInt8 := zs.map fun n => UInt8.ofNat n.toNat
theorem asBytes_len (zs : List Int) : (asBytes zs).length = zs.length := by simp [asBytes]
theorem ub_of {n : Int} (h : 0 ≤ n ∧ n ≤ 255) : ub (UInt8.ofNat n.toNat) = n := by
  unfold ub
  rw [UInt8.toNat_ofNat']
  omega
theorem sl_asBytes {W : World} {a : Addr} {zs : List Int} {l : Nat} (hcell : ∀ i, i < l → W.cell? (a.add i) = some (.int .u8 (zs.getD i 0))) (hl : l ≤ zs.length) (hw : ∀ n ∈ zs, (Lit.int .u8 n).wf = true) :
    Sl W (some a) (bcells (asBytes (zs.take l))) := by
  intro hne
  have hpos : 0 < l := by
    rcases Nat.eq_zero_or_pos l with rfl | h
    · exact absurd (by simp [asBytes, bcells]) hne
    · exact h
  obtain ⟨b, off, spot⟩ := a
  have hspot : spot = none := by simpa [Addr.add] using World.cell?_spot (hcell 0 hpos)
  subst hspot
  refine ⟨b, off, rfl, fun j u hu => ?_⟩
  have hj : j < l := by
    have := (List.getElem?_eq_some_iff.1 hu).1
    rw [bcells_len, asBytes_len, List.length_take] at this
    omega
  have hz : j < zs.length := by omega
  rw [bcells_get _ _ (by rw [asBytes_len, List.length_take]; omega)] at hu
  have e : (asBytes (zs.take l)).getD j 0 = UInt8.ofNat (zs.getD j 0).toNat := by
    simp [asBytes, List.getD, List.getElem?_take, hj, List.getElem?_eq_getElem hz]
  have hmem : zs.getD j 0 ∈ zs := by
    simp [List.getD, List.getElem?_eq_getElem hz]
  rw [e, ub_of (wf_u8 (hw _ hmem))] at hu
  have hc := hcell j hj
  rw [add_lit] at hc
  rw [← hu]
  exact hc
theorem open_row {H : Type} {enc : TypeId × Value → H} {W : World} {a : Option Addr} {l c : Nat} {d : DataW H} {p : List MemPlace} (h : DataW.Trod enc Tryd.prog W 0 (fun _ => true) true 22 (.slice a l c) d p) :
    ∃ bs : List UInt8, bs.length = l ∧ Sl W a (bcells bs) ∧ l ≤ c ∧ c ≤ maxLen := by
  obtain ⟨fuel, hf⟩ := h
  rcases open_ints under22 under5 (by kernel_rfl) hf with ⟨hcs, _⟩ | ⟨x, l', c', zs, hcs, _, hl, hm, hz, _, hcell, hwz⟩
  · simp [Value.cells] at hcs
    obtain ⟨rfl, rfl, rfl⟩ := hcs
    exact ⟨[], rfl, Sl.nil, Nat.le_refl _, by simp [maxLen]⟩
  · simp [Value.cells] at hcs
    obtain ⟨rfl, rfl, rfl⟩ := hcs
    have hz' : zs.length = c := by simpa using hz
    exact ⟨asBytes (zs.take l), by rw [asBytes_len, List.length_take]; omega, sl_asBytes (fun i hi => hcell i (by omega)) (by omega) hwz, hl, hm⟩
end Go.Proofs.YtfaheebinkmjlaaDoor
