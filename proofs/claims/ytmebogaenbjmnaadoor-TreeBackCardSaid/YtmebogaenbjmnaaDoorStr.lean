/- Texts as cells; arguments read as lists. Nothing of the dump. -/
import Derived.Test.YtmebogaenbjmnaaDoorMem
import Derived.ProofKit
import Derived.OpenShut
import Derived.SliceStrings
namespace Go.Proofs.YtmebogaenbjmnaaDoor
open Go.ChangeShapes Go.WideShapes Go.ChangeAt Go.RowKit
/-- Texts as cells, and as lists of bytes. -/
def scells (l : List ByteArray) : List Value := l.map Value.string
def sbytes (l : List ByteArray) : List (List UInt8) := l.map fun s => s.data.toList
theorem scells_len (l : List ByteArray) : (scells l).length = l.length := by simp [scells]
theorem sbytes_len (l : List ByteArray) : (sbytes l).length = l.length := by simp [sbytes]
theorem scells_get (l : List ByteArray) (i : Nat) (h : i < l.length) : (scells l)[i]? = some (.string (l.getD i ⟨#[]⟩)) := by simp [scells, h]
theorem sbytes_get (l : List ByteArray) (i : Nat) (h : i < l.length) : (sbytes l).getD i [] = (l.getD i ⟨#[]⟩).data.toList := by simp [sbytes, h]
theorem scells_one (l : List ByteArray) : ∀ v ∈ scells l, v.oneCell' = true := by
  intro v hv; simp [scells] at hv; obtain ⟨x, _, rfl⟩ := hv; rfl
theorem bsize (s : ByteArray) : s.data.toList.length = s.size := Array.length_toList
theorem sl_addr {w : World} {A : Option Addr} {cs : List Value} (h : Sl w A cs) : cs = [] ∨ ∃ b o, A = some ⟨b, o, none⟩ ∧ b < w.heap.size ∧ ∀ j u, cs[j]? = some u → w.cell? ⟨b, o + j, none⟩ = some u := by
  rcases Nat.eq_zero_or_pos cs.length with h0 | h0
  · exact .inl (List.eq_nil_of_length_eq_zero h0)
  · exact .inr (h.get h0)
theorem wf_u8 {n : Int} (h : (Lit.int .u8 n).wf = true) : 0 ≤ n ∧ n ≤ 255 := by
  have : IntKind.u8.min ≤ n ∧ n ≤ IntKind.u8.max := by simpa [Lit.wf] using h
  exact this
theorem wf_i64r {n : Int} (h : (Lit.int .i64 n).wf = true) : -9223372036854775808 ≤ n ∧ n ≤ 9223372036854775807 := by
  have : IntKind.i64.min ≤ n ∧ n ≤ IntKind.i64.max := by simpa [Lit.wf] using h
  exact this
theorem len_le {n : Nat} (h : n ≤ maxLen) : n ≤ 9223372036854775807 := by unfold maxLen at h; omega
/-- Numbers of a row of bytes, as bytes. -/
def asBytes (zs : List Int) : List UInt8 := zs.map fun n => UInt8.ofNat n.toNat
theorem asBytes_len (zs : List Int) : (asBytes zs).length = zs.length := by simp [asBytes]
theorem ub_of {n : Int} (h : 0 ≤ n ∧ n ≤ 255) : ub (UInt8.ofNat n.toNat) = n := by
  unfold ub
  rw [UInt8.toNat_ofNat']
  omega
theorem sl_asBytes {W : World} {a : Addr} {zs : List Int} {l : Nat} (hcell : ∀ i, i < l → W.cell? (a.add i) = some (.int .u8 (zs.getD i 0))) (hl : l ≤ zs.length) (hw : ∀ n ∈ zs, (Lit.int .u8 n).wf = true) :
    Sl W (some a) (bcells (asBytes (zs.take l))) := by
  intro hne
  have hpos : 0 < l := by
    rcases Nat.eq_zero_or_pos l with rfl | h
    · exact absurd (by simp [asBytes, bcells]) hne
    · exact h
  obtain ⟨b, off, spot⟩ := a
  have hspot : spot = none := by simpa [Addr.add] using World.cell?_spot (hcell 0 hpos)
  subst hspot
  refine ⟨b, off, rfl, fun j u hu => ?_⟩
  have hj : j < l := by
    have := (List.getElem?_eq_some_iff.1 hu).1
    rw [bcells_len, asBytes_len, List.length_take] at this
    omega
  have hz : j < zs.length := by omega
  rw [bcells_get _ _ (by rw [asBytes_len, List.length_take]; omega)] at hu
  have e : (asBytes (zs.take l)).getD j 0 = UInt8.ofNat (zs.getD j 0).toNat := by
    simp [asBytes, List.getD, hj, List.getElem?_eq_getElem hz]
  have hmem : zs.getD j 0 ∈ zs := by
    simp [List.getD, List.getElem?_eq_getElem hz]
  rw [e, ub_of (wf_u8 (hw _ hmem))] at hu
  have hc := hcell j hj
  rw [add_lit] at hc
  rw [← hu]
  exact hc
/-- An argument []byte as a list of bytes. -/
theorem open_bytes {P : Program} {H : Type} {enc : TypeId × Value → H} {W : World} {t e : TypeId} (ht : P.underlying t = some (.slice e)) (he : P.underlying e = some (.int .u8)) (hc : P.cellsOf e = 1)
    {a : Option Addr} {l c : Nat} {d : DataW H} {p : List MemPlace} (h : DataW.Trod enc P W 0 (fun _ => true) true t (.slice a l c) d p) :
    ∃ bs : List UInt8, bs.length = l ∧ Sl W a (bcells bs) ∧ l ≤ c ∧ c ≤ 9223372036854775807 := by
  obtain ⟨fuel, hf⟩ := h
  rcases open_ints ht he hc hf with ⟨hcs, _⟩ | ⟨x, l', c', zs, hcs, _, hl, hm, hz, _, hcell, hwz⟩
  · simp [Value.cells] at hcs
    obtain ⟨rfl, rfl, rfl⟩ := hcs
    exact ⟨[], rfl, Sl.nil, Nat.le_refl _, by omega⟩
  · simp [Value.cells] at hcs
    obtain ⟨rfl, rfl, rfl⟩ := hcs
    have hz' : zs.length = c := by simpa using hz
    exact ⟨asBytes (zs.take l), by rw [asBytes_len, List.length_take]; omega, sl_asBytes (fun i hi => hcell i (by omega)) (by omega) hwz, hl, by unfold maxLen at hm; omega⟩
/-- An argument []string as a list of texts. -/
theorem open_texts {P : Program} {H : Type} {enc : TypeId × Value → H} {W : World} {t e : TypeId} (ht : P.underlying t = some (.slice e)) (he : P.underlying e = some .string) (hc : P.cellsOf e = 1)
    {a : Option Addr} {l c : Nat} {d : DataW H} {p : List MemPlace} (h : DataW.Trod enc P W 0 (fun _ => true) true t (.slice a l c) d p) :
    ∃ ss : List ByteArray, ss.length = l ∧ Sl W a (scells ss) ∧ (∀ s ∈ ss, s.size ≤ 9223372036854775807) ∧ l ≤ c ∧ c ≤ 9223372036854775807 := by
  obtain ⟨fuel, hf⟩ := h
  rcases open_strings ht he hc hf with ⟨hcs, _⟩ | ⟨x, l', c', zs, hcs, _, hl, hm, hz, _, hcell, hwz⟩
  · simp [Value.cells] at hcs
    obtain ⟨rfl, rfl, rfl⟩ := hcs
    exact ⟨[], rfl, Sl.nil, by simp, Nat.le_refl _, by omega⟩
  · simp [Value.cells] at hcs
    obtain ⟨rfl, rfl, rfl⟩ := hcs
    have hz' : zs.length = c := by simpa using hz
    refine ⟨zs.take l, by rw [List.length_take]; omega, ?_, fun s hs => by have := hwz s (List.mem_of_mem_take hs); unfold maxLen at this; omega, hl, by unfold maxLen at hm; omega⟩
    intro hne
    have hpos : 0 < l := by
      rcases Nat.eq_zero_or_pos l with rfl | h
      · exact absurd (by simp [scells]) hne
      · exact h
    obtain ⟨b, off, spot⟩ := x
    have hspot : spot = none := by simpa [Addr.add] using World.cell?_spot (hcell 0 (by omega))
    subst hspot
    refine ⟨b, off, rfl, fun j u hu => ?_⟩
    have hj : j < l := by
      have := (List.getElem?_eq_some_iff.1 hu).1
      rw [scells_len, List.length_take] at this
      omega
    rw [scells_get _ _ (by rw [List.length_take]; omega)] at hu
    have e1 : (zs.take l).getD j ⟨#[]⟩ = zs.getD j ByteArray.empty := by
      simp [List.getD, hj]
      rfl
    rw [e1] at hu
    have hcj := hcell j (by omega)
    rw [add_lit] at hcj
    rw [← hu]
    exact hcj
end Go.Proofs.YtmebogaenbjmnaaDoor
