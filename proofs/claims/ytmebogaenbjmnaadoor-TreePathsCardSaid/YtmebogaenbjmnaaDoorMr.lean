/- Rows of texts of the call's own. -/
import Derived.Test.YtmebogaenbjmnaaDoorRows
import Derived.Test.YtmebogaenbjmnaaDoorStr
import Derived.Test.YtmebogaenbjmnaaDoorSd
import Derived.WalkSmall
import Derived.Lib.Hide
import Derived.Deep.Onto
import Derived.Laws.OwnMore
namespace Go.Proofs.YtmebogaenbjmnaaDoor.TrW
open Go.RowKit
theorem strsTy : ElemTy Tryd.prog 22 9 (.string ⟨#[]⟩) 16 := ⟨by kernel_rfl, info_parts (by kernel_rfl), rfl, by omega⟩
theorem own_below {B : Nat} {e : TypeId} {k : Nat} {v : Value} {n : Nat} {xs : List Value} {w w' : World} (h : w.ownsRow B e k v n xs) (hb : Below w.heap.size w w') : w'.ownsRow B e k v n xs :=
  h.kept (row := none) ⟨hb.os, hb.tape, hb.output, hb.size, fun j hj _ => hb.block j hj⟩ (by cases hv : v.ownBlock <;> simp)
def OwS (base : Nat) (w : World) (v : Value) (ss : List ByteArray) : Prop := w.ownsRow base 9 1 v ss.length (scells ss)
theorem OwS.nil (base : Nat) (w : World) : OwS base w (.slice none 0 0) [] := World.ownsRow_nil _ _ _ _
theorem OwS.slice {base : Nat} {w : World} {v : Value} {ss : List ByteArray} (h : OwS base w v ss) : ∃ A c, v = .slice A ss.length c ∧ Sl w A (scells ss) ∧ ss.length ≤ c ∧ c ≤ maxLen ∧ (∀ b o s, A = some ⟨b, o, s⟩ → base ≤ b) := by
  obtain ⟨A, c, h1, h2, h3, _, h5, h6⟩ := own_slice h
  exact ⟨A, c, h1, h2, h3, h5, h6⟩
theorem OwS.below {B : Nat} {v : Value} {ss : List ByteArray} {w w' : World} (h : OwS B w v ss) (hb : Below w.heap.size w w') : OwS B w' v ss := own_below h hb
theorem OwS.base {B B' : Nat} {v : Value} {ss : List ByteArray} {w : World} (h : OwS B w v ss) (hb : B' ≤ B) : OwS B' w v ss := World.ownsRow.mono h hb
theorem OwS.drew {B : Nat} {v : Value} {ss : List ByteArray} {w : World} (h : OwS B w v ss) : OwS B w.drew v ss := h
theorem OwS.block {B : Nat} {v : Value} {ss : List ByteArray} {w : World} (h : OwS B w v ss) (hn : ss ≠ []) : ∃ g c, v = .slice (some ⟨g, 0, none⟩) ss.length c ∧ B ≤ g ∧ g < w.heap.size ∧ ss.length ≤ c ∧ c ≤ maxLen := by
  have h1 := h.1
  rcases h.2 with ⟨_, h0⟩ | ⟨g, cap, cur, rfl, hb, hg, hnc, hcm, _⟩
  · exact absurd (List.eq_nil_of_length_eq_zero h0) hn
  · have hlt : g < w.heap.size := by
      rcases Nat.lt_or_ge g w.heap.size with h | h
      · exact h
      · rw [Array.getElem?_eq_none h] at hg; cases hg
    exact ⟨g, cap, rfl, hb, hlt, hnc, hcm⟩
theorem scells_app (a b : List ByteArray) : scells a ++ scells b = scells (a ++ b) := by simp [scells]
theorem new_str (W : World) (s : ByteArray) : Sl (W.alloc (.cells #[.string s] 9)) (some ⟨W.heap.size, 0, none⟩) (scells [s]) := Sl.of_at_all (At.new_ W _ 9 (scells [s]) rfl)
theorem snoc_ownS {w : World} {base : Nat} {v : Value} {a : List ByteArray} {x : ByteArray} {n : Nat} (hn : n = a.length) (h : w.ownsRow base 9 1 v (n + 1) (scells a ++ scells [x])) : OwS base w v (a ++ [x]) := by
  subst hn
  unfold OwS
  rw [List.length_append, ← scells_app]
  exact h
theorem scells_take (l : List ByteArray) (k : Nat) : (scells l).take k = scells (l.take k) := by simp [scells]
theorem scells_drop (l : List ByteArray) (k : Nat) : (scells l).drop k = scells (l.drop k) := by simp [scells]
theorem scells_at {l : List ByteArray} {k : Nat} {x : ByteArray} (h : l[k]? = some x) : (scells l)[k]? = some (.string x) := by simp [scells, h]
/-- 's[:k]' with the low end left out. -/
theorem run_to {P : Program} {t e : TypeId} {z : Value} {by_ : Nat} (E : ElemTy P t e z by_) (w : World) (A : Option Addr) (n c h : Nat) (jk : IntKind) (hh : h ≤ c) :
    (Instr.slice t (.slice A n c) none (some (.int jk (h : Int))) none).run P w = .ok (.slice A h c) w := by
  simp [Instr.slice, run_underlying E.ht, Instr.sliceBounds, E.size, run_sliceBound w jk (h : Int) c _ (by omega) (by omega)]
  intro _
  cases A <;> simp [Addr.add]
end Go.Proofs.YtmebogaenbjmnaaDoor.TrW
