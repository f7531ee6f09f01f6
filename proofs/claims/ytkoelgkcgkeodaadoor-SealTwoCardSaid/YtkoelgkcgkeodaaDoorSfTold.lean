/- seal: Between, both answers in one. -/
import Derived.Test.YtkoelgkcgkeodaaDoorSfBetween
import Derived.Test.YtkoelgkcgkeodaaDoorOnly
namespace Go.Proofs.YtkoelgkcgkeodaaDoor.SealW
open Go.RowKit
open ShaW Sha
/-- What Between tells, whatever it is. -/
def Told (n l : Nat) (xs ys : List UInt8) (q : Bool) (w : World) (A' : Option Addr) (n' c' : Nat) (B' : Option Addr) (l' d' : Nat) : Prop :=
  q = true → n' = n ∧ l' = l ∧ Sl w A' (bcells xs) ∧ n ≤ c' ∧ c' ≤ maxLen ∧ Sl w B' (bcells ys) ∧ l ≤ d' ∧ d' ≤ maxLen
theorem Told.below {n l : Nat} {xs ys : List UInt8} {q : Bool} {w w' : World} {A' : Option Addr} {n' c' : Nat} {B' : Option Addr} {l' d' : Nat} (h : Told n l xs ys q w A' n' c' B' l' d') (hb : Below w.heap.size w w') : Told n l xs ys q w' A' n' c' B' l' d' := fun hq => by
  obtain ⟨h1, h2, h3, h4, h5, h6, h7, h8⟩ := h hq
  exact ⟨h1, h2, h3.below hb, h4, h5, h6.below hb, h7, h8⟩
theorem between_any (A : Option Addr) (n c : Nat) (xs : List UInt8) (B : Option Addr) (l d : Nat) (ys : List UInt8) (w : World) (hT : Tab w) (hn : xs.length = n) (hA : Sl w A (bcells xs)) (hl : ys.length = l) (hB : Sl w B (bcells ys))
    (hn40 : n ≤ 1000000000000) (hl40 : l ≤ 1000000000000) (hnc : n ≤ c) (hc : c ≤ 9223372036854775807) (hld : l ≤ d) (hd : d ≤ 9223372036854775807) (q : Bool) (hq : decide (xs ≠ ys ∧ sha xs = sha ys) = q) :
    Calls Tryd.prog 21 #[.slice A n c, .slice B l d] w fun e w' => ∃ A' n' c' B' l' d', e = .returned (.tuple #[.agg #[.slice A' n' c', .slice B' l' d'], .bool q]) ∧ Told n l xs ys q w' A' n' c' B' l' d' ∧ Below w.heap.size w w' := by
  subst hq
  by_cases h : xs ≠ ys ∧ sha xs = sha ys
  · rw [decide_eq_true h]
    exact (between_yes A n c xs B l d ys w hT hn hA hl hB hn40 hl40 hnc hc hld hd h).mono fun e w' ⟨A', c', B', d', h1, h2, h3, h4, h5, h6, h7, h8⟩ => ⟨A', n, c', B', l, d', h1, fun _ => ⟨rfl, rfl, h2, h3, h4, h5, h6, h7⟩, h8⟩
  · rw [decide_eq_false h]
    exact (between_no A n c xs B l d ys w hT hn hA hl hB hn40 hl40 hnc hc hld hd h).mono fun e w' ⟨h1, h2⟩ => ⟨none, 0, 0, none, 0, 0, h1, (fun hq => by cases hq), h2⟩
end Go.Proofs.YtkoelgkcgkeodaaDoor.SealW
