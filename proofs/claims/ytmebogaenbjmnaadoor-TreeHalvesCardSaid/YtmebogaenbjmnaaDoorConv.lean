/- '[]byte(s)' of a string: the new row reads as the string's bytes. Nothing of the dump. -/
import Derived.Test.YtmebogaenbjmnaaDoorStr
import Derived.Lib.ConvBytes
import Derived.Laws.AppendOwn
namespace Go.Proofs.YtmebogaenbjmnaaDoor
open Go.RowKit
section
variable {P : Program}
theorem below_bytesWorld (w : World) (e : TypeId) (s : ByteArray) : Below w.heap.size w (Lib.bytesWorld w e s) :=
  ⟨rfl, rfl, rfl, by rw [Lib.bytesWorld_size]; omega, fun k hk => Lib.bytesWorld_at_old w e s k hk⟩
theorem sl_bytesWorld (w : World) (e : TypeId) (s : ByteArray) : Sl (Lib.bytesWorld w e s) (some ⟨w.heap.size, 0, none⟩) (bcells s.data.toList) := fun _ =>
  ⟨w.heap.size, 0, rfl, fun j u hu => by
    have hj : j < s.data.toList.length := by
      have := (List.getElem?_eq_some_iff.1 hu).1
      rwa [bcells_len] at this
    rw [bcells_get _ _ hj] at hu
    rw [Nat.zero_add, Lib.bytesWorld_cell w e s j (by rw [bsize] at hj; exact hj), ← hu]
    rfl⟩
theorem wp_toBytes {o : Oper} {a : Act} {w : World} {K : Act → World → Prop} {Q : Exit → Act → World → Prop} (src dst e : TypeId) (x : Operand) (ho : o.op = .convert src dst x)
    (hs : P.underlying src = some .string) (hd : P.underlying dst = some (.slice e)) (he : P.underlying e = some (.int .u8)) (s : ByteArray) (hx : a.eval x = .string s) (hm : s.size ≤ maxLen)
    (h : ∀ A c w', Below w.heap.size w w' → Sl w' A (bcells s.data.toList) → s.size ≤ c → c ≤ maxLen → (∀ b o s, A = some ⟨b, o, s⟩ → w.heap.size ≤ b) → K (a.put o.dst (.slice A s.size c)) w') : o.wp P a w K Q := by
  have hr := Lib.run_convert_string_bytes (P := P) w src dst e s hs hd he
  unfold Oper.wp execOp
  simp only [ho, hx, Sem.run_bind, hr, Sem.run_pure, Result.andThen_ok]
  exact h _ _ _ (below_bytesWorld w e s) (sl_bytesWorld w e s) (grownCap_ge _ _ _ _) (grownCap_le_maxLen _ _ _ _ hm) (fun b o s' h' => by cases h'; exact Nat.le_refl _)
theorem wpList_toBytes {ops : Array Oper} {rest : List Oper} {o : Oper} {a : Act} {w : World} {Q : Exit → Act → World → Prop} (hgd : o.guard = none) (src dst e : TypeId) (x : Operand) (ho : o.op = .convert src dst x)
    (hs : P.underlying src = some .string) (hd : P.underlying dst = some (.slice e)) (he : P.underlying e = some (.int .u8)) (s : ByteArray) (hx : a.eval x = .string s) (hm : s.size ≤ maxLen)
    (h : ∀ A c w', Below w.heap.size w w' → Sl w' A (bcells s.data.toList) → s.size ≤ c → c ≤ maxLen → (∀ b o s, A = some ⟨b, o, s⟩ → w.heap.size ≤ b) → wpList P ops Q rest (a.put o.dst (.slice A s.size c)) w') : wpList P ops Q (o :: rest) a w :=
  wpList_plain hgd fun _ hK => wp_toBytes src dst e x ho hs hd he s hx hm fun A c w' h1 h2 h3 h4 h5 => hK _ _ (h A c w' h1 h2 h3 h4 h5)
end
end Go.Proofs.YtmebogaenbjmnaaDoor
