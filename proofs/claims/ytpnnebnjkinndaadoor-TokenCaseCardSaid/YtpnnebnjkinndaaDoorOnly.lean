/- Stores whose world is left open. Nothing of the dump. -/
import Derived.Test.YtpnnebnjkinndaaDoorMem
namespace Go.Proofs.YtpnnebnjkinndaaDoor
open Go.RowKit
/-- What a change of one block alone leaves. -/
structure Only (g : Nat) (w w' : World) : Prop where
  heap : ∀ b, b ≠ g → w'.heap[b]? = w.heap[b]?
  size : w'.heap.size = w.heap.size
  below : ∀ B w0, Below B w0 w → B ≤ g → Below B w0 w'
theorem Only.cell {g : Nat} {w w' : World} (h : Only g w w') (b o : Nat) (hb : b ≠ g) : w'.cell? ⟨b, o, none⟩ = w.cell? ⟨b, o, none⟩ := World.cell?_of_block (w := w) (a := ⟨b, o, none⟩) (h.heap b hb)
theorem Only.at_ {g b : Nat} {w w' : World} (h : Only g w w') {t : TypeId} {cs : List Value} (ha : At w b t cs) (hb : b ≠ g) : At w' b t cs := (h.heap b hb).trans ha
theorem Only.sl {g base : Nat} {w w' : World} (h : Only g w w') {A : Option Addr} {cs : List Value} (hs : Sl w A cs) (hA : ∀ b o s, A = some ⟨b, o, s⟩ → base ≤ b) (hg : g < base) : Sl w' A cs :=
  hs.from_ hA (fun b o hb => h.cell b o (by omega))
/-- A slice of blocks that were there. -/
theorem Only.slo {g base : Nat} {w0 w w' : World} (h : Only g w w') {A : Option Addr} {cs : List Value} (hs : Sl w0 A cs) (hb : Below base w0 w) (h0 : base = w0.heap.size) (hg : base ≤ g) : Sl w' A cs :=
  hs.below (h0 ▸ h.below _ _ hb hg)
theorem Only.setRow {w : World} (g : Nat) (cs : Array Value) : Only g w (w.setRow g cs) :=
  ⟨fun b hb => setRow_other w g b cs hb, by simp, fun _ _ h hg => below_setRow h hg cs⟩
theorem Only.trans {g : Nat} {w w' w'' : World} (h : Only g w w') (h' : Only g w' w'') : Only g w w'' :=
  ⟨fun b hb => (h'.heap b hb).trans (h.heap b hb), h'.size.trans h.size, fun B w0 hb hg => h'.below B w0 (h.below B w0 hb hg) hg⟩
theorem wpList_storeB {P : Program} {ops : Array Oper} {rest : List Oper} {op : Oper} {a : Act} {w : World} {Q : Exit → Act → World → Prop} (hgd : op.guard = none) (hdst : op.dst = none) (ty : TypeId) (x y : Operand) (ho : op.op = .store ty x y)
    {n : Nat} (T : AggTy P ty n) (g : Nat) (hx : a.eval x = .pointer (some ⟨g, 0, none⟩)) (vs : List Value) (hy : a.eval y = .agg vs.toArray) (t : TypeId) (cur : List Value) (hg : At w g t cur)
    (hl : vs.length = n) (hc : cur.length = n) (h1 : ∀ v ∈ vs, v.oneCell' = true)
    (h : ∀ w', At w' g t vs → Only g w w' → wpList P ops Q rest a w') : wpList P ops Q (op :: rest) a w :=
  wpList_storeA hgd hdst ty x y ho T g 0 hx vs hy t cur hg hl (by omega) h1 (by
    have e : spl cur 0 vs = vs := by simp [spl, hl, ← hc]
    rw [e]
    exact h _ hg.setRow (Only.setRow g _))
end Go.Proofs.YtpnnebnjkinndaaDoor
