/- Small laws on blocks that are known whole; bytes and words as cells. Nothing of the dump. -/
import Derived.WalkKit
import Derived.WalkSmall
import Derived.Deep.Draws
import Derived.Laws.Rows
namespace Go.Proofs.YtmebogaenbjmnaaDoor
open Go.RowKit
/-- Block b of w consists of just these cells, of element type t, none of them frozen. -/
def At (w : World) (b : Nat) (t : TypeId) (cs : List Value) : Prop := w.heap[b]? = some (.cells cs.toArray t (0, 0))
section
variable {w w' : World} {b : Nat} {t : TypeId} {cs : List Value}
theorem At.lt (h : At w b t cs) : b < w.heap.size := by
  rcases Nat.lt_or_ge b w.heap.size with hlt | hge
  · exact hlt
  · unfold At at h; rw [Array.getElem?_eq_none hge] at h; cases h
theorem At.cell (h : At w b t cs) (i : Nat) : w.cell? ⟨b, i, none⟩ = cs[i]? := by
  unfold At at h; simp [World.cell?, h]
theorem At.froz (h : At w b t cs) (i : Nat) : w.frozen? ⟨b, i, none⟩ = false := by
  unfold At at h; simp [World.frozen?, h]
theorem At.new (w : World) (t : TypeId) (cs : List Value) : At (w.alloc (.cells cs.toArray t)) w.heap.size t cs := heap_alloc_new w _
theorem At.new_ (w : World) (b : Nat) (t : TypeId) (cs : List Value) (hb : b = w.heap.size) : At (w.alloc (.cells cs.toArray t)) b t cs := by subst hb; exact At.new w t cs
theorem At.alloc (h : At w b t cs) (o : Obj) : At (w.alloc o) b t cs := (Below.heap_alloc w o b h.lt).trans h
theorem At.drew (h : At w b t cs) : At w.drew b t cs := h
theorem At.drewN (h : At w b t cs) (n : Nat) : At (w.drewN n) b t cs := h
theorem At.put (h : At w b t cs) (i : Nat) (u : Value) : At (w.setCell ⟨b, i, none⟩ u) b t (cs.set i u) := by
  unfold At at h ⊢
  simp [World.setCell, Array.getElem?_modify, h]
theorem At.far (h : At w b t cs) {p : Addr} (hp : b ≠ p.block) (u : Value) : At (w.setCell p u) b t cs := (Below.heap_setCell w p u b hp).trans h
theorem At.below {B : Nat} (h : At w b t cs) (hb : Below B w w') (hg : b < B) : At w' b t cs := (hb.block b hg).trans h
end
/-- Words and bytes as cells. -/
def un (x : UInt32) : Int := (x.toNat : Int)
def wv (x : UInt32) : Value := .int .u32 (un x)
def ub (x : UInt8) : Int := (x.toNat : Int)
def bv (x : UInt8) : Value := .int .u8 (ub x)
def wcells (l : List UInt32) : List Value := l.map wv
def bcells (l : List UInt8) : List Value := l.map bv
theorem wcells_get (l : List UInt32) (i : Nat) (h : i < l.length) : (wcells l)[i]? = some (.int .u32 (un (l.getD i 0))) := by
  simp [wcells, wv, h]
theorem bcells_get (l : List UInt8) (i : Nat) (h : i < l.length) : (bcells l)[i]? = some (.int .u8 (ub (l.getD i 0))) := by
  simp [bcells, bv, h]
theorem wcells_set (l : List UInt32) (i : Nat) (x : UInt32) : (wcells l).set i (.int .u32 (un x)) = wcells (l.set i x) := by
  simp [wcells, List.map_set, wv]
theorem bcells_set (l : List UInt8) (i : Nat) (x : UInt8) : (bcells l).set i (.int .u8 (ub x)) = bcells (l.set i x) := by
  simp [bcells, List.map_set, bv]
theorem wcells_len (l : List UInt32) : (wcells l).length = l.length := by simp [wcells]
theorem bcells_len (l : List UInt8) : (bcells l).length = l.length := by simp [bcells]
theorem ub_lt (x : UInt8) : ub x < 256 := by have := x.toNat_lt; unfold ub; omega
theorem ub_nn (x : UInt8) : 0 ≤ ub x := Int.natCast_nonneg _

theorem wcells_one (l : List UInt32) : ∀ v ∈ wcells l, v.oneCell' = true := by
  intro v hv; simp [wcells] at hv; obtain ⟨x, _, rfl⟩ := hv; rfl
theorem bcells_one (l : List UInt8) : ∀ v ∈ bcells l, v.oneCell' = true := by
  intro v hv; simp [bcells] at hv; obtain ⟨x, _, rfl⟩ := hv; rfl
section
variable {P : Program}
/-- A whole aggregate stored into a block that is known whole, from cell o on. -/
theorem wp_store_row {o : Oper} {a : Act} {w : World} {K : Act → World → Prop} {Q : Exit → Act → World → Prop} (ty : TypeId) (x y : Operand) (ho : o.op = .store ty x y)
    (g k : Nat) (hx : a.eval x = .pointer (some ⟨g, k, none⟩)) (vs : List Value) (hy : a.eval y = .agg vs.toArray) (t : TypeId) (cur : List Value) (hg : At w g t cur)
    (hi : (P.info? ty).map (·.size) = some vs.length) (hfit : k + vs.length ≤ cur.length) (h1 : ∀ v ∈ vs, v.oneCell' = true)
    (h : K (a.put o.dst undef) (w.setRow g (cur.take k ++ vs ++ cur.drop (k + vs.length)).toArray)) : o.wp P a w K Q := by
  have hst := run_storeCells_at P g k t vs 0 cur.toArray w hg (by simpa using hfit) h1
  cases hq : P.info? ty with
  | none => simp [hq] at hi
  | some i =>
    have hs : i.size = vs.length := by simpa [hq] using hi
    unfold Oper.wp execOp
    simp only [Nat.add_zero] at hst
    simp [ho, hx, hy, Instr.storeAt, Instr.sureAddr, storeVar, Value.cells, sizeOf, typeInfo, hq, hs, hst]
    simp only [Oper.upon]; simpa using h
theorem wpList_store_row {ops : Array Oper} {rest : List Oper} {o : Oper} {a : Act} {w : World} {Q : Exit → Act → World → Prop} (hgd : o.guard = none) (ty : TypeId) (x y : Operand) (ho : o.op = .store ty x y)
    (g k : Nat) (hx : a.eval x = .pointer (some ⟨g, k, none⟩)) (vs : List Value) (hy : a.eval y = .agg vs.toArray) (t : TypeId) (cur : List Value) (hg : At w g t cur)
    (hi : (P.info? ty).map (·.size) = some vs.length) (hfit : k + vs.length ≤ cur.length) (h1 : ∀ v ∈ vs, v.oneCell' = true)
    (h : wpList P ops Q rest (a.put o.dst undef) (w.setRow g (cur.take k ++ vs ++ cur.drop (k + vs.length)).toArray)) : wpList P ops Q (o :: rest) a w :=
  wpList_plain hgd fun _ hK => wp_store_row ty x y ho g k hx vs hy t cur hg hi hfit h1 (hK _ _ h)
end

theorem wpList_store_whole {P : Program} {ops : Array Oper} {rest : List Oper} {o : Oper} {a : Act} {w : World} {Q : Exit → Act → World → Prop} (hgd : o.guard = none) (hdst : o.dst = none) (ty : TypeId) (x y : Operand) (ho : o.op = .store ty x y)
    (g : Nat) (hx : a.eval x = .pointer (some ⟨g, 0, none⟩)) (vs : List Value) (hy : a.eval y = .agg vs.toArray) (t : TypeId) (cur : List Value) (hg : At w g t cur)
    (hi : (P.info? ty).map (·.size) = some vs.length) (hlen : vs.length = cur.length) (h1 : ∀ v ∈ vs, v.oneCell' = true)
    (h : wpList P ops Q rest a (w.setRow g vs.toArray)) : wpList P ops Q (o :: rest) a w :=
  wpList_store_row hgd ty x y ho g 0 hx vs hy t cur hg hi (by omega) h1 (by simpa [hlen, hdst, Act.put] using h)
theorem At.setRow {w : World} {b : Nat} {t : TypeId} {cs cs' : List Value} (h : At w b t cs) : At (w.setRow b cs'.toArray) b t cs' := setRow_heap w b cs.toArray _ t _ h
theorem At.setRow_far {w : World} {b g : Nat} {t : TypeId} {cs : List Value} {cs' : Array Value} (h : At w b t cs) (hne : b ≠ g) : At (w.setRow g cs') b t cs := (setRow_other w g b cs' hne).trans h
theorem below_setRow {B : Nat} {a w : World} (h : Below B a w) {g : Nat} (hg : B ≤ g) (cs : Array Value) : Below B a (w.setRow g cs) :=
  h.trans ⟨rfl, rfl, rfl, by simp, fun k hk => setRow_other w g k cs (by omega)⟩
end Go.Proofs.YtmebogaenbjmnaaDoor
