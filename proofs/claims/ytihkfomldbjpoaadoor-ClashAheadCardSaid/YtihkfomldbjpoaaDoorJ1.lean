/- Texts of one proof, joined. -/
import Derived.WalkKit
import Derived.WalkSmall
import Derived.Deep.Draws
import Derived.Laws.Rows
import Derived.Shelf.Small.Bits
import Derived.Test.YtihkfomldbjpoaaDoorRows
import Derived.Maps.AppendAt
import Derived.Laws.BytesArg
import Derived.WalkSpells
import Derived.ProofKit
import Derived.OpenShut
import Derived.SliceStrings
import Derived.Outline
import Derived.Lib.ConvBytes
import Derived.Lib.Hide
import Derived.Deep.Onto
import Derived.Laws.OwnMore
import Derived.Lib.BitFns
import Derived.Deep.RegionHeld3
import Derived.Laws.AppendOwn
import Derived.BigRegion
import Derived.Deep.QuietTactic
import Derived.BigQuiet
import Derived.Deep.RegionLaw
import Derived.Below
import Derived.Lib.RabinKarpLaws
import Derived.Deep.Matrix
import Derived.StillTailTactics
import Derived.Laws.ResultCell
import Derived.OwnWalk
import Derived.Deep.Grids
import Derived.Lib.Overlaps
import Derived.Lib.AppendZerosOnto
import Derived.Deep.DeepCutAuto
import Derived.Test.YtihkfomldbjpoaaDoorCards
import Derived.Test.YtihkfomldbjpoaaDoorTie
import Derived.ShutString
import Derived.ChangeOld
import Derived.Deep.DeepHandedRow
import Derived.Lib.LaidTab
/- Small laws on blocks that are known whole; bytes and words as cells. Nothing of the dump. -/
namespace Go.Proofs.YtihkfomldbjpoaaDoor
open Go.RowKit
/-- Block b of w consists of just these cells, of element type t, none of them frozen. -/
def At (w : World) (b : Nat) (t : TypeId) (cs : List Value) : Prop := w.heap[b]? = some (.cells cs.toArray t (0, 0))
section
variable {w w' : World} {b : Nat} {t : TypeId} {cs : List Value}
theorem At.lt (h : At w b t cs) : b < w.heap.size := by
  rcases Nat.lt_or_ge b w.heap.size with hlt | hge
  · exact hlt
  · unfold At at h; rw [Array.getElem?_eq_none hge] at h; cases h
theorem At.cell (h : At w b t cs) (i : Nat) : w.cell? ⟨b, i, none⟩ = cs[i]? := by
  unfold At at h; simp [World.cell?, h]
theorem At.froz (h : At w b t cs) (i : Nat) : w.frozen? ⟨b, i, none⟩ = false := by
  unfold At at h; simp [World.frozen?, h]
theorem At.new (w : World) (t : TypeId) (cs : List Value) : At (w.alloc (.cells cs.toArray t)) w.heap.size t cs := heap_alloc_new w _
theorem At.new_ (w : World) (b : Nat) (t : TypeId) (cs : List Value) (hb : b = w.heap.size) : At (w.alloc (.cells cs.toArray t)) b t cs := by subst hb; exact At.new w t cs
theorem At.alloc (h : At w b t cs) (o : Obj) : At (w.alloc o) b t cs := (Below.heap_alloc w o b h.lt).trans h
theorem At.drew (h : At w b t cs) : At w.drew b t cs := h
theorem At.drewN (h : At w b t cs) (n : Nat) : At (w.drewN n) b t cs := h
theorem At.put (h : At w b t cs) (i : Nat) (u : Value) : At (w.setCell ⟨b, i, none⟩ u) b t (cs.set i u) := by
  unfold At at h ⊢
  simp [World.setCell, Array.getElem?_modify, h]
theorem At.far (h : At w b t cs) {p : Addr} (hp : b ≠ p.block) (u : Value) : At (w.setCell p u) b t cs := (Below.heap_setCell w p u b hp).trans h
theorem At.below {B : Nat} (h : At w b t cs) (hb : Below B w w') (hg : b < B) : At w' b t cs := (hb.block b hg).trans h
end
/-- Words and bytes as cells. -/
def un (x : UInt32) : Int := (x.toNat : Int)
def wv (x : UInt32) : Value := .int .u32 (un x)
def ub (x : UInt8) : Int := (x.toNat : Int)
def bv (x : UInt8) : Value := .int .u8 (ub x)
def wcells (l : List UInt32) : List Value := l.map wv
def bcells (l : List UInt8) : List Value := l.map bv
theorem wcells_get (l : List UInt32) (i : Nat) (h : i < l.length) : (wcells l)[i]? = some (.int .u32 (un (l.getD i 0))) := by
  simp [wcells, wv, h]
theorem bcells_get (l : List UInt8) (i : Nat) (h : i < l.length) : (bcells l)[i]? = some (.int .u8 (ub (l.getD i 0))) := by
  simp [bcells, bv, h]
theorem wcells_set (l : List UInt32) (i : Nat) (x : UInt32) : (wcells l).set i (.int .u32 (un x)) = wcells (l.set i x) := by
  simp [wcells, List.map_set, wv]
theorem bcells_set (l : List UInt8) (i : Nat) (x : UInt8) : (bcells l).set i (.int .u8 (ub x)) = bcells (l.set i x) := by
  simp [bcells, List.map_set, bv]
theorem wcells_len (l : List UInt32) : (wcells l).length = l.length := by simp [wcells]
theorem bcells_len (l : List UInt8) : (bcells l).length = l.length := by simp [bcells]
theorem ub_lt (x : UInt8) : ub x < 256 := by have := x.toNat_lt; unfold ub; omega
theorem ub_nn (x : UInt8) : 0 ≤ ub x := Int.natCast_nonneg _

theorem wcells_one (l : List UInt32) : ∀ v ∈ wcells l, v.oneCell' = true := by
  intro v hv; simp [wcells] at hv; obtain ⟨x, _, rfl⟩ := hv; rfl
theorem bcells_one (l : List UInt8) : ∀ v ∈ bcells l, v.oneCell' = true := by
  intro v hv; simp [bcells] at hv; obtain ⟨x, _, rfl⟩ := hv; rfl
section
variable {P : Program}
/-- A whole aggregate stored into a block that is known whole, from cell o on. -/
theorem wp_store_row {o : Oper} {a : Act} {w : World} {K : Act → World → Prop} {Q : Exit → Act → World → Prop} (ty : TypeId) (x y : Operand) (ho : o.op = .store ty x y)
    (g k : Nat) (hx : a.eval x = .pointer (some ⟨g, k, none⟩)) (vs : List Value) (hy : a.eval y = .agg vs.toArray) (t : TypeId) (cur : List Value) (hg : At w g t cur)
    (hi : (P.info? ty).map (·.size) = some vs.length) (hfit : k + vs.length ≤ cur.length) (h1 : ∀ v ∈ vs, v.oneCell' = true)
    (h : K (a.put o.dst undef) (w.setRow g (cur.take k ++ vs ++ cur.drop (k + vs.length)).toArray)) : o.wp P a w K Q := by
  have hst := run_storeCells_at P g k t vs 0 cur.toArray w hg (by simpa using hfit) h1
  cases hq : P.info? ty with
  | none => simp [hq] at hi
  | some i =>
    have hs : i.size = vs.length := by simpa [hq] using hi
    unfold Oper.wp execOp
    simp only [Nat.add_zero] at hst
    simp [ho, hx, hy, Instr.storeAt, Instr.sureAddr, storeVar, Value.cells, sizeOf, typeInfo, hq, hs, hst]
    simp only [Oper.upon]; simpa using h
theorem wpList_store_row {ops : Array Oper} {rest : List Oper} {o : Oper} {a : Act} {w : World} {Q : Exit → Act → World → Prop} (hgd : o.guard = none) (ty : TypeId) (x y : Operand) (ho : o.op = .store ty x y)
    (g k : Nat) (hx : a.eval x = .pointer (some ⟨g, k, none⟩)) (vs : List Value) (hy : a.eval y = .agg vs.toArray) (t : TypeId) (cur : List Value) (hg : At w g t cur)
    (hi : (P.info? ty).map (·.size) = some vs.length) (hfit : k + vs.length ≤ cur.length) (h1 : ∀ v ∈ vs, v.oneCell' = true)
    (h : wpList P ops Q rest (a.put o.dst undef) (w.setRow g (cur.take k ++ vs ++ cur.drop (k + vs.length)).toArray)) : wpList P ops Q (o :: rest) a w :=
  wpList_plain hgd fun _ hK => wp_store_row ty x y ho g k hx vs hy t cur hg hi hfit h1 (hK _ _ h)
end

theorem wpList_store_whole {P : Program} {ops : Array Oper} {rest : List Oper} {o : Oper} {a : Act} {w : World} {Q : Exit → Act → World → Prop} (hgd : o.guard = none) (hdst : o.dst = none) (ty : TypeId) (x y : Operand) (ho : o.op = .store ty x y)
    (g : Nat) (hx : a.eval x = .pointer (some ⟨g, 0, none⟩)) (vs : List Value) (hy : a.eval y = .agg vs.toArray) (t : TypeId) (cur : List Value) (hg : At w g t cur)
    (hi : (P.info? ty).map (·.size) = some vs.length) (hlen : vs.length = cur.length) (h1 : ∀ v ∈ vs, v.oneCell' = true)
    (h : wpList P ops Q rest a (w.setRow g vs.toArray)) : wpList P ops Q (o :: rest) a w :=
  wpList_store_row hgd ty x y ho g 0 hx vs hy t cur hg hi (by omega) h1 (by simpa [hlen, hdst, Act.put] using h)
theorem At.setRow {w : World} {b : Nat} {t : TypeId} {cs cs' : List Value} (h : At w b t cs) : At (w.setRow b cs'.toArray) b t cs' := setRow_heap w b cs.toArray _ t _ h
theorem At.setRow_far {w : World} {b g : Nat} {t : TypeId} {cs : List Value} {cs' : Array Value} (h : At w b t cs) (hne : b ≠ g) : At (w.setRow g cs') b t cs := (setRow_other w g b cs' hne).trans h
theorem below_setRow {B : Nat} {a w : World} (h : Below B a w) {g : Nat} (hg : B ≤ g) (cs : Array Value) : Below B a (w.setRow g cs) :=
  h.trans ⟨rfl, rfl, rfl, by simp, fun k hk => setRow_other w g k cs (by omega)⟩
end Go.Proofs.YtihkfomldbjpoaaDoor

/- Merkle trees in plain words, over any way N to join two digests and any digest E of nothing. Nothing of the dump. -/
namespace Go.Proofs.YtihkfomldbjpoaaDoor.TreeW
/-- The greatest power of two below n (n of 2 and more). -/
def splitG : Nat → Nat → Nat → Nat
  | 0, k, _ => k
  | f + 1, k, n => if 2 * k < n then splitG f (2 * k) n else k
def split (n : Nat) : Nat := splitG n 1 n
theorem splitG_spec : ∀ (f k n : Nat), 1 ≤ k → k < n → n ≤ k + f → splitG f k n < n ∧ n ≤ 2 * splitG f k n ∧ k ≤ splitG f k n ∧ ∃ j, splitG f k n = k * 2 ^ j
  | 0, k, n, _, h1, h2 => by omega
  | f + 1, k, n, h0, h1, h2 => by
    unfold splitG
    by_cases h : 2 * k < n
    · rw [if_pos h]
      obtain ⟨a, b, c, j, hj⟩ := splitG_spec f (2 * k) n (by omega) h (by omega)
      refine ⟨a, b, by omega, j + 1, ?_⟩
      rw [hj, Nat.pow_succ, Nat.mul_comm 2 k, Nat.mul_assoc, Nat.mul_comm 2 (2 ^ j)]
    · rw [if_neg h]
      exact ⟨h1, by omega, Nat.le_refl _, 0, by simp⟩
theorem split_spec {n : Nat} (h : 2 ≤ n) : 1 ≤ split n ∧ split n < n ∧ n ≤ 2 * split n ∧ ∃ j, split n = 2 ^ j := by
  obtain ⟨a, b, c, j, hj⟩ := splitG_spec n 1 n (by omega) (by omega) (by omega)
  exact ⟨c, a, b, j, by unfold split; rw [hj, Nat.one_mul]⟩
theorem pow_uniq {i j n : Nat} (h1 : 2 ^ i < n) (h2 : n ≤ 2 * 2 ^ i) (h3 : 2 ^ j < n) (h4 : n ≤ 2 * 2 ^ j) : i = j := by
  rcases Nat.lt_trichotomy i j with h | h | h
  · have := Nat.pow_le_pow_right (n := 2) (by omega) (show i + 1 ≤ j from h)
    rw [Nat.pow_succ] at this; omega
  · exact h
  · have := Nat.pow_le_pow_right (n := 2) (by omega) (show j + 1 ≤ i from h)
    rw [Nat.pow_succ] at this; omega
/-- Such a power is the one. -/
theorem split_uniq {n k j : Nat} (hk : k = 2 ^ j) (h1 : k < n) (h2 : n ≤ 2 * k) : split n = k := by
  have hp : 1 ≤ 2 ^ j := Nat.one_le_two_pow
  obtain ⟨_, a, b, i, hi⟩ := split_spec (n := n) (by omega)
  subst hk
  rw [hi] at a b ⊢
  rw [pow_uniq a b h1 h2]
section
variable {D : Type} (N : D → D → D) (E : D)
/-- The root. -/
def rootF : Nat → List D → D
  | 0, _ => E
  | f + 1, l => match l with
    | [] => E
    | [x] => x
    | l => N (rootF f (l.take (split l.length))) (rootF f (l.drop (split l.length)))
def root (l : List D) : D := rootF N E l.length l
theorem rootF_two (f : Nat) (l : List D) (h : 2 ≤ l.length) : rootF N E (f + 1) l = N (rootF N E f (l.take (split l.length))) (rootF N E f (l.drop (split l.length))) := by
  match l, h with
  | _ :: _ :: _, _ => rfl
theorem rootF_fuel : ∀ (f g : Nat) (l : List D), l.length ≤ f → l.length ≤ g → rootF N E f l = rootF N E g l
  | f, g, [], _, _ => by cases f <;> cases g <;> rfl
  | 0, _, _ :: _, h, _ => by simp at h
  | _ + 1, 0, _ :: _, _, h => by simp at h
  | f + 1, g + 1, [x], _, _ => rfl
  | f + 1, g + 1, x :: y :: l, hf, hg => by
    have h2 : 2 ≤ (x :: y :: l).length := by simp
    obtain ⟨a, b, _, _⟩ := split_spec h2
    rw [rootF_two N E f _ h2, rootF_two N E g _ h2,
      rootF_fuel f g _ (by rw [List.length_take]; omega) (by rw [List.length_take]; omega),
      rootF_fuel f g _ (by rw [List.length_drop]; omega) (by rw [List.length_drop]; omega)]
theorem root_nil : root N E [] = E := rfl
theorem root_one (x : D) : root N E [x] = x := rfl
theorem root_two (l : List D) (h : 2 ≤ l.length) : root N E l = N (root N E (l.take (split l.length))) (root N E (l.drop (split l.length))) := by
  obtain ⟨a, b, _, _⟩ := split_spec h
  obtain ⟨m, hm⟩ : ∃ m, l.length = m + 1 := ⟨l.length - 1, by omega⟩
  have e : root N E l = rootF N E (m + 1) l := by unfold root; rw [hm]
  rw [e, rootF_two N E m l h]
  unfold root
  rw [rootF_fuel N E m (l.take (split l.length)).length _ (by rw [List.length_take]; omega) (Nat.le_refl _),
    rootF_fuel N E m (l.drop (split l.length)).length _ (by rw [List.length_drop]; omega) (Nat.le_refl _)]
/-- The root of two parts, the first of a power of two. -/
theorem root_app (a b : List D) {j : Nat} (ha : a.length = 2 ^ j) (hb : 1 ≤ b.length) (hab : b.length ≤ a.length) : root N E (a ++ b) = N (root N E a) (root N E b) := by
  have hp : 1 ≤ 2 ^ j := Nat.one_le_two_pow
  have hl : (a ++ b).length = a.length + b.length := List.length_append
  have hs : split (a ++ b).length = a.length := split_uniq ha (by omega) (by omega)
  rw [root_two N E _ (by omega), hs, List.take_left, List.drop_left]
/-- The path of a place, from the leaf up. -/
def pathF : Nat → List D → Nat → List D
  | 0, _, _ => []
  | f + 1, l, i => if l.length < 2 then [] else
      if i < split l.length then pathF f (l.take (split l.length)) i ++ [root N E (l.drop (split l.length))]
      else pathF f (l.drop (split l.length)) (i - split l.length) ++ [root N E (l.take (split l.length))]
def path (l : List D) (i : Nat) : List D := pathF N E l.length l i
theorem pathF_fuel : ∀ (f g : Nat) (l : List D) (i : Nat), l.length ≤ f → l.length ≤ g → pathF N E f l i = pathF N E g l i
  | 0, 0, _, _, _, _ => rfl
  | 0, g + 1, l, _, h, _ => by unfold pathF; rw [if_pos (by omega)]
  | f + 1, 0, l, _, _, h => by unfold pathF; rw [if_pos (by omega)]
  | f + 1, g + 1, l, i, hf, hg => by
    unfold pathF
    by_cases h : l.length < 2
    · rw [if_pos h, if_pos h]
    · rw [if_neg h, if_neg h]
      obtain ⟨a, b, _, _⟩ := split_spec (n := l.length) (by omega)
      rw [pathF_fuel f g (l.take (split l.length)) i (by rw [List.length_take]; omega) (by rw [List.length_take]; omega),
        pathF_fuel f g (l.drop (split l.length)) _ (by rw [List.length_drop]; omega) (by rw [List.length_drop]; omega)]
theorem path_one (l : List D) (i : Nat) (h : l.length < 2) : path N E l i = [] := by
  unfold path
  cases hl : l.length with
  | zero => rfl
  | succ m => unfold pathF; rw [if_pos h]
theorem path_two (l : List D) (i : Nat) (h : 2 ≤ l.length) : path N E l i = if i < split l.length then path N E (l.take (split l.length)) i ++ [root N E (l.drop (split l.length))]
      else path N E (l.drop (split l.length)) (i - split l.length) ++ [root N E (l.take (split l.length))] := by
  obtain ⟨a, b, _, _⟩ := split_spec h
  obtain ⟨m, hm⟩ : ∃ m, l.length = m + 1 := ⟨l.length - 1, by omega⟩
  have e : path N E l i = pathF N E (m + 1) l i := by unfold path; rw [hm]
  rw [e]
  conv => lhs; unfold pathF
  rw [if_neg (by omega)]
  unfold path
  rw [pathF_fuel N E m (l.take (split l.length)).length _ _ (by rw [List.length_take]; omega) (Nat.le_refl _),
    pathF_fuel N E m (l.drop (split l.length)).length _ _ (by rw [List.length_drop]; omega) (Nat.le_refl _)]
/-- How many digests a path of a place has. -/
def stepsF : Nat → Nat → Nat → Nat
  | 0, _, _ => 0
  | f + 1, i, n => if n < 2 then 0 else if i < split n then 1 + stepsF f i (split n) else 1 + stepsF f (i - split n) (n - split n)
def steps (i n : Nat) : Nat := stepsF n i n
theorem stepsF_fuel : ∀ (f g i n : Nat), n ≤ f → n ≤ g → stepsF f i n = stepsF g i n
  | 0, 0, _, _, _, _ => rfl
  | 0, g + 1, _, n, h, _ => by unfold stepsF; rw [if_pos (by omega)]
  | f + 1, 0, _, n, _, h => by unfold stepsF; rw [if_pos (by omega)]
  | f + 1, g + 1, i, n, hf, hg => by
    unfold stepsF
    by_cases h : n < 2
    · rw [if_pos h, if_pos h]
    · rw [if_neg h, if_neg h]
      obtain ⟨a, b, _, _⟩ := split_spec (n := n) (by omega)
      rw [stepsF_fuel f g i (split n) (by omega) (by omega), stepsF_fuel f g (i - split n) (n - split n) (by omega) (by omega)]
theorem steps_one (i n : Nat) (h : n < 2) : steps i n = 0 := by
  unfold steps
  cases n with
  | zero => rfl
  | succ m => unfold stepsF; rw [if_pos h]
theorem steps_two (i n : Nat) (h : 2 ≤ n) : steps i n = if i < split n then 1 + steps i (split n) else 1 + steps (i - split n) (n - split n) := by
  obtain ⟨a, b, _, _⟩ := split_spec h
  obtain ⟨m, rfl⟩ : ∃ m, n = m + 1 := ⟨n - 1, by omega⟩
  unfold steps
  conv => lhs; unfold stepsF
  rw [if_neg (by omega), stepsF_fuel m (split (m + 1)) i (split (m + 1)) (by omega) (Nat.le_refl _), stepsF_fuel m (m + 1 - split (m + 1)) (i - split (m + 1)) (m + 1 - split (m + 1)) (by omega) (Nat.le_refl _)]
theorem path_len : ∀ (m : Nat) (l : List D) (i : Nat), l.length ≤ m → (path N E l i).length = steps i l.length
  | m, l, i, hm => by
    by_cases h : l.length < 2
    · rw [path_one N E l i h, steps_one i _ h]; rfl
    · obtain ⟨a, b, _, _⟩ := split_spec (n := l.length) (by omega)
      cases m with
      | zero => omega
      | succ m =>
        rw [path_two N E l i (by omega), steps_two i _ (by omega)]
        have e1 : (l.take (split l.length)).length = split l.length := by rw [List.length_take]; omega
        have e2 : (l.drop (split l.length)).length = l.length - split l.length := List.length_drop
        split
        · rw [List.length_append, path_len m (l.take (split l.length)) i (by omega), e1]; simp; omega
        · rw [List.length_append, path_len m (l.drop (split l.length)) _ (by omega), e2]; simp; omega
/-- From a leaf up, the path's digests by hand. -/
def climbF : Nat → D → Nat → Nat → List D → D
  | 0, x, _, _, _ => x
  | f + 1, x, i, n, p => if n < 2 then x else
      if i < split n then N (climbF f x i (split n) p.dropLast) (p.getLast?.getD E)
      else N (p.getLast?.getD E) (climbF f x (i - split n) (n - split n) p.dropLast)
def climb (x : D) (i n : Nat) (p : List D) : D := climbF N E n x i n p
theorem climbF_fuel : ∀ (f g : Nat) (x : D) (i n : Nat) (p : List D), n ≤ f → n ≤ g → climbF N E f x i n p = climbF N E g x i n p
  | 0, 0, _, _, _, _, _, _ => rfl
  | 0, g + 1, _, _, n, _, h, _ => by unfold climbF; rw [if_pos (by omega)]
  | f + 1, 0, _, _, n, _, _, h => by unfold climbF; rw [if_pos (by omega)]
  | f + 1, g + 1, x, i, n, p, hf, hg => by
    unfold climbF
    by_cases h : n < 2
    · rw [if_pos h, if_pos h]
    · rw [if_neg h, if_neg h]
      obtain ⟨a, b, _, _⟩ := split_spec (n := n) (by omega)
      rw [climbF_fuel f g x i (split n) _ (by omega) (by omega), climbF_fuel f g x (i - split n) (n - split n) _ (by omega) (by omega)]
theorem climb_one (x : D) (i n : Nat) (p : List D) (h : n < 2) : climb N E x i n p = x := by
  unfold climb
  cases n with
  | zero => rfl
  | succ m => unfold climbF; rw [if_pos h]
theorem climb_two (x : D) (i n : Nat) (p : List D) (h : 2 ≤ n) : climb N E x i n p = if i < split n then N (climb N E x i (split n) p.dropLast) (p.getLast?.getD E) else N (p.getLast?.getD E) (climb N E x (i - split n) (n - split n) p.dropLast) := by
  obtain ⟨a, b, _, _⟩ := split_spec h
  obtain ⟨m, rfl⟩ : ∃ m, n = m + 1 := ⟨n - 1, by omega⟩
  unfold climb
  conv => lhs; unfold climbF
  rw [if_neg (by omega), climbF_fuel N E m (split (m + 1)) x i (split (m + 1)) _ (by omega) (Nat.le_refl _), climbF_fuel N E m (m + 1 - split (m + 1)) x (i - split (m + 1)) (m + 1 - split (m + 1)) _ (by omega) (Nat.le_refl _)]
/-- P6.4: a path leads to the root. -/
theorem climb_path : ∀ (m : Nat) (l : List D) (i : Nat) (x : D), l.length ≤ m → l[i]? = some x → climb N E x i l.length (path N E l i) = root N E l
  | m, l, i, x, hm, hx => by
    have hi : i < l.length := (List.getElem?_eq_some_iff.1 hx).1
    by_cases h : l.length < 2
    · rw [climb_one N E x i _ _ h]
      match l, h, hi, hx with
      | [y], _, hi, hx =>
        have : i = 0 := by simpa using hi
        subst this
        simp at hx
        rw [root_one, hx]
    · obtain ⟨a, b, _, _⟩ := split_spec (n := l.length) (by omega)
      cases m with
      | zero => omega
      | succ m =>
        rw [climb_two N E x i _ _ (by omega), root_two N E l (by omega), path_two N E l i (by omega)]
        have e1 : (l.take (split l.length)).length = split l.length := by rw [List.length_take]; omega
        have e2 : (l.drop (split l.length)).length = l.length - split l.length := List.length_drop
        by_cases hs : i < split l.length
        · simp only [hs, if_true, List.dropLast_concat, List.getLast?_append, List.getLast?_singleton, Option.some_or, Option.getD_some]
          have := climb_path m (l.take (split l.length)) i x (by omega) (by rw [List.getElem?_take, if_pos hs]; exact hx)
          rw [e1] at this
          rw [this]
        · simp only [hs, if_false, List.dropLast_concat, List.getLast?_append, List.getLast?_singleton, Option.some_or, Option.getD_some]
          have := climb_path m (l.drop (split l.length)) (i - split l.length) x (by omega) (by rw [List.getElem?_drop, show split l.length + (i - split l.length) = i by omega]; exact hx)
          rw [e2] at this
          rw [this]
/-- What a path's steps join, from the leaf up. -/
def waysF : Nat → D → Nat → Nat → List D → List (D × D)
  | 0, _, _, _, _ => []
  | f + 1, x, i, n, p => if n < 2 then [] else
      if i < split n then waysF f x i (split n) p.dropLast ++ [(climb N E x i (split n) p.dropLast, p.getLast?.getD E)]
      else waysF f x (i - split n) (n - split n) p.dropLast ++ [(p.getLast?.getD E, climb N E x (i - split n) (n - split n) p.dropLast)]
def ways (x : D) (i n : Nat) (p : List D) : List (D × D) := waysF N E n x i n p
theorem waysF_fuel : ∀ (f g : Nat) (x : D) (i n : Nat) (p : List D), n ≤ f → n ≤ g → waysF N E f x i n p = waysF N E g x i n p
  | 0, 0, _, _, _, _, _, _ => rfl
  | 0, g + 1, _, _, n, _, h, _ => by unfold waysF; rw [if_pos (by omega)]
  | f + 1, 0, _, _, n, _, _, h => by unfold waysF; rw [if_pos (by omega)]
  | f + 1, g + 1, x, i, n, p, hf, hg => by
    unfold waysF
    by_cases h : n < 2
    · rw [if_pos h, if_pos h]
    · rw [if_neg h, if_neg h]
      obtain ⟨a, b, _, _⟩ := split_spec (n := n) (by omega)
      rw [waysF_fuel f g x i (split n) _ (by omega) (by omega), waysF_fuel f g x (i - split n) (n - split n) _ (by omega) (by omega)]
theorem ways_one (x : D) (i n : Nat) (p : List D) (h : n < 2) : ways N E x i n p = [] := by
  unfold ways
  cases n with
  | zero => rfl
  | succ m => unfold waysF; rw [if_pos h]
theorem ways_two (x : D) (i n : Nat) (p : List D) (h : 2 ≤ n) : ways N E x i n p = if i < split n then ways N E x i (split n) p.dropLast ++ [(climb N E x i (split n) p.dropLast, p.getLast?.getD E)]
      else ways N E x (i - split n) (n - split n) p.dropLast ++ [(p.getLast?.getD E, climb N E x (i - split n) (n - split n) p.dropLast)] := by
  obtain ⟨a, b, _, _⟩ := split_spec h
  obtain ⟨m, rfl⟩ : ∃ m, n = m + 1 := ⟨n - 1, by omega⟩
  unfold ways
  conv => lhs; unfold waysF
  rw [if_neg (by omega), waysF_fuel N E m (split (m + 1)) x i (split (m + 1)) _ (by omega) (Nat.le_refl _), waysF_fuel N E m (m + 1 - split (m + 1)) x (i - split (m + 1)) (m + 1 - split (m + 1)) _ (by omega) (Nat.le_refl _)]
theorem ways_len : ∀ (m : Nat) (x : D) (i n : Nat) (p : List D), n ≤ m → (ways N E x i n p).length = steps i n
  | m, x, i, n, p, hm => by
    by_cases h : n < 2
    · rw [ways_one N E x i n p h, steps_one i n h]; rfl
    · obtain ⟨a, b, _, _⟩ := split_spec (n := n) (by omega)
      cases m with
      | zero => omega
      | succ m =>
        rw [ways_two N E x i n p (by omega), steps_two i n (by omega)]
        split
        · rw [List.length_append, ways_len m x i (split n) p.dropLast (by omega)]; simp; omega
        · rw [List.length_append, ways_len m x (i - split n) (n - split n) p.dropLast (by omega)]; simp; omega
/-- P6.6: two unlike leaves, one root: some step joins unlike pairs to one digest. -/
theorem ways_bind : ∀ (m : Nat) (x y : D) (i n : Nat) (p q : List D), n ≤ m → x ≠ y → climb N E x i n p = climb N E y i n q →
    ∃ (k : Nat) (u v : D × D), (ways N E x i n p)[k]? = some u ∧ (ways N E y i n q)[k]? = some v ∧ u ≠ v ∧ N u.1 u.2 = N v.1 v.2
  | m, x, y, i, n, p, q, hm, hne, he => by
    by_cases h : n < 2
    · rw [climb_one N E x i n p h, climb_one N E y i n q h] at he; exact absurd he hne
    · obtain ⟨a, b, _, _⟩ := split_spec (n := n) (by omega)
      cases m with
      | zero => omega
      | succ m =>
        rw [climb_two N E x i n p (by omega), climb_two N E y i n q (by omega)] at he
        rw [ways_two N E x i n p (by omega), ways_two N E y i n q (by omega)]
        by_cases hs : i < split n
        · simp only [hs, if_true] at he ⊢
          have l1 := ways_len N E m x i (split n) p.dropLast (by omega)
          have l2 := ways_len N E m y i (split n) q.dropLast (by omega)
          by_cases hc : climb N E x i (split n) p.dropLast = climb N E y i (split n) q.dropLast
          · obtain ⟨k, u, v, h1, h2, h3⟩ := ways_bind m x y i (split n) p.dropLast q.dropLast (by omega) hne hc
            have k1 := (List.getElem?_eq_some_iff.1 h1).1
            have k2 := (List.getElem?_eq_some_iff.1 h2).1
            exact ⟨k, u, v, by rw [List.getElem?_append_left k1]; exact h1, by rw [List.getElem?_append_left k2]; exact h2, h3⟩
          · refine ⟨steps i (split n), (climb N E x i (split n) p.dropLast, p.getLast?.getD E), (climb N E y i (split n) q.dropLast, q.getLast?.getD E), ?_, ?_, fun h' => hc (Prod.mk.inj h').1, he⟩
            · rw [← l1, List.getElem?_concat_length]
            · rw [← l2, List.getElem?_concat_length]
        · simp only [hs, if_false] at he ⊢
          have l1 := ways_len N E m x (i - split n) (n - split n) p.dropLast (by omega)
          have l2 := ways_len N E m y (i - split n) (n - split n) q.dropLast (by omega)
          by_cases hc : climb N E x (i - split n) (n - split n) p.dropLast = climb N E y (i - split n) (n - split n) q.dropLast
          · obtain ⟨k, u, v, h1, h2, h3⟩ := ways_bind m x y (i - split n) (n - split n) p.dropLast q.dropLast (by omega) hne hc
            have k1 := (List.getElem?_eq_some_iff.1 h1).1
            have k2 := (List.getElem?_eq_some_iff.1 h2).1
            exact ⟨k, u, v, by rw [List.getElem?_append_left k1]; exact h1, by rw [List.getElem?_append_left k2]; exact h2, h3⟩
          · refine ⟨steps (i - split n) (n - split n), (p.getLast?.getD E, climb N E x (i - split n) (n - split n) p.dropLast), (q.getLast?.getD E, climb N E y (i - split n) (n - split n) q.dropLast), ?_, ?_, fun h' => hc (Prod.mk.inj h').2, he⟩
            · rw [← l1, List.getElem?_concat_length]
            · rw [← l2, List.getElem?_concat_length]
end
end Go.Proofs.YtihkfomldbjpoaaDoor.TreeW

/- Proofs that one list begins another, in plain words. Nothing of the dump. -/
namespace Go.Proofs.YtihkfomldbjpoaaDoor.ConsW
open TreeW
section
variable {D : Type} (N : D → D → D) (E : D)
def partF : Nat → List D → Nat → Bool → List D
  | 0, _, _, _ => []
  | f + 1, l, m, wh => if m = l.length then (if wh then [] else [root N E l]) else
      if m ≤ split l.length then partF f (l.take (split l.length)) m wh ++ [root N E (l.drop (split l.length))]
      else partF f (l.drop (split l.length)) (m - split l.length) false ++ [root N E (l.take (split l.length))]
def part (l : List D) (m : Nat) (wh : Bool) : List D := partF N E (l.length + 1) l m wh
theorem partF_fuel : ∀ (f g : Nat) (l : List D) (m : Nat) (wh : Bool), 1 ≤ m → m ≤ l.length → l.length < f → l.length < g → partF N E f l m wh = partF N E g l m wh
  | 0, _, _, _, _, _, _, h, _ => by omega
  | _ + 1, 0, _, _, _, _, _, _, h => by omega
  | f + 1, g + 1, l, m, wh, h1, h2, hf, hg => by
    unfold partF
    by_cases h : m = l.length
    · rw [if_pos h, if_pos h]
    · rw [if_neg h, if_neg h]
      obtain ⟨a, b, _, _⟩ := split_spec (n := l.length) (by omega)
      have e1 : (l.take (split l.length)).length = split l.length := by rw [List.length_take]; omega
      have e2 : (l.drop (split l.length)).length = l.length - split l.length := List.length_drop
      by_cases hm : m ≤ split l.length
      · rw [if_pos hm, if_pos hm, partF_fuel f g (l.take (split l.length)) m wh h1 (by omega) (by omega) (by omega)]
      · rw [if_neg hm, if_neg hm, partF_fuel f g (l.drop (split l.length)) _ false (by omega) (by omega) (by omega) (by omega)]
theorem part_all (l : List D) (wh : Bool) : part N E l l.length wh = if wh then [] else [root N E l] := by
  unfold part partF; rw [if_pos rfl]
theorem part_two (l : List D) (m : Nat) (wh : Bool) (h1 : 1 ≤ m) (h2 : m < l.length) : part N E l m wh =
    if m ≤ split l.length then part N E (l.take (split l.length)) m wh ++ [root N E (l.drop (split l.length))]
      else part N E (l.drop (split l.length)) (m - split l.length) false ++ [root N E (l.take (split l.length))] := by
  obtain ⟨a, b, _, _⟩ := split_spec (n := l.length) (by omega)
  have e1 : (l.take (split l.length)).length = split l.length := by rw [List.length_take]; omega
  have e2 : (l.drop (split l.length)).length = l.length - split l.length := List.length_drop
  unfold part
  conv => lhs; unfold partF
  rw [if_neg (by omega)]
  by_cases hm : m ≤ split l.length
  · rw [if_pos hm, if_pos hm, partF_fuel N E l.length ((l.take (split l.length)).length + 1) (l.take (split l.length)) m wh h1 (by omega) (by omega) (by omega)]
  · rw [if_neg hm, if_neg hm, partF_fuel N E l.length ((l.drop (split l.length)).length + 1) (l.drop (split l.length)) _ false (by omega) (by omega) (by omega) (by omega)]
/-- The proof. -/
def prove (l : List D) (m : Nat) : List D := if m = 0 then [] else part N E l m true
/-- Both roots that a proof leads to. -/
def rootsF : Nat → Nat → Nat → Bool → D → List D → Option (D × D)
  | 0, _, _, _, _, _ => none
  | f + 1, m, n, wh, one, p => if m = n then (if wh then (if p.length = 0 then some (one, one) else none) else (match p with | [x] => some (x, x) | _ => none)) else
      match p.getLast? with
      | none => none
      | some last => if m ≤ split n then (rootsF f m (split n) wh one p.dropLast).map fun x => (x.1, N x.2 last)
        else (rootsF f (m - split n) (n - split n) false one p.dropLast).map fun x => (N last x.1, N last x.2)
def roots (m n : Nat) (wh : Bool) (one : D) (p : List D) : Option (D × D) := rootsF N (n + 1) m n wh one p
theorem rootsF_fuel : ∀ (f g m n : Nat) (wh : Bool) (one : D) (p : List D), 1 ≤ m → m ≤ n → n < f → n < g → rootsF N f m n wh one p = rootsF N g m n wh one p
  | 0, _, _, _, _, _, _, _, _, h, _ => by omega
  | _ + 1, 0, _, _, _, _, _, _, _, _, h => by omega
  | f + 1, g + 1, m, n, wh, one, p, h1, h2, hf, hg => by
    unfold rootsF
    by_cases h : m = n
    · rw [if_pos h, if_pos h]
    · rw [if_neg h, if_neg h]
      obtain ⟨a, b, _, _⟩ := split_spec (n := n) (by omega)
      cases p.getLast? with
      | none => rfl
      | some last =>
        simp only
        by_cases hm : m ≤ split n
        · rw [if_pos hm, if_pos hm, rootsF_fuel f g m (split n) wh one p.dropLast h1 hm (by omega) (by omega)]
        · rw [if_neg hm, if_neg hm, rootsF_fuel f g (m - split n) (n - split n) false one p.dropLast (by omega) (by omega) (by omega) (by omega)]
theorem roots_all (n : Nat) (wh : Bool) (one : D) (p : List D) : roots N n n wh one p = if wh then (if p.length = 0 then some (one, one) else none) else (match p with | [x] => some (x, x) | _ => none) := by
  unfold roots; conv => lhs; unfold rootsF
  rw [if_pos rfl]
theorem roots_two (m n : Nat) (wh : Bool) (one : D) (p : List D) (h1 : 1 ≤ m) (h2 : m < n) : roots N m n wh one p = match p.getLast? with
      | none => none
      | some last => if m ≤ split n then (roots N m (split n) wh one p.dropLast).map fun x => (x.1, N x.2 last)
        else (roots N (m - split n) (n - split n) false one p.dropLast).map fun x => (N last x.1, N last x.2) := by
  obtain ⟨a, b, _, _⟩ := split_spec (n := n) (by omega)
  unfold roots
  conv => lhs; unfold rootsF
  rw [if_neg (by omega)]
  cases p.getLast? with
  | none => rfl
  | some last =>
    simp only
    by_cases hm : m ≤ split n
    · rw [if_pos hm, if_pos hm, rootsF_fuel N n (split n + 1) m (split n) wh one p.dropLast h1 hm (by omega) (by omega)]
    · rw [if_neg hm, if_neg hm, rootsF_fuel N n (n - split n + 1) (m - split n) (n - split n) false one p.dropLast (by omega) (by omega) (by omega) (by omega)]
/-- P7.3: a proof leads to the roots of its lists. -/
theorem roots_part : ∀ (f : Nat) (l : List D) (m : Nat) (wh : Bool), l.length ≤ f → 1 ≤ m → m ≤ l.length →
    roots N m l.length wh (root N E (l.take m)) (part N E l m wh) = some (root N E (l.take m), root N E l)
  | f, l, m, wh, hf, h1, h2 => by
    by_cases h : m = l.length
    · subst h
      rw [roots_all, part_all, List.take_length]
      cases wh <;> simp
    · obtain ⟨a, b, c, j, hj⟩ := split_spec (n := l.length) (by omega)
      have e1 : (l.take (split l.length)).length = split l.length := by rw [List.length_take]; omega
      have e2 : (l.drop (split l.length)).length = l.length - split l.length := List.length_drop
      cases f with
      | zero => omega
      | succ f =>
        rw [roots_two N m _ wh _ _ h1 (by omega), part_two N E l m wh h1 (by omega)]
        by_cases hm : m ≤ split l.length
        · simp only [hm, if_true, List.getLast?_append, List.getLast?_singleton, Option.some_or, List.dropLast_concat]
          have ih := roots_part f (l.take (split l.length)) m wh (by omega) h1 (by omega)
          rw [e1, List.take_take, Nat.min_eq_left hm] at ih
          rw [ih, root_two N E l (by omega)]
          rfl
        · simp only [hm, if_false, List.getLast?_append, List.getLast?_singleton, Option.some_or, List.dropLast_concat]
          have ih := roots_part f (l.drop (split l.length)) (m - split l.length) false (by omega) (by omega) (by omega)
          rw [e2] at ih
          have hone : ∀ one one' p, roots N (m - split l.length) (l.length - split l.length) false one p = roots N (m - split l.length) (l.length - split l.length) false one' p := by
            intro one one' p
            have key : ∀ (f m n : Nat) (p : List D), rootsF N f m n false one p = rootsF N f m n false one' p := by
              intro f
              induction f with
              | zero => intro m n p; rfl
              | succ f ih =>
                intro m n p
                unfold rootsF
                by_cases hmn : m = n
                · rw [if_pos hmn, if_pos hmn]; rfl
                · rw [if_neg hmn, if_neg hmn]
                  cases p.getLast? with
                  | none => rfl
                  | some last => simp only [ih]
            exact key _ _ _ _
          rw [hone _ (root N E ((l.drop (split l.length)).take (m - split l.length))), ih]
          have ht : l.take m = l.take (split l.length) ++ (l.drop (split l.length)).take (m - split l.length) := by
            rw [show m = split l.length + (m - split l.length) by omega, List.take_add, show split l.length + (m - split l.length) - split l.length = m - split l.length by omega]
          have hr : root N E (l.take m) = N (root N E (l.take (split l.length))) (root N E ((l.drop (split l.length)).take (m - split l.length))) := by
            rw [ht]
            exact root_app N E _ _ (j := j) (by omega) (by rw [List.length_take]; omega) (by rw [List.length_take]; omega)
          rw [root_two N E l (by omega), hr]
          rfl
/-- How many digests a proof has. -/
def consLen : Nat → Nat → Nat → Bool → Nat
  | 0, _, _, _ => 0
  | f + 1, m, n, wh => if m = n then (if wh then 0 else 1) else if m ≤ split n then consLen f m (split n) wh + 1 else consLen f (m - split n) (n - split n) false + 1
/-- P7.4: what leads to roots has that length. -/
theorem roots_len : ∀ (f m n : Nat) (wh : Bool) (one : D) (p : List D) (x : D × D), rootsF N f m n wh one p = some x → p.length = consLen f m n wh
  | 0, _, _, _, _, _, _, h => by simp [rootsF] at h
  | f + 1, m, n, wh, one, p, x, h => by
    unfold rootsF at h
    unfold consLen
    by_cases hmn : m = n
    · rw [if_pos hmn] at h ⊢
      cases wh with
      | true =>
        simp only [if_true] at h ⊢
        by_cases hp : p.length = 0
        · exact hp
        · rw [if_neg hp] at h; cases h
      | false =>
        simp only [Bool.false_eq_true, if_false] at h ⊢
        match p, h with
        | [_], _ => rfl
    · rw [if_neg hmn] at h ⊢
      cases hl : p.getLast? with
      | none => rw [hl] at h; cases h
      | some last =>
        rw [hl] at h
        simp only at h
        have hp : p.length = p.dropLast.length + 1 := by
          cases p with
          | nil => simp at hl
          | cons a q => simp
        by_cases hm : m ≤ split n
        · rw [if_pos hm] at h ⊢
          obtain ⟨y, hy, _⟩ := Option.map_eq_some_iff.1 h
          rw [hp, roots_len f m (split n) wh one p.dropLast y hy]
        · rw [if_neg hm] at h ⊢
          obtain ⟨y, hy, _⟩ := Option.map_eq_some_iff.1 h
          rw [hp, roots_len f _ _ false one p.dropLast y hy]
theorem part_left {l : List D} {m k : Nat} {wh : Bool} (hk : k = split l.length) (h1 : 1 ≤ m) (h2 : m < l.length) (h : m ≤ k) : part N E l m wh = part N E (l.take k) m wh ++ [root N E (l.drop k)] := by
  subst hk; rw [part_two N E l m wh h1 h2, if_pos h]
theorem part_right {l : List D} {m k : Nat} {wh : Bool} (hk : k = split l.length) (h1 : 1 ≤ m) (h2 : m < l.length) (h : ¬ m ≤ k) : part N E l m wh = part N E (l.drop k) (m - k) false ++ [root N E (l.take k)] := by
  subst hk; rw [part_two N E l m wh h1 h2, if_neg h]
theorem part_le : ∀ (f : Nat) (l : List D) (m : Nat) (wh : Bool), l.length ≤ f → 1 ≤ m → m ≤ l.length → (part N E l m wh).length ≤ l.length
  | f, l, m, wh, hf, h1, h2 => by
    by_cases h : m = l.length
    · subst h
      rw [part_all]
      cases wh <;> simp <;> omega
    · obtain ⟨a, b, _, _⟩ := split_spec (n := l.length) (by omega)
      have e1 : (l.take (split l.length)).length = split l.length := by rw [List.length_take]; omega
      have e2 : (l.drop (split l.length)).length = l.length - split l.length := List.length_drop
      cases f with
      | zero => omega
      | succ f =>
        by_cases hm : m ≤ split l.length
        · rw [part_left N E rfl h1 (by omega) hm, List.length_append]
          have := part_le f (l.take (split l.length)) m wh (by omega) h1 (by omega)
          simp; omega
        · rw [part_right N E rfl h1 (by omega) hm, List.length_append]
          have := part_le f (l.drop (split l.length)) (m - split l.length) false (by omega) (by omega) (by omega)
          simp; omega
theorem roots_true (n : Nat) (one : D) (p : List D) : roots N n n true one p = if p.length = 0 then some (one, one) else none := by rw [roots_all]; simp
theorem roots_one (n : Nat) (one x : D) : roots N n n false one [x] = some (x, x) := by rw [roots_all]; simp
theorem roots_not (n : Nat) (one : D) (p : List D) (h : p.length ≠ 1) : roots N n n false one p = none := by
  rw [roots_all]
  match p, h with
  | [], _ => rfl
  | [_], h => exact absurd rfl h
  | _ :: _ :: _, _ => rfl
theorem roots_nil {m n : Nat} {wh : Bool} {one : D} (h1 : 1 ≤ m) (h2 : m < n) : roots N m n wh one [] = none := by rw [roots_two N m n wh one [] h1 h2]; rfl
theorem roots_left {m n k : Nat} {wh : Bool} {one d : D} {p : List D} (hk : k = split n) (h1 : 1 ≤ m) (h2 : m < n) (h : m ≤ k) : roots N m n wh one (p ++ [d]) = (roots N m k wh one p).map fun x => (x.1, N x.2 d) := by
  subst hk; rw [roots_two N m n wh one _ h1 h2, List.getLast?_concat, List.dropLast_concat]; simp only [h, if_true]
theorem roots_right {m n k : Nat} {wh : Bool} {one d : D} {p : List D} (hk : k = split n) (h1 : 1 ≤ m) (h2 : m < n) (h : ¬ m ≤ k) : roots N m n wh one (p ++ [d]) = (roots N (m - k) (n - k) false one p).map fun x => (N d x.1, N d x.2) := by
  subst hk; rw [roots_two N m n wh one _ h1 h2, List.getLast?_concat, List.dropLast_concat]; simp only [h, if_false]
/-- Is a proof accepted? (Of digests all.) -/
def accept (m n : Nat) (one two : D) (p : List D) : Prop := if m = 0 then p = [] ∧ one = E else roots N m n true one p = some (one, two)
theorem accept_zero {n : Nat} {one two : D} {p : List D} : accept N E 0 n one two p ↔ p = [] ∧ one = E := by unfold accept; rw [if_pos rfl]
theorem accept_pos {m n : Nat} {one two : D} {p : List D} (h : m ≠ 0) : accept N E m n one two p ↔ roots N m n true one p = some (one, two) := by unfold accept; rw [if_neg h]
/-- P7.3. -/
theorem accept_back (l : List D) (m : Nat) (h : m ≤ l.length) : accept N E m l.length (root N E (l.take m)) (root N E l) (prove N E l m) := by
  by_cases h0 : m = 0
  · subst h0
    exact (accept_zero N E).2 ⟨rfl, rfl⟩
  · rw [accept_pos N E h0]
    unfold prove; rw [if_neg h0]
    exact roots_part N E l.length l m true (Nat.le_refl _) (by omega) h
/-- P7.4. -/
theorem accept_len {m n : Nat} {one two one' two' : D} {p q : List D} (hp : accept N E m n one two p) (hq : accept N E m n one' two' q) : p.length = q.length := by
  by_cases h0 : m = 0
  · subst h0
    rw [((accept_zero N E).1 hp).1, ((accept_zero N E).1 hq).1]
  · rw [accept_pos N E h0] at hp hq
    rw [roots_len N (n + 1) m n true one p _ hp, roots_len N (n + 1) m n true one' q _ hq]
/-- All of a list is its own beginning; and with nothing else. -/
theorem accept_all (n : Nat) (r : D) (hr : n = 0 → r = E) : accept N E n n r r [] := by
  by_cases h0 : n = 0
  · subst h0; exact (accept_zero N E).2 ⟨rfl, hr rfl⟩
  · rw [accept_pos N E h0, roots_all]; simp
theorem accept_all_no (n : Nat) (one two x : D) : ¬ accept N E n n one two [x] := by
  by_cases h0 : n = 0
  · subst h0; rw [accept_zero]; simp
  · rw [accept_pos N E h0, roots_all]; simp
theorem accept_none_no (n : Nat) (one two x : D) : ¬ accept N E 0 n one two [x] := by rw [accept_zero]; simp
end
end Go.Proofs.YtihkfomldbjpoaaDoor.ConsW

/- Trees and proofs whose digests are spelt another way. Nothing of the dump. -/
namespace Go.Proofs.YtihkfomldbjpoaaDoor.TreeW
theorem getLast_map {D D' : Type} (E : D) (E' : D') (f : D → D') (hE : f E = E') (p : List D) : f (p.getLast?.getD E) = (p.map f).getLast?.getD E' := by
  rw [List.getLast?_map]
  cases p.getLast? with
  | none => exact hE
  | some x => rfl
section
variable {D D' : Type} (N : D → D → D) (E : D) (N' : D' → D' → D') (E' : D') (f : D → D') (hN : ∀ x y, f (N x y) = N' (f x) (f y)) (hE : f E = E')
include hN hE
theorem root_map : ∀ (m : Nat) (l : List D), l.length ≤ m → f (root N E l) = root N' E' (l.map f)
  | m, [], _ => hE
  | m, [x], _ => rfl
  | 0, _ :: _ :: _, h => by simp at h
  | m + 1, x :: y :: l, h => by
    obtain ⟨a, b, _, _⟩ := split_spec (n := (x :: y :: l).length) (by simp)
    rw [root_two N E _ (by simp), root_two N' E' ((x :: y :: l).map f) (by simp), hN,
      root_map m _ (by rw [List.length_take]; omega), root_map m _ (by rw [List.length_drop]; omega), List.length_map, List.map_take, List.map_drop]
theorem climb_map : ∀ (m : Nat) (x : D) (i n : Nat) (p : List D), n ≤ m → f (climb N E x i n p) = climb N' E' (f x) i n (p.map f)
  | m, x, i, n, p, hm => by
    by_cases h : n < 2
    · rw [climb_one N E x i n p h, climb_one N' E' (f x) i n _ h]
    · obtain ⟨a, b, _, _⟩ := split_spec (n := n) (by omega)
      cases m with
      | zero => omega
      | succ m =>
        rw [climb_two N E x i n p (by omega), climb_two N' E' (f x) i n _ (by omega), ← List.map_dropLast]
        split
        · rw [hN, climb_map m x i (split n) _ (by omega), getLast_map E E' f hE]
        · rw [hN, climb_map m x (i - split n) (n - split n) _ (by omega), getLast_map E E' f hE]
theorem path_map : ∀ (m : Nat) (l : List D) (i : Nat), l.length ≤ m → (path N E l i).map f = path N' E' (l.map f) i
  | m, l, i, hm => by
    by_cases h : l.length < 2
    · rw [path_one N E l i h, path_one N' E' _ i (by rw [List.length_map]; exact h)]; rfl
    · obtain ⟨a, b, _, _⟩ := split_spec (n := l.length) (by omega)
      cases m with
      | zero => omega
      | succ m =>
        rw [path_two N E l i (by omega), path_two N' E' (l.map f) i (by rw [List.length_map]; omega), List.length_map]
        split
        · rw [List.map_append, path_map m _ i (by rw [List.length_take]; omega), List.map_take, List.map_cons, List.map_nil, root_map N E N' E' f hN hE l.length _ (by rw [List.length_drop]; omega), List.map_drop]
        · rw [List.map_append, path_map m _ _ (by rw [List.length_drop]; omega), List.map_drop, List.map_cons, List.map_nil, root_map N E N' E' f hN hE l.length _ (by rw [List.length_take]; omega), List.map_take]
theorem part_map : ∀ (m : Nat) (l : List D) (k : Nat) (wh : Bool), l.length ≤ m → 1 ≤ k → k ≤ l.length → (ConsW.part N E l k wh).map f = ConsW.part N' E' (l.map f) k wh
  | m, l, k, wh, hm, h1, h2 => by
    by_cases h : k = l.length
    · subst h
      have := ConsW.part_all N' E' (l.map f) wh
      rw [List.length_map] at this
      rw [ConsW.part_all, this]
      cases wh
      · simp only [Bool.false_eq_true, if_false, List.map_cons, List.map_nil, root_map N E N' E' f hN hE l.length l (Nat.le_refl _)]
      · rfl
    · obtain ⟨a, b, _, _⟩ := split_spec (n := l.length) (by omega)
      cases m with
      | zero => omega
      | succ m =>
        rw [ConsW.part_two N E l k wh h1 (by omega), ConsW.part_two N' E' (l.map f) k wh h1 (by rw [List.length_map]; omega), List.length_map]
        split
        · rw [List.map_append, part_map m _ k wh (by rw [List.length_take]; omega) h1 (by rw [List.length_take]; omega), List.map_take, List.map_cons, List.map_nil, root_map N E N' E' f hN hE l.length _ (by rw [List.length_drop]; omega), List.map_drop]
        · rw [List.map_append, part_map m _ _ false (by rw [List.length_drop]; omega) (by omega) (by rw [List.length_drop]; omega), List.map_drop, List.map_cons, List.map_nil, root_map N E N' E' f hN hE l.length _ (by rw [List.length_take]; omega), List.map_take]
omit hE in
theorem roots_map : ∀ (m k n : Nat) (wh : Bool) (one : D) (p : List D), n ≤ m → 1 ≤ k → k ≤ n → (ConsW.roots N k n wh one p).map (fun x => (f x.1, f x.2)) = ConsW.roots N' k n wh (f one) (p.map f)
  | m, k, n, wh, one, p, hm, h1, h2 => by
    by_cases h : k = n
    · subst h
      cases wh with
      | true =>
        rw [ConsW.roots_true, ConsW.roots_true, List.length_map]
        split <;> rfl
      | false =>
        by_cases hp : p.length = 1
        · obtain ⟨x, rfl⟩ : ∃ x, p = [x] := by
            match p, hp with
            | [x], _ => exact ⟨x, rfl⟩
          rw [ConsW.roots_one]
          exact (ConsW.roots_one N' k (f one) (f x)).symm
        · rw [ConsW.roots_not N k one p hp, ConsW.roots_not N' k (f one) (p.map f) (by rw [List.length_map]; exact hp)]; rfl
    · obtain ⟨a, b, _, _⟩ := split_spec (n := n) (by omega)
      cases m with
      | zero => omega
      | succ m =>
        rcases List.eq_nil_or_concat p with rfl | ⟨q, d, rfl⟩
        · rw [ConsW.roots_nil N h1 (by omega)]
          exact (ConsW.roots_nil N' h1 (by omega)).symm
        · rw [List.concat_eq_append, List.map_append, List.map_cons, List.map_nil]
          by_cases hk : k ≤ split n
          · rw [ConsW.roots_left N rfl h1 (by omega) hk, ConsW.roots_left N' rfl h1 (by omega) hk, ← roots_map m k (split n) wh one q (by omega) h1 hk]
            simp [Option.map_map, Function.comp_def, hN]
          · rw [ConsW.roots_right N rfl h1 (by omega) hk, ConsW.roots_right N' rfl h1 (by omega) hk, ← roots_map m (k - split n) (n - split n) false one q (by omega) (by omega) (by omega)]
            simp [Option.map_map, Function.comp_def, hN]
end
end Go.Proofs.YtihkfomldbjpoaaDoor.TreeW

/- Clashes in plain words, over any sum h of 32 bytes: of a leaf that is claimed, of two lists. Nothing of the dump. -/
namespace Go.Proofs.YtihkfomldbjpoaaDoor.ClashW
open TreeW ConsW
abbrev D := List UInt8
section
variable (h : D → D)
/-- The bytes of a node, of a leaf; their sums. -/
def nodeB (l r : D) : D := 1 :: (l ++ r)
def leafB (x : D) : D := 0 :: x
def nodeN (l r : D) : D := h (nodeB l r)
def leafN (x : D) : D := h (leafB x)
def noneE : D := h []
/-- A clash of two lists of bytes. -/
def btw (a b : D) : Option (D × D) := if a ≠ b ∧ h a = h b then some (a, b) else none
/-- The first that is one. -/
def orE (a b : Option (D × D)) : Option (D × D) := match a with | some x => some x | none => b
theorem orE_some {a b : Option (D × D)} {x : D × D} (e : orE a b = some x) : a = some x ∨ (a = none ∧ b = some x) := by
  cases a with
  | none => exact .inr ⟨rfl, e⟩
  | some y => exact .inl e
theorem orE_left {a : Option (D × D)} (b : Option (D × D)) (ha : a.isSome) : (orE a b).isSome := by
  cases a with
  | none => cases ha
  | some y => rfl
theorem orE_right (a : Option (D × D)) {b : Option (D × D)} (hb : b.isSome) : (orE a b).isSome := by
  cases a with
  | none => exact hb
  | some y => rfl
theorem orE_none (b : Option (D × D)) : orE none b = b := rfl
theorem orE_last (a : Option (D × D)) : orE a none = a := by cases a <;> rfl
theorem btw_is {a b : D} {x : D × D} (e : btw h a b = some x) : x = (a, b) ∧ a ≠ b ∧ h a = h b := by
  unfold btw at e
  split at e
  · rename_i h1; exact ⟨(Option.some.inj e).symm, h1.1, h1.2⟩
  · cases e
theorem btw_yes {a b : D} (h1 : a ≠ b) (h2 : h a = h b) : (btw h a b).isSome := by
  unfold btw; rw [if_pos ⟨h1, h2⟩]; rfl
theorem btw_same (a : D) : btw h a a = none := by unfold btw; rw [if_neg (fun g => g.1 rfl)]
/-- Is it a clash? -/
def IsC (x : D × D) : Prop := x.1 ≠ x.2 ∧ h x.1 = h x.2
theorem btw_isC {a b : D} {x : D × D} (e : btw h a b = some x) : IsC h x := by
  obtain ⟨rfl, h1, h2⟩ := btw_is h e
  exact ⟨h1, h2⟩
theorem nodeB_inj {a b c d : D} (ha : a.length = 32) (hc : c.length = 32) (e : nodeB a b = nodeB c d) : a = c ∧ b = d := by
  unfold nodeB at e
  exact List.append_inj (List.cons.inj e).2 (by rw [ha, hc])
theorem leafB_inj {a b : D} (e : leafB a = leafB b) : a = b := (List.cons.inj e).2
/-- The bytes of the node of a list. -/
def topB (l : List D) : D := nodeB (root (nodeN h) (noneE h) (l.take (split l.length))) (root (nodeN h) (noneE h) (l.drop (split l.length)))
theorem top_root (l : List D) (h2 : 2 ≤ l.length) : h (topB h l) = root (nodeN h) (noneE h) l := by
  rw [root_two _ _ l h2]; rfl
theorem root32 (hh : ∀ x, (h x).length = 32) (l : List D) (hl : ∀ x ∈ l, x.length = 32) : (root (nodeN h) (noneE h) l).length = 32 := by
  match l, hl with
  | [], _ => exact hh _
  | [x], hl => exact hl x (by simp)
  | x :: y :: r, _ => rw [root_two _ _ _ (by simp)]; exact hh _
theorem leaves32 (hh : ∀ x, (h x).length = 32) (l : List D) : ∀ x ∈ l.map (leafN h), x.length = 32 := by
  intro x hx
  obtain ⟨y, _, rfl⟩ := List.mem_map.1 hx
  exact hh _
theorem map_take' (l : List D) (k : Nat) : (l.map (leafN h)).take k = (l.take k).map (leafN h) := by rw [List.map_take]
theorem map_drop' (l : List D) (k : Nat) : (l.map (leafN h)).drop k = (l.drop k).map (leafN h) := by rw [List.map_drop]
/-- The clash of a leaf that is claimed, from the root down. -/
def leafF : Nat → List D → Nat → D → List D → Option (D × D)
  | 0, _, _, _, _ => none
  | f + 1, l, i, x, p => if l.length < 2 then btw h (leafB x) (leafB (l.getD 0 [])) else
      if i < split l.length then orE (btw h (nodeB (climb (nodeN h) (noneE h) (leafN h x) i (split l.length) p.dropLast) (p.getLast?.getD (noneE h))) (topB h (l.map (leafN h)))) (leafF f (l.take (split l.length)) i x p.dropLast)
      else orE (btw h (nodeB (p.getLast?.getD (noneE h)) (climb (nodeN h) (noneE h) (leafN h x) (i - split l.length) (l.length - split l.length) p.dropLast)) (topB h (l.map (leafN h)))) (leafF f (l.drop (split l.length)) (i - split l.length) x p.dropLast)
def leafC (l : List D) (i : Nat) (x : D) (p : List D) : Option (D × D) := leafF h l.length l i x p
theorem leafF_fuel : ∀ (f g : Nat) (l : List D) (i : Nat) (x : D) (p : List D), 1 ≤ l.length → l.length ≤ f → l.length ≤ g → leafF h f l i x p = leafF h g l i x p
  | 0, _, _, _, _, _, h0, hf, _ => by omega
  | _ + 1, 0, _, _, _, _, h0, _, hg => by omega
  | f + 1, g + 1, l, i, x, p, h0, hf, hg => by
    unfold leafF
    by_cases h1 : l.length < 2
    · rw [if_pos h1, if_pos h1]
    · rw [if_neg h1, if_neg h1]
      obtain ⟨a, b, _, _⟩ := split_spec (n := l.length) (by omega)
      have e1 : (l.take (split l.length)).length = split l.length := by rw [List.length_take]; omega
      have e2 : (l.drop (split l.length)).length = l.length - split l.length := List.length_drop
      rw [leafF_fuel f g (l.take (split l.length)) i x _ (by omega) (by omega) (by omega), leafF_fuel f g (l.drop (split l.length)) (i - split l.length) x _ (by omega) (by omega) (by omega)]
theorem leaf_one (l : List D) (i : Nat) (x : D) (p : List D) (h1 : l.length = 1) : leafC h l i x p = btw h (leafB x) (leafB (l.getD 0 [])) := by
  unfold leafC; rw [h1]; unfold leafF; rw [if_pos (by omega)]
theorem leaf_two (l : List D) (i : Nat) (x : D) (p : List D) (h2 : 2 ≤ l.length) : leafC h l i x p =
    if i < split l.length then orE (btw h (nodeB (climb (nodeN h) (noneE h) (leafN h x) i (split l.length) p.dropLast) (p.getLast?.getD (noneE h))) (topB h (l.map (leafN h)))) (leafC h (l.take (split l.length)) i x p.dropLast)
      else orE (btw h (nodeB (p.getLast?.getD (noneE h)) (climb (nodeN h) (noneE h) (leafN h x) (i - split l.length) (l.length - split l.length) p.dropLast)) (topB h (l.map (leafN h)))) (leafC h (l.drop (split l.length)) (i - split l.length) x p.dropLast) := by
  obtain ⟨a, b, _, _⟩ := split_spec (n := l.length) h2
  have e1 : (l.take (split l.length)).length = split l.length := by rw [List.length_take]; omega
  have e2 : (l.drop (split l.length)).length = l.length - split l.length := List.length_drop
  unfold leafC
  obtain ⟨m, hm⟩ : ∃ m, l.length = m + 1 := ⟨l.length - 1, by omega⟩
  rw [hm]
  conv => lhs; unfold leafF
  rw [if_neg (by omega), ← hm]
  rw [leafF_fuel h m (l.take (split l.length)).length (l.take (split l.length)) i x _ (by omega) (by omega) (Nat.le_refl _), leafF_fuel h m (l.drop (split l.length)).length (l.drop (split l.length)) _ x _ (by omega) (by omega) (Nat.le_refl _)]
/-- What is told is a clash. -/
theorem leafF_is : ∀ (f : Nat) (l : List D) (i : Nat) (x : D) (p : List D) (c : D × D), leafF h f l i x p = some c → IsC h c
  | 0, _, _, _, _, _, e => by cases e
  | f + 1, l, i, x, p, c, e => by
    unfold leafF at e
    split at e
    · exact btw_isC h e
    · split at e
      · rcases orE_some e with e | ⟨_, e⟩
        · exact btw_isC h e
        · exact leafF_is f _ _ _ _ _ e
      · rcases orE_some e with e | ⟨_, e⟩
        · exact btw_isC h e
        · exact leafF_is f _ _ _ _ _ e
/-- P8.4: where a leaf is proved that is not the list's there is one. -/
theorem leaf_finds (hh : ∀ x, (h x).length = 32) : ∀ (m : Nat) (l : List D) (i : Nat) (x : D) (p : List D), l.length ≤ m → i < l.length → (∀ d ∈ p, d.length = 32) →
    climb (nodeN h) (noneE h) (leafN h x) i l.length p = root (nodeN h) (noneE h) (l.map (leafN h)) → x ≠ l.getD i [] → (leafC h l i x p).isSome
  | 0, l, i, _, _, hm, hi, _, _, _ => by omega
  | m + 1, l, i, x, p, hm, hi, hp, hr, hne => by
    by_cases h1 : l.length < 2
    · have h1' : l.length = 1 := by omega
      rw [leaf_one h l i x p h1']
      obtain ⟨y, rfl⟩ : ∃ y, l = [y] := by
        match l, h1' with
        | [y], _ => exact ⟨y, rfl⟩
      have : i = 0 := by simpa using hi
      subst this
      rw [climb_one _ _ _ _ _ _ (by simp), List.map_singleton, root_one] at hr
      exact btw_yes h (fun e => hne (leafB_inj e)) hr
    · have h2 : 2 ≤ l.length := by omega
      obtain ⟨a, b, _, _⟩ := split_spec (n := l.length) h2
      have hml : (l.map (leafN h)).length = l.length := List.length_map ..
      have e1 : (l.take (split l.length)).length = split l.length := by rw [List.length_take]; omega
      have e2 : (l.drop (split l.length)).length = l.length - split l.length := List.length_drop
      rw [climb_two _ _ _ _ _ _ h2, ← top_root h _ (by rw [hml]; exact h2)] at hr
      rw [leaf_two h l i x p h2]
      have hlast : (p.getLast?.getD (noneE h)).length = 32 := by
        cases hq : p.getLast? with
        | none => exact hh _
        | some z => exact hp z (List.mem_of_getLast? hq)
      have hdrop : ∀ d ∈ p.dropLast, d.length = 32 := fun d hd => hp d ((List.dropLast_sublist p).subset hd)
      have hc32 : ∀ (j n : Nat) (q : List D), (climb (nodeN h) (noneE h) (leafN h x) j n q).length = 32 := by
        intro j n q
        by_cases hn : n < 2
        · rw [climb_one _ _ _ _ _ _ hn]; exact hh _
        · rw [climb_two _ _ _ _ _ _ (by omega)]
          split <;> exact hh _
      by_cases hs : i < split l.length
      · rw [if_pos hs] at hr ⊢
        by_cases hb : nodeB (climb (nodeN h) (noneE h) (leafN h x) i (split l.length) p.dropLast) (p.getLast?.getD (noneE h)) = topB h (l.map (leafN h))
        · refine orE_right _ ?_
          unfold topB at hb
          obtain ⟨g1, _⟩ := nodeB_inj (hc32 _ _ _) (root32 h hh _ (fun y hy => leaves32 h hh l y (List.mem_of_mem_take hy))) hb
          rw [hml, map_take'] at g1
          refine leaf_finds hh m (l.take (split l.length)) i x p.dropLast (by omega) (by omega) hdrop (by rw [e1]; exact g1) ?_
          have : (l.take (split l.length)).getD i [] = l.getD i [] := by simp [List.getD, hs]
          rw [this]; exact hne
        · exact orE_left _ (btw_yes h hb hr)
      · rw [if_neg hs] at hr ⊢
        by_cases hb : nodeB (p.getLast?.getD (noneE h)) (climb (nodeN h) (noneE h) (leafN h x) (i - split l.length) (l.length - split l.length) p.dropLast) = topB h (l.map (leafN h))
        · refine orE_right _ ?_
          unfold topB at hb
          obtain ⟨_, g1⟩ := nodeB_inj hlast (root32 h hh _ (fun y hy => leaves32 h hh l y (List.mem_of_mem_take hy))) hb
          rw [hml, map_drop'] at g1
          refine leaf_finds hh m (l.drop (split l.length)) (i - split l.length) x p.dropLast (by omega) (by omega) hdrop (by rw [e2]; exact g1) ?_
          have : (l.drop (split l.length)).getD (i - split l.length) [] = l.getD i [] := by simp [List.getD, show split l.length + (i - split l.length) = i by omega]
          rw [this]; exact hne
        · exact orE_left _ (btw_yes h hb hr)
/-- Of the honest leaf with its own path there is none. -/
theorem leaf_honest : ∀ (m : Nat) (l : List D) (i : Nat), l.length ≤ m → i < l.length → leafC h l i (l.getD i []) (path (nodeN h) (noneE h) (l.map (leafN h)) i) = none
  | 0, l, i, hm, hi => by omega
  | m + 1, l, i, hm, hi => by
    have hml : (l.map (leafN h)).length = l.length := List.length_map ..
    by_cases h1 : l.length < 2
    · have h1' : l.length = 1 := by omega
      rw [leaf_one h l i _ _ h1', show i = 0 by omega]
      exact btw_same h _
    · have h2 : 2 ≤ l.length := by omega
      obtain ⟨a, b, _, _⟩ := split_spec (n := l.length) h2
      have e1 : (l.take (split l.length)).length = split l.length := by rw [List.length_take]; omega
      have e2 : (l.drop (split l.length)).length = l.length - split l.length := List.length_drop
      rw [leaf_two h l i _ _ h2, path_two _ _ _ _ (by rw [hml]; exact h2), hml, map_take', map_drop']
      by_cases hs : i < split l.length
      · rw [if_pos hs, if_pos hs]
        simp only [List.dropLast_concat, List.getLast?_append, List.getLast?_singleton, Option.some_or, Option.getD_some]
        have hg : (l.take (split l.length)).getD i [] = l.getD i [] := by simp [List.getD, hs]
        have hx : ((l.take (split l.length)).map (leafN h))[i]? = some (leafN h (l.getD i [])) := by
          rw [List.getElem?_map, List.getElem?_take, if_pos hs, List.getElem?_eq_getElem hi]
          simp [List.getD, hi]
        have hc := climb_path (nodeN h) (noneE h) m ((l.take (split l.length)).map (leafN h)) i _ (by rw [List.length_map]; omega) hx
        rw [List.length_map, e1] at hc
        rw [hc]
        have ht : topB h (l.map (leafN h)) = nodeB (root (nodeN h) (noneE h) ((l.take (split l.length)).map (leafN h))) (root (nodeN h) (noneE h) ((l.drop (split l.length)).map (leafN h))) := by
          unfold topB; rw [hml, map_take', map_drop']
        rw [ht, btw_same, orE_none]
        have := leaf_honest m (l.take (split l.length)) i (by omega) (by omega)
        rw [hg] at this
        exact this
      · rw [if_neg hs, if_neg hs]
        simp only [List.dropLast_concat, List.getLast?_append, List.getLast?_singleton, Option.some_or, Option.getD_some]
        have hg : (l.drop (split l.length)).getD (i - split l.length) [] = l.getD i [] := by simp [List.getD, show split l.length + (i - split l.length) = i by omega]
        have hx : ((l.drop (split l.length)).map (leafN h))[i - split l.length]? = some (leafN h (l.getD i [])) := by
          rw [List.getElem?_map, List.getElem?_drop, show split l.length + (i - split l.length) = i by omega, List.getElem?_eq_getElem hi]
          simp [List.getD, hi]
        have hc := climb_path (nodeN h) (noneE h) m ((l.drop (split l.length)).map (leafN h)) (i - split l.length) _ (by rw [List.length_map]; omega) hx
        rw [List.length_map, e2] at hc
        rw [hc]
        have ht : topB h (l.map (leafN h)) = nodeB (root (nodeN h) (noneE h) ((l.take (split l.length)).map (leafN h))) (root (nodeN h) (noneE h) ((l.drop (split l.length)).map (leafN h))) := by
          unfold topB; rw [hml, map_take', map_drop']
        rw [ht, btw_same, orE_none]
        have := leaf_honest m (l.drop (split l.length)) (i - split l.length) (by omega) (by omega)
        rw [hg] at this
        exact this
/-- The clash of two lists of as many leaves. -/
def twoF : Nat → List D → List D → Option (D × D)
  | 0, _, _ => none
  | f + 1, a, b => if a.length < 2 then btw h (leafB (a.getD 0 [])) (leafB (b.getD 0 [])) else
      orE (btw h (topB h (a.map (leafN h))) (topB h (b.map (leafN h)))) (orE (twoF f (a.take (split a.length)) (b.take (split a.length))) (twoF f (a.drop (split a.length)) (b.drop (split a.length))))
def twoC (a b : List D) : Option (D × D) := twoF h a.length a b
theorem twoF_fuel : ∀ (f g : Nat) (a b : List D), 1 ≤ a.length → a.length ≤ f → a.length ≤ g → twoF h f a b = twoF h g a b
  | 0, _, _, _, h0, hf, _ => by omega
  | _ + 1, 0, _, _, h0, _, hg => by omega
  | f + 1, g + 1, a, b, h0, hf, hg => by
    unfold twoF
    by_cases h1 : a.length < 2
    · rw [if_pos h1, if_pos h1]
    · rw [if_neg h1, if_neg h1]
      obtain ⟨x, y, _, _⟩ := split_spec (n := a.length) (by omega)
      have e1 : (a.take (split a.length)).length = split a.length := by rw [List.length_take]; omega
      have e2 : (a.drop (split a.length)).length = a.length - split a.length := List.length_drop
      rw [twoF_fuel f g (a.take (split a.length)) _ (by omega) (by omega) (by omega), twoF_fuel f g (a.drop (split a.length)) _ (by omega) (by omega) (by omega)]
theorem two_one (a b : List D) (h1 : a.length = 1) : twoC h a b = btw h (leafB (a.getD 0 [])) (leafB (b.getD 0 [])) := by
  unfold twoC; rw [h1]; unfold twoF; rw [if_pos (by omega)]
theorem two_two (a b : List D) (h2 : 2 ≤ a.length) : twoC h a b = orE (btw h (topB h (a.map (leafN h))) (topB h (b.map (leafN h)))) (orE (twoC h (a.take (split a.length)) (b.take (split a.length))) (twoC h (a.drop (split a.length)) (b.drop (split a.length)))) := by
  obtain ⟨x, y, _, _⟩ := split_spec (n := a.length) h2
  have e1 : (a.take (split a.length)).length = split a.length := by rw [List.length_take]; omega
  have e2 : (a.drop (split a.length)).length = a.length - split a.length := List.length_drop
  unfold twoC
  obtain ⟨m, hm⟩ : ∃ m, a.length = m + 1 := ⟨a.length - 1, by omega⟩
  rw [hm]
  conv => lhs; unfold twoF
  rw [if_neg (by omega), ← hm]
  rw [twoF_fuel h m (a.take (split a.length)).length (a.take (split a.length)) _ (by omega) (by omega) (Nat.le_refl _), twoF_fuel h m (a.drop (split a.length)).length (a.drop (split a.length)) _ (by omega) (by omega) (Nat.le_refl _)]
theorem twoF_is : ∀ (f : Nat) (a b : List D) (c : D × D), twoF h f a b = some c → IsC h c
  | 0, _, _, _, e => by cases e
  | f + 1, a, b, c, e => by
    unfold twoF at e
    split at e
    · exact btw_isC h e
    · rcases orE_some e with e | ⟨_, e⟩
      · exact btw_isC h e
      · rcases orE_some e with e | ⟨_, e⟩
        · exact twoF_is f _ _ _ e
        · exact twoF_is f _ _ _ e
theorem two_same : ∀ (m : Nat) (a : List D), a.length ≤ m → 1 ≤ a.length → twoC h a a = none
  | 0, a, hm, h1 => by omega
  | m + 1, a, hm, h1 => by
    by_cases h2 : a.length < 2
    · rw [two_one h a a (by omega), btw_same]
    · obtain ⟨x, y, _, _⟩ := split_spec (n := a.length) (by omega)
      have e1 : (a.take (split a.length)).length = split a.length := by rw [List.length_take]; omega
      have e2 : (a.drop (split a.length)).length = a.length - split a.length := List.length_drop
      rw [two_two h a a (by omega), btw_same, orE_none, two_same m _ (by omega) (by omega), orE_none, two_same m _ (by omega) (by omega)]
/-- P8.5. -/
theorem two_finds (hh : ∀ x, (h x).length = 32) : ∀ (m : Nat) (a b : List D), a.length ≤ m → 1 ≤ a.length → b.length = a.length → a ≠ b →
    root (nodeN h) (noneE h) (a.map (leafN h)) = root (nodeN h) (noneE h) (b.map (leafN h)) → (twoC h a b).isSome
  | 0, a, _, hm, h1, _, _, _ => by omega
  | m + 1, a, b, hm, h1, hb, hne, hr => by
    by_cases h2 : a.length < 2
    · rw [two_one h a b (by omega)]
      obtain ⟨x, rfl⟩ : ∃ x, a = [x] := by
        match a, (by omega : a.length = 1) with
        | [x], _ => exact ⟨x, rfl⟩
      obtain ⟨y, rfl⟩ : ∃ y, b = [y] := by
        match b, hb with
        | [y], _ => exact ⟨y, rfl⟩
      rw [List.map_singleton, List.map_singleton, root_one, root_one] at hr
      exact btw_yes h (fun e => hne (by have e' : x = y := leafB_inj e; rw [e'])) hr
    · have h2' : 2 ≤ a.length := by omega
      obtain ⟨x, y, _, _⟩ := split_spec (n := a.length) h2'
      have hma : (a.map (leafN h)).length = a.length := List.length_map ..
      have hmb : (b.map (leafN h)).length = a.length := by rw [List.length_map, hb]
      have e1 : (a.take (split a.length)).length = split a.length := by rw [List.length_take]; omega
      have e2 : (a.drop (split a.length)).length = a.length - split a.length := List.length_drop
      have e3 : (b.take (split a.length)).length = split a.length := by rw [List.length_take]; omega
      have e4 : (b.drop (split a.length)).length = a.length - split a.length := by rw [List.length_drop]; omega
      rw [two_two h a b h2']
      rw [← top_root h _ (by omega), ← top_root h _ (by omega)] at hr
      by_cases ht : topB h (a.map (leafN h)) = topB h (b.map (leafN h))
      · refine orE_right _ ?_
        unfold topB at ht
        obtain ⟨g1, g2⟩ := nodeB_inj (root32 h hh _ (fun z hz => leaves32 h hh a z (List.mem_of_mem_take hz))) (root32 h hh _ (fun z hz => leaves32 h hh b z (List.mem_of_mem_take hz))) ht
        rw [hma, hmb, map_take', map_take'] at g1
        rw [hma, hmb, map_drop', map_drop'] at g2
        by_cases hl : a.take (split a.length) = b.take (split a.length)
        · refine orE_right _ (two_finds hh m _ _ (by omega) (by omega) (by omega) (fun e => hne ?_) g2)
          rw [← List.take_append_drop (split a.length) a, ← List.take_append_drop (split a.length) b, hl, e]
        · exact orE_left _ (two_finds hh m _ _ (by omega) (by omega) (by omega) hl g1)
      · exact orE_left _ (btw_yes h ht hr)
end
end Go.Proofs.YtihkfomldbjpoaaDoor.ClashW

/- The clash of a proof for two lists, in plain words. Nothing of the dump. -/
namespace Go.Proofs.YtihkfomldbjpoaaDoor.ClashW
open TreeW ConsW
section
variable (h : D → D)
/-- The one root makes no difference where not all is whole. -/
theorem rootsF_one (N : D → D → D) (one one' : D) : ∀ (f m n : Nat) (p : List D), rootsF N f m n false one p = rootsF N f m n false one' p
  | 0, _, _, _ => rfl
  | f + 1, m, n, p => by
    unfold rootsF
    by_cases hmn : m = n
    · rw [if_pos hmn, if_pos hmn]; rfl
    · rw [if_neg hmn, if_neg hmn]
      cases p.getLast? with
      | none => rfl
      | some last => simp only [rootsF_one N one one' f]
theorem roots_one (N : D → D → D) (one one' : D) (m n : Nat) (p : List D) : roots N m n false one p = roots N m n false one' p := rootsF_one N one one' _ _ _ _
theorem rootsF_32 (hh : ∀ x, (h x).length = 32) : ∀ (f m n : Nat) (wh : Bool) (one : D) (p : List D) (u v : D), one.length = 32 → (∀ d ∈ p, d.length = 32) → rootsF (nodeN h) f m n wh one p = some (u, v) → u.length = 32 ∧ v.length = 32
  | 0, _, _, _, _, _, _, _, _, _, e => by cases e
  | f + 1, m, n, wh, one, p, u, v, h1, hp, e => by
    unfold rootsF at e
    by_cases hmn : m = n
    · rw [if_pos hmn] at e
      cases wh with
      | true =>
        simp only [if_true] at e
        split at e
        · cases e; exact ⟨h1, h1⟩
        · cases e
      | false =>
        simp only [Bool.false_eq_true, if_false] at e
        match p, hp, e with
        | [x], hp, e =>
          simp only [Option.some.injEq, Prod.mk.injEq] at e
          obtain ⟨rfl, rfl⟩ := e
          exact ⟨hp _ (by simp), hp _ (by simp)⟩
    · rw [if_neg hmn] at e
      cases hl : p.getLast? with
      | none => rw [hl] at e; cases e
      | some last =>
        rw [hl] at e
        simp only at e
        have hd : ∀ d ∈ p.dropLast, d.length = 32 := fun d hd => hp d ((List.dropLast_sublist p).subset hd)
        by_cases hm : m ≤ split n
        · rw [if_pos hm] at e
          obtain ⟨⟨x, y⟩, hy, hxy⟩ := Option.map_eq_some_iff.1 e
          cases hxy
          exact ⟨(rootsF_32 hh f m (split n) wh one _ x y h1 hd hy).1, hh _⟩
        · rw [if_neg hm] at e
          obtain ⟨⟨x, y⟩, hy, hxy⟩ := Option.map_eq_some_iff.1 e
          cases hxy
          exact ⟨hh _, hh _⟩
/-- The clash of the nodes for the one root; for the other one; of the parts. -/
def oldF : Nat → List D → Nat → Nat → Bool → D → List D → Option (D × D)
  | 0, _, _, _, _, _, _ => none
  | f + 1, a, m, n, wh, one, p => if m = n then none else
      if m ≤ split n then oldF f a m (split n) wh one p.dropLast
      else orE (btw h (nodeB (p.getLast?.getD (noneE h)) ((roots (nodeN h) (m - split n) (n - split n) false one p.dropLast).getD ([], [])).1) (topB h a)) (oldF f (a.drop (split n)) (m - split n) (n - split n) false one p.dropLast)
def freshF : Nat → List D → Nat → Nat → Bool → D → List D → Option (D × D)
  | 0, _, _, _, _, _, _ => none
  | f + 1, b, m, n, wh, one, p => if m = n then none else
      if m ≤ split n then orE (btw h (nodeB ((roots (nodeN h) m (split n) wh one p.dropLast).getD ([], [])).2 (p.getLast?.getD (noneE h))) (topB h b)) (freshF f (b.take (split n)) m (split n) wh one p.dropLast)
      else orE (btw h (nodeB (p.getLast?.getD (noneE h)) ((roots (nodeN h) (m - split n) (n - split n) false one p.dropLast).getD ([], [])).2) (topB h b)) (freshF f (b.drop (split n)) (m - split n) (n - split n) false one p.dropLast)
def partsF : Nat → List D → List D → Nat → Nat → Option (D × D)
  | 0, _, _, _, _ => none
  | f + 1, a, b, m, n => if m = n then twoC h (a.take m) (b.take m) else
      if m ≤ split n then partsF f a b m (split n)
      else orE (twoC h (a.take (split n)) (b.take (split n))) (partsF f (a.drop (split n)) (b.drop (split n)) (m - split n) (n - split n))
theorem oldF_is : ∀ (f : Nat) (a : List D) (m n : Nat) (wh : Bool) (one : D) (p : List D) (c : D × D), oldF h f a m n wh one p = some c → IsC h c
  | 0, _, _, _, _, _, _, _, e => by cases e
  | f + 1, a, m, n, wh, one, p, c, e => by
    unfold oldF at e
    split at e
    · cases e
    · split at e
      · exact oldF_is f _ _ _ _ _ _ _ e
      · rcases orE_some e with e | ⟨_, e⟩
        · exact btw_isC h e
        · exact oldF_is f _ _ _ _ _ _ _ e
theorem freshF_is : ∀ (f : Nat) (a : List D) (m n : Nat) (wh : Bool) (one : D) (p : List D) (c : D × D), freshF h f a m n wh one p = some c → IsC h c
  | 0, _, _, _, _, _, _, _, e => by cases e
  | f + 1, a, m, n, wh, one, p, c, e => by
    unfold freshF at e
    split at e
    · cases e
    · split at e
      · rcases orE_some e with e | ⟨_, e⟩
        · exact btw_isC h e
        · exact freshF_is f _ _ _ _ _ _ _ e
      · rcases orE_some e with e | ⟨_, e⟩
        · exact btw_isC h e
        · exact freshF_is f _ _ _ _ _ _ _ e
theorem partsF_is : ∀ (f : Nat) (a b : List D) (m n : Nat) (c : D × D), partsF h f a b m n = some c → IsC h c
  | 0, _, _, _, _, _, e => by cases e
  | f + 1, a, b, m, n, c, e => by
    unfold partsF at e
    split at e
    · exact twoF_is h _ _ _ _ e
    · split at e
      · exact partsF_is f _ _ _ _ _ e
      · rcases orE_some e with e | ⟨_, e⟩
        · exact twoF_is h _ _ _ _ e
        · exact partsF_is f _ _ _ _ _ e
/-- It looks at the first n of b alone. -/
theorem partsF_take : ∀ (f : Nat) (a b : List D) (m n k : Nat), 1 ≤ m → m ≤ n → n ≤ k → partsF h f a (b.take k) m n = partsF h f a b m n
  | 0, _, _, _, _, _, _, _, _ => rfl
  | f + 1, a, b, m, n, k, h1, h2, h3 => by
    unfold partsF
    by_cases hmn : m = n
    · rw [if_pos hmn, if_pos hmn, List.take_take, Nat.min_eq_left (by omega)]
    · rw [if_neg hmn, if_neg hmn]
      obtain ⟨x, y, _, _⟩ := split_spec (n := n) (by omega)
      by_cases hm : m ≤ split n
      · rw [if_pos hm, if_pos hm, partsF_take f a b m (split n) k h1 hm (by omega)]
      · rw [if_neg hm, if_neg hm, List.take_take, Nat.min_eq_left (by omega), List.drop_take, partsF_take f _ _ _ _ _ (by omega) (by omega) (by omega)]
theorem take_all_eq (a : List D) {m : Nat} (hm : a.length = m) : a.take m = a := List.take_of_length_le (by omega)
/-- P8.6: where a proof is accepted for the roots of two lists, and the one does not begin the other, there is one. -/
theorem cons_main (hh : ∀ x, (h x).length = 32) : ∀ (f : Nat) (a b : List D) (m n : Nat) (wh : Bool) (one : D) (p : List D), n ≤ f → a.length = m → b.length = n → 1 ≤ m → m ≤ n → one.length = 32 → (∀ d ∈ p, d.length = 32) →
    roots (nodeN h) m n wh one p = some (root (nodeN h) (noneE h) (a.map (leafN h)), root (nodeN h) (noneE h) (b.map (leafN h))) → a ≠ b.take m →
    (oldF h (f + 1) (a.map (leafN h)) m n wh one p).isSome ∨ (freshF h (f + 1) (b.map (leafN h)) m n wh one p).isSome ∨ (partsF h (f + 1) a b m n).isSome
  | 0, _, _, _, _, _, _, _, hf, _, _, h1, h2, _, _, _, _ => by omega
  | f + 1, a, b, m, n, wh, one, p, hf, ha, hb, h1, h2, ho, hp, hr, hne => by
    by_cases hmn : m = n
    · subst hmn
      right; right
      unfold partsF
      rw [if_pos rfl, take_all_eq a ha, take_all_eq b hb]
      rw [take_all_eq b hb] at hne
      refine two_finds h hh a.length a b (Nat.le_refl _) (by omega) (by omega) hne ?_
      rw [roots_all] at hr
      cases wh with
      | true =>
        simp only [if_true] at hr
        split at hr
        · simp only [Option.some.injEq, Prod.mk.injEq] at hr
          rw [← hr.1, ← hr.2]
        · cases hr
      | false =>
        simp only [Bool.false_eq_true, if_false] at hr
        match p, hr with
        | [x], hr =>
          simp only [Option.some.injEq, Prod.mk.injEq] at hr
          rw [← hr.1, ← hr.2]
    · obtain ⟨s1, s2, s3, j, hj⟩ := split_spec (n := n) (by omega)
      have hma : (a.map (leafN h)).length = m := by rw [List.length_map, ha]
      have hmb : (b.map (leafN h)).length = n := by rw [List.length_map, hb]
      rw [roots_two _ _ _ _ _ _ h1 (by omega)] at hr
      cases hl : p.getLast? with
      | none => rw [hl] at hr; cases hr
      | some last =>
        rw [hl] at hr
        simp only at hr
        have hlast : last.length = 32 := hp last (List.mem_of_getLast? hl)
        have hd : ∀ d ∈ p.dropLast, d.length = 32 := fun d hd => hp d ((List.dropLast_sublist p).subset hd)
        have hbt : (b.take (split n)).length = split n := by rw [List.length_take]; omega
        have hbd : (b.drop (split n)).length = n - split n := by rw [List.length_drop]; omega
        by_cases hm : m ≤ split n
        · rw [if_pos hm] at hr
          obtain ⟨⟨u, v⟩, hy, hxy⟩ := Option.map_eq_some_iff.1 hr
          simp only [Prod.mk.injEq] at hxy
          obtain ⟨rfl, hv⟩ := hxy
          have h32 := rootsF_32 h hh _ _ _ _ _ _ _ _ ho hd hy
          rw [← top_root h _ (by omega)] at hv
          have eo : oldF h (f + 1 + 1) (a.map (leafN h)) m n wh one p = oldF h (f + 1) (a.map (leafN h)) m (split n) wh one p.dropLast := by
            conv => lhs; unfold oldF
            rw [if_neg hmn, if_pos hm]
          have ep : partsF h (f + 1 + 1) a b m n = partsF h (f + 1) a b m (split n) := by
            conv => lhs; unfold partsF
            rw [if_neg hmn, if_pos hm]
          have ef : freshF h (f + 1 + 1) (b.map (leafN h)) m n wh one p = orE (btw h (nodeB v last) (topB h (b.map (leafN h)))) (freshF h (f + 1) ((b.take (split n)).map (leafN h)) m (split n) wh one p.dropLast) := by
            conv => lhs; unfold freshF
            rw [if_neg hmn, if_pos hm, hy, hl, map_take']
            rfl
          rw [eo, ep, ef]
          by_cases ht : nodeB v last = topB h (b.map (leafN h))
          · unfold topB at ht
            obtain ⟨g1, g2⟩ := nodeB_inj h32.2 (root32 h hh _ (fun z hz => leaves32 h hh b z (List.mem_of_mem_take hz))) ht
            rw [hmb, map_take'] at g1
            rw [g1] at hy
            have ih := cons_main hh f a (b.take (split n)) m (split n) wh one p.dropLast (by omega) ha hbt h1 hm ho hd hy (by rw [List.take_take, Nat.min_eq_left hm]; exact hne)
            rw [partsF_take h _ _ _ _ _ _ h1 hm (Nat.le_refl _)] at ih
            rcases ih with ih | ih | ih
            · exact .inl ih
            · exact .inr (.inl (orE_right _ ih))
            · exact .inr (.inr ih)
          · exact .inr (.inl (orE_left _ (btw_yes h ht hv)))
        · rw [if_neg hm] at hr
          obtain ⟨⟨u, v⟩, hy, hxy⟩ := Option.map_eq_some_iff.1 hr
          simp only [Prod.mk.injEq] at hxy
          obtain ⟨hu, hv⟩ := hxy
          have hsm : split m = split n := split_uniq hj (by omega) (by omega)
          have hat : (a.take (split n)).length = split n := by rw [List.length_take]; omega
          have had : (a.drop (split n)).length = m - split n := by rw [List.length_drop]; omega
          rw [← top_root h _ (by omega)] at hu hv
          have eo : oldF h (f + 1 + 1) (a.map (leafN h)) m n wh one p = orE (btw h (nodeB last u) (topB h (a.map (leafN h)))) (oldF h (f + 1) ((a.drop (split n)).map (leafN h)) (m - split n) (n - split n) false one p.dropLast) := by
            conv => lhs; unfold oldF
            rw [if_neg hmn, if_neg hm, hy, hl, map_drop']
            rfl
          have ep : partsF h (f + 1 + 1) a b m n = orE (twoC h (a.take (split n)) (b.take (split n))) (partsF h (f + 1) (a.drop (split n)) (b.drop (split n)) (m - split n) (n - split n)) := by
            conv => lhs; unfold partsF
            rw [if_neg hmn, if_neg hm]
          have ef : freshF h (f + 1 + 1) (b.map (leafN h)) m n wh one p = orE (btw h (nodeB last v) (topB h (b.map (leafN h)))) (freshF h (f + 1) ((b.drop (split n)).map (leafN h)) (m - split n) (n - split n) false one p.dropLast) := by
            conv => lhs; unfold freshF
            rw [if_neg hmn, if_neg hm, hy, hl, map_drop']
            rfl
          rw [eo, ep, ef]
          by_cases ht : nodeB last u = topB h (a.map (leafN h))
          · by_cases ht2 : nodeB last v = topB h (b.map (leafN h))
            · unfold topB at ht ht2
              obtain ⟨g1, g2⟩ := nodeB_inj hlast (root32 h hh _ (fun z hz => leaves32 h hh a z (List.mem_of_mem_take hz))) ht
              obtain ⟨g3, g4⟩ := nodeB_inj hlast (root32 h hh _ (fun z hz => leaves32 h hh b z (List.mem_of_mem_take hz))) ht2
              rw [hma, hsm, map_take'] at g1
              rw [hma, hsm, map_drop'] at g2
              rw [hmb, map_take'] at g3
              rw [hmb, map_drop'] at g4
              by_cases hl2 : a.take (split n) = b.take (split n)
              · rw [g2, g4] at hy
                have ih := cons_main hh f (a.drop (split n)) (b.drop (split n)) (m - split n) (n - split n) false one p.dropLast (by omega) had hbd (by omega) (by omega) ho hd hy (by
                  intro e
                  apply hne
                  have e1 : b.take m = b.take (split n) ++ (b.drop (split n)).take (m - split n) := by
                    rw [show m = split n + (m - split n) by omega, List.take_add, show split n + (m - split n) - split n = m - split n by omega]
                  rw [e1, ← hl2, ← e, List.take_append_drop])
                rcases ih with ih | ih | ih
                · exact .inl (orE_right _ ih)
                · exact .inr (.inl (orE_right _ ih))
                · exact .inr (.inr (orE_right _ ih))
              · exact .inr (.inr (orE_left _ (two_finds h hh _ _ _ (Nat.le_refl _) (by omega) (by omega) hl2 (by rw [← g1, ← g3]))))
            · exact .inr (.inl (orE_left _ (btw_yes h ht2 hv)))
          · exact .inl (orE_left _ (btw_yes h ht hu))
/-- Of an honest proof for a beginning there is none. -/
theorem old_honest : ∀ (f : Nat) (l : List D) (m : Nat) (wh : Bool) (one : D), l.length ≤ f → 1 ≤ m → m ≤ l.length → oldF h (f + 1) (l.take m) m l.length wh one (ConsW.part (nodeN h) (noneE h) l m wh) = none
  | f, l, m, wh, one, hf, h1, h2 => by
    unfold oldF
    by_cases hmn : m = l.length
    · rw [if_pos hmn]
    · rw [if_neg hmn]
      obtain ⟨a, b, c, j, hj⟩ := split_spec (n := l.length) (by omega)
      have e1 : (l.take (split l.length)).length = split l.length := by rw [List.length_take]; omega
      have e2 : (l.drop (split l.length)).length = l.length - split l.length := List.length_drop
      cases f with
      | zero => omega
      | succ f =>
        rw [part_two _ _ l m wh h1 (by omega)]
        by_cases hm : m ≤ split l.length
        · simp only [hm, if_true, List.dropLast_concat]
          have ih := old_honest f (l.take (split l.length)) m wh one (by omega) h1 (by omega)
          rw [List.take_take, Nat.min_eq_left hm, e1] at ih
          exact ih
        · simp only [hm, if_false, List.dropLast_concat, List.getLast?_append, List.getLast?_singleton, Option.some_or, Option.getD_some]
          have hr := roots_part (nodeN h) (noneE h) f (l.drop (split l.length)) (m - split l.length) false (by omega) (by omega) (by omega)
          rw [e2] at hr
          rw [roots_one _ one (root (nodeN h) (noneE h) ((l.drop (split l.length)).take (m - split l.length))), hr]
          have hsm : split m = split l.length := split_uniq hj (by omega) (by omega)
          have hlm : (l.take m).length = m := by rw [List.length_take]; omega
          have ht : topB h (l.take m) = nodeB (root (nodeN h) (noneE h) (l.take (split l.length))) (root (nodeN h) (noneE h) ((l.drop (split l.length)).take (m - split l.length))) := by
            unfold topB
            rw [hlm, hsm, List.take_take, Nat.min_eq_left (by omega), List.drop_take]
          rw [ht]
          simp only [Option.getD_some]
          rw [btw_same, orE_none, List.drop_take]
          have ih := old_honest f (l.drop (split l.length)) (m - split l.length) false one (by omega) (by omega) (by omega)
          rw [e2] at ih
          exact ih
theorem fresh_honest : ∀ (f : Nat) (l : List D) (m : Nat) (wh : Bool) (one : D), l.length ≤ f → 1 ≤ m → m ≤ l.length → (wh = true → one = root (nodeN h) (noneE h) (l.take m)) → freshF h (f + 1) l m l.length wh one (ConsW.part (nodeN h) (noneE h) l m wh) = none
  | f, l, m, wh, one, hf, h1, h2, hw => by
    unfold freshF
    by_cases hmn : m = l.length
    · rw [if_pos hmn]
    · rw [if_neg hmn]
      obtain ⟨a, b, c, j, hj⟩ := split_spec (n := l.length) (by omega)
      have e1 : (l.take (split l.length)).length = split l.length := by rw [List.length_take]; omega
      have e2 : (l.drop (split l.length)).length = l.length - split l.length := List.length_drop
      cases f with
      | zero => omega
      | succ f =>
        rw [part_two _ _ l m wh h1 (by omega)]
        by_cases hm : m ≤ split l.length
        · simp only [hm, if_true, List.dropLast_concat, List.getLast?_append, List.getLast?_singleton, Option.some_or, Option.getD_some]
          have hr := roots_part (nodeN h) (noneE h) f (l.take (split l.length)) m wh (by omega) h1 (by omega)
          rw [e1, List.take_take, Nat.min_eq_left hm] at hr
          have hr2 : roots (nodeN h) m (split l.length) wh one (ConsW.part (nodeN h) (noneE h) (l.take (split l.length)) m wh) = some (root (nodeN h) (noneE h) (l.take m), root (nodeN h) (noneE h) (l.take (split l.length))) := by
            cases wh with
            | true => rw [hw rfl]; exact hr
            | false => rw [roots_one _ one (root (nodeN h) (noneE h) (l.take m))]; exact hr
          rw [hr2]
          have ht : topB h l = nodeB (root (nodeN h) (noneE h) (l.take (split l.length))) (root (nodeN h) (noneE h) (l.drop (split l.length))) := rfl
          rw [ht]
          simp only [Option.getD_some]
          rw [btw_same, orE_none]
          have ih := fresh_honest f (l.take (split l.length)) m wh one (by omega) h1 (by omega) (by rw [List.take_take, Nat.min_eq_left hm]; exact hw)
          rw [e1] at ih
          exact ih
        · simp only [hm, if_false, List.dropLast_concat, List.getLast?_append, List.getLast?_singleton, Option.some_or, Option.getD_some]
          have hr := roots_part (nodeN h) (noneE h) f (l.drop (split l.length)) (m - split l.length) false (by omega) (by omega) (by omega)
          rw [e2] at hr
          rw [roots_one _ one (root (nodeN h) (noneE h) ((l.drop (split l.length)).take (m - split l.length))), hr]
          have ht : topB h l = nodeB (root (nodeN h) (noneE h) (l.take (split l.length))) (root (nodeN h) (noneE h) (l.drop (split l.length))) := rfl
          rw [ht]
          simp only [Option.getD_some]
          rw [btw_same, orE_none]
          have ih := fresh_honest f (l.drop (split l.length)) (m - split l.length) false one (by omega) (by omega) (by omega) (fun e => by cases e)
          rw [e2] at ih
          exact ih
theorem parts_honest : ∀ (f : Nat) (b : List D) (m n : Nat), 1 ≤ m → m ≤ n → n ≤ b.length → partsF h f (b.take m) b m n = none
  | 0, _, _, _, _, _, _ => rfl
  | f + 1, b, m, n, h1, h2, h3 => by
    unfold partsF
    by_cases hmn : m = n
    · rw [if_pos hmn, List.take_take, Nat.min_self]
      exact two_same h _ _ (Nat.le_refl _) (by rw [List.length_take]; omega)
    · rw [if_neg hmn]
      obtain ⟨x, y, _, _⟩ := split_spec (n := n) (by omega)
      by_cases hm : m ≤ split n
      · rw [if_pos hm]; exact parts_honest f b m (split n) h1 hm (by omega)
      · rw [if_neg hm, List.take_take, Nat.min_eq_left (by omega), two_same h _ _ (Nat.le_refl _) (by rw [List.length_take]; omega), orE_none, List.drop_take]
        exact parts_honest f (b.drop (split n)) (m - split n) (n - split n) (by omega) (by omega) (by rw [List.length_drop]; omega)
end
end Go.Proofs.YtihkfomldbjpoaaDoor.ClashW

/- Contracts of the library, laid at this program: the tables of numbers, and that the program bears the bodies. -/
namespace Go.Proofs.YtihkfomldbjpoaaDoor
open Go.Shelf
def Tryd.lenS_ren : Go.Shelf.Ren := ⟨fun | 125 => 98 | 128 => 108 | 129 => 109 | n => n, fun | 46 => 113 | 3 => 3 | 51 => 100 | 53 => 114 | 4 => 4 | 5 => 5 | 9 => 9 | n => n, fun | n => n⟩
theorem Tryd.lenS : Go.Proofs.Lays.n125 Tryd.prog Tryd.lenS_ren := {
  mixed := by kernel_rfl
  f125 := Tryd.func98.trans (congrArg some (by kernel_rfl))
  f128 := Tryd.func108.trans (congrArg some (by kernel_rfl))
  f129 := Tryd.func109.trans (congrArg some (by kernel_rfl))
  t3 := Tryd.underlying3
  a3 := Tryd.isAgg3
  z3 := Tryd.sizeOf3
  v3 := Tryd.zeroValue3
  t4 := Tryd.underlying4
  a4 := Tryd.isAgg4
  z4 := Tryd.sizeOf4
  v4 := Tryd.zeroValue4
  t5 := Tryd.underlying5
  a5 := Tryd.isAgg5
  z5 := Tryd.sizeOf5
  v5 := Tryd.zeroValue5
  t9 := Tryd.underlying9
  a9 := Tryd.isAgg9
  z9 := Tryd.sizeOf9
  v9 := Tryd.zeroValue9
  t46 := Tryd.underlying113
  a46 := Tryd.isAgg113
  z46 := Tryd.sizeOf113
  v46 := Tryd.zeroValue113
  t51 := Tryd.underlying100
  a51 := Tryd.isAgg100
  z51 := Tryd.sizeOf100
  v51 := Tryd.zeroValue100
  t53 := Tryd.underlying114
  a53 := Tryd.isAgg114
  z53 := Tryd.sizeOf114
  v53 := Tryd.zeroValue114 }
end Go.Proofs.YtihkfomldbjpoaaDoor

/- Slices that read as lists, appends onto rows of the call's own, bytes made into strings, copies. Nothing of the dump. -/
namespace Go.Proofs.YtihkfomldbjpoaaDoor
open Go.RowKit
theorem add_lit (b o j : Nat) : (⟨b, o, none⟩ : Addr).add j = ⟨b, o + j, none⟩ := by
  unfold Addr.add; split <;> simp_all
/-- A slice's address holds these cells, one behind the other. -/
def Sl (w : World) (A : Option Addr) (cs : List Value) : Prop :=
  cs ≠ [] → ∃ b o, A = some ⟨b, o, none⟩ ∧ ∀ j u, cs[j]? = some u → w.cell? ⟨b, o + j, none⟩ = some u
section
variable {w w' : World} {A : Option Addr} {cs : List Value}
theorem Sl.nil : Sl w A [] := fun h => absurd rfl h
theorem Sl.get (h : Sl w A cs) {j : Nat} (hj : j < cs.length) : ∃ b o, A = some ⟨b, o, none⟩ ∧ b < w.heap.size ∧ ∀ j u, cs[j]? = some u → w.cell? ⟨b, o + j, none⟩ = some u := by
  obtain ⟨b, o, e, hc⟩ := h (by rintro rfl; simp at hj)
  exact ⟨b, o, e, block_lt_of_cell (hc j _ (List.getElem?_eq_getElem hj)), hc⟩
theorem Sl.keep (h : Sl w A cs) (hk : ∀ b o, b < w.heap.size → w'.cell? ⟨b, o, none⟩ = w.cell? ⟨b, o, none⟩) : Sl w' A cs := fun hn => by
  obtain ⟨b, o, e, hlt, hc⟩ := h.get (j := 0) (List.length_pos_iff.2 hn)
  exact ⟨b, o, e, fun j u hu => (hk _ _ hlt).trans (hc j u hu)⟩
theorem Sl.below (h : Sl w A cs) (hb : Below w.heap.size w w') : Sl w' A cs := h.keep fun b o hlt => hb.cell (p := ⟨b, o, none⟩) hlt
theorem Sl.drew (h : Sl w A cs) : Sl w.drew A cs := h
theorem Sl.drewN (h : Sl w A cs) (n : Nat) : Sl (w.drewN n) A cs := h
theorem Sl.alloc (h : Sl w A cs) (o : Obj) : Sl (w.alloc o) A cs := h.below ((Below.refl _ _).alloc (Nat.le_refl _) o)
theorem Sl.of_own {base n c : Nat} {e : TypeId} (h : w.ownsRow base e 1 (.slice A n c) n cs) : Sl w A cs := fun hn => by
  rcases h.2 with ⟨hv, hz⟩ | ⟨g, cap, cur, hv, _, hh, _, _, _, ht⟩
  · have := h.1; subst hz; simp at this; exact absurd this hn
  · simp at hv
    obtain ⟨rfl, _⟩ := hv
    refine ⟨g, 0, rfl, fun j u hu => ?_⟩
    have := h.cells (g := g) rfl j u hu
    rwa [add_lit] at this
theorem Sl.of_at {b : Nat} {t : TypeId} {ds : List Value} (h : At w b t ds) (o n : Nat) : Sl w (some ⟨b, o, none⟩) ((ds.drop o).take n) := fun _ => by
  refine ⟨b, o, rfl, fun j u hu => ?_⟩
  rw [h.cell]
  rw [List.getElem?_take] at hu
  split at hu
  · rw [List.getElem?_drop] at hu; exact hu
  · cases hu
theorem Sl.of_at_all {b : Nat} {t : TypeId} {ds : List Value} (h : At w b t ds) : Sl w (some ⟨b, 0, none⟩) ds := fun _ => by
  refine ⟨b, 0, rfl, fun j u hu => ?_⟩
  rw [h.cell]; simpa using hu
/-- 's[k:]': at its very end the address stays. -/
theorem Sl.cut (h : Sl w A cs) (k cap : Nat) (hc : cs.length ≤ cap) : Sl w (if cap = k then A else A.map (·.add k)) (cs.drop k) := fun hn => by
  have hk : k < cs.length := by
    rcases Nat.lt_or_ge k cs.length with h1 | h1
    · exact h1
    · exact absurd (List.drop_eq_nil_of_le h1) hn
  obtain ⟨b, o, rfl, _, hcell⟩ := h.get hk
  rw [if_neg (by omega)]
  refine ⟨b, o + k, by simp [add_lit], fun j u hu => ?_⟩
  rw [List.getElem?_drop] at hu
  rw [Nat.add_assoc]; exact hcell _ u hu
theorem Sl.take (h : Sl w A cs) (k : Nat) : Sl w A (cs.take k) := fun hn => by
  obtain ⟨b, o, e, hc⟩ := h (by rintro rfl; simp at hn)
  refine ⟨b, o, e, fun j u hu => hc j u ?_⟩
  rw [List.getElem?_take] at hu; split at hu
  · exact hu
  · cases hu
/-- The cell at an index, in the walk's own spelling. -/
theorem Sl.at_ (h : Sl w A cs) {k : Nat} (hk : k < cs.length) : ∃ b o, A = some ⟨b, o, none⟩ ∧ b < w.heap.size ∧ w.cell? ⟨b, o + k, none⟩ = some cs[k] := by
  obtain ⟨b, o, e, hlt, hc⟩ := h.get hk
  exact ⟨b, o, e, hlt, hc k _ (List.getElem?_eq_getElem hk)⟩
end
/-- The type of a slice and of its elements, each of one cell. -/
structure ElemTy (P : Program) (t e : TypeId) (z : Value) (bytes : Nat) : Prop where
  ht : P.underlying t = some (.slice e)
  info : ∃ i, P.info? e = some i ∧ i.zero = some z ∧ i.size = 1 ∧ i.bytes = bytes
  one : z.cells.size = 1
  pos : 0 < bytes
section
variable {P : Program}
theorem run_app {t ty e : TypeId} {z : Value} {by_ : Nat} (E : ElemTy P t e z by_) (w : World) (base : Nat) (v : Value) (n : Nat) (xs : List Value) (hown : w.ownsRow base e 1 v n xs)
    (A : Option Addr) (m c : Nat) (news : List Value) (hl : news.length = m) (hsl : Sl w A news) (h1 : ∀ u ∈ news, u.oneCell' = true)
    (hb : (n + m) * by_ ≤ 140737488355328) (hbase : base ≤ w.heap.size) :
    ∃ v' w', (Builtin.append_ #[t, t] ty #[v, .slice A m c]).run P w = .ok v' w' ∧ w'.ownsRow base e 1 v' (n + m) (xs ++ news) ∧ w.grownBy w' v.ownBlock ∧
      (v'.ownBlock = v.ownBlock ∨ v'.ownBlock = some w.heap.size) := by
  obtain ⟨i, hi, hz, hs, hby⟩ := E.info
  have h63 : n + m ≤ maxLen := by
    have := E.pos
    have h2 : n + m ≤ (n + m) * by_ := Nat.le_mul_of_pos_right _ this
    simp only [maxLen]; omega
  rcases A with _ | ad
  · have hm : news = [] := by
      rcases Classical.em (news = []) with h | h
      · exact h
      · obtain ⟨b, o, e, _⟩ := hsl h; cases e
    subst hm
    simp at hl
    subst hl
    refine ⟨v, w, ?_, by simpa using hown, ⟨rfl, rfl, rfl, Nat.le_refl _, fun _ _ _ => rfl⟩, .inl rfl⟩
    rcases hown.2 with ⟨rfl, rfl⟩ | ⟨g, cap, cur, rfl, _, _, hnc, _⟩
    · simp [Builtin.append_, run_underlying E.ht, sizeOf, typeInfo, hi, Builtin.lenOf, Builtin.firstCells]
    · simp [Builtin.append_, run_underlying E.ht, sizeOf, typeInfo, hi, Builtin.lenOf, Builtin.firstCells, hnc, storeCells]
  · have hnews : ∀ j u, news[j]? = some u → w.cell? (ad.add j) = some u := by
      intro j u hu
      obtain ⟨b, o, e, hc⟩ := hsl (by rintro rfl; simp at hu)
      cases e
      rw [add_lit]; exact hc j u hu
    obtain ⟨v', w', hrun, h2, h3, _, h5⟩ := run_append_own_at (P := P) w base t ty e i z 1 by_ E.ht hi hz hs hby E.one (by omega) v n xs hown ad m c news (by omega) hnews h1 h63 hb hbase
    exact ⟨v', w', hrun, h2, h3, h5⟩
theorem wp_app {o : Oper} {a : Act} {w : World} {K : Act → World → Prop} {Q : Exit → Act → World → Prop} (s x : Operand) (t : TypeId)
    (ho : o.op = .call { callee := .builtin .append, args := #[s, x], argTypes := #[t, t] }) {e : TypeId} {z : Value} {by_ : Nat} (E : ElemTy P t e z by_) (base : Nat) (v : Value) (n : Nat) (xs : List Value)
    (hs : a.eval s = v) (hown : w.ownsRow base e 1 v n xs) (A : Option Addr) (m c : Nat) (news : List Value) (hx : a.eval x = .slice A m c) (hl : news.length = m) (hsl : Sl w A news) (h1 : ∀ u ∈ news, u.oneCell' = true)
    (hb : (n + m) * by_ ≤ 140737488355328) (hbase : base ≤ w.heap.size)
    (h : ∀ v' w', w'.ownsRow base e 1 v' (n + m) (xs ++ news) → w.grownBy w' v.ownBlock → (v'.ownBlock = v.ownBlock ∨ v'.ownBlock = some w.heap.size) → K (a.put o.dst v') w') : o.wp P a w K Q := by
  obtain ⟨v', w', hrun, h2, h3, h4⟩ := run_app (ty := o.type) E w base v n xs hown A m c news hl hsl h1 hb hbase
  unfold Oper.wp execOp
  simp only [ho, resolve, invoke, builtin, Sem.run_bind, Sem.run_pure, Result.andThen_ok, List.map_toArray, List.map_cons, List.map_nil, hs, hx, hrun]
  exact h v' w' h2 h3 h4
theorem wpList_app {ops : Array Oper} {rest : List Oper} {o : Oper} {a : Act} {w : World} {Q : Exit → Act → World → Prop} (hgd : o.guard = none) (s x : Operand) (t : TypeId)
    (ho : o.op = .call { callee := .builtin .append, args := #[s, x], argTypes := #[t, t] }) {e : TypeId} {z : Value} {by_ : Nat} (E : ElemTy P t e z by_) (base : Nat) (v : Value) (n : Nat) (xs : List Value)
    (hs : a.eval s = v) (hown : w.ownsRow base e 1 v n xs) (A : Option Addr) (m c : Nat) (news : List Value) (hx : a.eval x = .slice A m c) (hl : news.length = m) (hsl : Sl w A news) (h1 : ∀ u ∈ news, u.oneCell' = true)
    (hb : (n + m) * by_ ≤ 140737488355328) (hbase : base ≤ w.heap.size)
    (h : ∀ v' w', w'.ownsRow base e 1 v' (n + m) (xs ++ news) → w.grownBy w' v.ownBlock → (v'.ownBlock = v.ownBlock ∨ v'.ownBlock = some w.heap.size) → wpList P ops Q rest (a.put o.dst v') w') : wpList P ops Q (o :: rest) a w :=
  wpList_plain hgd fun _ hK => wp_app s x t ho E base v n xs hs hown A m c news hx hl hsl h1 hb hbase fun v' w' h2 h3 h4 => hK _ _ (h v' w' h2 h3 h4)
theorem step_app {ops : Array Oper} {o : Oper} {a : Act} {w : World} {K : Act → World → Prop} {Q : Exit → Act → World → Prop} {E' : Prop} (hgd : o.guard = none) (s x : Operand) (t : TypeId)
    (ho : o.op = .call { callee := .builtin .append, args := #[s, x], argTypes := #[t, t] }) {e : TypeId} {z : Value} {by_ : Nat} (E : ElemTy P t e z by_) (base : Nat) (v : Value) (n : Nat) (xs : List Value)
    (hs : a.eval s = v) (hown : w.ownsRow base e 1 v n xs) (A : Option Addr) (m c : Nat) (news : List Value) (hx : a.eval x = .slice A m c) (hl : news.length = m) (hsl : Sl w A news) (h1 : ∀ u ∈ news, u.oneCell' = true)
    (hb : (n + m) * by_ ≤ 140737488355328) (hbase : base ≤ w.heap.size)
    (h : ∀ v' w', w'.ownsRow base e 1 v' (n + m) (xs ++ news) → w.grownBy w' v.ownBlock → (v'.ownBlock = v.ownBlock ∨ v'.ownBlock = some w.heap.size) → K (a.put o.dst v') w') :
    if Region.wanted o (yielded ops a.tmps) = true then Oper.wp P o a w K Q else E' := by
  have hw : Region.wanted o (yielded ops a.tmps) = true := by simp [Region.wanted, hgd]
  rw [if_pos hw]
  exact wp_app s x t ho E base v n xs hs hown A m c news hx hl hsl h1 hb hbase h
/-- The bytes of a slice made into a string. -/
theorem run_str (w : World) (src dst e : TypeId) (hs : P.underlying src = some (.slice e)) (he : P.underlying e = some (.int .u8)) (hd : P.underlying dst = some .string) (A : Option Addr) (l : List UInt8) (n c : Nat) (hn : l.length = n)
    (h : Sl w A (bcells l)) : (convert src dst (.slice A n c)).run P w = .ok (.string ⟨l.toArray⟩) w := by
  subst hn
  rcases A with _ | ad
  · have hm : l = [] := by
      rcases Classical.em (l = []) with h' | h'
      · exact h'
      · obtain ⟨b, o, e, _⟩ := h (by simpa [bcells] using h'); cases e
    subst hm
    exact run_convert_bytes_nil w src e hs he _ c dst hd
  · rcases Classical.em (l = []) with h' | h'
    · subst h'
      have hl : (loadCells ad 0).run P w = .ok (([] : List Int).map (Value.int .u8)).toArray w := by
        simpa using run_loadCells_list (P := P) w ad [] (fun j v hj => by simp at hj)
      rw [run_convert_bytes_string w src dst e _ _ c hs he hd, List.length_nil, run_bytesToString w _ 0 c [] hl]
      rfl
    · obtain ⟨b, o, e, hc⟩ := h (by simpa [bcells] using h')
      cases e
      have := run_convert_bytes_arg (P := P) w src e hs he b o l.length c (l.map ub) (by simp) (fun i hi => by
        rw [hc i _ (bcells_get l i hi)]; simp [hi]) dst hd
      rw [this]
      congr 2
      unfold strOfNums
      congr 2
      rw [List.map_map]
      conv => rhs; rw [← List.map_id l]
      apply List.map_congr_left
      intro x _
      simp [ub]
/-- What a copy leaves in a row. -/
def spl (cur : List Value) (o : Nat) (cs : List Value) : List Value := cur.take o ++ cs ++ cur.drop (o + cs.length)
theorem spl_len (cur : List Value) (o : Nat) (cs : List Value) (h : o + cs.length ≤ cur.length) : (spl cur o cs).length = cur.length := by
  simp [spl]; omega
theorem run_cp (w : World) (dT sT ty elem : TypeId) (hu : P.underlying dT = some (.slice elem)) (hs : (P.info? elem).map (·.size) = some 1) (g o dLen dCap : Nat) (t : TypeId) (cur : List Value) (hg : At w g t cur)
    (A : Option Addr) (n c : Nat) (cs : List Value) (hn : cs.length = n) (hsl : Sl w A cs) (hfit : o + min n dLen ≤ cur.length) (h1 : ∀ v ∈ cs, v.oneCell' = true) :
    (Builtin.copy_ #[dT, sT] ty #[.slice (some ⟨g, o, none⟩) dLen dCap, .slice A n c]).run P w = .ok (.int .i64 (min n dLen : Nat)) (w.setRow g (spl cur o (cs.take (min n dLen))).toArray) := by
  subst hn
  have hlen : (cs.take (min cs.length dLen)).length = min cs.length dLen := by simp
  rcases A with _ | ad
  · have hm : cs = [] := by
      rcases Classical.em (cs = []) with h | h
      · exact h
      · obtain ⟨b, o, e, _⟩ := hsl h; cases e
    subst hm
    have e1 : w.setRow g (spl cur o ([].take (min ([] : List Value).length dLen))).toArray = w := by
      have := setRow_self w g cur.toArray t (0, 0) hg
      simpa [spl] using this
    rw [e1]
    cases hq : P.info? elem with
    | none => simp [hq] at hs
    | some i => simp [Builtin.copy_, run_underlying hu, Builtin.lenOf, Builtin.firstCells, sizeOf, typeInfo, hq, storeCells, goInt]
  · have := run_copy_row (P := P) w dT sT ty elem g o dLen dCap ad cs.length c cur.toArray t (cs.take (min cs.length dLen)) hu hs hg (by rw [hlen])
      (by
        intro j u hu
        obtain ⟨b, o, e, hc⟩ := hsl (by rintro rfl; simp at hu)
        cases e
        rw [add_lit]
        rw [List.getElem?_take] at hu
        split at hu
        · exact hc j u hu
        · cases hu) (by rw [hlen]; simpa using hfit) (fun v hv => h1 v (List.mem_of_mem_take hv))
    rw [this, hlen]
    simp [goInt, spl, hlen]
theorem wpList_cp {ops : Array Oper} {rest : List Oper} {op : Oper} {a : Act} {w : World} {Q : Exit → Act → World → Prop} (hgd : op.guard = none) (d s : Operand) (dT sT elem : TypeId)
    (ho : op.op = .call { callee := .builtin .copy, args := #[d, s], argTypes := #[dT, sT] }) (hu : P.underlying dT = some (.slice elem)) (hs : (P.info? elem).map (·.size) = some 1)
    (g o dLen dCap : Nat) (hd : a.eval d = .slice (some ⟨g, o, none⟩) dLen dCap) (t : TypeId) (cur : List Value) (hg : At w g t cur)
    (A : Option Addr) (n c : Nat) (hx : a.eval s = .slice A n c) (cs : List Value) (hn : cs.length = n) (hsl : Sl w A cs) (hfit : o + min n dLen ≤ cur.length) (h1 : ∀ v ∈ cs, v.oneCell' = true)
    (h : wpList P ops Q rest (a.put op.dst (.int .i64 (min n dLen : Nat))) (w.setRow g (spl cur o (cs.take (min n dLen))).toArray)) : wpList P ops Q (op :: rest) a w :=
  wpList_plain hgd fun K hK => by
    unfold Oper.wp execOp
    simp only [ho, resolve, invoke, builtin, Sem.run_bind, Sem.run_pure, Result.andThen_ok, List.map_toArray, List.map_cons, List.map_nil, hd, hx, run_cp w dT sT op.type elem hu hs g o dLen dCap t cur hg A n c cs hn hsl hfit h1]
    exact hK _ _ h
theorem step_cp {ops : Array Oper} {op : Oper} {a : Act} {w : World} {K : Act → World → Prop} {Q : Exit → Act → World → Prop} {E' : Prop} (hgd : op.guard = none) (d s : Operand) (dT sT elem : TypeId)
    (ho : op.op = .call { callee := .builtin .copy, args := #[d, s], argTypes := #[dT, sT] }) (hu : P.underlying dT = some (.slice elem)) (hs : (P.info? elem).map (·.size) = some 1)
    (g o dLen dCap : Nat) (hd : a.eval d = .slice (some ⟨g, o, none⟩) dLen dCap) (t : TypeId) (cur : List Value) (hg : At w g t cur)
    (A : Option Addr) (n c : Nat) (hx : a.eval s = .slice A n c) (cs : List Value) (hn : cs.length = n) (hsl : Sl w A cs) (hfit : o + min n dLen ≤ cur.length) (h1 : ∀ v ∈ cs, v.oneCell' = true)
    (h : K (a.put op.dst (.int .i64 (min n dLen : Nat))) (w.setRow g (spl cur o (cs.take (min n dLen))).toArray)) :
    if Region.wanted op (yielded ops a.tmps) = true then Oper.wp P op a w K Q else E' := by
  have hw : Region.wanted op (yielded ops a.tmps) = true := by simp [Region.wanted, hgd]
  rw [if_pos hw]
  unfold Oper.wp execOp
  simp only [ho, resolve, invoke, builtin, Sem.run_bind, Sem.run_pure, Result.andThen_ok, List.map_toArray, List.map_cons, List.map_nil, hd, hx, run_cp w dT sT op.type elem hu hs g o dLen dCap t cur hg A n c cs hn hsl hfit h1]
  exact h
/-- 'make([]T, 0, n)'. -/
theorem wpList_mk {ops : Array Oper} {rest : List Oper} {o : Oper} {a : Act} {w : World} {Q : Exit → Act → World → Prop} (hg : o.guard = none) (l c : Operand) {t : TypeId} (hop : o.op = Op.makeSlice t l c)
    {e : TypeId} {z : Value} {by_ : Nat} (E : ElemTy P t e z by_) (base : Nat) (kl kc : IntKind) (C : Int) (n : Nat) (hl : a.eval l = .int kl 0) (hc : a.eval c = .int kc C) (hC : C = (n : Int))
    (hb : by_ * n ≤ 140737488355328) (hbase : base ≤ w.heap.size)
    (hK : ∀ w', w'.ownsRow base e 1 (.slice (some ⟨w.heap.size, 0, none⟩) 0 n) 0 [] → w.grownBy w' none → wpList P ops Q rest (a.put o.dst (.slice (some ⟨w.heap.size, 0, none⟩) 0 n)) w') :
    wpList P ops Q (o :: rest) a w := by
  obtain ⟨i, hi, hz, hs, hby⟩ := E.info
  have hn : n ≤ maxLen := by
    have h2 : n ≤ by_ * n := Nat.le_mul_of_pos_left _ E.pos
    simp only [maxLen]; omega
  exact wpList_make_own w hg l c t hop base e i z 1 E.ht hi hz hs kl kc C n hl hc hC (by rw [hby]; omega) hn hbase hK
/-- An element of an array's value, of one cell. -/
theorem run_idx (w : World) (T elem : TypeId) (len : Nat) (ik jk : IntKind) (hT : P.underlying T = some (.array len elem)) (hu : P.underlying elem = some (.int jk)) (hs : (P.info? elem).map (·.size) = some 1)
    (cs : Array Value) (k : Nat) (v : Value) (hk : k < len) (hc : cs[k]? = some v) : (Instr.index T (.agg cs) (.int ik (k : Int))).run P w = .ok v w := by
  cases hq : P.info? elem with
  | none => simp [hq] at hs
  | some i =>
    have hi : i.size = 1 := by simpa [hq] using hs
    simp [Instr.index, asIntOf, run_underlying hT, hk, sizeOf, typeInfo, hq, hi, part, isAgg, run_underlying hu, hc]
theorem bcells_app (a b : List UInt8) : bcells a ++ bcells b = bcells (a ++ b) := by simp [bcells]
theorem wcells_app (a b : List UInt32) : wcells a ++ wcells b = wcells (a ++ b) := by simp [wcells]
/-- Behind an append to a row of the call's own. -/
theorem below_app {B base n : Nat} {e : TypeId} {w0 w w' : World} {v : Value} {xs : List Value} (h : Below B w0 w) (hg : w.grownBy w' v.ownBlock) (ho : w.ownsRow base e 1 v n xs) (hB : B ≤ base) (hs : B ≤ w.heap.size) : Below B w0 w' :=
  h.grown hg hs (fun k hk => Nat.le_trans hB (ho.lt k hk).1)
/-- An owned row's value is a slice that reads as its cells, in a block of the call's own. -/
theorem own_slice {w : World} {base n : Nat} {e : TypeId} {v : Value} {xs : List Value} (h : w.ownsRow base e 1 v n xs) : ∃ A c, v = .slice A n c ∧ Sl w A xs ∧ n ≤ c ∧ xs.length = n ∧ c ≤ maxLen ∧ (∀ b o s, A = some ⟨b, o, s⟩ → base ≤ b) := by
  have hl : xs.length = n := by simpa using h.1
  rcases h.2 with ⟨rfl, hz⟩ | ⟨g, cap, cur, rfl, hb, _, hnc, hcm, _⟩
  · subst hz
    obtain rfl : xs = [] := List.eq_nil_of_length_eq_zero hl
    exact ⟨none, 0, rfl, Sl.nil, Nat.le_refl _, rfl, by simp [maxLen], fun b o s h => by cases h⟩
  · exact ⟨_, cap, rfl, Sl.of_own h, hnc, hl, hcm, fun b o s h => by cases h; exact hb⟩
theorem Sl.from_ {w w' : World} {A : Option Addr} {cs : List Value} {base : Nat} (h : Sl w A cs) (hA : ∀ b o s, A = some ⟨b, o, s⟩ → base ≤ b) (hk : ∀ b o, base ≤ b → w'.cell? ⟨b, o, none⟩ = w.cell? ⟨b, o, none⟩) : Sl w' A cs := fun hn => by
  obtain ⟨b, o, e, hc⟩ := h hn
  exact ⟨b, o, e, fun j u hu => (hk _ _ (hA _ _ _ e)).trans (hc j u hu)⟩
theorem cell_setRow_ne (w : World) (g b o : Nat) (cs : Array Value) (h : b ≠ g) : (w.setRow g cs).cell? ⟨b, o, none⟩ = w.cell? ⟨b, o, none⟩ := World.cell?_of_block (w := w) (a := ⟨b, o, none⟩) (setRow_other w g b cs h)
theorem cell_setCell_ne (w : World) (g k b o : Nat) (v : Value) (h : b ≠ g) : (w.setCell ⟨g, k, none⟩ v).cell? ⟨b, o, none⟩ = w.cell? ⟨b, o, none⟩ := World.cell?_of_block (w := w) (a := ⟨b, o, none⟩) (Below.heap_setCell w _ v b h)
/-- The type of a struct or an array, of n cells. -/
def isRow : TypeDesc → Bool | .struct _ => true | .array _ _ => true | _ => false
def AggTy (P : Program) (ty : TypeId) (n : Nat) : Prop := (P.underlying ty).map isRow = some true ∧ (P.info? ty).map (·.size) = some n
theorem run_loadA {ty : TypeId} {n : Nat} (T : AggTy P ty n) (w : World) (g o : Nat) (t : TypeId) (cur : List Value) (hg : At w g t cur) (vs : List Value) (hl : vs.length = n) (hv : ∀ j, j < vs.length → cur[o + j]? = vs[j]?) :
    (loadVar ty ⟨g, o, none⟩).run P w = .ok (.agg vs.toArray) w := by
  obtain ⟨h1, hi⟩ := T
  have hl' : (loadCells ⟨g, o, none⟩ vs.length).run P w = .ok vs.toArray w :=
    run_loadCells_list (P := P) w ⟨g, o, none⟩ vs (fun j v hj => by
      have hjl : j < vs.length := (List.getElem?_eq_some_iff.1 hj).1
      rw [add_lit, hg.cell, hv j hjl, hj])
  cases hu : P.underlying ty with
  | none => simp [hu] at h1
  | some d =>
    cases hq : P.info? ty with
    | none => simp [hq] at hi
    | some i =>
      have hs : i.size = vs.length := by rw [hl]; simpa [hq] using hi
      have hagg : (isAgg ty).run P w = .ok true w := by
        unfold isAgg
        rw [Sem.run_bind, run_underlying hu w]
        cases d <;> simp_all [isRow]
      simp [loadVar, Sem.run_bind, hagg, sizeOf, typeInfo, hq, hs, hl']
/-- An aggregate read out of a block that is known whole, from cell o on. -/
theorem wpList_loadA {ops : Array Oper} {rest : List Oper} {op : Oper} {a : Act} {w : World} {Q : Exit → Act → World → Prop} (hgd : op.guard = none) (ty : TypeId) (x : Operand) (ho : op.op = .load ty x)
    {n : Nat} (T : AggTy P ty n) (g o : Nat) (hx : a.eval x = .pointer (some ⟨g, o, none⟩)) (t : TypeId) (cur : List Value) (hg : At w g t cur) (vs : List Value) (hl : vs.length = n) (hv : ∀ j, j < vs.length → cur[o + j]? = vs[j]?)
    (h : wpList P ops Q rest (a.put op.dst (.agg vs.toArray)) w) : wpList P ops Q (op :: rest) a w := by
  refine wpList_plain hgd fun K hK => ?_
  unfold Oper.wp execOp
  simp only [ho, hx, Instr.loadAt, Instr.sureAddr, Sem.run_bind, Sem.run_pure, Result.andThen_ok, run_loadA T w g o t cur hg vs hl hv]
  exact hK _ _ h
theorem all_at (vs : List Value) : ∀ j, j < vs.length → vs[0 + j]? = vs[j]? := fun j _ => by rw [Nat.zero_add]
theorem results_cellA {fn : Func} {p : Tmp} {ty : TypeId} (h : fn.results = #[.cell p ty]) {n : Nat} (T : AggTy P ty n) (tmps : Array Value) (w : World) (g : Nat) (t : TypeId) (cs : List Value)
    (hp : tmps.getD p undef = .pointer (some ⟨g, 0, none⟩)) (hg : At w g t cs) (hl : cs.length = n) : (results fn tmps).run P w = .ok (.agg cs.toArray) w := by
  have hp' : tmps[p]?.getD undef = .pointer (some ⟨g, 0, none⟩) := by simpa using hp
  simp [results, h, hp', asAddr, run_loadA T w g 0 t cs hg cs hl (all_at cs)]
/-- How many elements a slice's value has. -/
def slLen : Value → Nat | .slice _ n _ => n | _ => 0
theorem spl_bytes (a : List UInt8) (o : Nat) (b : List UInt8) : spl (bcells a) o (bcells b) = bcells (a.take o ++ b ++ a.drop (o + b.length)) := by
  simp [spl, bcells]
theorem bcells_take (a : List UInt8) (n : Nat) : (bcells a).take n = bcells (a.take n) := by simp [bcells]
theorem bcells_drop (a : List UInt8) (n : Nat) : (bcells a).drop n = bcells (a.drop n) := by simp [bcells]
/-- 64 bytes 0. -/
def zer : List UInt8 := List.replicate 64 0
theorem zer_len : zer.length = 64 := rfl
theorem ElemTy.size {t e : TypeId} {z : Value} {by_ : Nat} (E : ElemTy P t e z by_) (w : World) : (sizeOf e).run P w = .ok 1 w := by
  obtain ⟨i, hi, _, hs, _⟩ := E.info
  simp [sizeOf, typeInfo, hi, hs]
/-- 's[k:]' and 's[l:h]' of a slice. -/
theorem run_from {t e : TypeId} {z : Value} {by_ : Nat} (E : ElemTy P t e z by_) (w : World) (A : Option Addr) (n c k : Nat) (ik : IntKind) (hk : k ≤ n) :
    (Instr.slice t (.slice A n c) (some (.int ik (k : Int))) none none).run P w = .ok (.slice (if c = k then A else A.map (·.add k)) (n - k) (c - k)) w := by
  simp [Instr.slice, run_underlying E.ht, Instr.sliceBounds, E.size, run_sliceBound w ik (k : Int) n _ (by omega) (by omega)]
theorem run_part {t e : TypeId} {z : Value} {by_ : Nat} (E : ElemTy P t e z by_) (w : World) (A : Option Addr) (n c l h : Nat) (ik jk : IntKind) (hl : l ≤ h) (hh : h ≤ c) :
    (Instr.slice t (.slice A n c) (some (.int ik (l : Int))) (some (.int jk (h : Int))) none).run P w = .ok (.slice (if c = l then A else A.map (·.add l)) (h - l) (c - l)) w := by
  simp [Instr.slice, run_underlying E.ht, Instr.sliceBounds, E.size, run_sliceBound w jk (h : Int) c _ (by omega) (by omega), run_sliceBound w ik (l : Int) h _ (by omega) (by omega)]
/-- A whole aggregate stored into a part of a block that is known whole. -/
theorem wpList_storeA {ops : Array Oper} {rest : List Oper} {op : Oper} {a : Act} {w : World} {Q : Exit → Act → World → Prop} (hgd : op.guard = none) (hdst : op.dst = none) (ty : TypeId) (x y : Operand) (ho : op.op = .store ty x y)
    {n : Nat} (T : AggTy P ty n) (g k : Nat) (hx : a.eval x = .pointer (some ⟨g, k, none⟩)) (vs : List Value) (hy : a.eval y = .agg vs.toArray) (t : TypeId) (cur : List Value) (hg : At w g t cur)
    (hl : vs.length = n) (hfit : k + n ≤ cur.length) (h1 : ∀ v ∈ vs, v.oneCell' = true)
    (h : wpList P ops Q rest a (w.setRow g (spl cur k vs).toArray)) : wpList P ops Q (op :: rest) a w :=
  wpList_store_row hgd ty x y ho g k hx vs hy t cur hg (by rw [hl]; exact T.2) (by omega) h1 (by simpa [hdst, Act.put, spl] using h)
/-- 'a[k:]' and 'a[:k]' of an array in memory. -/
theorem run_arr_from {T e : TypeId} {N : Nat} (hT : P.underlying T = some (.array N e)) (hs : (P.info? e).map (·.size) = some 1) (w : World) (g o k : Nat) (ik : IntKind) (hk : k < N) :
    (Instr.sliceAt T (.pointer (some ⟨g, o, none⟩)) (some (.int ik (k : Int))) none none).run P w = .ok (.slice (some ⟨g, o + k, none⟩) (N - k) (N - k)) w := by
  cases hq : P.info? e with
  | none => simp [hq] at hs
  | some i =>
    have hi : i.size = 1 := by simpa [hq] using hs
    simp [Instr.sliceAt, run_underlying hT, Instr.sliceBounds, sizeOf, typeInfo, hq, hi, Instr.sureAddr, run_sliceBound w ik (k : Int) N _ (by omega) (by omega), show ¬ N = k by omega, add_lit]
theorem run_arr_to {T e : TypeId} {N : Nat} (hT : P.underlying T = some (.array N e)) (hs : (P.info? e).map (·.size) = some 1) (w : World) (g o k : Nat) (ik : IntKind) (hk : k ≤ N) (_hN : 0 < N) :
    (Instr.sliceAt T (.pointer (some ⟨g, o, none⟩)) none (some (.int ik (k : Int))) none).run P w = .ok (.slice (some ⟨g, o, none⟩) k N) w := by
  cases hq : P.info? e with
  | none => simp [hq] at hs
  | some i =>
    have hi : i.size = 1 := by simpa [hq] using hs
    simp [Instr.sliceAt, run_underlying hT, Instr.sliceBounds, sizeOf, typeInfo, hq, Instr.sureAddr, run_sliceBound w ik (k : Int) N _ (by omega) (by omega), add_lit]
/-- A byte of a string. -/
theorem run_stri {T : TypeId} (hT : P.underlying T = some .string) (w : World) (s : ByteArray) (k : Nat) (ik : IntKind) (hk : k < s.size) (z : Int) (hz : z = (k : Int)) :
    (Instr.index T (.string s) (.int ik z)).run P w = .ok (.int .u8 (ub (s.data.toList.getD k 0))) w := by
  subst hz
  have e1 : s[k]? = some (s.data.toList.getD k 0) := by
    have hk' : k < s.data.size := hk
    simp [hk, List.getD]
    rfl
  simp [Instr.index, asIntOf, run_underlying hT, e1, ub]
theorem own_drewN {w : World} {base n size : Nat} {e : TypeId} {v : Value} {xs : List Value} (h : w.ownsRow base e size v n xs) (k : Nat) : (w.drewN k).ownsRow base e size v n xs := h
end
end Go.Proofs.YtihkfomldbjpoaaDoor

/- Texts as cells; arguments read as lists. Nothing of the dump. -/
namespace Go.Proofs.YtihkfomldbjpoaaDoor
open Go.ChangeShapes Go.WideShapes Go.ChangeAt Go.RowKit
/-- Texts as cells, and as lists of bytes. -/
def scells (l : List ByteArray) : List Value := l.map Value.string
def sbytes (l : List ByteArray) : List (List UInt8) := l.map fun s => s.data.toList
theorem scells_len (l : List ByteArray) : (scells l).length = l.length := by simp [scells]
theorem sbytes_len (l : List ByteArray) : (sbytes l).length = l.length := by simp [sbytes]
theorem scells_get (l : List ByteArray) (i : Nat) (h : i < l.length) : (scells l)[i]? = some (.string (l.getD i ⟨#[]⟩)) := by simp [scells, h]
theorem sbytes_get (l : List ByteArray) (i : Nat) (h : i < l.length) : (sbytes l).getD i [] = (l.getD i ⟨#[]⟩).data.toList := by simp [sbytes, h]
theorem scells_one (l : List ByteArray) : ∀ v ∈ scells l, v.oneCell' = true := by
  intro v hv; simp [scells] at hv; obtain ⟨x, _, rfl⟩ := hv; rfl
theorem bsize (s : ByteArray) : s.data.toList.length = s.size := Array.length_toList
theorem sl_addr {w : World} {A : Option Addr} {cs : List Value} (h : Sl w A cs) : cs = [] ∨ ∃ b o, A = some ⟨b, o, none⟩ ∧ b < w.heap.size ∧ ∀ j u, cs[j]? = some u → w.cell? ⟨b, o + j, none⟩ = some u := by
  rcases Nat.eq_zero_or_pos cs.length with h0 | h0
  · exact .inl (List.eq_nil_of_length_eq_zero h0)
  · exact .inr (h.get h0)
theorem wf_u8 {n : Int} (h : (Lit.int .u8 n).wf = true) : 0 ≤ n ∧ n ≤ 255 := by
  have : IntKind.u8.min ≤ n ∧ n ≤ IntKind.u8.max := by simpa [Lit.wf] using h
  exact this
theorem wf_i64r {n : Int} (h : (Lit.int .i64 n).wf = true) : -9223372036854775808 ≤ n ∧ n ≤ 9223372036854775807 := by
  have : IntKind.i64.min ≤ n ∧ n ≤ IntKind.i64.max := by simpa [Lit.wf] using h
  exact this
theorem len_le {n : Nat} (h : n ≤ maxLen) : n ≤ 9223372036854775807 := by unfold maxLen at h; omega
/-- Numbers of a row of bytes, as bytes. -/
def asBytes (zs : List Int) : List UInt8 := zs.map fun n => UInt8.ofNat n.toNat
theorem asBytes_len (zs : List Int) : (asBytes zs).length = zs.length := by simp [asBytes]
theorem ub_of {n : Int} (h : 0 ≤ n ∧ n ≤ 255) : ub (UInt8.ofNat n.toNat) = n := by
  unfold ub
  rw [UInt8.toNat_ofNat']
  omega
theorem sl_asBytes {W : World} {a : Addr} {zs : List Int} {l : Nat} (hcell : ∀ i, i < l → W.cell? (a.add i) = some (.int .u8 (zs.getD i 0))) (hl : l ≤ zs.length) (hw : ∀ n ∈ zs, (Lit.int .u8 n).wf = true) :
    Sl W (some a) (bcells (asBytes (zs.take l))) := by
  intro hne
  have hpos : 0 < l := by
    rcases Nat.eq_zero_or_pos l with rfl | h
    · exact absurd (by simp [asBytes, bcells]) hne
    · exact h
  obtain ⟨b, off, spot⟩ := a
  have hspot : spot = none := by simpa [Addr.add] using World.cell?_spot (hcell 0 hpos)
  subst hspot
  refine ⟨b, off, rfl, fun j u hu => ?_⟩
  have hj : j < l := by
    have := (List.getElem?_eq_some_iff.1 hu).1
    rw [bcells_len, asBytes_len, List.length_take] at this
    omega
  have hz : j < zs.length := by omega
  rw [bcells_get _ _ (by rw [asBytes_len, List.length_take]; omega)] at hu
  have e : (asBytes (zs.take l)).getD j 0 = UInt8.ofNat (zs.getD j 0).toNat := by
    simp [asBytes, List.getD, hj, List.getElem?_eq_getElem hz]
  have hmem : zs.getD j 0 ∈ zs := by
    simp [List.getD, List.getElem?_eq_getElem hz]
  rw [e, ub_of (wf_u8 (hw _ hmem))] at hu
  have hc := hcell j hj
  rw [add_lit] at hc
  rw [← hu]
  exact hc
/-- An argument []byte as a list of bytes. -/
theorem open_bytes {P : Program} {H : Type} {enc : TypeId × Value → H} {W : World} {t e : TypeId} (ht : P.underlying t = some (.slice e)) (he : P.underlying e = some (.int .u8)) (hc : P.cellsOf e = 1)
    {a : Option Addr} {l c : Nat} {d : DataW H} {p : List MemPlace} (h : DataW.Trod enc P W 0 (fun _ => true) true t (.slice a l c) d p) :
    ∃ bs : List UInt8, bs.length = l ∧ Sl W a (bcells bs) ∧ l ≤ c ∧ c ≤ 9223372036854775807 := by
  obtain ⟨fuel, hf⟩ := h
  rcases open_ints ht he hc hf with ⟨hcs, _⟩ | ⟨x, l', c', zs, hcs, _, hl, hm, hz, _, hcell, hwz⟩
  · simp [Value.cells] at hcs
    obtain ⟨rfl, rfl, rfl⟩ := hcs
    exact ⟨[], rfl, Sl.nil, Nat.le_refl _, by omega⟩
  · simp [Value.cells] at hcs
    obtain ⟨rfl, rfl, rfl⟩ := hcs
    have hz' : zs.length = c := by simpa using hz
    exact ⟨asBytes (zs.take l), by rw [asBytes_len, List.length_take]; omega, sl_asBytes (fun i hi => hcell i (by omega)) (by omega) hwz, hl, by unfold maxLen at hm; omega⟩
/-- An argument []string as a list of texts. -/
theorem open_texts {P : Program} {H : Type} {enc : TypeId × Value → H} {W : World} {t e : TypeId} (ht : P.underlying t = some (.slice e)) (he : P.underlying e = some .string) (hc : P.cellsOf e = 1)
    {a : Option Addr} {l c : Nat} {d : DataW H} {p : List MemPlace} (h : DataW.Trod enc P W 0 (fun _ => true) true t (.slice a l c) d p) :
    ∃ ss : List ByteArray, ss.length = l ∧ Sl W a (scells ss) ∧ (∀ s ∈ ss, s.size ≤ 9223372036854775807) ∧ l ≤ c ∧ c ≤ 9223372036854775807 := by
  obtain ⟨fuel, hf⟩ := h
  rcases open_strings ht he hc hf with ⟨hcs, _⟩ | ⟨x, l', c', zs, hcs, _, hl, hm, hz, _, hcell, hwz⟩
  · simp [Value.cells] at hcs
    obtain ⟨rfl, rfl, rfl⟩ := hcs
    exact ⟨[], rfl, Sl.nil, by simp, Nat.le_refl _, by omega⟩
  · simp [Value.cells] at hcs
    obtain ⟨rfl, rfl, rfl⟩ := hcs
    have hz' : zs.length = c := by simpa using hz
    refine ⟨zs.take l, by rw [List.length_take]; omega, ?_, fun s hs => by have := hwz s (List.mem_of_mem_take hs); unfold maxLen at this; omega, hl, by unfold maxLen at hm; omega⟩
    intro hne
    have hpos : 0 < l := by
      rcases Nat.eq_zero_or_pos l with rfl | h
      · exact absurd (by simp [scells]) hne
      · exact h
    obtain ⟨b, off, spot⟩ := x
    have hspot : spot = none := by simpa [Addr.add] using World.cell?_spot (hcell 0 (by omega))
    subst hspot
    refine ⟨b, off, rfl, fun j u hu => ?_⟩
    have hj : j < l := by
      have := (List.getElem?_eq_some_iff.1 hu).1
      rw [scells_len, List.length_take] at this
      omega
    rw [scells_get _ _ (by rw [List.length_take]; omega)] at hu
    have e1 : (zs.take l).getD j ⟨#[]⟩ = zs.getD j ByteArray.empty := by
      simp [List.getD, hj]
      rfl
    rw [e1] at hu
    have hcj := hcell j (by omega)
    rw [add_lit] at hcj
    rw [← hu]
    exact hcj
end Go.Proofs.YtihkfomldbjpoaaDoor

/- seal: marked. -/
namespace Go.Proofs.YtihkfomldbjpoaaDoor.SealW
open Go.RowKit
theorem bytesTy : ElemTy Tryd.prog 23 5 (.int .u8 0) 1 :=
  ⟨by kernel_rfl, info_parts (by kernel_rfl), rfl, by omega⟩
theorem underBytes : Tryd.prog.underlying 23 = some (.slice 5) := by kernel_rfl
theorem underU8 : Tryd.prog.underlying 5 = some (.int .u8) := by kernel_rfl
theorem underStr : Tryd.prog.underlying 9 = some .string := by kernel_rfl
theorem own_lit (w : World) (base : Nat) (e : TypeId) (cs : List Value) (n : Nat) (hn : cs.length = n) (hb : base ≤ w.heap.size) (hm : n ≤ 1000) :
    (w.alloc (.cells cs.toArray e)).ownsRow base e 1 (.slice (some ⟨w.heap.size, 0, none⟩) n n) n cs := by
  have := World.ownsRow_lit (base := base) (e := e) (size := 1) w cs.toArray n hb (by simp only [maxLen]; omega) (by simpa using hn)
  simpa using this
/-- Slices of bytes that read so. -/
def Parts (w : World) (vs : List Value) (bss : List (List UInt8)) : Prop :=
  ∀ j, j < bss.length → ∃ B d, vs[j]? = some (.slice B (bss.getD j []).length d) ∧ Sl w B (bcells (bss.getD j []))
theorem Parts.one {w : World} {B : Option Addr} {l d : Nat} {bs : List UInt8} (hl : bs.length = l) (hb : Sl w B (bcells bs)) : Parts w [.slice B l d] [bs] := by
  intro j hj
  have : j = 0 := by simpa using hj
  subst this
  exact ⟨B, d, by simp [hl], hb⟩
theorem Parts.two {w : World} {B C : Option Addr} {l d m c : Nat} {bs cs : List UInt8} (hl : bs.length = l) (hb : Sl w B (bcells bs)) (hm : cs.length = m) (hc : Sl w C (bcells cs)) : Parts w [.slice B l d, .slice C m c] [bs, cs] := by
  intro j hj
  match j with
  | 0 => exact ⟨B, d, by simp [hl], hb⟩
  | 1 => exact ⟨C, c, by simp [hm], hc⟩
  | j + 2 => simp at hj; omega
theorem flat_snoc (bss : List (List UInt8)) (k : Nat) (h : k < bss.length) : (bss.take (k + 1)).flatten = (bss.take k).flatten ++ bss.getD k [] := by
  have e : bss.take (k + 1) = bss.take k ++ [bss.getD k []] := by
    rw [List.take_add_one]
    simp [h]
  rw [e, List.flatten_append]
  simp
theorem flat_le (bss : List (List UInt8)) (k : Nat) : (bss.take k).flatten.length ≤ bss.flatten.length := by
  have : bss.flatten = (bss.take k).flatten ++ (bss.drop k).flatten := by rw [← List.flatten_append, List.take_append_drop]
  rw [this, List.length_append]; omega
set_option maxRecDepth 100000 in
set_option maxHeartbeats 1000000 in
theorem marked_any (k : UInt8) (A : Option Addr) (n c : Nat) (vs : List Value) (bss : List (List UInt8)) (w : World) (hn : bss.length = n) (hv : vs.length = n) (hA : Sl w A vs) (hP : Parts w vs bss) (hn63 : n ≤ 1000) (h45 : bss.flatten.length ≤ 35184372088832) :
    Calls Tryd.prog 77 #[.int .u8 (ub k), .slice A n c] w fun e w' => ∃ A' c', e = .returned (.slice A' (k :: bss.flatten).length c') ∧ Sl w' A' (bcells (k :: bss.flatten)) ∧ (k :: bss.flatten).length ≤ c' ∧ c' ≤ maxLen ∧ Below w.heap.size w w' := by
  have HN : Hid (bss.length = n) := hn
  have HV : Hid (vs.length = n) := hv
  have h0 : Below w.heap.size w (w.alloc (.cells (bcells [k]).toArray 5)) := (Below.refl _ _).alloc (Nat.le_refl _) _
  have o0 := own_lit w w.heap.size 5 (bcells [k]) 1 rfl (Nat.le_refl _) (by omega)
  clear hn hv
  go_enter Tryd.func77, Tryd.ntmps77
  go_wp2_with fail
  go_loopw [5, 7, 12] (fun v p i wr => ∃ j : Nat, j ≤ n ∧ i = .int .i64 j ∧ wr.ownsRow w.heap.size 5 1 v (k :: (bss.take j).flatten).length (bcells (k :: (bss.take j).flatten)) ∧ Below w.heap.size w wr)
    (fun _ _ i _ => n - (intOf i).toNat)
  case atStart => exact ⟨0, by omega, rfl, o0, h0⟩
  case round =>
    clear o0 h0
    obtain ⟨j, hj, rfl, hown, hbel⟩ := hrel
    by_cases hlt : j < n
    · obtain ⟨B, d, hvj, hB⟩ := hP j (by rw [HN.out]; exact hlt)
      have hjv : j < vs.length := by rw [HV.out]; exact hlt
      obtain ⟨b, o, rfl, hblt, hcell⟩ := hA.get hjv
      have hcw := (hbel.cell (p := ⟨b, o + j, none⟩) hblt).trans (hcell j _ hvj)
      have hB2 := hB.below hbel
      have HX : Hid ((bss.take (j + 1)).flatten = (bss.take j).flatten ++ bss.getD j []) := flat_snoc bss j (by rw [HN.out]; exact hlt)
      have hle := flat_le bss (j + 1)
      rw [HX.out, List.length_append] at hle
      clear hcell hvj hjv hB
      obtain ⟨p, hp⟩ : ∃ p, p = bss.getD j [] := ⟨_, rfl⟩
      rw [← hp] at hB2 hle hcw HX
      obtain ⟨l, hl⟩ : ∃ l, p.length = l := ⟨_, rfl⟩
      have HL : Hid (p.length = l) := hl
      rw [hl] at hcw hle
      obtain ⟨q, hq⟩ : ∃ q, q = (bss.take j).flatten := ⟨_, rfl⟩
      rw [← hq] at hown hle HX
      obtain ⟨m, hm⟩ : ∃ m, (k :: q).length = m := ⟨_, rfl⟩
      have HM : Hid ((k :: q).length = m) := hm
      rw [hm] at hown
      have hml : m + l ≤ 35184372088833 := by simp at hm; omega
      clear hp hl hq hm hle
      go_wp2_with (refine wpList_app rfl (.tmp 16) (.tmp 17) 23 rfl bytesTy w.heap.size u5 m (bcells (k :: q)) rfl hown B l d (bcells p) rfl (by rw [bcells_len]; exact HL.out) hB2 (bcells_one _) (by omega) hbel.size ?_; intro v1 w1 hown1 hgr1 hbl1)
      have hb1 := below_app hbel hgr1 hown (Nat.le_refl _) hbel.size
      go_roundw
      case rel =>
        refine ⟨j + 1, by omega, by go_num, ?_, hb1⟩
        rw [HX.out, ← List.cons_append, List.length_append, ← bcells_app, HL.out, HM.out]; exact hown1
      case measure => simp [intOf]; omega
    · have hjn : j = n := by omega
      have hfl : bss.take j = bss := List.take_of_length_le (by rw [HN.out]; omega)
      rw [hfl] at hown
      obtain ⟨A', c', rfl, hsl, hc', _, hm', _⟩ := own_slice hown
      clear hown hfl
      go_wp2_with fail
      go_ret
      exact ⟨A', c', rfl, hsl, hc', hm', hbel⟩
end Go.Proofs.YtihkfomldbjpoaaDoor.SealW

/- Comparisons of texts. -/
namespace Go.Proofs.YtihkfomldbjpoaaDoor.SealW
open Go.RowKit
theorem mk_inj {a b : List UInt8} : ((⟨a.toArray⟩ : ByteArray) = ⟨b.toArray⟩) ↔ a = b :=
  ⟨fun h => by simpa using congrArg (fun x : ByteArray => x.data.toList) h, fun h => by rw [h]⟩
theorem beq_str (X Y : ByteArray) : (X.toList == Y.toList) = decide (X = Y) := by
  rw [ByteArray.toList_eq, ByteArray.toList_eq]
  by_cases h : X = Y
  · simp [h]
  · have h2 : ¬ X.data = Y.data := fun h' => h (by cases X; cases Y; simpa using h')
    simp [h, h2]
theorem beq_yes {X Y : ByteArray} (h : X = Y) : (X.toList == Y.toList) = true := by rw [beq_str]; simpa using h
theorem beq_no {X Y : ByteArray} (h : X ≠ Y) : (X.toList == Y.toList) = false := by rw [beq_str]; simpa using h
end Go.Proofs.YtihkfomldbjpoaaDoor.SealW

/- Rows of texts of the call's own. -/
namespace Go.Proofs.YtihkfomldbjpoaaDoor.TrW
open Go.RowKit
theorem strsTy : ElemTy Tryd.prog 24 9 (.string ⟨#[]⟩) 16 := ⟨by kernel_rfl, info_parts (by kernel_rfl), rfl, by omega⟩
theorem own_below {B : Nat} {e : TypeId} {k : Nat} {v : Value} {n : Nat} {xs : List Value} {w w' : World} (h : w.ownsRow B e k v n xs) (hb : Below w.heap.size w w') : w'.ownsRow B e k v n xs :=
  h.kept (row := none) ⟨hb.os, hb.tape, hb.output, hb.size, fun j hj _ => hb.block j hj⟩ (by cases hv : v.ownBlock <;> simp)
def OwS (base : Nat) (w : World) (v : Value) (ss : List ByteArray) : Prop := w.ownsRow base 9 1 v ss.length (scells ss)
theorem OwS.nil (base : Nat) (w : World) : OwS base w (.slice none 0 0) [] := World.ownsRow_nil _ _ _ _
theorem OwS.slice {base : Nat} {w : World} {v : Value} {ss : List ByteArray} (h : OwS base w v ss) : ∃ A c, v = .slice A ss.length c ∧ Sl w A (scells ss) ∧ ss.length ≤ c ∧ c ≤ maxLen ∧ (∀ b o s, A = some ⟨b, o, s⟩ → base ≤ b) := by
  obtain ⟨A, c, h1, h2, h3, _, h5, h6⟩ := own_slice h
  exact ⟨A, c, h1, h2, h3, h5, h6⟩
theorem OwS.below {B : Nat} {v : Value} {ss : List ByteArray} {w w' : World} (h : OwS B w v ss) (hb : Below w.heap.size w w') : OwS B w' v ss := own_below h hb
theorem OwS.base {B B' : Nat} {v : Value} {ss : List ByteArray} {w : World} (h : OwS B w v ss) (hb : B' ≤ B) : OwS B' w v ss := World.ownsRow.mono h hb
theorem OwS.drew {B : Nat} {v : Value} {ss : List ByteArray} {w : World} (h : OwS B w v ss) : OwS B w.drew v ss := h
theorem OwS.block {B : Nat} {v : Value} {ss : List ByteArray} {w : World} (h : OwS B w v ss) (hn : ss ≠ []) : ∃ g c, v = .slice (some ⟨g, 0, none⟩) ss.length c ∧ B ≤ g ∧ g < w.heap.size ∧ ss.length ≤ c ∧ c ≤ maxLen := by
  have h1 := h.1
  rcases h.2 with ⟨_, h0⟩ | ⟨g, cap, cur, rfl, hb, hg, hnc, hcm, _⟩
  · exact absurd (List.eq_nil_of_length_eq_zero h0) hn
  · have hlt : g < w.heap.size := by
      rcases Nat.lt_or_ge g w.heap.size with h | h
      · exact h
      · rw [Array.getElem?_eq_none h] at hg; cases hg
    exact ⟨g, cap, rfl, hb, hlt, hnc, hcm⟩
theorem scells_app (a b : List ByteArray) : scells a ++ scells b = scells (a ++ b) := by simp [scells]
theorem new_str (W : World) (s : ByteArray) : Sl (W.alloc (.cells #[.string s] 9)) (some ⟨W.heap.size, 0, none⟩) (scells [s]) := Sl.of_at_all (At.new_ W _ 9 (scells [s]) rfl)
theorem snoc_ownS {w : World} {base : Nat} {v : Value} {a : List ByteArray} {x : ByteArray} {n : Nat} (hn : n = a.length) (h : w.ownsRow base 9 1 v (n + 1) (scells a ++ scells [x])) : OwS base w v (a ++ [x]) := by
  subst hn
  unfold OwS
  rw [List.length_append, ← scells_app]
  exact h
theorem scells_take (l : List ByteArray) (k : Nat) : (scells l).take k = scells (l.take k) := by simp [scells]
theorem scells_drop (l : List ByteArray) (k : Nat) : (scells l).drop k = scells (l.drop k) := by simp [scells]
theorem scells_at {l : List ByteArray} {k : Nat} {x : ByteArray} (h : l[k]? = some x) : (scells l)[k]? = some (.string x) := by simp [scells, h]
/-- 's[:k]' with the low end left out. -/
theorem run_to {P : Program} {t e : TypeId} {z : Value} {by_ : Nat} (E : ElemTy P t e z by_) (w : World) (A : Option Addr) (n c h : Nat) (jk : IntKind) (hh : h ≤ c) :
    (Instr.slice t (.slice A n c) none (some (.int jk (h : Int))) none).run P w = .ok (.slice A h c) w := by
  simp [Instr.slice, run_underlying E.ht, Instr.sliceBounds, E.size, run_sliceBound w jk (h : Int) c _ (by omega) (by omega)]
  intro _
  cases A <;> simp [Addr.add]
end Go.Proofs.YtihkfomldbjpoaaDoor.TrW

/- Roots on a stack; the turns on the way to a leaf. Nothing of the dump. -/
namespace Go.Proofs.YtihkfomldbjpoaaDoor.TreeW
section
variable {D : Type}
/-- Blocks, the last first: each of a power of two, rising, none below 2^j. -/
def Pows : Nat → List (List D) → Prop
  | _, [] => True
  | j, b :: r => ∃ e, j ≤ e ∧ b.length = 2 ^ e ∧ Pows (e + 1) r
/-- How many elements the blocks have. -/
def total : List (List D) → Nat
  | [] => 0
  | b :: r => total r + b.length
theorem Pows.mono {j k : Nat} (h : j ≤ k) : ∀ {r : List (List D)}, Pows k r → Pows j r
  | [], _ => trivial
  | _ :: _, ⟨e, h1, h2, h3⟩ => ⟨e, Nat.le_trans h h1, h2, h3⟩
theorem pows_dvd : ∀ (r : List (List D)) (j : Nat), Pows j r → ∃ q, total r = q * 2 ^ j
  | [], _, _ => ⟨0, by simp [total]⟩
  | b :: r, j, ⟨e, h1, h2, h3⟩ => by
    obtain ⟨q, hq⟩ := pows_dvd r (e + 1) h3
    obtain ⟨d, rfl⟩ : ∃ d, e = j + d := ⟨e - j, by omega⟩
    refine ⟨q * 2 ^ (d + 1) + 2 ^ d, ?_⟩
    show total r + b.length = _
    rw [hq, h2, Nat.add_mul, Nat.mul_assoc, ← Nat.pow_add, ← Nat.pow_add, show d + 1 + j = j + d + 1 by omega, show d + j = j + d by omega]
theorem pows_odd {r : List (List D)} {j q : Nat} (h : Pows j r) (ht : total r = (2 * q + 1) * 2 ^ j) : ∃ b r', r = b :: r' ∧ b.length = 2 ^ j ∧ Pows (j + 1) r' ∧ total r' = 2 * q * 2 ^ j := by
  have hp : 1 ≤ 2 ^ j := Nat.one_le_two_pow
  cases r with
  | nil =>
    simp only [total] at ht
    have : 0 < (2 * q + 1) * 2 ^ j := Nat.mul_pos (by omega) (by omega)
    omega
  | cons b r' =>
    obtain ⟨e, h1, h2, h3⟩ := h
    rcases Nat.lt_or_ge j e with hlt | hge
    · obtain ⟨z, hz⟩ := pows_dvd (b :: r') (j + 1) ⟨e, hlt, h2, h3⟩
      rw [hz, Nat.pow_succ, Nat.mul_comm (2 ^ j) 2, ← Nat.mul_assoc] at ht
      have := Nat.eq_of_mul_eq_mul_right (by omega) ht
      omega
    · obtain rfl : e = j := by omega
      refine ⟨b, r', rfl, h2, h3, ?_⟩
      have : total r' + b.length = (2 * q + 1) * 2 ^ e := ht
      rw [h2, Nat.add_mul, Nat.one_mul] at this
      omega
theorem pows_even {r : List (List D)} {j q : Nat} (h : Pows j r) (ht : total r = 2 * q * 2 ^ j) : Pows (j + 1) r := by
  have hp : 1 ≤ 2 ^ j := Nat.one_le_two_pow
  cases r with
  | nil => trivial
  | cons b r' =>
    obtain ⟨e, h1, h2, h3⟩ := h
    rcases Nat.lt_or_ge j e with hlt | hge
    · exact ⟨e, hlt, h2, h3⟩
    · obtain rfl : e = j := by omega
      obtain ⟨z, hz⟩ := pows_dvd r' (e + 1) h3
      have h4 : total r' + b.length = 2 * q * 2 ^ e := ht
      have h5 : (2 * z + 1) * 2 ^ e = 2 * q * 2 ^ e := by
        rw [← h4, hz, h2, Nat.pow_succ, Nat.add_mul, Nat.one_mul, Nat.mul_comm 2 z, Nat.mul_assoc, Nat.mul_comm 2 (2 ^ e)]
      have := Nat.eq_of_mul_eq_mul_right (by omega) h5
      omega
theorem pows_len : ∀ (r : List (List D)) (j : Nat), Pows j r → r.length ≤ total r
  | [], _, _ => Nat.le_refl _
  | b :: r, j, ⟨e, h1, h2, h3⟩ => by
    have hp : 1 ≤ 2 ^ e := Nat.one_le_two_pow
    have := pows_len r (e + 1) h3
    show r.length + 1 ≤ total r + b.length
    omega
/-- The elements, in order. -/
def leaves (r : List (List D)) : List D := r.reverse.flatten
theorem leaves_cons (b : List D) (r : List (List D)) : leaves (b :: r) = leaves r ++ b := by simp [leaves]
theorem leaves_len : ∀ (r : List (List D)), (leaves r).length = total r
  | [] => rfl
  | b :: r => by rw [leaves_cons, List.length_append, leaves_len r]; rfl
variable (N : D → D → D) (E : D)
/-- The stack of the blocks' roots, the last on top (at its end). -/
def stk (r : List (List D)) : List D := (r.map (root N E)).reverse
theorem stk_cons (b : List D) (r : List (List D)) : stk N E (b :: r) = stk N E r ++ [root N E b] := by simp [stk]
theorem stk_len (r : List (List D)) : (stk N E r).length = r.length := by simp [stk]
/-- Two blocks become one. -/
theorem stk_join (b c : List D) (r : List (List D)) {e : Nat} (hc : c.length = 2 ^ e) (hb : 1 ≤ b.length) (hle : b.length ≤ 2 ^ e) : stk N E ((c ++ b) :: r) = stk N E r ++ [N (root N E c) (root N E b)] := by
  rw [stk_cons, root_app N E c b hc hb (by omega)]
/-- How the stack stands while leaves are pushed: the last block has 2^t, and n times that are there. -/
structure Mid (l : List D) (n : Nat) (st : List D) : Prop where
  ex : ∃ b r t, n * 2 ^ t = l.length ∧ 1 ≤ n ∧ b.length = 2 ^ t ∧ Pows t r ∧ total r = (n - 1) * 2 ^ t ∧ leaves (b :: r) = l ∧ st = stk N E (b :: r)
/-- How it stands between two leaves. -/
structure Full (l : List D) (st : List D) : Prop where
  ex : ∃ r, Pows 0 r ∧ leaves r = l ∧ st = stk N E r
/-- How it stands at the end. -/
structure Last (l : List D) (st : List D) : Prop where
  ex : ∃ b r j, Pows j r ∧ 1 ≤ b.length ∧ b.length ≤ 2 ^ j ∧ leaves (b :: r) = l ∧ st = stk N E (b :: r)
variable {N} {E}
theorem Full.nil : Full N E [] [] := ⟨[], trivial, rfl, rfl⟩
theorem Full.len {l st : List D} (h : Full N E l st) : st.length ≤ l.length := by
  obtain ⟨r, h1, h2, rfl⟩ := h.ex
  rw [stk_len, ← h2, leaves_len]; exact pows_len r 0 h1
theorem Mid.len {l st : List D} {n : Nat} (h : Mid N E l n st) : st.length ≤ l.length := by
  obtain ⟨b, r, t, _, _, h3, h4, _, h6, rfl⟩ := h.ex
  have := pows_len r t h4
  have hp : 1 ≤ 2 ^ t := Nat.one_le_two_pow
  rw [stk_len, ← h6, leaves_len]
  show r.length + 1 ≤ total r + b.length
  omega
theorem Full.push {l st : List D} (h : Full N E l st) (x : D) : Mid N E (l ++ [x]) (l.length + 1) (st ++ [x]) := by
  obtain ⟨r, h1, h2, rfl⟩ := h.ex
  exact ⟨[x], r, 0, by simp, by omega, rfl, h1, by rw [← h2, leaves_len]; simp, by rw [leaves_cons, h2], by rw [stk_cons, root_one]⟩
theorem Mid.pos {l st : List D} {n : Nat} (h : Mid N E l n st) : 1 ≤ n ∧ n ≤ l.length := by
  obtain ⟨b, r, t, h1, h2, _⟩ := h.ex
  have hp : 1 ≤ 2 ^ t := Nat.one_le_two_pow
  exact ⟨h2, by rw [← h1]; exact Nat.le_mul_of_pos_right _ hp⟩
/-- n is even: the two last become one. -/
theorem Mid.even {l st : List D} {n : Nat} (h : Mid N E l n st) (he : n % 2 = 0) : ∃ st' x y, st = st' ++ [x, y] ∧ Mid N E l (n / 2) (st' ++ [N x y]) := by
  obtain ⟨b, r, t, h1, h2, h3, h4, h5, h6, rfl⟩ := h.ex
  have hp : 1 ≤ 2 ^ t := Nat.one_le_two_pow
  obtain ⟨q, rfl⟩ : ∃ q, n = 2 * q + 2 := ⟨n / 2 - 1, by omega⟩
  obtain ⟨c, r', rfl, g1, g2, g3⟩ := pows_odd (q := q) h4 (by rw [h5]; rfl)
  refine ⟨stk N E r', root N E c, root N E b, by rw [stk_cons, stk_cons, List.append_assoc]; rfl, c ++ b, r', t + 1, ?_, by omega, by rw [List.length_append, g1, h3, Nat.pow_succ]; omega, g2, ?_, ?_, ?_⟩
  · rw [← h1, Nat.pow_succ, show (2 * q + 2) / 2 = q + 1 by omega, show 2 * q + 2 = (q + 1) * 2 by omega, Nat.mul_assoc, Nat.mul_comm 2 (2 ^ t)]
  · rw [g3, show (2 * q + 2) / 2 - 1 = q by omega, Nat.pow_succ, Nat.mul_comm 2 q, Nat.mul_assoc, Nat.mul_comm 2 (2 ^ t)]
  · rw [leaves_cons, leaves_cons, List.append_assoc] at h6
    rw [leaves_cons]; exact h6
  · rw [stk_join N E b c r' g1 (by omega) (by omega)]
/-- n is odd: nothing is joined any more. -/
theorem Mid.odd {l st : List D} {n : Nat} (h : Mid N E l n st) (he : n % 2 = 1) : Full N E l st := by
  obtain ⟨b, r, t, h1, h2, h3, h4, h5, h6, rfl⟩ := h.ex
  obtain ⟨q, rfl⟩ : ∃ q, n = 2 * q + 1 := ⟨n / 2, by omega⟩
  exact ⟨b :: r, ⟨t, Nat.zero_le _, h3, pows_even (q := q) h4 (by rw [h5]; rfl)⟩, h6, rfl⟩
theorem Full.last {l st : List D} (h : Full N E l st) (hl : l ≠ []) : Last N E l st := by
  obtain ⟨r, h1, h2, rfl⟩ := h.ex
  cases r with
  | nil => exact absurd h2.symm hl
  | cons b r =>
    obtain ⟨e, _, g2, g3⟩ := h1
    have hp : 1 ≤ 2 ^ e := Nat.one_le_two_pow
    exact ⟨b, r, e + 1, g3, by omega, by rw [Nat.pow_succ]; omega, h2, rfl⟩
theorem Last.pos {l st : List D} (h : Last N E l st) : 1 ≤ st.length := by
  obtain ⟨b, r, j, _, _, _, _, rfl⟩ := h.ex
  rw [stk_len]; simp
theorem Last.len {l st : List D} (h : Last N E l st) : st.length ≤ l.length := by
  obtain ⟨b, r, j, g1, g2, g3, g4, rfl⟩ := h.ex
  have := pows_len r j g1
  rw [stk_len, ← g4, leaves_len]
  show r.length + 1 ≤ total r + b.length
  omega
theorem Last.one {l st : List D} (h : Last N E l st) (h1 : st.length = 1) : st = [root N E l] := by
  obtain ⟨b, r, j, g1, g2, g3, g4, rfl⟩ := h.ex
  rw [stk_len] at h1
  obtain rfl : r = [] := List.eq_nil_of_length_eq_zero (by simpa using h1)
  rw [← g4]; simp [stk, leaves]
theorem Last.more {l st : List D} (h : Last N E l st) (h2 : 2 ≤ st.length) : ∃ st' x y, st = st' ++ [x, y] ∧ Last N E l (st' ++ [N x y]) := by
  obtain ⟨b, r, j, g1, g2, g3, g4, rfl⟩ := h.ex
  rw [stk_len] at h2
  cases r with
  | nil => simp at h2
  | cons c r' =>
    obtain ⟨e, f1, f2, f3⟩ := g1
    have hle : 2 ^ j ≤ 2 ^ e := Nat.pow_le_pow_right (by omega) f1
    refine ⟨stk N E r', root N E c, root N E b, by rw [stk_cons, stk_cons, List.append_assoc]; rfl, c ++ b, r', e + 1, f3, by rw [List.length_append]; omega, by rw [List.length_append, Nat.pow_succ]; omega, ?_, ?_⟩
    · rw [leaves_cons, leaves_cons, List.append_assoc] at g4
      rw [leaves_cons]; exact g4
    · rw [stk_join N E b c r' f2 g2 (by omega)]
end
/-- From the root down: is the leaf in the right part? -/
def turnsF : Nat → Nat → Nat → List Bool
  | 0, _, _ => []
  | f + 1, i, n => if n < 2 then [] else if i < split n then false :: turnsF f i (split n) else true :: turnsF f (i - split n) (n - split n)
def turns (i n : Nat) : List Bool := turnsF n i n
theorem turnsF_fuel : ∀ (f g i n : Nat), n ≤ f → n ≤ g → turnsF f i n = turnsF g i n
  | 0, 0, _, _, _, _ => rfl
  | 0, g + 1, _, n, h, _ => by unfold turnsF; rw [if_pos (by omega)]
  | f + 1, 0, _, n, _, h => by unfold turnsF; rw [if_pos (by omega)]
  | f + 1, g + 1, i, n, hf, hg => by
    unfold turnsF
    by_cases h : n < 2
    · rw [if_pos h, if_pos h]
    · rw [if_neg h, if_neg h]
      obtain ⟨a, b, _, _⟩ := split_spec (n := n) (by omega)
      rw [turnsF_fuel f g i (split n) (by omega) (by omega), turnsF_fuel f g (i - split n) (n - split n) (by omega) (by omega)]
theorem turns_one (i n : Nat) (h : n < 2) : turns i n = [] := by
  unfold turns
  cases n with
  | zero => rfl
  | succ m => unfold turnsF; rw [if_pos h]
theorem turns_two (i n : Nat) (h : 2 ≤ n) : turns i n = if i < split n then false :: turns i (split n) else true :: turns (i - split n) (n - split n) := by
  obtain ⟨a, b, _, _⟩ := split_spec h
  obtain ⟨m, rfl⟩ : ∃ m, n = m + 1 := ⟨n - 1, by omega⟩
  unfold turns
  conv => lhs; unfold turnsF
  rw [if_neg (by omega), turnsF_fuel m (split (m + 1)) i (split (m + 1)) (by omega) (Nat.le_refl _), turnsF_fuel m (m + 1 - split (m + 1)) (i - split (m + 1)) (m + 1 - split (m + 1)) (by omega) (Nat.le_refl _)]
theorem turns_left {i n : Nat} (h : 2 ≤ n) (hi : i < split n) : turns i n = false :: turns i (split n) := by rw [turns_two i n h, if_pos hi]
theorem turns_right {i n : Nat} (h : 2 ≤ n) (hi : ¬ i < split n) : turns i n = true :: turns (i - split n) (n - split n) := by rw [turns_two i n h, if_neg hi]
theorem steps_left {i n : Nat} (h : 2 ≤ n) (hi : i < split n) : steps i n = 1 + steps i (split n) := by rw [steps_two i n h, if_pos hi]
theorem steps_right {i n : Nat} (h : 2 ≤ n) (hi : ¬ i < split n) : steps i n = 1 + steps (i - split n) (n - split n) := by rw [steps_two i n h, if_neg hi]
theorem turns_len : ∀ (m i n : Nat), n ≤ m → (turns i n).length = steps i n
  | m, i, n, hm => by
    by_cases h : n < 2
    · rw [turns_one i n h, steps_one i n h]; rfl
    · obtain ⟨a, b, _, _⟩ := split_spec (n := n) (by omega)
      cases m with
      | zero => omega
      | succ m =>
        by_cases hi : i < split n
        · rw [turns_left (by omega) hi, steps_left (by omega) hi, List.length_cons, turns_len m _ _ (by omega)]; omega
        · rw [turns_right (by omega) hi, steps_right (by omega) hi, List.length_cons, turns_len m _ _ (by omega)]; omega
section
variable {D : Type} (N : D → D → D)
/-- From a leaf up by turns and digests. -/
def up : D → List Bool → List D → D
  | x, t :: ts, d :: ds => up (if t then N d x else N x d) ts ds
  | x, _, _ => x
theorem up_nil (x : D) (p : List D) : up N x [] p = x := by cases p <;> rfl
theorem up_app : ∀ (a : List Bool) (p : List D) (x : D) (t : Bool) (d : D), a.length = p.length → up N x (a ++ [t]) (p ++ [d]) = if t then N d (up N x a p) else N (up N x a p) d
  | [], [], _, _, _, _ => rfl
  | [], _ :: _, _, _, _, h => by simp at h
  | _ :: _, [], _, _, _, h => by simp at h
  | a :: aa, p :: ps, x, t, d, h => by
    show up N _ (aa ++ [t]) (ps ++ [d]) = _
    rw [up_app aa ps _ t d (by simpa using h)]
    rfl
theorem up_drop (x : D) (ts : List Bool) (p : List D) (j : Nat) (t : Bool) (d : D) (ht : ts[j]? = some t) (hd : p[j]? = some d) : up N x (ts.drop j) (p.drop j) = up N (if t then N d x else N x d) (ts.drop (j + 1)) (p.drop (j + 1)) := by
  obtain ⟨h1, h2⟩ := List.getElem?_eq_some_iff.1 ht
  obtain ⟨h3, h4⟩ := List.getElem?_eq_some_iff.1 hd
  rw [List.drop_eq_getElem_cons h1, List.drop_eq_getElem_cons h3, h2, h4]
  rfl
variable (E : D)
theorem climb_left {x : D} {i n : Nat} {p : List D} {d : D} (h : 2 ≤ n) (hi : i < split n) : climb N E x i n (p ++ [d]) = N (climb N E x i (split n) p) d := by
  rw [climb_two N E x i n _ h, if_pos hi, List.dropLast_concat, List.getLast?_concat, Option.getD_some]
theorem climb_right {x : D} {i n : Nat} {p : List D} {d : D} (h : 2 ≤ n) (hi : ¬ i < split n) : climb N E x i n (p ++ [d]) = N d (climb N E x (i - split n) (n - split n) p) := by
  rw [climb_two N E x i n _ h, if_neg hi, List.dropLast_concat, List.getLast?_concat, Option.getD_some]
theorem ways_left {x : D} {i n : Nat} {p : List D} {d : D} (h : 2 ≤ n) (hi : i < split n) : ways N E x i n (p ++ [d]) = ways N E x i (split n) p ++ [(climb N E x i (split n) p, d)] := by
  rw [ways_two N E x i n _ h, if_pos hi, List.dropLast_concat, List.getLast?_concat, Option.getD_some]
theorem ways_right {x : D} {i n : Nat} {p : List D} {d : D} (h : 2 ≤ n) (hi : ¬ i < split n) : ways N E x i n (p ++ [d]) = ways N E x (i - split n) (n - split n) p ++ [(d, climb N E x (i - split n) (n - split n) p)] := by
  rw [ways_two N E x i n _ h, if_neg hi, List.dropLast_concat, List.getLast?_concat, Option.getD_some]
theorem snoc_of {p : List D} {m : Nat} (h : p.length = 1 + m) : ∃ q d, p = q ++ [d] ∧ q.length = m := by
  have hne : p ≠ [] := by rintro rfl; simp at h; omega
  refine ⟨p.dropLast, p.getLast hne, (List.dropLast_concat_getLast hne).symm, ?_⟩
  rw [List.length_dropLast, h]; omega
theorem climb_up : ∀ (m : Nat) (x : D) (i n : Nat) (p : List D), n ≤ m → p.length = steps i n → climb N E x i n p = up N x (turns i n).reverse p
  | m, x, i, n, p, hm, hp => by
    by_cases h : n < 2
    · rw [climb_one N E x i n p h, turns_one i n h, List.reverse_nil, up_nil]
    · obtain ⟨a, b, _, _⟩ := split_spec (n := n) (by omega)
      cases m with
      | zero => omega
      | succ m =>
        by_cases hi : i < split n
        · rw [steps_left (by omega) hi] at hp
          obtain ⟨q, d, rfl, hq⟩ := snoc_of hp
          rw [climb_left N E (by omega) hi, climb_up m x i (split n) q (by omega) hq, turns_left (by omega) hi, List.reverse_cons, up_app N _ q x false d (by rw [List.length_reverse, turns_len _ i (split n) (Nat.le_refl _), hq])]
          rfl
        · rw [steps_right (by omega) hi] at hp
          obtain ⟨q, d, rfl, hq⟩ := snoc_of hp
          rw [climb_right N E (by omega) hi, climb_up m x (i - split n) (n - split n) q (by omega) hq, turns_right (by omega) hi, List.reverse_cons, up_app N _ q x true d (by rw [List.length_reverse, turns_len _ (i - split n) (n - split n) (Nat.le_refl _), hq])]
          rfl
end
end Go.Proofs.YtihkfomldbjpoaaDoor.TreeW

/- tree: Split. -/
namespace Go.Proofs.YtihkfomldbjpoaaDoor.TrW
open Go.RowKit TreeW
theorem bitLen_bounds : ∀ (m : Nat), 1 ≤ m → m < 2 ^ 64 → 1 ≤ Lib.bitLen m ∧ 2 ^ (Lib.bitLen m - 1) ≤ m ∧ m < 2 ^ Lib.bitLen m := by
  intro m
  induction m using Nat.strongRecOn with
  | _ m ih =>
    intro h1 h2
    rw [Lib.bitLen_half m (by omega) h2]
    by_cases h : m = 1
    · subst h; decide
    · obtain ⟨a, b, c⟩ := ih (m / 2) (by omega) (by omega) (by omega)
      refine ⟨by omega, ?_, ?_⟩
      · have : 1 + Lib.bitLen (m / 2) - 1 = (Lib.bitLen (m / 2) - 1) + 1 := by omega
        rw [this, Nat.pow_succ]; omega
      · rw [Nat.add_comm, Nat.pow_succ]; omega
theorem split_len {n : Nat} (h : 2 ≤ n) (h2 : n ≤ 1099511627776) : ∃ L, Lib.bitLen (n - 1) = L + 1 ∧ L < 40 ∧ 2 ^ L = split n := by
  obtain ⟨a, b, c⟩ := bitLen_bounds (n - 1) (by omega) (by omega)
  obtain ⟨L, hL⟩ : ∃ L, Lib.bitLen (n - 1) = L + 1 := ⟨Lib.bitLen (n - 1) - 1, by omega⟩
  rw [hL] at b c
  rw [Nat.add_sub_cancel] at b
  refine ⟨L, hL, ?_, (split_uniq rfl (by omega) (by rw [Nat.pow_succ] at c; omega)).symm⟩
  rcases Nat.lt_or_ge L 40 with h | h
  · exact h
  · have : 2 ^ 40 ≤ 2 ^ L := Nat.pow_le_pow_right (by omega) h
    omega
theorem len_any (x : Int) (w : World) (h0 : 0 ≤ x) (h1 : x ≤ 18446744073709551615) : Calls Tryd.prog 98 #[.int .u64 x] w fun e w' => e = .returned (.int .i64 (Lib.bitLen x.toNat)) ∧ w' = w :=
  Any.bits_Len Tryd.lenS x w h0 h1
set_option maxRecDepth 100000 in
set_option maxHeartbeats 1000000 in
theorem split_in (n : Nat) (w : World) (h : 2 ≤ n) (h2 : n ≤ 1099511627776) : Calls Tryd.prog 84 #[.int .i64 (n : Int)] w fun e w' => e = .returned (.int .i64 ((split n : Nat) : Int)) ∧ w = w' := by
  obtain ⟨L, hL, hL40, hS⟩ := split_len h h2
  have HL : Hid (Lib.bitLen ((n : Int) - 1).toNat = L + 1) := by show _ = _; rw [show ((n : Int) - 1).toNat = n - 1 by omega]; exact hL
  have HS := Lib.hid hS
  have k1 : ¬ (n : Int) < 2 := by omega
  have k2 : ¬ (n : Int) > 1099511627776 := by omega
  clear hL hS
  go_enter Tryd.func84, Tryd.ntmps84
  go_wp2_with fail
  refine (len_any ((n : Int) - 1) _ (by omega) (by omega)).mono ?_
  rintro e w1 ⟨rfl, rfl⟩
  rw [HL.out]
  go_wp2_with fail
  go_ret
  refine ⟨?_, rfl⟩
  have hlt := (split_spec h).2.1
  have e1 : (2 : Int) ^ L = ((2 ^ L : Nat) : Int) := by simp
  rw [e1, HS.out]
  have e2 : wrap64 ((split n : Nat) : Int) = ((split n : Nat) : Int) := by unfold wrap64; omega
  rw [e2]; rfl
theorem split_out (n : Int) (w : World) (h : n < 2 ∨ 1099511627776 < n) : Calls Tryd.prog 84 #[.int .i64 n] w fun e w' => e = .returned (.int .i64 0) ∧ w = w' := by
  by_cases h1 : n < 2
  · clear h
    go_enter Tryd.func84, Tryd.ntmps84
    go_wp2_with fail
    go_ret
    exact ⟨rfl, rfl⟩
  · have h2 : n > 1099511627776 := by omega
    clear h
    go_enter Tryd.func84, Tryd.ntmps84
    go_wp2_with fail
    go_ret
    exact ⟨rfl, rfl⟩
/-- The reference's Split. -/
theorem refSplit_out (n : Int) (w : World) (h : n < 2 ∨ 1099511627776 < n) : Calls Tryd.prog 40 #[.int .i64 n] w fun e w' => e = .returned (.int .i64 0) ∧ w = w' := by
  by_cases h1 : n < 2
  · clear h
    go_enter Tryd.func40, Tryd.ntmps40
    go_wp2_with fail
    go_ret
    exact ⟨rfl, rfl⟩
  · have h2 : n > 1099511627776 := by omega
    clear h
    go_enter Tryd.func40, Tryd.ntmps40
    go_wp2_with fail
    go_ret
    exact ⟨rfl, rfl⟩
set_option maxRecDepth 100000 in
set_option maxHeartbeats 1000000 in
theorem refSplit_in (n : Nat) (w : World) (h : 2 ≤ n) (h2 : n ≤ 1099511627776) : Calls Tryd.prog 40 #[.int .i64 (n : Int)] w fun e w' => e = .returned (.int .i64 ((split n : Nat) : Int)) ∧ w = w' := by
  have k1 : ¬ (n : Int) < 2 := by omega
  have k2 : ¬ (n : Int) > 1099511627776 := by omega
  go_enter Tryd.func40, Tryd.ntmps40
  go_wp2_with fail
  go_loop [3] (fun i => ∃ k : Nat, 1 ≤ k ∧ k < n ∧ i = .int .i64 (k : Int) ∧ Hid (∃ j, k = 2 ^ j)) (fun i => n - (intOf i).toNat)
  case atStart => exact ⟨1, by omega, by omega, rfl, ⟨0, rfl⟩⟩
  case round =>
    obtain ⟨k, hk1, hkn, rfl, HK⟩ := hrel
    by_cases hlt : 2 * k < n
    · have h3 : (2 : Int) * (k : Int) < (n : Int) := by omega
      go_wp2_with fail
      go_round
      case rel => exact ⟨2 * k, by omega, hlt, by go_num, by obtain ⟨j, hj⟩ := HK.out; exact ⟨j + 1, by rw [Nat.pow_succ, ← hj]; omega⟩⟩
      case measure => simp [intOf]; omega
    · have h3 : ¬ (2 : Int) * (k : Int) < (n : Int) := by omega
      have HS : Hid (split n = k) := by
        obtain ⟨j, hj⟩ := HK.out
        exact split_uniq hj hkn (by omega)
      go_wp2_with fail
      go_ret
      exact ⟨by rw [HS.out]; rfl, rfl⟩
end Go.Proofs.YtihkfomldbjpoaaDoor.TrW

/- A region that draws its order, walked in ONE order: what reads old memory may be taken first in every world behind the one at hand. Nothing of the dump. -/
namespace Go.Proofs.YtihkfomldbjpoaaDoor
open Go.RowKit
section
variable {P : Program} {ops : Array Oper} {Q : Exit → Act → World → Prop} {md : Region.Mode}
/-- A world behind another one. -/
def Aft (w w' : World) : Prop := Below w.heap.size w w'
theorem wpAnyH_mono {S S' : World → Prop} (h : ∀ w, S' w → S w) : ∀ (fuel : Nat) (listed : Array Bool) (a : Act) (w : World), wpAnyH P md ops Q S' fuel listed a w → wpAnyH P md ops Q S fuel listed a w
  | 0, _, _, _, h0 => h0
  | fuel + 1, _, _, _, h0 => ⟨h0.1, fun i hi => wpOp_mono (fun a' w' h' => ⟨h w' h'.1, wpAnyH_mono h fuel _ a' w' h'.2⟩) (h0.2 i hi)⟩
theorem reg_begin {id : Nat} {a : Act} {w : World} (hm : P.follows .mixedOrders = true) (h : wpAnyH P .any ops Q (Aft w.drew) ops.size (Array.replicate ops.size false) a w.drew) : (Code.region id ops true).wp P Q a w :=
  wp_region_held_drew hm (show Aft w.drew w.drew from Below.refl _ _) fun _ => h
/-- Take number i first. -/
theorem reg_take {i : Nat} {d : Option Tmp} {oi : Oper} {v : Value} {fuel : Nat} {listed : Array Bool} {a : Act} {w : World} (hi : ops[i]? = some oi) (hd : oi.dst = d)
    (hs : Region.noSelect ops = true) (hf : Region.free md ops listed i = true) (hr : (Region.ready md ops listed).contains i = true)
    (hQ : ∀ c a w, Q (.panic c) (a.put d v) w → Q (.panic c) a w) (hw : Region.wanted oi (yielded ops a.tmps) = true) (hy : ∀ w', Below w.heap.size w w' → (execOp a.eval oi).run P w' = .ok (.value v) w')
    (h : wpAnyH P md ops Q (Aft w) fuel (listed.setIfInBounds i true) (a.put d v) w) : wpAnyH P md ops Q (Aft w) (fuel + 1) listed a w := by
  subst hd
  exact wpAnyH_take hi hs hf hr hQ (.inl ⟨hw, hy⟩) (Below.refl _ _) h
/-- Take number i first, whose guard says no. -/
theorem reg_skip {i : Nat} {d : Option Tmp} {oi : Oper} {fuel : Nat} {listed : Array Bool} {a : Act} {w : World} (hi : ops[i]? = some oi) (hd : oi.dst = d)
    (hs : Region.noSelect ops = true) (hf : Region.free md ops listed i = true) (hr : (Region.ready md ops listed).contains i = true)
    (hQ : ∀ c a w, Q (.panic c) (a.put d undef) w → Q (.panic c) a w) (hw : Region.wanted oi (yielded ops a.tmps) = false)
    (h : wpAnyH P md ops Q (Aft w) fuel (listed.setIfInBounds i true) (a.put d undef) w) : wpAnyH P md ops Q (Aft w) (fuel + 1) listed a w := by
  subst hd
  exact wpAnyH_take hi hs hf hr hQ (.inr ⟨hw, rfl⟩) (Below.refl _ _) h
/-- The one call that may come up now. -/
theorem reg_call {i : Nat} {o : Oper} {fuel : Nat} {listed : Array Bool} {a : Act} {w : World} (ho : ops[i]? = some o) (hr : Region.ready md ops listed = [i]) (hw : Region.wanted o (yielded ops a.tmps) = true)
    (h : ∀ K : Act → World → Prop, Hid (∀ a' w', Below w.heap.size w w' → wpAnyH P md ops Q (Aft w') fuel (listed.setIfInBounds i true) a' w' → K a' w') → Oper.wp P o a w K Q) : wpAnyH P md ops Q (Aft w) (fuel + 1) listed a w := by
  refine wpAnyH_ready hr (by simp) (AllReadyH.cons ho (fun K hK => ?_) AllReadyH.nil)
  rw [if_pos hw]
  exact h K fun a' w' hb hn => hK.out a' w' hb fun _ => wpAnyH_mono (fun w'' h'' => (show Below w.heap.size w w' from hb).trans (Below.mono h'' hb.size)) _ _ _ _ hn
end
/- The same where rows of the call's own (from block B on) may be written. -/
section
variable {P : Program} {ops : Array Oper} {Q : Exit → Act → World → Prop} {md : Region.Mode}
/-- A world behind another one, below B. -/
def AftB (B : Nat) (w w' : World) : Prop := Below B w w'
theorem regB_begin (B : Nat) {id : Nat} {a : Act} {w : World} (hm : P.follows .mixedOrders = true) (h : wpAnyH P .any ops Q (AftB B w.drew) ops.size (Array.replicate ops.size false) a w.drew) : (Code.region id ops true).wp P Q a w :=
  wp_region_held_drew hm (show AftB B w.drew w.drew from Below.refl _ _) fun _ => h
theorem regB_take {B i : Nat} {d : Option Tmp} {oi : Oper} {v : Value} {fuel : Nat} {listed : Array Bool} {a : Act} {w : World} (hi : ops[i]? = some oi) (hd : oi.dst = d)
    (hs : Region.noSelect ops = true) (hf : Region.free md ops listed i = true) (hr : (Region.ready md ops listed).contains i = true)
    (hQ : ∀ c a w, Q (.panic c) (a.put d v) w → Q (.panic c) a w) (hw : Region.wanted oi (yielded ops a.tmps) = true) (hy : ∀ w', Below B w w' → (execOp a.eval oi).run P w' = .ok (.value v) w')
    (h : wpAnyH P md ops Q (AftB B w) fuel (listed.setIfInBounds i true) (a.put d v) w) : wpAnyH P md ops Q (AftB B w) (fuel + 1) listed a w := by
  subst hd
  exact wpAnyH_take hi hs hf hr hQ (.inl ⟨hw, hy⟩) (Below.refl _ _) h
theorem regB_skip {B i : Nat} {d : Option Tmp} {oi : Oper} {fuel : Nat} {listed : Array Bool} {a : Act} {w : World} (hi : ops[i]? = some oi) (hd : oi.dst = d)
    (hs : Region.noSelect ops = true) (hf : Region.free md ops listed i = true) (hr : (Region.ready md ops listed).contains i = true)
    (hQ : ∀ c a w, Q (.panic c) (a.put d undef) w → Q (.panic c) a w) (hw : Region.wanted oi (yielded ops a.tmps) = false)
    (h : wpAnyH P md ops Q (AftB B w) fuel (listed.setIfInBounds i true) (a.put d undef) w) : wpAnyH P md ops Q (AftB B w) (fuel + 1) listed a w := by
  subst hd
  exact wpAnyH_take hi hs hf hr hQ (.inr ⟨hw, rfl⟩) (Below.refl _ _) h
theorem regB_next {B fuel : Nat} {listed : Array Bool} {a : Act} {w w' : World} (hb : Below B w w') (h : wpAnyH P md ops Q (AftB B w') fuel listed a w') : wpAnyH P md ops Q (AftB B w) fuel listed a w' :=
  wpAnyH_mono (fun _ h'' => (show Below B w w' from hb).trans h'') _ _ _ _ h
/-- The one operation that may come up now. -/
theorem regB_call {B i : Nat} {o : Oper} {fuel : Nat} {listed : Array Bool} {a : Act} {w : World} (ho : ops[i]? = some o) (hr : Region.ready md ops listed = [i]) (hw : Region.wanted o (yielded ops a.tmps) = true)
    (h : ∀ K : Act → World → Prop, Hid (∀ a' w', Below B w w' → wpAnyH P md ops Q (AftB B w') fuel (listed.setIfInBounds i true) a' w' → K a' w') → Oper.wp P o a w K Q) : wpAnyH P md ops Q (AftB B w) (fuel + 1) listed a w := by
  refine wpAnyH_ready hr (by simp) (AllReadyH.cons ho (fun K hK => ?_) AllReadyH.nil)
  rw [if_pos hw]
  exact h K fun a' w' hb hn => hK.out a' w' hb fun _ => regB_next hb hn
/-- One of the two that may come up now. -/
theorem regB_two {B i j : Nat} {o o' : Oper} {fuel : Nat} {listed : Array Bool} {a : Act} {w : World} (ho : ops[i]? = some o) (ho' : ops[j]? = some o') (hr : Region.ready md ops listed = [i, j])
    (hw : Region.wanted o (yielded ops a.tmps) = true) (hw' : Region.wanted o' (yielded ops a.tmps) = true)
    (h : ∀ K : Act → World → Prop, Hid (∀ a' w', Below B w w' → wpAnyH P md ops Q (AftB B w') fuel (listed.setIfInBounds i true) a' w' → K a' w') → Oper.wp P o a w K Q)
    (h' : ∀ K : Act → World → Prop, Hid (∀ a' w', Below B w w' → wpAnyH P md ops Q (AftB B w') fuel (listed.setIfInBounds j true) a' w' → K a' w') → Oper.wp P o' a w K Q) : wpAnyH P md ops Q (AftB B w) (fuel + 1) listed a w := by
  refine wpAnyH_ready hr (by simp) (AllReadyH.cons ho (fun K hK => ?_) (AllReadyH.cons ho' (fun K hK => ?_) AllReadyH.nil))
  · rw [if_pos hw]
    exact h K fun a' w' hb hn => hK.out a' w' hb fun _ => regB_next hb hn
  · rw [if_pos hw']
    exact h' K fun a' w' hb hn => hK.out a' w' hb fun _ => regB_next hb hn
/-- An operation that yields a value and leaves the world. -/
theorem oper_yields {o : Oper} {a : Act} {w : World} {K : Act → World → Prop} {v : Value} {d : Option Tmp} (hd : o.dst = d) (h : (execOp a.eval o).run P w = .ok (.value v) w) (hK : K (a.put d v) w) : Oper.wp P o a w K Q := by
  subst hd
  unfold Oper.wp
  rw [h]
  exact hK
/-- An append onto a row of the call's own. -/
theorem oper_app {o : Oper} {a : Act} {w : World} {K : Act → World → Prop} (d : Option Tmp) (hd : o.dst = d) (s x : Operand) (t : TypeId)
    (ho : o.op = .call { callee := .builtin .append, args := #[s, x], argTypes := #[t, t] }) {e : TypeId} {z : Value} {by_ : Nat} (E : ElemTy P t e z by_) (base : Nat) (v : Value) (n : Nat) (xs : List Value)
    (hs : a.eval s = v) (hown : w.ownsRow base e 1 v n xs) (A : Option Addr) (m c : Nat) (news : List Value) (hx : a.eval x = .slice A m c) (hl : news.length = m) (hsl : Sl w A news) (h1 : ∀ u ∈ news, u.oneCell' = true)
    (hb : (n + m) * by_ ≤ 140737488355328) (hbase : base ≤ w.heap.size)
    (h : ∀ v' w', w'.ownsRow base e 1 v' (n + m) (xs ++ news) → w.grownBy w' v.ownBlock → (v'.ownBlock = v.ownBlock ∨ v'.ownBlock = some w.heap.size) → K (a.put d v') w') : Oper.wp P o a w K Q := by
  subst hd
  exact wp_app s x t ho E base v n xs hs hown A m c news hx hl hsl h1 hb hbase h
end
end Go.Proofs.YtihkfomldbjpoaaDoor

/- '[]byte(s)' of a string: the new row reads as the string's bytes. Nothing of the dump. -/
namespace Go.Proofs.YtihkfomldbjpoaaDoor
open Go.RowKit
section
variable {P : Program}
theorem below_bytesWorld (w : World) (e : TypeId) (s : ByteArray) : Below w.heap.size w (Lib.bytesWorld w e s) :=
  ⟨rfl, rfl, rfl, by rw [Lib.bytesWorld_size]; omega, fun k hk => Lib.bytesWorld_at_old w e s k hk⟩
theorem sl_bytesWorld (w : World) (e : TypeId) (s : ByteArray) : Sl (Lib.bytesWorld w e s) (some ⟨w.heap.size, 0, none⟩) (bcells s.data.toList) := fun _ =>
  ⟨w.heap.size, 0, rfl, fun j u hu => by
    have hj : j < s.data.toList.length := by
      have := (List.getElem?_eq_some_iff.1 hu).1
      rwa [bcells_len] at this
    rw [bcells_get _ _ hj] at hu
    rw [Nat.zero_add, Lib.bytesWorld_cell w e s j (by rw [bsize] at hj; exact hj), ← hu]
    rfl⟩
theorem wp_toBytes {o : Oper} {a : Act} {w : World} {K : Act → World → Prop} {Q : Exit → Act → World → Prop} (src dst e : TypeId) (x : Operand) (ho : o.op = .convert src dst x)
    (hs : P.underlying src = some .string) (hd : P.underlying dst = some (.slice e)) (he : P.underlying e = some (.int .u8)) (s : ByteArray) (hx : a.eval x = .string s) (hm : s.size ≤ maxLen)
    (h : ∀ A c w', Below w.heap.size w w' → Sl w' A (bcells s.data.toList) → s.size ≤ c → c ≤ maxLen → (∀ b o s, A = some ⟨b, o, s⟩ → w.heap.size ≤ b) → K (a.put o.dst (.slice A s.size c)) w') : o.wp P a w K Q := by
  have hr := Lib.run_convert_string_bytes (P := P) w src dst e s hs hd he
  unfold Oper.wp execOp
  simp only [ho, hx, Sem.run_bind, hr, Sem.run_pure, Result.andThen_ok]
  exact h _ _ _ (below_bytesWorld w e s) (sl_bytesWorld w e s) (grownCap_ge _ _ _ _) (grownCap_le_maxLen _ _ _ _ hm) (fun b o s' h' => by cases h'; exact Nat.le_refl _)
theorem wpList_toBytes {ops : Array Oper} {rest : List Oper} {o : Oper} {a : Act} {w : World} {Q : Exit → Act → World → Prop} (hgd : o.guard = none) (src dst e : TypeId) (x : Operand) (ho : o.op = .convert src dst x)
    (hs : P.underlying src = some .string) (hd : P.underlying dst = some (.slice e)) (he : P.underlying e = some (.int .u8)) (s : ByteArray) (hx : a.eval x = .string s) (hm : s.size ≤ maxLen)
    (h : ∀ A c w', Below w.heap.size w w' → Sl w' A (bcells s.data.toList) → s.size ≤ c → c ≤ maxLen → (∀ b o s, A = some ⟨b, o, s⟩ → w.heap.size ≤ b) → wpList P ops Q rest (a.put o.dst (.slice A s.size c)) w') : wpList P ops Q (o :: rest) a w :=
  wpList_plain hgd fun _ hK => wp_toBytes src dst e x ho hs hd he s hx hm fun A c w' h1 h2 h3 h4 h5 => hK _ _ (h A c w' h1 h2 h3 h4 h5)
end
end Go.Proofs.YtihkfomldbjpoaaDoor

/- seal: NodeBytes. -/
namespace Go.Proofs.YtihkfomldbjpoaaDoor.SealW
open Go.RowKit
set_option maxHeartbeats 1000000 in
theorem nodeBytes_any (l r : ByteArray) (w : World) (h1 : l.size ≤ 1099511627776) (h2 : r.size ≤ 1099511627776) :
    Calls Tryd.prog 72 #[.string l, .string r] w fun e w' => ∃ A' c', e = .returned (.slice A' (l.size + r.size + 1) c') ∧ Sl w' A' (bcells (1 :: (l.data.toList ++ r.data.toList))) ∧ l.size + r.size + 1 ≤ c' ∧ c' ≤ maxLen ∧ Below w.heap.size w w' := by
  have HL : Hid (l.data.toList.length = l.size) := bsize l
  have HR : Hid (r.data.toList.length = r.size) := bsize r
  have HF : Hid ((1 :: [l.data.toList, r.data.toList].flatten).length = l.size + r.size + 1) := by show _ = _; simp
  have HM : Hid (([l.data.toList, r.data.toList] : List (List UInt8)).flatten.length = l.size + r.size) := by show _ = _; simp
  go_enter Tryd.func72, Tryd.ntmps72
  go_wp2_with (first
    | (refine wpList_toBytes rfl 9 23 5 (.tmp 5) rfl underStr underBytes underU8 l rfl (by unfold maxLen; omega) ?_; intro A1 c1 w1 b1 s1 k1 m1 a1)
    | (refine wpList_toBytes rfl 9 23 5 (.tmp 7) rfl underStr underBytes underU8 r rfl (by unfold maxLen; omega) ?_; intro A2 c2 w2 b2 s2 k2 m2 a2))
  have h0 : Below w2.heap.size w2 (w2.alloc (.cells #[.slice A1 l.size c1, .slice A2 r.size c2] 23)) := (Below.refl _ _).alloc (Nat.le_refl _) _
  have hs : Sl (w2.alloc (.cells #[.slice A1 l.size c1, .slice A2 r.size c2] 23)) (some ⟨w2.heap.size, 0, none⟩) [.slice A1 l.size c1, .slice A2 r.size c2] := Sl.of_at_all (At.new_ w2 _ 23 [.slice A1 l.size c1, .slice A2 r.size c2] rfl)
  refine (marked_any 1 (some ⟨w2.heap.size, 0, none⟩) 2 2 [.slice A1 l.size c1, .slice A2 r.size c2] [l.data.toList, r.data.toList] _ rfl rfl hs (Parts.two HL.out ((s1.below b2).below h0) HR.out (s2.below h0)) (by omega) (by rw [HM.out]; omega)).mono ?_
  rintro e w3 ⟨A', c', rfl, hs1, hc1, hm1, hb1⟩
  rw [HF.out] at hc1 ⊢
  have q2 := b1.trans (b2.mono b1.size)
  have q3 := q2.trans (h0.mono q2.size)
  have hbel := q3.trans (hb1.mono q3.size)
  go_wp2_with fail
  go_ret
  exact ⟨A', c', rfl, by simpa using hs1, hc1, hm1, hbel⟩
end Go.Proofs.YtihkfomldbjpoaaDoor.SealW

/- Plain mathematics of SHA-256 on UInt32 and lists of bytes; nothing of the dump. -/
namespace Go.Proofs.YtihkfomldbjpoaaDoor
namespace Sha
def rotr (x : UInt32) (n : Nat) : UInt32 := UInt32.ofNat (x.toNat >>> n ||| (x.toNat <<< (32 - n)) % 4294967296)
theorem u32_lt (x : UInt32) : x.toNat < 4294967296 := x.toNat_lt
theorem un_lt (x : UInt32) : un x < 4294967296 := by have := u32_lt x; unfold un; omega
theorem un_nn (x : UInt32) : 0 ≤ un x := Int.natCast_nonneg _
theorem xor_u (x y : UInt32) : bits .xor .u32 (un x) (un y) = un (x ^^^ y) := by
  unfold un; rw [u32_xor_nat _ _ (u32_lt x) (u32_lt y), UInt32.toNat_xor]
theorem and_u (x y : UInt32) : bits .and .u32 (un x) (un y) = un (x &&& y) := by
  unfold un; rw [u32_and_nat _ _ (u32_lt x) (u32_lt y), UInt32.toNat_and]
theorem or_u (x y : UInt32) : bits .or .u32 (un x) (un y) = un (x ||| y) := by
  unfold un; rw [u32_or_nat _ _ (u32_lt x) (u32_lt y), UInt32.toNat_or]
theorem add_u (x y : UInt32) : IntKind.u32.wrap (un x + un y) = un (x + y) := by
  unfold un; rw [IntKind.wrap_u32, UInt32.toNat_add]; omega
theorem add_u' (x y : UInt32) : (un x + un y) % 4294967296 = un (x + y) := by
  unfold un; rw [UInt32.toNat_add]; omega
theorem rotr_toNat (x : UInt32) (n : Nat) : (rotr x n).toNat = x.toNat >>> n ||| (x.toNat <<< (32 - n)) % 4294967296 := by
  unfold rotr
  rw [UInt32.toNat_ofNat']
  apply Nat.mod_eq_of_lt
  apply Nat.or_lt_two_pow
  · exact Nat.lt_of_le_of_lt (by rw [Nat.shiftRight_eq_div_pow]; exact Nat.div_le_self _ _) (u32_lt x)
  · omega
theorem rotr_int (x : UInt32) (n : Nat) : bits .or .u32 (un x * 2 ^ (32 - n) % 4294967296) (un x / 2 ^ n) = un (rotr x n) := by
  unfold un
  have hx := u32_lt x
  have e1 : ((x.toNat : Int) * 2 ^ (32 - n) % 4294967296) = (((x.toNat <<< (32 - n)) % 4294967296 : Nat) : Int) := by
    rw [Nat.shiftLeft_eq]; simp
  have e2 : ((x.toNat : Int) / 2 ^ n) = ((x.toNat >>> n : Nat) : Int) := by
    rw [Nat.shiftRight_eq_div_pow]; simp
  rw [e1, e2, u32_or_nat _ _ (by omega) (Nat.lt_of_le_of_lt (by rw [Nat.shiftRight_eq_div_pow]; exact Nat.div_le_self _ _) hx), rotr_toNat, Nat.or_comm]
theorem rot_mask (n : Nat) (h : 0 < n) (h' : n < 32) : bits .and .u64 (IntKind.u64.wrap (-(n : Int))) 31 = 32 - (n : Int) := by
  have e : IntKind.u64.wrap (-(n : Int)) = ((18446744073709551616 - n : Nat) : Int) := by
    simp only [IntKind.wrap, IntKind.bits, IntKind.signed]
    simp
    omega
  have := u64_and_nat (18446744073709551616 - n) 31 (by omega) (by omega)
  rw [e]
  refine this.trans ?_
  rw [nat_mask5]
  omega
def bsig0 (x : UInt32) : UInt32 := rotr x 2 ^^^ rotr x 13 ^^^ rotr x 22
def bsig1 (x : UInt32) : UInt32 := rotr x 6 ^^^ rotr x 11 ^^^ rotr x 25
def ssig0 (x : UInt32) : UInt32 := rotr x 7 ^^^ rotr x 18 ^^^ (x >>> 3)
def ssig1 (x : UInt32) : UInt32 := rotr x 17 ^^^ rotr x 19 ^^^ (x >>> 10)
theorem shr_u (x : UInt32) (k : Nat) (h : k < 32) : un x / 2 ^ k = un (x >>> (UInt32.ofNat k)) := by
  unfold un
  rw [UInt32.toNat_shiftRight, UInt32.toNat_ofNat', Nat.shiftRight_eq_div_pow]
  rw [show k % 2 ^ 32 % 32 = k by omega]
  simp

def be32 (a b c d : UInt8) : UInt32 := a.toUInt32 <<< 24 ||| b.toUInt32 <<< 16 ||| c.toUInt32 <<< 8 ||| d.toUInt32
def word (bs : List UInt8) (i : Nat) : UInt32 := be32 (bs.getD (4 * i) 0) (bs.getD (4 * i + 1) 0) (bs.getD (4 * i + 2) 0) (bs.getD (4 * i + 3) 0)
/-- The first n words of a block. -/
def words (bs : List UInt8) : Nat → List UInt32
  | 0 => []
  | n + 1 => words bs n ++ [word bs n]
/-- The schedule: n further words. -/
def ext (l : List UInt32) : UInt32 := l.getD (l.length - 16) 0 + ssig0 (l.getD (l.length - 15) 0) + l.getD (l.length - 7) 0 + ssig1 (l.getD (l.length - 2) 0)
def sched (bs : List UInt8) : Nat → List UInt32
  | 0 => words bs 16
  | n + 1 => sched bs n ++ [ext (sched bs n)]
theorem words_len (bs : List UInt8) (n : Nat) : (words bs n).length = n := by
  induction n with
  | zero => rfl
  | succ n ih => simp [words, ih]
theorem sched_len (bs : List UInt8) (n : Nat) : (sched bs n).length = 16 + n := by
  induction n with
  | zero => simp [sched, words_len]
  | succ n ih => simp [sched, ih]; omega
/-- A row of words of which the first are known, the rest 0. -/
def filled (l : List UInt32) : List UInt32 := l ++ List.replicate (64 - l.length) 0
theorem filled_len (l : List UInt32) (h : l.length ≤ 64) : (filled l).length = 64 := by simp [filled]; omega
theorem filled_set (l : List UInt32) (x : UInt32) (h : l.length < 64) : (filled l).set l.length x = filled (l ++ [x]) := by
  unfold filled
  rw [List.set_append_right _ _ (Nat.le_refl _), Nat.sub_self, show 64 - l.length = (63 - l.length) + 1 by omega, List.replicate_succ, List.set_cons_zero]
  simp
theorem filled_get (l : List UInt32) (i : Nat) (h : i < l.length) : (filled l).getD i 0 = l.getD i 0 := by
  unfold filled
  simp [List.getElem?_append_left h]
theorem filled_full (l : List UInt32) (h : l.length = 64) : filled l = l := by simp [filled, h]
theorem u8_shl (a : UInt8) (k : Nat) (hk : k ≤ 24) : (a.toUInt32 <<< (UInt32.ofNat k)).toNat = a.toNat * 2 ^ k := by
  have := a.toNat_lt
  have hp : 2 ^ k ≤ 2 ^ 24 := Nat.pow_le_pow_right (by omega) hk
  rw [UInt32.toNat_shiftLeft, UInt32.toNat_ofNat', UInt8.toNat_toUInt32, Nat.shiftLeft_eq, show k % 2 ^ 32 % 32 = k by omega]
  apply Nat.mod_eq_of_lt
  calc a.toNat * 2 ^ k < 256 * 2 ^ k := Nat.mul_lt_mul_of_pos_right (by omega) (Nat.two_pow_pos _)
    _ ≤ 256 * 2 ^ 24 := Nat.mul_le_mul_left _ hp
    _ = 2 ^ 32 := by decide

theorem be32_int (a b c d : UInt8) : bits .or .u32 (bits .or .u32 (bits .or .u32 (ub a % 4294967296 * 16777216 % 4294967296) (ub b % 4294967296 * 65536 % 4294967296)) (ub c % 4294967296 * 256 % 4294967296)) (ub d % 4294967296) = un (be32 a b c d) := by
  have ha := a.toNat_lt
  have hb := b.toNat_lt
  have hc := c.toNat_lt
  have hd := d.toNat_lt
  have e1 : ub a % (4294967296 : Int) * (16777216 : Int) % (4294967296 : Int) = un (a.toUInt32 <<< 24) := by
    have := u8_shl a 24 (by omega); unfold ub un; rw [show (24 : UInt32) = UInt32.ofNat 24 from rfl, this]; omega
  have e2 : ub b % (4294967296 : Int) * (65536 : Int) % (4294967296 : Int) = un (b.toUInt32 <<< 16) := by
    have := u8_shl b 16 (by omega); unfold ub un; rw [show (16 : UInt32) = UInt32.ofNat 16 from rfl, this]; omega
  have e3 : ub c % (4294967296 : Int) * (256 : Int) % (4294967296 : Int) = un (c.toUInt32 <<< 8) := by
    have := u8_shl c 8 (by omega); unfold ub un; rw [show (8 : UInt32) = UInt32.ofNat 8 from rfl, this]; omega
  have e4 : ub d % 4294967296 = un d.toUInt32 := by unfold ub un; rw [UInt8.toNat_toUInt32]; omega
  rw [e1, e2, e3, e4, or_u, or_u, or_u]; rfl

theorem shr3 (x : UInt32) : un x / 8 = un (x >>> 3) := shr_u x 3 (by omega)
theorem shr10 (x : UInt32) : un x / 1024 = un (x >>> 10) := shr_u x 10 (by omega)

theorem sh3 (x : UInt32) : Op.shift .shr .u32 (un x) .u64 3 = pure (.int .u32 (un (x >>> 3))) := by
  rw [shift_shr_any _ _ _ _ (by omega)]; exact congrArg (fun n => pure (Value.int .u32 n)) (shr3 x)
theorem sh10 (x : UInt32) : Op.shift .shr .u32 (un x) .u64 10 = pure (.int .u32 (un (x >>> 10))) := by
  rw [shift_shr_any _ _ _ _ (by omega)]; exact congrArg (fun n => pure (Value.int .u32 n)) (shr10 x)

def K : List UInt32 := [1116352408, 1899447441, 3049323471, 3921009573, 961987163, 1508970993, 2453635748, 2870763221, 3624381080, 310598401, 607225278, 1426881987, 1925078388, 2162078206, 2614888103, 3248222580, 3835390401, 4022224774, 264347078, 604807628, 770255983, 1249150122, 1555081692, 1996064986, 2554220882, 2821834349, 2952996808, 3210313671, 3336571891, 3584528711, 113926993, 338241895, 666307205, 773529912, 1294757372, 1396182291, 1695183700, 1986661051, 2177026350, 2456956037, 2730485921, 2820302411, 3259730800, 3345764771, 3516065817, 3600352804, 4094571909, 275423344, 430227734, 506948616, 659060556, 883997877, 958139571, 1322822218, 1537002063, 1747873779, 1955562222, 2024104815, 2227730452, 2361852424, 2428436474, 2756734187, 3204031479, 3329325298]
/-- The eight words, by name. -/
structure St where
  a : UInt32
  b : UInt32
  c : UInt32
  d : UInt32
  e : UInt32
  f : UInt32
  g : UInt32
  h : UInt32
def St.ofL (l : List UInt32) : St := ⟨l.getD 0 0, l.getD 1 0, l.getD 2 0, l.getD 3 0, l.getD 4 0, l.getD 5 0, l.getD 6 0, l.getD 7 0⟩
def St.toL (s : St) : List UInt32 := [s.a, s.b, s.c, s.d, s.e, s.f, s.g, s.h]
def ch (e f g : UInt32) : UInt32 := (e &&& f) ^^^ (~~~e &&& g)
def maj (a b c : UInt32) : UInt32 := (a &&& b) ^^^ (a &&& c) ^^^ (b &&& c)
def t1 (s : St) (k w : UInt32) : UInt32 := s.h + bsig1 s.e + ch s.e s.f s.g + k + w
def t2 (s : St) : UInt32 := bsig0 s.a + maj s.a s.b s.c
def rstep (s : St) (k w : UInt32) : St := ⟨t1 s k w + t2 s, s.a, s.b, s.c, s.d + t1 s k w, s.e, s.f, s.g⟩
def rounds (ws : List UInt32) (s : St) : Nat → St
  | 0 => s
  | n + 1 => rstep (rounds ws s n) (K.getD n 0) (ws.getD n 0)
def addSt (x y : St) : St := ⟨x.a + y.a, x.b + y.b, x.c + y.c, x.d + y.d, x.e + y.e, x.f + y.f, x.g + y.g, x.h + y.h⟩
def compress (s : St) (bs : List UInt8) : St := addSt s (rounds (sched bs 48) s 64)
theorem K_len : K.length = 64 := by decide
theorem not_u (x : UInt32) : bits .xor .u32 4294967295 (un x) = un (~~~x) := by
  have e : (4294967295 : Int) = un 4294967295 := rfl
  rw [e, xor_u]
  congr 1

theorem not_u' (x : UInt32) : bits .xor .u32 IntKind.u32.max (un x) = un (~~~x) := not_u x
theorem u32_uns : IntKind.u32.signed = false := rfl

/-- The bytes of a word, most significant first. -/
def byteOf (x : UInt32) (k : Nat) : UInt8 := UInt8.ofNat (x.toNat / 2 ^ k)
def be (x : UInt32) : List UInt8 := [byteOf x 24, byteOf x 16, byteOf x 8, byteOf x 0]
def textB (l : List UInt32) : List UInt8 := l.flatMap be
theorem byte_int (x : UInt32) (k : Nat) : ub (byteOf x k) = un x / 2 ^ k % 256 := by
  unfold ub byteOf un
  rw [UInt8.toNat_ofNat']
  simp
theorem textB_len (l : List UInt32) : (textB l).length = 4 * l.length := by
  induction l with
  | nil => rfl
  | cons x l ih => simp [textB, be] at ih ⊢; omega
theorem textB_snoc (l : List UInt32) (k : Nat) (h : k < l.length) : textB (l.take (k + 1)) = textB (l.take k) ++ be (l.getD k 0) := by
  unfold textB
  rw [List.take_succ_eq_append_getElem h, List.flatMap_append]
  simp [h]

theorem be_cells (x : UInt32) : bcells (be x) = [.int .u8 (un x / 16777216 % 256), .int .u8 (un x / 65536 % 256), .int .u8 (un x / 256 % 256), .int .u8 (un x % 256)] := by
  simp [bcells, be, bv, byte_int]

/-- The cells of a State. -/
def stc (s : St) (r : Value) (n : Int) : List Value := wcells s.toL ++ [r, .int .i64 n]
def iv : St := ⟨1779033703, 3144134277, 1013904242, 2773480762, 1359893119, 2600822924, 528734635, 1541459225⟩
theorem stc_len (s : St) (r : Value) (n : Int) : (stc s r n).length = 10 := rfl
theorem stc_one (s : St) (A : Option Addr) (m c : Nat) (n : Int) : ∀ v ∈ stc s (.slice A m c) n, v.oneCell' = true := by
  intro v hv
  simp only [stc, List.mem_append, List.mem_cons, List.not_mem_nil, or_false] at hv
  rcases hv with hv | rfl | rfl
  · exact wcells_one _ v hv
  · rfl
  · rfl

/-- The words behind all whole blocks, and the bytes that are left. -/
def absorbN : Nat → St → List UInt8 → St × List UInt8
  | 0, s, l => (s, l)
  | n + 1, s, l => if l.length < 64 then (s, l) else absorbN n (compress s (l.take 64)) (l.drop 64)
def absorb (s : St) (l : List UInt8) : St × List UInt8 := absorbN l.length s l
theorem absorbN_fuel : ∀ (n m : Nat) (s : St) (l : List UInt8), l.length ≤ n → l.length ≤ m → absorbN n s l = absorbN m s l
  | 0, 0, _, _, _, _ => rfl
  | 0, m + 1, s, l, h, _ => by
    show (s, l) = if l.length < 64 then _ else _
    rw [if_pos (by omega)]
  | n + 1, 0, s, l, _, h => by
    show (if l.length < 64 then _ else _) = (s, l)
    rw [if_pos (by omega)]
  | n + 1, m + 1, s, l, h1, h2 => by
    show (if l.length < 64 then _ else _) = (if l.length < 64 then _ else _)
    split
    · rfl
    · exact absorbN_fuel n m _ _ (by simp; omega) (by simp; omega)
theorem absorb_short (s : St) (l : List UInt8) (h : l.length < 64) : absorb s l = (s, l) := by
  unfold absorb
  cases hl : l.length with
  | zero => rfl
  | succ n => exact if_pos h
theorem absorb_long (s : St) (l : List UInt8) (h : 64 ≤ l.length) : absorb s l = absorb (compress s (l.take 64)) (l.drop 64) := by
  unfold absorb
  obtain ⟨n, hn⟩ : ∃ n, l.length = n + 1 := ⟨l.length - 1, by omega⟩
  rw [hn]
  show (if l.length < 64 then _ else _) = _
  rw [if_neg (by omega)]
  exact absorbN_fuel _ _ _ _ (by simp; omega) (by simp)
theorem absorbN_len : ∀ (n : Nat) (s : St) (l : List UInt8), l.length ≤ n → (absorbN n s l).2.length = l.length % 64
  | 0, s, l, h => by simp only [absorbN]; omega
  | n + 1, s, l, h => by
    show (if l.length < 64 then _ else _ : St × List UInt8).2.length = _
    split
    · simp only []; omega
    · rw [absorbN_len n _ _ (by simp; omega)]; simp; omega
theorem absorb_len (s : St) (l : List UInt8) : (absorb s l).2.length = l.length % 64 := absorbN_len _ _ _ (Nat.le_refl _)
/-- What was absorbed may be left out. -/
theorem absorbN_app : ∀ (n : Nat) (s : St) (l m : List UInt8), l.length ≤ n → absorb s (l ++ m) = absorb (absorbN n s l).1 ((absorbN n s l).2 ++ m)
  | 0, s, l, m, _ => rfl
  | n + 1, s, l, m, h => by
    have e : absorbN (n + 1) s l = if l.length < 64 then (s, l) else absorbN n (compress s (l.take 64)) (l.drop 64) := rfl
    by_cases h1 : l.length < 64
    · rw [e, if_pos h1]
    · rw [e, if_neg h1, absorb_long _ (l ++ m) (by simp; omega), List.take_append_of_le_length (by omega), List.drop_append_of_le_length (by omega)]
      exact absorbN_app n _ _ m (by simp; omega)
theorem absorb_app (s : St) (l m : List UInt8) : absorb s (l ++ m) = absorb (absorb s l).1 ((absorb s l).2 ++ m) := absorbN_app _ s l m (Nat.le_refl _)

theorem absorb_round (s : St) (x l : List UInt8) (f : Nat) (hx : x.length = f) (hf : f < 64) (h : 64 ≤ f + l.length) :
    absorb s (x ++ l) = absorb (compress s (x ++ l.take (64 - f))) (l.drop (64 - f)) := by
  rw [absorb_long _ _ (by simp; omega), List.take_append, List.drop_append, List.take_of_length_le (by omega), List.drop_of_length_le (by omega), hx]
  rfl

/-- The number of bits, in eight bytes; and what is put behind the bytes that are left. -/
def lenB (N : Nat) (k : Nat) : List UInt8 := (List.range k).map fun j => UInt8.ofNat (8 * N / 2 ^ (56 - 8 * j))
def zeros (n : Nat) : List UInt8 := List.replicate n 0
def finish (s : St) (r : List UInt8) (N : Nat) : St :=
  if 56 ≤ r.length then compress (compress s (r ++ 128 :: zeros (63 - r.length))) (zeros 56 ++ lenB N 8)
  else compress s (r ++ 128 :: zeros (55 - r.length) ++ lenB N 8)
def digestSt (s : St) (r : List UInt8) (N : Nat) : List UInt8 := textB (finish s r N).toL
/-- The digest of bytes. -/
def sha (l : List UInt8) : List UInt8 := digestSt (absorb iv l).1 (absorb iv l).2 l.length
theorem lenB_len (N k : Nat) : (lenB N k).length = k := by simp [lenB]
theorem lenB_succ (N k : Nat) : lenB N (k + 1) = lenB N k ++ [UInt8.ofNat (8 * N / 2 ^ (56 - 8 * k))] := by
  simp [lenB, List.range_succ]
theorem zeros_len (n : Nat) : (zeros n).length = n := by simp [zeros]
/-- A block whose length is written in, byte by byte. -/
def lenBlk (pre : List UInt8) (N k : Nat) : List UInt8 := pre ++ lenB N k ++ zeros (8 - k)
theorem lenBlk_len (pre : List UInt8) (N k : Nat) (h : pre.length = 56) (hk : k ≤ 8) : (lenBlk pre N k).length = 64 := by
  simp [lenBlk, lenB_len, zeros_len, h]; omega
theorem lenBlk_set (pre : List UInt8) (N k : Nat) (h : pre.length = 56) (hk : k < 8) : (lenBlk pre N k).set (56 + k) (UInt8.ofNat (8 * N / 2 ^ (56 - 8 * k))) = lenBlk pre N (k + 1) := by
  unfold lenBlk
  rw [List.set_append_right _ _ (by simp [lenB_len, h]), lenB_succ, zeros, zeros, show 8 - k = (8 - (k + 1)) + 1 by omega, List.replicate_succ]
  simp [lenB_len, h]

theorem mark_set (r : List UInt8) (m : Nat) (h : r.length = m) (hm : m < 64) : (r ++ zeros (64 - m)).set m 128 = r ++ 128 :: zeros (63 - m) := by
  rw [List.set_append_right _ _ (by omega), h, Nat.sub_self, zeros, zeros, show 64 - m = (63 - m) + 1 by omega, List.replicate_succ]
  rfl
theorem mark_blk (r : List UInt8) (m N : Nat) (h : r.length = m) (hm : m < 56) : r ++ 128 :: zeros (63 - m) = lenBlk (r ++ 128 :: zeros (55 - m)) N 0 := by
  unfold lenBlk lenB zeros
  rw [show 63 - m = (55 - m) + 8 by omega, ← List.replicate_append_replicate]
  simp
theorem zeros_blk (N : Nat) : zeros 64 = lenBlk (zeros 56) N 0 := by
  unfold lenBlk lenB zeros; rfl
theorem lenBlk_full (pre : List UInt8) (N : Nat) : lenBlk pre N 8 = pre ++ lenB N 8 := by
  simp [lenBlk, zeros]

/-- Hexadecimal digits. -/
def hexC (n : Nat) : UInt8 := if n < 10 then UInt8.ofNat (48 + n) else UInt8.ofNat (87 + n)
def hexL (l : List UInt8) : List UInt8 := l.flatMap fun b => [hexC (b.toNat / 16), hexC (b.toNat % 16)]
theorem hexL_len (l : List UInt8) : (hexL l).length = 2 * l.length := by
  induction l with
  | nil => rfl
  | cons x l ih => simp [hexL] at ih ⊢; omega
theorem hexL_snoc (l : List UInt8) (k : Nat) (h : k < l.length) : hexL (l.take (k + 1)) = hexL (l.take k) ++ [hexC ((l.getD k 0).toNat / 16), hexC ((l.getD k 0).toNat % 16)] := by
  unfold hexL
  rw [List.take_succ_eq_append_getElem h, List.flatMap_append]
  simp [h]
/-- The value of a digit, or -1. -/
def digS (b : UInt8) : Int := if 48 ≤ b.toNat ∧ b.toNat ≤ 57 then b.toNat - 48 else if 97 ≤ b.toNat ∧ b.toNat ≤ 102 then b.toNat - 87 else -1
def hexTab : ByteArray := ⟨#[48, 49, 50, 51, 52, 53, 54, 55, 56, 57, 97, 98, 99, 100, 101, 102]⟩
theorem tab_get (n : Nat) (h : n < 16) : hexTab[n]? = some (hexC n) := by
  have : ∀ m : Fin 16, hexTab[m.val]? = some (hexC m.val) := by decide +kernel
  exact this ⟨n, h⟩
theorem ub_back (b : UInt8) : (ub b).toNat.toUInt8 = b := by simp [ub]
theorem dig_eq (b : UInt8) : firstIdx hexTab b = digS b := by
  have : ∀ m : Fin 256, firstIdx hexTab (UInt8.ofNat m.val) = digS (UInt8.ofNat m.val) := by decide +kernel
  have h := this ⟨b.toNat, b.toNat_lt⟩
  simpa using h

/-- The bytes of digits, two by two. -/
def pairB (a b : UInt8) : UInt8 := UInt8.ofNat (digS a * 16 + digS b).toNat
def decB (l : List UInt8) (k : Nat) : List UInt8 := (List.range k).map fun j => pairB (l.getD (2 * j) 0) (l.getD (2 * j + 1) 0)
def okHex (l : List UInt8) (k : Nat) : Prop := ∀ j, j < k → 0 ≤ digS (l.getD j 0)
def FH (l str : List UInt8) (code : Int) : Prop :=
  (l.length % 2 = 0 ∧ okHex l l.length ∧ str = decB l (l.length / 2) ∧ code = 0) ∨ (¬ (l.length % 2 = 0 ∧ okHex l l.length) ∧ str = [] ∧ code = 2)
theorem decB_len (l : List UInt8) (k : Nat) : (decB l k).length = k := by simp [decB]
theorem decB_succ (l : List UInt8) (k : Nat) : decB l (k + 1) = decB l k ++ [pairB (l.getD (2 * k) 0) (l.getD (2 * k + 1) 0)] := by
  simp [decB, List.range_succ]
theorem digS_le (b : UInt8) : digS b ≤ 15 := by unfold digS; split <;> (try split) <;> omega
theorem digS_ge (b : UInt8) : -1 ≤ digS b := by unfold digS; split <;> (try split) <;> omega
theorem pair_or (a b : UInt8) (ha : 0 ≤ digS a) (hb : 0 ≤ digS b) : bits .or .i64 (digS a * 16) (digS b) = digS a * 16 + digS b := by
  have h1 := digS_le a
  have h2 := digS_le b
  have h62 : (2 : Int) ^ 62 = 4611686018427387904 := by decide
  exact bits_join .i64 62 (by decide) (fun n h0 h => IntWalk.i64_in n (by rw [h62] at h; omega)) 4 _ _ (by omega) (by omega) (by rw [h62]; omega) hb (by omega) (by rw [h62]; omega)
theorem pair_int (a b : UInt8) (ha : 0 ≤ digS a) (hb : 0 ≤ digS b) : (digS a * 16 + digS b) % 256 = ub (pairB a b) := by
  unfold ub pairB
  rw [UInt8.toNat_ofNat']
  have h1 := digS_le a
  have h2 := digS_le b
  omega

/-- The reference's digits, with all its wraps. -/
def nibW (x c : UInt8) : UInt8 := if 97 ≤ c.toNat then x * 16 + c - 97 + 10 else x * 16 + c - 48
def accW (a b : UInt8) : Nat → UInt8
  | 0 => 0
  | 1 => nibW 0 a
  | _ => nibW (nibW 0 a) b
def refDec (l : List UInt8) (k : Nat) : List UInt8 := (List.range k).map fun j => accW (l.getD (2 * j) 0) (l.getD (2 * j + 1) 0) 2
theorem refDec_len (l : List UInt8) (k : Nat) : (refDec l k).length = k := by simp [refDec]
theorem refDec_succ (l : List UInt8) (k : Nat) : refDec l (k + 1) = refDec l k ++ [accW (l.getD (2 * k) 0) (l.getD (2 * k + 1) 0) 2] := by
  simp [refDec, List.range_succ]
theorem nib_hi (x c : UInt8) (h : 97 ≤ ub c) : ub (nibW x c) = ((ub x * 16 % 256 + ub c) % 256 - 97) % 256 % 256 + 10 - 256 * (((((ub x * 16 % 256 + ub c) % 256 - 97) % 256) + 10) / 256) := by
  unfold ub at *
  unfold nibW
  rw [if_pos (by omega), UInt8.toNat_add, UInt8.toNat_sub, UInt8.toNat_add, UInt8.toNat_mul]
  have e1 : (16 : UInt8).toNat = 16 := rfl
  have e2 : (97 : UInt8).toNat = 97 := rfl
  have e3 : (10 : UInt8).toNat = 10 := rfl
  rw [e1, e2, e3]
  omega
theorem nib_hi' (x c : UInt8) (h : 97 ≤ ub c) : ub (nibW x c) = ((ub x * 16 + ub c) - 97 + 10) % 256 := by
  rw [nib_hi x c h]; omega
theorem nib_lo' (x c : UInt8) (h : ub c < 97) : ub (nibW x c) = ((ub x * 16 + ub c) - 48) % 256 := by
  unfold ub at *
  unfold nibW
  rw [if_neg (by omega), UInt8.toNat_sub, UInt8.toNat_add, UInt8.toNat_mul]
  have e1 : (16 : UInt8).toNat = 16 := rfl
  have e2 : (48 : UInt8).toNat = 48 := rfl
  rw [e1, e2]
  omega
/-- A digit's character comes back. -/
theorem dig_back (a : UInt8) (h : 0 ≤ digS a) : hexC (digS a).toNat = a := by
  have : ∀ m : Fin 256, 0 ≤ digS (UInt8.ofNat m.val) → hexC (digS (UInt8.ofNat m.val)).toNat = UInt8.ofNat m.val := by decide +kernel
  have h2 := this ⟨a.toNat, a.toNat_lt⟩
  simp only [UInt8.ofNat_toNat] at h2
  exact h2 h
theorem dig_hexC (n : Nat) (h : n < 16) : digS (hexC n) = n := by
  have : ∀ m : Fin 16, digS (hexC m.val) = (m.val : Int) := by decide +kernel
  exact this ⟨n, h⟩
theorem nib_dig (a b : UInt8) (ha : 0 ≤ digS a) (hb : 0 ≤ digS b) : accW a b 2 = pairB a b := by
  have k1 : ∀ m : Fin 256, 0 ≤ digS (UInt8.ofNat m.val) → nibW 0 (UInt8.ofNat m.val) = UInt8.ofNat (digS (UInt8.ofNat m.val)).toNat := by decide +kernel
  have k2 : ∀ n : Fin 16, ∀ m : Fin 256, 0 ≤ digS (UInt8.ofNat m.val) → nibW (UInt8.ofNat n.val) (UInt8.ofNat m.val) = UInt8.ofNat ((n.val : Int) * 16 + digS (UInt8.ofNat m.val)).toNat := by decide +kernel
  have h1 := k1 ⟨a.toNat, a.toNat_lt⟩
  simp only [UInt8.ofNat_toNat] at h1
  have hn : (digS a).toNat < 16 := by have := digS_le a; omega
  have h2 := k2 ⟨(digS a).toNat, hn⟩ ⟨b.toNat, b.toNat_lt⟩
  simp only [UInt8.ofNat_toNat] at h2
  show nibW (nibW 0 a) b = _
  rw [h1 ha, h2 hb]
  unfold pairB
  rw [Int.toNat_of_nonneg ha]
theorem pair_hi (a b : UInt8) (ha : 0 ≤ digS a) (hb : 0 ≤ digS b) : hexC ((pairB a b).toNat / 16) = a ∧ hexC ((pairB a b).toNat % 16) = b := by
  have h1 := digS_le a
  have h2 := digS_le b
  have e : (pairB a b).toNat = (digS a).toNat * 16 + (digS b).toNat := by
    unfold pairB; rw [UInt8.toNat_ofNat']; omega
  rw [e, show ((digS a).toNat * 16 + (digS b).toNat) / 16 = (digS a).toNat by omega, show ((digS a).toNat * 16 + (digS b).toNat) % 16 = (digS b).toNat by omega]
  exact ⟨dig_back a ha, dig_back b hb⟩
theorem hexL_get (l : List UInt8) (j : Nat) (h : j < 2 * l.length) : (hexL l).getD j 0 = if j % 2 = 0 then hexC ((l.getD (j / 2) 0).toNat / 16) else hexC ((l.getD (j / 2) 0).toNat % 16) := by
  induction l generalizing j with
  | nil => simp at h
  | cons x l ih =>
    have e : hexL (x :: l) = hexC (x.toNat / 16) :: hexC (x.toNat % 16) :: hexL l := rfl
    rw [e]
    match j with
    | 0 => simp
    | 1 => simp
    | j + 2 =>
      have := ih j (by simp at h; omega)
      simp only [List.getD_cons_succ]
      rw [this, show (j + 2) % 2 = j % 2 by omega, show (j + 2) / 2 = j / 2 + 1 by omega, List.getD_cons_succ]
theorem ext_getD {l m : List UInt8} (h : l.length = m.length) (hg : ∀ j, j < l.length → l.getD j 0 = m.getD j 0) : l = m := by
  apply List.ext_getElem h
  intro j h1 h2
  have := hg j h1
  simpa [h1, h2] using this
theorem decB_get (l : List UInt8) (k j : Nat) (h : j < k) : (decB l k).getD j 0 = pairB (l.getD (2 * j) 0) (l.getD (2 * j + 1) 0) := by
  simp [decB, h]
/-- What was written is read, and what is read was written so. -/
theorem hex_dec (l : List UInt8) (he : l.length % 2 = 0) (hok : okHex l l.length) : hexL (decB l (l.length / 2)) = l := by
  apply ext_getD
  · rw [hexL_len, decB_len]; omega
  · intro j hj
    rw [hexL_len, decB_len] at hj
    rw [hexL_get _ _ (by rw [decB_len]; exact hj), decB_get _ _ _ (by omega)]
    have hp := pair_hi (l.getD (2 * (j / 2)) 0) (l.getD (2 * (j / 2) + 1) 0) (hok _ (by omega)) (hok _ (by omega))
    split
    · rw [hp.1, show 2 * (j / 2) = j by omega]
    · rw [hp.2, show 2 * (j / 2) + 1 = j by omega]
theorem ok_hex (b : List UInt8) : okHex (hexL b) (hexL b).length := by
  intro j hj
  rw [hexL_len] at hj
  rw [hexL_get _ _ hj]
  split
  · rw [dig_hexC _ (by have := (b.getD (j / 2) 0).toNat_lt; omega)]; omega
  · rw [dig_hexC _ (by omega)]; omega
theorem dec_hex (b : List UInt8) : decB (hexL b) ((hexL b).length / 2) = b := by
  rw [hexL_len, show 2 * b.length / 2 = b.length by omega]
  apply ext_getD (decB_len _ _)
  intro j hj
  rw [decB_len] at hj
  rw [decB_get _ _ _ hj, hexL_get _ _ (by omega), hexL_get _ _ (by omega), if_pos (by omega), if_neg (by omega), show 2 * j / 2 = j by omega, show (2 * j + 1) / 2 = j by omega]
  unfold pairB
  have h := (b.getD j 0).toNat_lt
  rw [dig_hexC _ (by omega), dig_hexC _ (by omega)]
  have e : (((b.getD j 0).toNat / 16 : Nat) : Int) * 16 + (((b.getD j 0).toNat % 16 : Nat) : Int) = ((b.getD j 0).toNat : Int) := by omega
  rw [e, Int.toNat_natCast, UInt8.ofNat_toNat]
theorem refDec_ok (l : List UInt8) (hok : okHex l l.length) (he : l.length % 2 = 0) : refDec l (l.length / 2) = decB l (l.length / 2) := by
  unfold refDec decB
  apply List.map_congr_left
  intro j hj
  rw [List.mem_range] at hj
  exact nib_dig _ _ (hok _ (by omega)) (hok _ (by omega))
end Sha
end Go.Proofs.YtihkfomldbjpoaaDoor

namespace Go.Proofs.YtihkfomldbjpoaaDoor.ShaW
open Go.RowKit
open Sha
theorem ret_int {k : IntKind} {a b : Int} (h : a = b) : Ending.returned (.int k a) = .returned (.int k b) := by rw [h]
set_option maxHeartbeats 400000 in
theorem rotl_any (x : UInt32) (n : Nat) (w : World) (h : 0 < n) (h' : n < 32) :
    Calls Tryd.prog 113 #[.int .u32 (un x), .int .i64 (-(n : Int))] w fun e w' => e = .returned (.int .u32 (un (rotr x n))) ∧ w = w' := by
  have e1 := rot_mask n h h'
  have e2 : IntKind.u64.wrap (32 - (32 - (n : Int))) = (n : Int) := by
    rw [IntWalk.u64_in] <;> omega
  have e3 : 0 ≤ (32 - (n : Int)) := by omega
  have e4 : 0 ≤ (n : Int) := by omega
  have hx := un_lt x
  have hx' := un_nn x
  go_enter Tryd.func113, Tryd.ntmps113
  go_wp2
  go_ret
  exact ⟨ret_int (rotr_int x n), rfl⟩
attribute [local go_sem] xor_u and_u or_u add_u add_u'
set_option maxHeartbeats 400000 in
theorem turned_any (x : UInt32) (i j k : Nat) (w : World) (hi : 0 < i) (hi' : i < 32) (hj : 0 < j) (hj' : j < 32) (hk : 0 < k) (hk' : k < 32) :
    Calls Tryd.prog 111 #[.int .u32 (un x), .int .i64 i, .int .i64 j, .int .i64 k] w fun e w' => e = .returned (.int .u32 (un (rotr x i ^^^ rotr x j ^^^ rotr x k))) ∧ w = w' := by
  go_enter Tryd.func111, Tryd.ntmps111
  go_wp2_with fail
  refine (rotl_any _ _ _ hi hi').mono ?_
  rintro e w' ⟨rfl, rfl⟩
  go_wp2_with fail
  refine (rotl_any _ _ _ hj hj').mono ?_
  rintro e w' ⟨rfl, rfl⟩
  go_wp2_with fail
  refine (rotl_any _ _ _ hk hk').mono ?_
  rintro e w' ⟨rfl, rfl⟩
  go_wp2_with fail
  go_ret
  exact ⟨rfl, rfl⟩
theorem turned_q (x : UInt32) (i j k : Nat) (w : World) (hi : 0 < i ∧ i < 32) (hj : 0 < j ∧ j < 32) (hk : 0 < k ∧ k < 32) :
    Calls Tryd.prog 111 #[.int .u32 (un x), .int .i64 i, .int .i64 j, .int .i64 k] w fun e w' => e = .returned (.int .u32 (un (rotr x i ^^^ rotr x j ^^^ rotr x k))) ∧ w' = w :=
  (turned_any x i j k w hi.1 hi.2 hj.1 hj.2 hk.1 hk.2).mono fun _ _ ⟨h, h'⟩ => ⟨h, h'.symm⟩
end Go.Proofs.YtihkfomldbjpoaaDoor.ShaW

namespace Go.Proofs.YtihkfomldbjpoaaDoor.ShaW
open Go.RowKit
open Sha
theorem under57 : Tryd.prog.underlying 125 = some (.array 64 100) := by kernel_rfl
theorem info57 : (Tryd.prog.info? 125).map (·.size) = some 64 := by kernel_rfl
theorem xor_s3 (x y : UInt32) : bits .xor .u32 (un x) (un y / (8 : Int)) = un (x ^^^ (y >>> 3)) := by rw [show un y / (8 : Int) = un (y >>> 3) from shr3 y, xor_u]
theorem xor_s10 (x y : UInt32) : bits .xor .u32 (un x) (un y / (1024 : Int)) = un (x ^^^ (y >>> 10)) := by rw [show un y / (1024 : Int) = un (y >>> 10) from shr10 y, xor_u]
attribute [local go_sem] xor_u and_u or_u add_u add_u' xor_s3 xor_s10
set_option maxHeartbeats 2000000 in
theorem spread_any (bs : List UInt8) (w : World) (hl : bs.length = 64) :
    Calls Tryd.prog 110 #[.agg (bcells bs).toArray] w fun e w' => e = .returned (.agg (wcells (sched bs 48)).toArray) ∧ Below w.heap.size w w' := by
  go_enter Tryd.func110, Tryd.ntmps110
  go_wp2
  go_loopw [11] (fun i wr => ∃ k : Nat, k ≤ 16 ∧ i = .int .i64 k ∧ At wr w.heap.size 119 (bcells bs) ∧ At wr (w.heap.size + 1) 125 (wcells (filled [])) ∧ At wr (w.heap.size + 2) 125 (wcells (filled (words bs k))) ∧ Below w.heap.size w wr)
    (fun i _ => 16 - (intOf i).toNat)
  case atStart => 
    refine ⟨0, by omega, rfl, ?_, ?_, ?_, ?_⟩
    · exact ((At.new_ w _ 119 (bcells bs) rfl).alloc _).alloc _
    · exact (At.new_ _ _ 125 (wcells (filled [])) (by simp)).alloc _
    · exact At.new_ _ _ 125 (wcells (filled [])) (by simp)
    · exact (((Below.refl _ _).alloc (Nat.le_refl _) _).alloc (by simp) _).alloc (by simp; omega) _
  case round =>
    obtain ⟨k, hk, rfl, hb, hz, hf, hbel⟩ := hrel
    by_cases hlt : k < 16
    · have c0 : wr.cell? ⟨w.heap.size, 4 * k, none⟩ = some (.int .u8 (ub (bs.getD (4 * k) 0))) := (hb.cell _).trans (bcells_get bs _ (by omega))
      have c1 : wr.cell? ⟨w.heap.size, 4 * k + 1, none⟩ = some (.int .u8 (ub (bs.getD (4 * k + 1) 0))) := (hb.cell _).trans (bcells_get bs _ (by omega))
      have c2 : wr.cell? ⟨w.heap.size, 4 * k + 2, none⟩ = some (.int .u8 (ub (bs.getD (4 * k + 2) 0))) := (hb.cell _).trans (bcells_get bs _ (by omega))
      have c3 : wr.cell? ⟨w.heap.size, 4 * k + 3, none⟩ = some (.int .u8 (ub (bs.getD (4 * k + 3) 0))) := (hb.cell _).trans (bcells_get bs _ (by omega))
      have c4 : wr.cell? ⟨w.heap.size + 2, k, none⟩ = some (.int .u32 (un ((filled (words bs k)).getD k 0))) := (hf.cell _).trans (wcells_get _ _ (by rw [filled_len _ (by rw [words_len]; omega)]; omega))
      have c5 := hf.froz k
      have HW : Hid (word bs k = be32 (bs.getD (4 * k) 0) (bs.getD (4 * k + 1) 0) (bs.getD (4 * k + 2) 0) (bs.getD (4 * k + 3) 0)) := rfl
      generalize bs.getD (4 * k) 0 = x0 at *
      generalize bs.getD (4 * k + 1) 0 = x1 at *
      generalize bs.getD (4 * k + 2) 0 = x2 at *
      generalize bs.getD (4 * k + 3) 0 = x3 at *
      go_wp2
      go_region
      clear c0 c1 c2 c3 c4 c5
      go_wp2
      go_roundw
      case rel =>
        refine ⟨k + 1, by omega, by go_num, (hb.far (by simp; omega) _).drew, (hz.far (by simp) _).drew, ?_, ((hbel.setCell (by simp; omega) _)).drew⟩
        rw [be32_int, ← HW.out]
        have := (hf.put k (.int .u32 (un (word bs k)))).drew
        rw [wcells_set] at this
        have e := filled_set (words bs k) (word bs k) (by rw [words_len]; omega)
        rw [words_len] at e
        rw [e] at this
        exact this
      case measure => simp [intOf]; omega
    · have hk16 : 16 ≤ k := by omega
      go_wp2
      have hf0 : At wr (w.heap.size + 2) 125 (wcells (filled (sched bs 0))) := by
        have e : k = 16 := by omega
        rw [e] at hf; exact hf
      clear hf
      clear hlt
      obtain ⟨wo, hwo⟩ : ∃ wo : World, wo = wr := ⟨_, rfl⟩
      subst hwo
      go_loopw [6] (fun i wr => ∃ k : Nat, 16 ≤ k ∧ k ≤ 64 ∧ i = .int .i64 k ∧ At wr (w.heap.size + 1) 125 (wcells (filled [])) ∧ At wr (w.heap.size + 2) 125 (wcells (filled (sched bs (k - 16)))) ∧ Below w.heap.size w wr)
        (fun i _ => 64 - (intOf i).toNat)
      case atStart => exact ⟨16, by omega, by omega, rfl, hz, hf0, hbel⟩
      case round =>
        clear hbel hz hf0 hb
        clear hk hk16
        obtain ⟨k, hk1, hk2, rfl, hz, hf, hbel⟩ := hrel
        have hle : (sched bs (k - 16)).length = k := by rw [sched_len]; omega
        have HL : Hid ((sched bs (k - 16)).length = k) := hle
        by_cases hlt : k < 64
        · have c0 : wr.cell? ⟨w.heap.size + 2, k - 16, none⟩ = some (.int .u32 (un ((sched bs (k - 16)).getD (k - 16) 0))) := (hf.cell _).trans ((wcells_get _ _ (by rw [filled_len _ (by omega)]; omega)).trans (by rw [filled_get _ _ (by omega)]))
          have c1 : wr.cell? ⟨w.heap.size + 2, k - 15, none⟩ = some (.int .u32 (un ((sched bs (k - 16)).getD (k - 15) 0))) := (hf.cell _).trans ((wcells_get _ _ (by rw [filled_len _ (by omega)]; omega)).trans (by rw [filled_get _ _ (by omega)]))
          have c2 : wr.cell? ⟨w.heap.size + 2, k - 7, none⟩ = some (.int .u32 (un ((sched bs (k - 16)).getD (k - 7) 0))) := (hf.cell _).trans ((wcells_get _ _ (by rw [filled_len _ (by omega)]; omega)).trans (by rw [filled_get _ _ (by omega)]))
          have c3 : wr.cell? ⟨w.heap.size + 2, k - 2, none⟩ = some (.int .u32 (un ((sched bs (k - 16)).getD (k - 2) 0))) := (hf.cell _).trans ((wcells_get _ _ (by rw [filled_len _ (by omega)]; omega)).trans (by rw [filled_get _ _ (by omega)]))
          have c4 : wr.cell? ⟨w.heap.size + 2, k, none⟩ = some (.int .u32 (un ((filled (sched bs (k - 16))).getD k 0))) := (hf.cell _).trans (wcells_get _ _ (by rw [filled_len _ (by omega)]; omega))
          have c5 := hf.froz k
          have HW : Hid (ext (sched bs (k - 16)) = (sched bs (k - 16)).getD (k - 16) 0 + ssig0 ((sched bs (k - 16)).getD (k - 15) 0) + (sched bs (k - 16)).getD (k - 7) 0 + ssig1 ((sched bs (k - 16)).getD (k - 2) 0)) := by
            show ext _ = _
            unfold ext; rw [hle]
          generalize (sched bs (k - 16)).getD (k - 16) 0 = x0 at *
          generalize (sched bs (k - 16)).getD (k - 15) 0 = x1 at *
          generalize (sched bs (k - 16)).getD (k - 7) 0 = x2 at *
          generalize (sched bs (k - 16)).getD (k - 2) 0 = x3 at *
          clear hle
          go_wp2
          go_quiet (fail)
          go_wp2_with fail
          refine (rotl_any x1 7 _ (by omega) (by omega)).mono ?_
          rintro e w' ⟨rfl, rfl⟩
          go_wp2_with fail
          refine (rotl_any x1 18 _ (by omega) (by omega)).mono ?_
          rintro e w' ⟨rfl, rfl⟩
          go_wp2_with fail
          refine (rotl_any x3 17 _ (by omega) (by omega)).mono ?_
          rintro e w' ⟨rfl, rfl⟩
          go_wp2_with fail
          refine (rotl_any x3 19 _ (by omega) (by omega)).mono ?_
          rintro e w' ⟨rfl, rfl⟩
          go_wp2_with fail
          go_region
          go_wp2
          clear c0 c1 c2 c3 c4 c5
          go_roundw
          case rel =>
            refine ⟨k + 1, by omega, by omega, by go_num, ((hz.drewN _).far (by simp) _), ?_, ((below_drewN hbel _).setCell (by show _ ≤ w.heap.size + 1 + 1; omega) _)⟩
            have hq := (((hf.drewN (nq + 1)).put k (.int .u32 (un (ext (sched bs (k - 16)))))))
            have e1 := filled_set (sched bs (k - 16)) (ext (sched bs (k - 16))) (by rw [HL.out]; omega)
            rw [HL.out] at e1
            rw [wcells_set, e1] at hq
            have e2 : sched bs (k + 1 - 16) = sched bs (k - 16) ++ [ext (sched bs (k - 16))] := by
              rw [show k + 1 - 16 = (k - 16) + 1 by omega]; rfl
            rw [e2]
            rw [show un (ext (sched bs (k - 16))) = un (x0 + ssig0 x1 + x2 + ssig1 x3) by rw [HW.out]] at hq
            exact hq
          case measure => simp [intOf]; omega
        · have hk3 : 64 ≤ k := by omega
          have e : k = 64 := by omega
          have hf1 : At wr (w.heap.size + 2) 125 (wcells (sched bs 48)) := by
            rw [e] at hf
            rwa [filled_full _ (by rw [sched_len])] at hf
          clear hf HL hle e
          go_wp2_with (first
            | (refine wpList_load_row rfl 125 (.tmp 3) rfl (w.heap.size + 2) rfl 125 _ (0, 0) _ hf1 under57 rfl (by rw [info57]; simp [wcells_len, sched_len]) ?_)
            | (refine wpList_store_whole rfl rfl 125 (.tmp 2) (.tmp 87) rfl (w.heap.size + 1) rfl (wcells (sched bs 48)) rfl 125 _ hz (by rw [info57]; simp [wcells_len, sched_len]) (by simp [wcells_len, sched_len, filled]) (wcells_one _) ?_))
          exact bodyPost_ret (v := .agg (wcells (sched bs 48)).toArray) (results_cell_row rfl _ _ (w.heap.size + 1) 125 _ (0, 0) _ rfl (At.setRow hz) under57 rfl (by rw [info57]; simp [wcells_len, sched_len])) rfl ⟨rfl, below_setRow hbel (by omega) _⟩
end Go.Proofs.YtihkfomldbjpoaaDoor.ShaW
