/- Tables of records of three integers: as a row lists them, as memory holds them, and their loads. Nothing of the dump. -/
import Derived.Test.YtpnnebnjkinndaaDoorOnly
import Derived.LaidLaws
import Derived.OpenShut
import Derived.Deep.Strs
import Derived.Lib.LaidTab
namespace Go.Proofs.YtpnnebnjkinndaaDoor
open Go.RowKit
abbrev I3 := Int × Int × Int
def t3 (z : I3) : List Value := [.int .i64 z.1, .int .i64 z.2.1, .int .i64 z.2.2]
def tcells (zs : List I3) : List Value := zs.flatMap t3
def triData {H : Type} (zs : List I3) : DataW H := .agg (zs.map fun z => .agg [.lit (.int .i64 z.1), .lit (.int .i64 z.2.1), .lit (.int .i64 z.2.2)])
def row3 (zs : List I3) (k : Nat) : I3 := zs.getD k (0, 0, 0)
theorem t3_len (z : I3) : (t3 z).length = 3 := rfl
theorem tcells_len (zs : List I3) : (tcells zs).length = 3 * zs.length := by
  induction zs with
  | nil => rfl
  | cons z zs ih =>
    have : tcells (z :: zs) = t3 z ++ tcells zs := rfl
    rw [this, List.length_append, ih, t3_len, List.length_cons]; omega
theorem tcells_get (zs : List I3) (k r : Nat) (hk : k < zs.length) (hr : r < 3) : (tcells zs)[3 * k + r]? = (t3 (row3 zs k))[r]? := by
  induction zs generalizing k with
  | nil => simp at hk
  | cons z zs ih =>
    have e : tcells (z :: zs) = t3 z ++ tcells zs := rfl
    rw [e]
    cases k with
    | zero => rw [List.getElem?_append_left (by rw [t3_len]; omega)]; simp [row3]
    | succ k =>
      rw [List.getElem?_append_right (by rw [t3_len]; omega), t3_len, show 3 * (k + 1) + r - 3 = 3 * k + r by omega, ih k (by simpa using hk)]
      simp [row3]
theorem tcells_drop (zs : List I3) (k : Nat) (hk : k < zs.length) : ((tcells zs).drop (3 * k)).take 3 = t3 (row3 zs k) := by
  apply List.ext_getElem?
  intro i
  rw [List.getElem?_take]
  by_cases hi : i < 3
  · rw [if_pos hi, List.getElem?_drop, tcells_get zs k i hk hi]
  · rw [if_neg hi, List.getElem?_eq_none (by rw [t3_len]; omega)]
/-- A block holds these records, from its first cell on. -/
def Tri (w : World) (g : Nat) (zs : List I3) : Prop := ∀ k r u, k < zs.length → r < 3 → (t3 (row3 zs k))[r]? = some u → w.cell? ⟨g, 3 * k + r, none⟩ = some u
theorem Tri.pos {w : World} {g : Nat} {zs : List I3} (h : Tri w g zs) (hz : 0 < zs.length) : g < w.heap.size := block_lt_of_cell (h 0 0 _ hz (by omega) rfl)
theorem Tri.below {B : Nat} {w w' : World} {g : Nat} {zs : List I3} (h : Tri w g zs) (hb : Below B w w') (hB : g < B) : Tri w' g zs :=
  fun k r u hk hr hu => (hb.cell (p := ⟨g, 3 * k + r, none⟩) hB).trans (h k r u hk hr hu)
theorem Tri.all {w : World} {g : Nat} {zs : List I3} (h : Tri w g zs) (j : Nat) (u : Value) (hu : (tcells zs)[j]? = some u) : w.cell? ⟨g, j, none⟩ = some u := by
  have hj : j < (tcells zs).length := (List.getElem?_eq_some_iff.1 hu).1
  rw [tcells_len] at hj
  have e : j = 3 * (j / 3) + j % 3 := by omega
  rw [e, tcells_get zs (j / 3) (j % 3) (by omega) (by omega)] at hu
  rw [e]
  exact h _ _ u (by omega) (by omega) hu
section
variable {P : Program}
/-- The whole table read as one value. -/
theorem wpList_loadT {ops : Array Oper} {rest : List Oper} {op : Oper} {a : Act} {w : World} {Q : Exit → Act → World → Prop} (hgd : op.guard = none) (ty : TypeId) (x : Operand) (ho : op.op = .load ty x)
    {n : Nat} (T : AggTy P ty n) (g : Nat) (hx : a.eval x = .pointer (some ⟨g, 0, none⟩)) (zs : List I3) (hg : Tri w g zs) (hl : 3 * zs.length = n)
    (h : wpList P ops Q rest (a.put op.dst (.agg (tcells zs).toArray)) w) : wpList P ops Q (op :: rest) a w := by
  refine wpList_plain hgd fun K hK => ?_
  have hr : (loadVar ty ⟨g, 0, none⟩).run P w = .ok (.agg (tcells zs).toArray) w := by
    obtain ⟨h1, hi⟩ := T
    have hl' : (loadCells ⟨g, 0, none⟩ (tcells zs).length).run P w = .ok (tcells zs).toArray w :=
      run_loadCells_list (P := P) w ⟨g, 0, none⟩ (tcells zs) (fun j v hj => by rw [add_lit, Nat.zero_add]; exact hg.all j v hj)
    rw [tcells_len, hl] at hl'
    cases hu : P.underlying ty with
    | none => simp [hu] at h1
    | some d =>
      cases hq : P.info? ty with
      | none => simp [hq] at hi
      | some i =>
        have hs : i.size = n := by simpa [hq] using hi
        have hagg : (isAgg ty).run P w = .ok true w := by
          unfold isAgg
          rw [Sem.run_bind, run_underlying hu w]
          cases d <;> simp_all [isRow]
        simp [loadVar, Sem.run_bind, hagg, sizeOf, typeInfo, hq, hs, hl']
  unfold Oper.wp execOp
  simp only [ho, hx, Instr.loadAt, Instr.sureAddr, Sem.run_bind, Sem.run_pure, Result.andThen_ok, hr]
  exact hK _ _ h
/-- A record of a table that is a value. -/
theorem wpList_idxT {ops : Array Oper} {rest : List Oper} {op : Oper} {a : Act} {w : World} {Q : Exit → Act → World → Prop} (hgd : op.guard = none) (T elem : TypeId) (x y : Operand) (ho : op.op = .index T x y)
    (len : Nat) (hT : P.underlying T = some (.array len elem)) (E : AggTy P elem 3) (zs : List I3) (hx : a.eval x = .agg (tcells zs).toArray) (ik : IntKind) (k : Nat) (hy : a.eval y = .int ik (k : Int)) (hk : k < len) (hz : zs.length = len)
    (h : wpList P ops Q rest (a.put op.dst (.agg (t3 (row3 zs k)).toArray)) w) : wpList P ops Q (op :: rest) a w := by
  refine wpList_plain hgd fun K hK => ?_
  have hr : (Instr.index T (.agg (tcells zs).toArray) (.int ik (k : Int))).run P w = .ok (.agg (t3 (row3 zs k)).toArray) w := by
    obtain ⟨h1, hi⟩ := E
    cases hu : P.underlying elem with
    | none => simp [hu] at h1
    | some d =>
      cases hq : P.info? elem with
      | none => simp [hq] at hi
      | some i =>
        have hs : i.size = 3 := by simpa [hq] using hi
        have hagg : (isAgg elem).run P w = .ok true w := by
          unfold isAgg
          rw [Sem.run_bind, run_underlying hu w]
          cases d <;> simp_all [isRow]
        have hd := tcells_drop zs k (by omega)
        rw [Nat.mul_comm] at hd
        simp [Instr.index, asIntOf, run_underlying hT, hk, sizeOf, typeInfo, hq, hs, part, hagg]
        exact hd
  unfold Oper.wp execOp
  simp only [ho, hx, hy, Sem.run_bind, hr, Sem.run_pure, Result.andThen_ok]
  exact hK _ _ h
/-- From the row's list: the table that stands first on it. -/
theorem tri_cells {H : Type} {enc : TypeId × Value → H} {w : World} {base : Nat} {sp : Nat → Bool} {held : Bool} {fuel : Nat} {t e : TypeId} {f0 f1 f2 : Field} {n : Nat} {cs : List Value} {zs : List I3} {p : List MemPlace}
    (ht : P.underlying t = some (.array n e)) (he : P.underlying e = some (.struct #[f0, f1, f2])) (hce : P.cellsOf e = 3) (h0 : f0.offset = 0) (h1 : f1.offset = 1) (h2 : f2.offset = 2)
    (i0 : P.underlying f0.type = some (.int .i64)) (i1 : P.underlying f1.type = some (.int .i64)) (i2 : P.underlying f2.type = some (.int .i64)) (c0 : P.cellsOf f0.type = 1) (c1 : P.cellsOf f1.type = 1) (c2 : P.cellsOf f2.type = 1)
    (h : DataW.trod enc P w base sp held fuel t cs = some (triData zs, p)) : zs.length = n ∧ ∀ k r u, k < n → r < 3 → (t3 (row3 zs k))[r]? = some u → cs[3 * k + r]? = some u := by
  obtain ⟨xs, m, _, hx, _, hl, hi⟩ := DataW.trod_array ht h
  have hxs : zs.map (fun z => (DataW.agg [.lit (.int .i64 z.1), .lit (.int .i64 z.2.1), .lit (.int .i64 z.2.2)] : DataW H)) = xs.map (·.1) := by
    have := congrArg Prod.fst hx
    simpa [triData] using this
  have hzl : zs.length = n := by
    have := congrArg List.length hxs
    simp at this; omega
  refine ⟨hzl, fun k r u hk hr hu => ?_⟩
  have hik := hi k hk
  rw [hce] at hik
  have hxk : xs[k]? = some xs[k] := List.getElem?_eq_getElem (by omega)
  rw [hxk] at hik
  obtain ⟨y0, y1, y2, m', hy, _, g0, g1, g2⟩ := Go.Deep.trod_struct3 he hik
  have hz : (DataW.agg [.lit (.int .i64 (row3 zs k).1), .lit (.int .i64 (row3 zs k).2.1), .lit (.int .i64 (row3 zs k).2.2)] : DataW H) = .agg [y0.1, y1.1, y2.1] := by
    have h3 := congrArg (·[k]?) hxs
    simp only [List.getElem?_map, hxk, Option.map_some, hy] at h3
    have h4 : zs[k]? = some (row3 zs k) := by
      have : k < zs.length := by omega
      simp [row3, this]
    rw [h4] at h3
    simpa using h3
  rw [h0, c0] at g0
  rw [h1, c1] at g1
  rw [h2, c2] at g2
  obtain ⟨n0, a0, rfl, _⟩ := DataW.trod_int i0 g0
  obtain ⟨n1, a1, rfl, _⟩ := DataW.trod_int i1 g1
  obtain ⟨n2, a2, rfl, _⟩ := DataW.trod_int i2 g2
  simp at hz
  obtain ⟨z0, z1, z2⟩ := hz
  have get (o : Nat) (v : Value) (ho : o < 3) (hv : ((((cs.drop (k * 3)).take 3).drop o).take 1) = [v]) : cs[3 * k + o]? = some v := by
    have := congrArg (·[0]?) hv
    simp only [List.getElem?_take, List.getElem?_drop, List.getElem?_cons_zero] at this
    rw [if_pos (by omega), if_pos (by omega)] at this
    rw [← this]; congr 1; omega
  match r, hr, hu with
  | 0, _, hu => rw [get 0 _ (by omega) a0, ← z0]; exact hu
  | 1, _, hu => rw [get 1 _ (by omega) a1, ← z1]; exact hu
  | 2, _, hu => rw [get 2 _ (by omega) a2, ← z2]; exact hu
theorem tri_of_head {W : World} {name : String} {zs : List I3} {rest : List (String × DataW Unit)} {g : Nat} {t e : TypeId} {n : Nat} {f0 f1 f2 : Field}
    (hg : P.globalNamed name = some g) (hty : (P.globals[g]?).map (·.type) = some t)
    (ht : P.underlying t = some (.array n e)) (he : P.underlying e = some (.struct #[f0, f1, f2])) (hce : P.cellsOf e = 3) (h0 : f0.offset = 0) (h1 : f1.offset = 1) (h2 : f2.offset = 2)
    (i0 : P.underlying f0.type = some (.int .i64)) (i1 : P.underlying f1.type = some (.int .i64)) (i2 : P.underlying f2.type = some (.int .i64)) (c0 : P.cellsOf f0.type = 1) (c1 : P.cellsOf f1.type = 1) (c2 : P.cellsOf f2.type = 1)
    (h : laidMet P ((name, triData zs) :: rest) W) : Tri W g zs := by
  obtain ⟨ps, ⟨g', t', cs, fuel, p, q, hg', ht', hvar, hd, _, _⟩, _⟩ := h
  obtain rfl := Option.some.inj (hg.symm.trans hg')
  obtain rfl := Option.some.inj (hty.symm.trans ht')
  obtain ⟨hn, hc⟩ := tri_cells ht he hce h0 h1 h2 i0 i1 i2 c0 c1 c2 hd
  intro k r u hk hr hu
  have := World.var?_cell hg hvar (3 * k + r)
  rw [this]
  have h3 := hc k r u (by omega) hr hu
  simpa using h3
end
end Go.Proofs.YtpnnebnjkinndaaDoor
